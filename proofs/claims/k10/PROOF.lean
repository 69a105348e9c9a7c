import PyProof.Rows.All
import Wide.All
import OpenK.AllK
import Wide.FinOn
import KE.KIsAll
import KE.KTryMore
import HandS.ForMost
import HandS.ForExc
import HandS.ExcInit
import HandS.ExcIs
import HandS.ExcValue
import HandS.ExcField
import HandS.IsInst
import HandS.Evl
import HandS.Defaults
import HandS.Head0
import HandS.Head1
import HandS.Head2
import HandS.HeadEnd
import HandS.HeadHook1
import HandS.HeadHook2
import HandS.Iter
import HandS.Dict
import HandS.More
import HandS.HeadHook3
import HandS.TryMany
import HandS.TupAny
import HandS.Star
import HandS.Zip
import HandS.Steps
import HandS.Walk
import HandS.Flow
import HandS.ExcOwn
import HandS.SortKw
import HandS.Style
import HandS.FStr
import HandS.Small
import KE.DataMinMax
import KE.DatumOrd
import KE.DataCmp
import HandS.ReplaceLit
import HandS.ReplaceList
import HandS.ReplaceDef
import HandS.Replace
import HandS.Text
import KE.KWords
import PySem.Challenge.RW_tryback_k10_spellings_refused
set_option Elab.async false
set_option linter.all false
set_option maxRecDepth 100000
set_option maxHeartbeats 4000000
/-! Own exceptions as values: made, their fields read, asked for their class. -/
namespace XV
open PySem PySem.Spec PyProof.Rows L2

/-! ### the class of such a value -/
theorem dataFound {K : PySem.W.Frag} {C : Addr} {od : Option Obj} {n : Str} {a g : Value} (hc : (PySem.W.clsIn K C).isSome = true) (ha : PySem.W.findIn K (.ref C) n = some (some a))
    (hg : PySem.W.specialIn K a "__get__" = some (some g)) (ht : PySem.W.takesIn K a = some true) : PySem.W.findObj K C od n = some (.bind g a) := by
  cases od with
  | none => exact PySem.W.findObj_dataN hc ha hg ht
  | some o => exact PySem.W.findObj_data hc ha hg ht

section
variable {prog : Program} {w : World} {A : Around} {E : Value → Shared → Prop} {sh : Shared} {K : PySem.W.Frag} {e D : Addr} {oe : Obj} {od : Option Obj}
theorem askCls {R : Option Value → Shared → Prop} (T : ExcC K D) (KI : K.In sh.heap) (J : PySem.W.InstAt sh.heap e oe D od) (r : R (some (.ref D)) { sh with toks := sh.toks + 1 }) :
    wpAny (model prog w) A (getAttr? (.ref e) "__class__") R E sh := by
  obtain ⟨t1, t2, t3, t4, t5, t6, t7, t8⟩ := T
  have some' : (PySem.W.clsIn K D).isSome = true := by
    obtain ⟨cd, z, _⟩ := PySem.W.any_some t4
    rw [z]
    rfl
  have fd := dataFound (od := od) some' t5 t6 t7
  obtain ⟨hh, gs, dr, tk, os⟩ := sh
  have ty := J.type (M := model prog w)
  have l1 := PySem.W.looks_findIn (M := model prog w) KI t1
  have l2 := PySem.W.looks_findIn (M := model prog w) KI t2
  have l3 := PySem.W.looks_find (M := model prog w) KI J fd
  have isB : PySem.W.Looks (model prog w) hh (isInstance (.ref e) (.type "BaseException")) true := ty.andThen (PySem.W.looks_subIn KI t3)
  have z0 : (false && onTheHeap (Value.builtin "BaseException.__getattribute__")) = false := rfl
  have z2 : (Value.builtin "BaseException.__getattribute__" == Value.builtin "object.__getattribute__") = false := by decide +kernel
  have z1 : (onTheHeap (Value.ref D) && Value.builtin "BaseException.__getattribute__" == Value.builtin "object.__getattribute__") = false := by rw [z2]; rfl
  unfold getAttr?
  unfold getAttrBy?
  unfold getAttrBy
  refine wpAny_bind (wpAny_mkText (wpAny_bind (wpAny_attempt (wpAny_holding (wpAny_bind (ty.at (wpAny_bind (l1.at ?_))))))))
  show wpAny _ _ (if (onTheHeap (Value.ref D) && Value.builtin "BaseException.__getattribute__" == Value.builtin "object.__getattribute__") = true then _ else _) _ _ _
  rw [z1, if_neg Bool.false_ne_true]
  unfold getAttrByItsOwn
  unfold hookBefore
  refine wpAny_bind ?_
  rw [if_pos (show onTheHeap (Value.ref D) = true from rfl)]
  refine l2.at ?_
  refine wpAny_bind (wpAny_attempt (wpAny_holding ?_))
  unfold callGetattribute
  rw [z0, if_neg Bool.false_ne_true]
  unfold boundAndCalled
  rw [PySem.F.excAttr_ValueError.ga.bind (.ref e)]
  refine wpAny_bind (wpAny_pure ?_)
  show wpAny _ _ (call (.builtin "BaseException.__getattribute__") [.ref e, .str "__class__" tk]) _ _ _
  refine wpAny_call (codeAny_call_builtin PySem.F.excAttr_ValueError.ga.plain PySem.F.entry_bexc_ga ?_)
  refine @PySem.W.check_slot (model prog w) _ _ ⟨hh, gs, dr, tk + 1, os⟩ "BaseException.__getattribute__" "BaseException" "__getattribute__" (.ref e) [.str "__class__" tk] [] _ (by decide +kernel) (by decide +kernel) isB (PySem.F.args_bexc_ga (.ref e) (.str "__class__" tk)) ?_
  unfold Builtin.«object.__getattribute__»
  refine wpAny_bind (wpAny_of_eq (a := ((Value.ref e : Value), [Value.str "__class__" tk])) (by first | rfl | (simp only [Builtin.slotArgs]; rfl)) ?_)
  refine wpAny_bind (wpAny_pure (wpAny_bind (ty.at (wpAny_bind (l3.at ?_)))))
  show wpAny _ _ (holding [Value.builtin "object.__class__"] (call (.builtin "getset_descriptor.__get__") [.builtin "object.__class__", .ref e, .ref D]) >>= ret) _ _ _
  refine wpAny_bind (wpAny_holding (wpAny_call (PySem.W.class_get (s := ⟨hh, gs, dr, tk + 1, os⟩) (ox := oe) (od := od) KI J t8 ?_)))
  refine wpAny_pure ?_
  show wpAny _ _ (handedOut (.ref D)) _ _ _
  rw [PySem.W.handedOut_of (v := .ref D) rfl]
  first
    | exact wpAny_pure (wpAny_pure r)
    | exact wpAny_pure r
    | exact wpAny_pure (wpAny_bind (wpAny_pure (wpAny_pure r)))
theorem kitOf (T : ExcC K D) : PySem.W.KitX K (.ref e) (.ref D) (fun h => PySem.W.InstAt h e oe D od) := by
  obtain ⟨cd, hc, _⟩ := PySem.W.any_some T.hd
  unfold PySem.W.clsIn at hc
  split at hc
  · rename_i c' d' cd' sl' lk
    refine ⟨fun _ _ _ J => J.type, fun M h KI _ A' Q' E' s' k q => ?_, fun h tp dd its n sl KI htp => ?_, fun KI J r => askCls T KI J r⟩
    · unfold isType loadHead
      exact wpAny_bind (wpAny_loadPart (k _ _ (KI _ _ lk)) (wpAny_pure q))
    · refine Bool.eq_false_iff.mpr fun q => ?_
      have e1 : D = tp := Value.ref.inj (beq_iff_eq.mp q)
      rw [← e1] at htp
      have z := (KI _ _ lk).symm.trans htp
      cases z
  · cases hc
end

/-! ### what is tracked of an exception -/
/-- at a: an exception of the class at C that has the fields fs -/
def ExF (H : Hp) (a C : Addr) (fs : List (Str × V)) : Prop := ∃ d, H a = some (exo a C (some d)) ∧ H d = some (exd d fs)
/-- at a: an exception of the class at C -/
def ExAt (H : Hp) (a C : Addr) : Prop := (∃ fs, ExF H a C fs) ∨ H a = some (exo a C none)
theorem ExF.at {H : Hp} {a C : Addr} {fs : List (Str × V)} (h : ExF H a C fs) : ExAt H a C := .inl ⟨fs, h⟩
theorem ExF.mono {H H' : Hp} {a C : Addr} {fs : List (Str × V)} (k : Evl.Ex H H') (h : ExF H a C fs) : ExF H' a C fs := by
  obtain ⟨d, h1, h2⟩ := h
  exact ⟨d, k _ _ h1, k _ _ h2⟩
theorem ExAt.mono {H H' : Hp} {a C : Addr} (k : Evl.Ex H H') (h : ExAt H a C) : ExAt H' a C := by
  rcases h with ⟨fs, h⟩ | h
  · exact .inl ⟨fs, h.mono k⟩
  · exact .inr (k _ _ h)
theorem inst_of {X : Cx} {pins : List (Addr × Obj)} {σ : L2.St} {H : Hp} {s : Shared} {a C : Addr} (I : Inv X pins σ H s) (h : ExAt H a C) : ∃ oe od, PySem.W.InstAt s.heap a oe C od := by
  rcases h with ⟨fs, d, h1, h2⟩ | h
  · obtain ⟨t, ho⟩ := exo_at I.hok h1
    obtain ⟨mA, ⟨oD, es, ep, hD, _⟩, _⟩ := exd_at I.hok h2
    exact ⟨_, some oD, ho, rfl, rfl, hD⟩
  · obtain ⟨t, ho⟩ := exo_at I.hok h
    exact ⟨_, none, ho, rfl, rfl, True.intro⟩

/-! ### isinstance(e, c) -/
def rIsX (K : PySem.W.Frag) : List V → Hp → VK → Prop := fun xs H Q => ∃ (a C : Addr) (c : V) (cv : Value) (b : Bool), xs = [.ref a, c] ∧ ExAt H a C ∧ ExcC K C ∧ ClsV c cv ∧ PySem.W.kitOne K (.ref C) cv = some b ∧ Q (.bl b) H
theorem call_isX {X : Cx} : CallR X (.builtin "isinstance") (rIsX X.K) := by
  intro pins s σ H xs us Q I r h
  obtain ⟨a, C, c, cv, b, rfl, hx, T, kc, e, q⟩ := h
  obtain ⟨u1, u2, rfl, r1, r2⟩ := vals2 r
  cases (show u1 = Value.ref a from r1)
  have e2 := kc.eq r2
  subst e2
  obtain ⟨oe, od, J⟩ := inst_of I hx
  exact PySem.W.kia_one (kitOf T) I.kIn J e (fun z => nomatch z) fun tk => ⟨.bl b, H, I.tok tk, rfl, q⟩

/-! ### e.f -/
def tXv (K : PySem.W.Frag) (f : Str) (te : TE) : TE := fun σ H Q => te σ H fun x H1 => ∃ (a C d : Addr) (fs : List (Str × V)) (v : V), x = .ref a ∧ H1 a = some (exo a C (some d)) ∧ H1 d = some (exd d fs) ∧ XfC K C ∧ PySem.W.findIn K (.ref C) f = some none ∧ fs.lookup f = some v ∧ Q v H1
theorem pe_xv {X : Cx} {e : Expr} {te : TE} {pos : Pos} {f : Str} (he : PE X e te) (hb : attributeBase e f X.env (eval e X.env) = eval e X.env := by rfl) : PE X (.Attribute e f pos) (tXv X.K f te) := by
  refine ⟨fun pins s σ H Q I h => ?_⟩
  refine attr_of hb (thn (he.run pins s σ H _ I h) fun u s1 ⟨x, H1, I1, rx, a, C, d, fs, v, ex, ha, hd, T, hno, l, q⟩ => ?_)
  subst ex
  cases (show u = Value.ref a from rx)
  obtain ⟨t, ho⟩ := exo_at I1.hok ha
  obtain ⟨mA, hns, hr⟩ := exd_at I1.hok hd
  obtain ⟨oD, hoD, hl⟩ := lookIn_ns hns
  obtain ⟨u', hu, ru⟩ := RelO.some_of (v := v) (o := mA f) (by rw [← l]; exact hr f)
  have J : PySem.W.InstAt s1.heap a _ C (some oD) := ⟨ho, rfl, rfl, hoD⟩
  exact HandSPX.exc_get I1.kIn J T.ga T.gg T.exC (PySem.W.findObj_own T.hdC hno rfl (by rw [hl, hu])) (handed_of ru) ⟨v, H1, I1.tok _, ru, q⟩

/-! ### C(e, ..), C's own __init__ keeping sp; C() without one -/
def tMkV (C : Addr) (sp : Sp) (ta : TA) : TE := fun σ H Q => ta σ H fun vs H1 => vs.length ≤ 1000 ∧ ∀ a, H1 a = none → sp (.ref a :: vs) (upd H1 a (exo a C none)) (fun v H2 => v = .non ∧ Q (.ref a) H2) E0
section
variable {X : Cx} {e : Expr} {es : List Expr} {ta : TA} {p pos : Pos} {x : Str} {C fI : Addr} {k : Nat} {fd : FuncData} {ps : List Str} {sp : Sp}
theorem pe_mkv (T : OexC X.K C) (iC : PySem.W.findIn X.K (.ref C) "__init__" = some (some (.ref fI))) (tI : PySem.W.typeIn X.K (.ref fI) = some (.type "function")) (F1 : FnOk X.prog X.w X.K X.mg X.base CX0 k fI fd ps sp)
    (hr : Room (k + 1) X.A) (hb : Binds X.K fd ps []) (hg : Gl X x) (hm : X.mg x = some (.ref C)) (ha : PA X (e :: es) ta)
    (hdb : (x == ("__debug__" : Str)) = false := by decide) (he : starEach (e :: es) X.env = (false, eval e X.env) :: starEach es X.env := by rfl) (hpl : (backTo pos (starEach es X.env)).any (·.1) = false := by rfl) :
    PE X (.Call (.Name x p) (e :: es) [] pos) (tMkV C sp ta) := by
  refine ⟨fun pins s σ H Q I h => ?_⟩
  obtain ⟨nm, q, N, bs, bm, sn, sub, ab, col, dd, k0, k1, k2, k3, k5, lC, lB⟩ := T.cls
  refine wpAny_Call_Name_kw (ld_glob I hg hm ?_ hdb)
  refine PySem.W.callWith_K (h₀ := X.base) I.ok.mod.kin T.kC (thn (ha.run pos pins s σ H _ I h) fun us s1 ⟨vs, H1, I1, r1, hz, q1⟩ => ⟨I1.kIn, ?_⟩) he hpl
  show wpAny _ _ (call (.ref C) us) _ _ _
  obtain ⟨hh, g, dr, tk, os⟩ := s1
  have top : hh.objs.size ≤ hh.objs.size + 1 := Nat.le_succ _
  have w0 := q1 (hh.objs.size + 1) (I1.hok.fresh top)
  have old : ∀ b o, hh.get? b = some o → ((hh.push (PySem.W.kdv_tup us)).push (PySem.HandSPX.excO C hh.objs.size)).get? b = some o := fun b o z => Heap.get?_push_of_some _ (Heap.get?_push_of_some _ z)
  have made : ((hh.push (PySem.W.kdv_tup us)).push (PySem.HandSPX.excO C hh.objs.size)).get? (hh.objs.size + 1) = some (PySem.HandSPX.excO C hh.objs.size) := by heap_get
  have J : Inv X pins σ (upd H1 (hh.objs.size + 1) (exo (hh.objs.size + 1) C none)) ⟨(hh.push (PySem.W.kdv_tup us)).push (PySem.HandSPX.excO C hh.objs.size), g, dr, tk, os⟩ :=
    I1.laid (t' := tk) old top (exo_ok made)
  have rv : Vals (V.ref (hh.objs.size + 1) :: vs) (Value.ref (hh.objs.size + 1) :: us) := .cons rfl r1
  have hl : (Value.ref (hh.objs.size + 1) :: us ++ []).length = ps.length := by
    have z := rv.length
    rw [F1.len _ _ _ _ w0] at z
    rw [List.append_nil]
    exact z.symm
  have hus : us.length ≤ sizeLine := by
    rw [← Paired.length r1, sizeLine_eq]
    omega
  have bd := hb ⟨(hh.push (PySem.W.kdv_tup us)).push (PySem.HandSPX.excO C hh.objs.size), g, dr, tk, os⟩ (Value.ref (hh.objs.size + 1) :: us) J.kIn hl
  rw [List.append_nil] at bd
  have F1' := F1.run _ X.stack _ _ ⟨Value.ref (hh.objs.size + 1) :: us, []⟩ (Value.ref (hh.objs.size + 1) :: us) _ _ E0 (hr.make C us []) (J.env0.make C us []) bd rv w0
  refine wpAny_call (PySem.HandSPX.call_own F.excBase_ValueError (fun Y => PySem.HandSPX.refsVE_contains Y bm lB) (I1.kIn _ _ lC) (PySem.W.looks_findIn I1.kIn iC) (fun self => PySem.W.bind_fn I1.kIn self tI) hus
    (codeAny_mono F1' fun r s' hq => ?_))
  cases r with
  | error er => exact False.elim hq
  | ok fl =>
    cases fl with
    | ret u =>
      obtain ⟨v, H2, I2, r2, ev, q2⟩ := J.after hq
      subst ev
      exact ⟨r2, ⟨.ref (hh.objs.size + 1), H2, I2, rfl, q2⟩⟩
    | next => exact False.elim hq
    | brk => exact False.elim hq
    | cont => exact False.elim hq
def tMk0 (C : Addr) : TE := fun _ H Q => ∀ a, H a = none → Q (.ref a) (upd H a (exo a C none))
theorem pe_mk0 {bmB : List Value} {B newId initId : String} (F : ExcBaseFacts B newId initId bmB) (q : PySem.W.excIn X.K C bmB newId = true) (kC : PySem.W.keepIn X.K (.ref C) = true) (hg : Gl X x) (hm : X.mg x = some (.ref C))
    (hdb : (x == ("__debug__" : Str)) = false := by decide) : PE X (.Call (.Name x p) [] [] pos) (tMk0 C) := by
  refine ⟨fun pins s σ H Q I h => ?_⟩
  refine wpAny_Call_Name_kw (ld_glob I hg hm ?_ hdb)
  refine PySem.W.callWith_K0 I.kIn kC ?_
  show wpAny _ _ (call (.ref C) []) _ _ _
  obtain ⟨bm, N, nm, qn, bs, hdct, sn, sub, ab, col, dd, k0, k1, k2, k3, k5, mN, hC, hN, hni, T⟩ := exc_obj I.kIn q
  refine wpAny_call_exc_subT F T hC hN hni (fun h' a hm => ?_) (by show 0 ≤ sizeLine; exact Nat.zero_le _)
  have hn : H a = none := I.hok.gone hm.new
  obtain ⟨t, ht, _, _⟩ := hm.there
  exact ⟨.ref a, upd H a (exo a C none), I.laidN hm.keeps hm.new hn (exo_ok ht), rfl, h a hn⟩
end
end XV

set_option Elab.async false
set_option linter.all false
set_option maxRecDepth 100000
set_option maxHeartbeats 4000000
/-! A head's facts as any tests of the written part. -/
namespace XH
open PySem PySem.Spec PyProof.Rows L2 He
abbrev Fc : Type := PySem.W.Frag → Bool
def obsB (fa : List Fc) (fn : List DefD) (K : PySem.W.Frag) : AlD := ((fa.all fun f => f K) && fn.all fun d => d.ok K, fn.map fun d => fnW K d.at_)
def SaysB (fa : List Fc) (fn : List DefD) (K : PySem.W.Frag) : Prop := obsB fa fn K = valD fn
def obsBG (n : Nat) (fa : List Fc) (fn : List DefD) (g : Addr → Option Obj) : AlD := obsB fa fn (frG g (asD g n))
def hookB (n : Nat) (fa : List Fc) (fn : List DefD) : PySem.W.Hook where
  α := AlD
  obs := fun st => obsBG n fa fn st.heap.get?
  val := fun _ => valD fn
  says := fun _ hh => ∃ K : PySem.W.Frag, K.In hh ∧ SaysB fa fn K
  of := fun _ _ z => ⟨_, frG_in, z⟩
  keeps := fun _ _ _ ⟨K, inn, c⟩ kk => ⟨K, PySem.W.Frag.In.keeps inn kk, c⟩
theorem obsBG_eq {n : Nat} {fa : List Fc} {fn : List DefD} {g : Addr → Option Obj} {s : Shared} (h : ∀ a, g a = s.heap.get? a) : obsBG n fa fn g = (hookB n fa fn).obs s := by
  have z : g = s.heap.get? := funext h
  rw [z]
  rfl
section
variable {fa : List Fc} {fn : List DefD} {K : PySem.W.Frag}
theorem SaysB.fact (c : SaysB fa fn K) (i : Nat) {f : Fc} (h : fa[i]? = some f := by rfl) : f K = true := by
  have c1 : ((fa.all fun f => f K) && fn.all fun d => d.ok K) = true := congrArg (fun z : AlD => z.1) c
  exact List.all_eq_true.mp (ba c1).1 f (List.mem_of_getElem? h)
theorem SaysB.def_ (c : SaysB fa fn K) (i : Nat) {d : DefD} (h : fn[i]? = some d := by rfl) : ∃ fd, FunD K d.name d.qual d.params d.body d.scope (d.dvs K) (d.kws K) (fAd K d.at_) fd := by
  have c1 : ((fa.all fun f => f K) && fn.all fun d => d.ok K) = true := congrArg (fun z : AlD => z.1) c
  have c2 : fn.map (fun d => fnW K d.at_) = fn.map DefD.val := congrArg (fun z : AlD => z.2) c
  have c3 : (fn.map fun d => fnW K d.at_)[i]? = (fn.map DefD.val)[i]? := congrArg (fun l => l[i]?) c2
  rw [List.getElem?_map, List.getElem?_map, h] at c3
  exact DefD.funD (Option.some.inj c3) (List.all_eq_true.mp (ba c1).2 d (List.mem_of_getElem? h))
end
/-! ### names -/
def glosB (l : List Str) : Fc := fun K => l.all fun x => (Fa.glo x).ok K
def freesB (l : List Str) : Fc := fun K => l.all fun x => (Fa.free x).ok K
theorem glos_ok {K : PySem.W.Frag} {h : Heap} {mg : Str → Option Value} {l : List Str} (X : K.In h) (G : h.Ns mainGlobals mg) (c : glosB l K = true) (x : Str) (hx : x ∈ l) : mg x = some (.ref (ga K x)) := glo_ok X G (List.all_eq_true.mp c x hx)
theorem frees_ok {K : PySem.W.Frag} {h : Heap} {mg : Str → Option Value} {l : List Str} (X : K.In h) (G : h.Ns mainGlobals mg) (c : freesB l K = true) (x : Str) (hx : x ∈ l) : mg x = none := free_ok X G (List.all_eq_true.mp c x hx)
/-! ### own exception classes -/
def excCB (K : PySem.W.Frag) (C : Addr) : Bool :=
  eqO (PySem.W.findIn K (.ref C) "__getattribute__") (some (some (.builtin "BaseException.__getattribute__"))) && (eqO (PySem.W.findIn K (.ref C) "__getattr__") (some none) && (decide (PySem.W.subIn K (.ref C) (.type "BaseException") = some true) &&
  (PySem.W.hasDictIn K C && (eqO (PySem.W.findIn K (.ref C) "__class__") (some (some (.builtin "object.__class__"))) && (eqO (PySem.W.specialIn K (.builtin "object.__class__") "__get__") (some (some (.builtin "getset_descriptor.__get__"))) &&
  (decide (PySem.W.takesIn K (.builtin "object.__class__") = some true) && decide (PySem.W.mroIn K C (.type "object") = some true)))))))
theorem excC_ok {K : PySem.W.Frag} {C : Addr} (h : excCB K C = true) : ExcC K C := by
  obtain ⟨h1, h⟩ := ba h
  obtain ⟨h2, h⟩ := ba h
  obtain ⟨h3, h⟩ := ba h
  obtain ⟨h4, h⟩ := ba h
  obtain ⟨h5, h⟩ := ba h
  obtain ⟨h6, h⟩ := ba h
  obtain ⟨h7, h8⟩ := ba h
  exact ⟨eqO_ok h1, eqO_ok h2, of_decide_eq_true h3, h4, eqO_ok h5, eqO_ok h6, of_decide_eq_true h7, of_decide_eq_true h8⟩
def exB (K : PySem.W.Frag) (C : Addr) : Bool := match K.lookup C with
  | some ⟨.type "type", _, .cls cd, sl⟩ => (match cd.mro, sl.toList with
    | .ref C' :: bm, [_, _, _, _, some (.builtin n), _] => C' == C && (n == "ValueError.__new__" && (!cd.hasDel && (cd.hasDict && PySem.HandSPX.refsVE bm)))
    | _, _ => false)
  | _ => false
theorem exB_ok {K : PySem.W.Frag} {C : Addr} (q : exB K C = true) : ∃ nm qn N bs bm sn sub ab col dd k0 k1 k2 k3 k5, K.lookup C = some (excClassObj nm qn C N bs bm true sn sub ab col dd k0 k1 k2 k3 k5 "ValueError.__new__") ∧ PySem.HandSPX.refsVE bm = true := by
  unfold exB at q
  split at q
  · rename_i dd cd sl lk
    split at q
    · rename_i C' bm k0 k1 k2 k3 n k5 hm hs
      obtain ⟨q1, q⟩ := ba q
      obtain ⟨q2, q⟩ := ba q
      obtain ⟨q3, q⟩ := ba q
      obtain ⟨q4, q5⟩ := ba q
      have e1 := beq_iff_eq.mp q1
      have e2 := beq_iff_eq.mp q2
      subst e1 e2
      obtain ⟨nm, bs, mro, ns, qn, hd, sn, sub, ab, col, del⟩ := cd
      dsimp only at hm q3 q4
      have e3 : del = false := by simpa using q3
      subst hm e3 q4
      have hsl : sl = #[k0, k1, k2, k3, some (.builtin "ValueError.__new__"), k5] := by
        obtain ⟨l⟩ := sl
        have hs' : l = [k0, k1, k2, k3, some (.builtin "ValueError.__new__"), k5] := hs
        rw [hs']
      subst hsl
      exact ⟨nm, qn, ns, bs, bm, sn, sub, ab, col, dd, k0, k1, k2, k3, k5, lk, q5⟩
    · cases q
  · cases q
/-- an own class with an __init__ of its own that stores the fields fs -/
def ownB (K : PySem.W.Frag) (x : Str) (fs : List Str) : Bool :=
  exB K (ga K x) && (eqO (PySem.W.findIn K (.ref (ga K x)) "__setattr__") (some (some (.builtin "object.__setattr__"))) && (decide (PySem.W.typeIn K (.ref (ga K x)) = some (.type "type")) && (PySem.W.keepIn K (.ref (ga K x)) &&
  ((fs.all fun f => eqO (PySem.W.findIn K (.ref (ga K x)) f) (some none)) && (eqO (PySem.W.findIn K (.ref (ga K x)) "__init__") (some (some (.ref (ma K (ga K x) "__init__")))) &&
  (decide (PySem.W.typeIn K (.ref (ma K (ga K x) "__init__")) = some (.type "function")) && excCB K (ga K x)))))))
structure Own (K : PySem.W.Frag) (C fI : Addr) (fs : List Str) : Prop where
  ox : OexC K C
  no : ∀ f ∈ fs, PySem.W.findIn K (.ref C) f = some none
  iC : PySem.W.findIn K (.ref C) "__init__" = some (some (.ref fI))
  tI : PySem.W.typeIn K (.ref fI) = some (.type "function")
  ec : ExcC K C
theorem Own.xf {K : PySem.W.Frag} {C fI : Addr} {fs : List Str} (o : Own K C fI fs) : XfC K C := ⟨o.ec.hg, o.ec.hk, o.ec.hs, o.ec.hd⟩
theorem own_ok {K : PySem.W.Frag} {x : Str} {fs : List Str} (h : ownB K x fs = true) : Own K (ga K x) (ma K (ga K x) "__init__") fs := by
  obtain ⟨h1, h⟩ := ba h
  obtain ⟨h2, h⟩ := ba h
  obtain ⟨h3, h⟩ := ba h
  obtain ⟨h4, h⟩ := ba h
  obtain ⟨h5, h⟩ := ba h
  obtain ⟨h6, h⟩ := ba h
  obtain ⟨h7, h8⟩ := ba h
  have e := excC_ok h8
  exact ⟨⟨exB_ok h1, eqO_ok h2, e.hs, of_decide_eq_true h3, h4⟩, fun f hf => eqO_ok (List.all_eq_true.mp h5 f hf), eqO_ok h6, of_decide_eq_true h7, e⟩
/-- an own class without one -/
def bareB (K : PySem.W.Frag) (x : Str) : Bool := PySem.W.excIn K (ga K x) veBase "ValueError.__new__" && (PySem.W.keepIn K (.ref (ga K x)) && excCB K (ga K x))
structure Bare (K : PySem.W.Frag) (C : Addr) : Prop where
  ex : PySem.W.excIn K C veBase "ValueError.__new__" = true
  kC : PySem.W.keepIn K (.ref C) = true
  ec : ExcC K C
theorem bare_ok {K : PySem.W.Frag} {x : Str} (h : bareB K x = true) : Bare K (ga K x) := by
  obtain ⟨h1, h⟩ := ba h
  obtain ⟨h2, h3⟩ := ba h
  exact ⟨h1, h2, excC_ok h3⟩
/-! ### the promise of such an __init__ of one, of two fields -/
def spI1 (K : PySem.W.Frag) (C : Addr) (f : Str) : Sp := fun vs H Q _ => ∃ (a : Addr) (y : V), vs = [.ref a, y] ∧ OexC K C ∧ PySem.W.findIn K (.ref C) f = some none ∧ H a = some (exo a C none) ∧
  ∀ d, H d = none → d ≠ a → Q .non (upd (upd H d (exd d [(f, y)])) a (exo a C (some d)))
def spI2 (K : PySem.W.Frag) (C : Addr) (f g : Str) : Sp := fun vs H Q _ => ∃ (a : Addr) (y z : V), vs = [.ref a, y, z] ∧ OexC K C ∧ PySem.W.findIn K (.ref C) f = some none ∧ PySem.W.findIn K (.ref C) g = some none ∧ H a = some (exo a C none) ∧
  ∀ d, H d = none → d ≠ a → Q .non (upd (upd (upd H d (exd d [(f, y)])) a (exo a C (some d))) d (exd d [(g, z), (f, y)]))
end XH

set_option Elab.async false
set_option linter.all false
set_option maxRecDepth 100000
set_option maxHeartbeats 4000000
/-! Rules that were lacking: a text some times over, get of a table of the top, what is walked either way, an error without arguments, several clauses that each keep their error, isinstance of it. -/
namespace XR
open PySem PySem.Spec PyProof.Rows L2

/-! ### text * n -/
def repS (z : Str) (n : Nat) : Str := ⟨(List.replicate n z.cps).foldl (· ++ ·) #[]⟩
theorem rep_size (a : Array Nat) : ∀ (n : Nat) (acc : Array Nat), ((List.replicate n a).foldl (· ++ ·) acc).size = acc.size + n * a.size
  | 0, acc => by simp
  | n + 1, acc => by
    rw [List.replicate_succ, List.foldl_cons, rep_size a n, Array.size_append, Nat.succ_mul]
    omega
theorem repS_len (z : Str) (n : Nat) : (repS z n).length = n * z.length := by
  show ((List.replicate n z.cps).foldl (· ++ ·) #[]).size = n * z.cps.size
  rw [rep_size]
  simp
theorem op_mulS {X : Cx} : OpR X (binaryOp .Mult) (fun x y H Q => ∃ (z : Str) (n : Nat), x = .str z ∧ y = .int (n : Int) ∧ (1 ≤ n ∧ n ≤ 1000) ∧ (1 ≤ z.length ∧ z.length ≤ 1000) ∧ Q (.str (repS z n)) H) := by
  intro pins s σ H x y v u Q I rx ry h
  obtain ⟨z, n, rfl, rfl, ⟨n1, n2⟩, ⟨z1, z2⟩, q⟩ := h
  obtain ⟨t, rfl⟩ := rx
  obtain ⟨t', rfl⟩ := ry
  have c1 : decide ((n : Int) < -(2 ^ 63 : Int)) = false := decide_eq_false (by omega)
  have c2 : decide ((n : Int) ≥ 2 ^ 63) = false := decide_eq_false (by omega)
  refine PySem.P.mul_str (by rw [c1, c2]; rfl) (fun _ _ => ?_) (fun _ _ => ?_) ?_
  · have k : (1000000 : Int) ≤ (2 ^ 63 - 1) / (n : Int) := by
      refine Int.le_ediv_of_mul_le (by omega) ?_
      omega
    omega
  · have k : z.length * (n : Int).toNat ≤ 1000 * 1000 := Nat.mul_le_mul z2 (by omega)
    show decide (z.length * (n : Int).toNat > sizeLine) = false
    refine decide_eq_false ?_
    rw [sizeLine_eq]
    omega
  · rw [if_neg (by omega)]
    by_cases e : n = 1
    · subst e
      have e2 : repS z 1 = z := by
        unfold repS
        simp
      rw [if_pos (by rfl)]
      rw [e2] at q
      exact ⟨.str z, H, I, ⟨_, rfl⟩, q⟩
    · have b : ((n : Int) == 1 || z.length == 0) = false := by
        have b1 : ((n : Int) == 1) = false := by
          rw [beq_eq_false_iff_ne]
          omega
        have b2 : (z.length == 0) = false := by
          rw [beq_eq_false_iff_ne]
          omega
        rw [b1, b2]
        rfl
      rw [b, if_neg Bool.false_ne_true]
      have en : (n : Int).toNat = n := by omega
      rw [en]
      have lr : (repS z n).length ≤ sizeLine := by
        rw [repS_len, sizeLine_eq]
        have k : n * z.length ≤ 1000 * 1000 := Nat.mul_le_mul n2 z2
        omega
      exact ⟨lr, ⟨.str (repS z n), H, I.tok _, ⟨_, rfl⟩, q⟩⟩

/-! ### d.get(x), d a table of the top -/
def tKGet (K : PySem.W.Frag) (w : World) (td ty : TE) : TE := fun σ H Q => td σ H fun x H1 => ∃ (a : Addr) (es : Array DictEntry) (n : Nat), x = .ref a ∧ KDict K w a es n ∧ ty σ H1 fun y H2 => ∃ (z : Str) (r : Option Value) (v : V), y = .str z ∧ PySem.W.nsIn K a z = some r ∧ RelV v (r.getD .none) ∧ Q v H2
theorem pe_kget {X : Cx} {o e : Expr} {apos cpos : Pos} {td ty : TE} (ho : PE X o td) (he : PE X e ty) (m : M1 X o "get" apos e cpos) : PE X (.Call (.Attribute o "get" apos) [e] [] cpos) (tKGet X.K X.w td ty) := by
  refine ⟨fun pins s σ H Q I h => ?_⟩
  refine wpAny_Call_method m.base m.few m.line PySem.F.plainAttrs_dict PySem.F.slot_dict_get PySem.F.type_dict_get (thn (ho.run pins s σ H _ I h) fun u s1 ⟨x, H1, I1, rx, a, es, n, ex, D, q1⟩ => ?_)
  subst ex
  cases (show u = Value.ref a from rx)
  refine ⟨kd_type D I1, fun b q => ?_, ?_⟩
  · cases q
    exact ⟨_, I1.kIn _ _ D.at_, rfl⟩
  rw [m.trees]
  refine Calls.callWith_builtin rfl (Calls.evalArgs_plain (Calls.spliced_cons (thn (he.run pins s1 σ H1 _ I1 q1) fun iv s2 ⟨y, H2, I2, ry, z, r, v, ey, en, rv, q2⟩ => Calls.spliced_nil ?_)))
  subst ey
  obtain ⟨t, rfl⟩ := (show ∃ t, iv = Value.str z t from ry)
  have mp := PySem.W.mapOf_K (prog := X.prog) (w := X.w) I2.kIn D.at_ D.lit
  refine call_meetsIn PySem.F.slot_dict_get mp.typeIs PySem.F.entry_dict_get (PySem.F.args_dict_get_2 _ _) (meets_dict_get (strKind X.prog X.w) a (strKind_is X.prog X.w z t) D.low) ⟨_, mp, ?_⟩
  rw [PySem.W.find_K D.at_ en]
  exact ⟨v, H2, I2.tok _, rv, q2⟩

/-! ### what may be walked in two ways -/
theorem pi_or {X : Cx} {tg l : Expr} {w1 w2 : TI} (h1 : PI X tg l w1) (h2 : PI X tg l w2) : PI X tg l (fun σ H R => w1 σ H R ∨ w2 σ H R) := ⟨fun pins s σ H R I h => h.elim (fun k => h1.run pins s σ H R I k) (fun k => h2.run pins s σ H R I k)⟩

/-! ### raise C() -/
theorem pmk0 {X : Cx} {C : Addr} {bmB : List Value} {B newId initId : String} {x : Str} {p pos : Pos} (F : ExcBaseFacts B newId initId bmB) (q : PySem.W.excIn X.K C bmB newId = true) (gC : X.mg x = some (.ref C)) (kC : PySem.W.keepIn X.K (.ref C) = true) (r : Raises X (.ref C)) (hg : Gl X x)
    (hdb : (x == ("__debug__" : Str)) = false := by decide) : PMk X (.Call (.Name x p) [] [] pos) (fun _ H Q => Q (.ref C) none H) := by
  intro pins s σ H Q I h
  refine wpAny_Call_Name_kw (ld_glob I hg gC ?_ hdb)
  refine PySem.W.callWith_K0 I.kIn kC ?_
  show wpAny _ _ (call (.ref C) []) _ _ _
  obtain ⟨bm, N, nm, qn, bs, hdct, sn, sub, ab, col, dd, k0, k1, k2, k3, k5, mN, hC, hN, hni, T⟩ := exc_obj I.kIn q
  exact wpAny_call_exc_subT F T hC hN hni (fun h' a hm => mk_of I hm r h (I.hok.gone hm.new)) (by show 0 ≤ sizeLine; exact Nat.zero_le _)

/-! ### isinstance(e, c), e the error that the suite holds -/
def rIsS (K : PySem.W.Frag) (cls : Value) (d : Option Addr) (a : Addr) : List V → Hp → VK → Prop := fun xs H Q => ∃ (C : Addr) (c : V) (cv : Value) (b : Bool), xs = [.ref a, c] ∧ cls = .ref C ∧ ExcC K C ∧ (∀ dd, d = some dd → ∃ fs, H dd = some (.xd fs)) ∧ ClsV c cv ∧ PySem.W.kitOne K (.ref C) cv = some b ∧ Q (.bl b) H
theorem call_isS {X : Cx} {a : Addr} {oe : Obj} {cls : Value} {d : Option Addr} {pn : List (Addr × Obj)} (hz : Zc cls d oe) (hf : ∃ vs, oe.data = .fields vs) : CallR (X.suite a ((a, oe) :: pn)) (.builtin "isinstance") (rIsS X.K cls d a) := by
  intro pins s σ H xs us Q I r h
  obtain ⟨C, c, cv, b, rfl, rfl, T, hd, kc, e, q⟩ := h
  obtain ⟨u1, u2, rfl, r1, r2⟩ := vals2 r
  cases (show u1 = Value.ref a from r1)
  have e2 := kc.eq r2
  subst e2
  obtain ⟨there, _⟩ := I.pin (a, oe) (List.mem_append_left _ List.mem_cons_self)
  obtain ⟨vs, hv⟩ := hf
  obtain ⟨oc, od, dt, sl⟩ := oe
  obtain ⟨z1, z2⟩ := hz
  dsimp only at z1 z2 hv
  subst z1 z2 hv
  have J : ∃ oD, PySem.W.InstAt s.heap a ⟨.ref C, od, .fields vs, sl⟩ C oD := by
    cases od with
    | none => exact ⟨none, there, rfl, rfl, True.intro⟩
    | some dd =>
      obtain ⟨fs, hx⟩ := hd dd rfl
      have k : ObjOk X.prog X.w H s.heap dd (.xd fs) := I.hok dd _ hx
      obtain ⟨mA, ⟨oD, es, ep, hD, _⟩, _⟩ := k
      exact ⟨some oD, there, rfl, rfl, hD⟩
  obtain ⟨oD, J⟩ := J
  exact PySem.W.kia_one (XV.kitOf T) I.kIn J e (fun z => nomatch z) fun tk => ⟨.bl b, H, I.tok tk, rfl, q⟩

/-! ### try with several clauses, each «as» -/
def wMas (K : PySem.W.Frag) (Wout : WX) (D : Ends) : List (Value × Nat × (Addr → Value → Option Addr → TS)) → WX
  | [] => Wout
  | (c, i, ts) :: more => fun cls d σ H => ∃ b, PySem.W.exmOne K cls c = some b ∧ (b = true → ∀ a, H a = none → ts a cls d { nx := fun σ' H' => D.nx (σ'.set i none) H', rt := D.rt, bk := fun σ' H' => D.bk (σ'.set i none) H', ct := fun σ' H' => D.ct (σ'.set i none) H' } (σ.set i (some (.ref a))) H) ∧
    (b = false → wMas K Wout D more cls d σ H)
inductive HdsA (X : Cx) : List ExceptHandler → List (Value × Nat × (Addr → Value → Option Addr → TS)) → Prop
  | nil : HdsA X [] []
  | cons {x n : Str} {c : Value} {i : Nat} {ts : Addr → Value → Option Addr → TS} {st : Stmt} {suite : List Stmt} {np hp : Pos} {hds : List ExceptHandler} {l : List (Value × Nat × (Addr → Value → Option Addr → TS))} (hc : Names X x c) (hi : X.N[i]? = some n) (hln : X.env.kindOf n = some .local)
      (hsu : ∀ (a : Addr) (oe : Obj) (cls : Value) (d : Option Addr) (pn : List (Addr × Obj)), Zc cls d oe → (∃ vs, oe.data = .fields vs) → PSs (X.suite a ((a, oe) :: pn)) (st :: suite) (ts a cls d)) (more : HdsA X hds l) :
      HdsA X (.ExceptHandler (some (.Name x np)) (some n) (st :: suite) hp :: hds) ((c, i, ts) :: l)
section
variable {X : Cx} {body : List Stmt} {hd0 : ExceptHandler} {hds : List ExceptHandler} {l : List (Value × Nat × (Addr → Value → Option Addr → TS))} {pos : Pos} {tb : WX → TS} {Wout : WX}
theorem ps_try_mas (hst : X.stack = X.env :: X.outer) (hfr0 : X.env.frame = some X.env.locals) (nd : X.N.Nodup) (tk : Takes X Wout)
    (bod : ∀ (W : WX) (pn : List (Addr × Obj)) (xe : Value → Shared → Prop), Takes (X.tr pn xe) W → PassesOwn (model X.prog X.w) X.A X.env xe → PSs (X.tr pn xe) body (tb W))
    (all : HdsA X (hd0 :: hds) l) : PS X (.Try body (hd0 :: hds) [] [] pos) (fun D σ H => tb (wMas X.K Wout D l) D σ H) := by
  refine ⟨fun pins s σ H D I h => ?_⟩
  have okX := I.ok
  have frs0 : X.A.frames = some (X.env :: X.outer) := by rw [okX.frames, hst]
  refine wpAny_Try_except ?_
  refine wpAny_mono ((bod (wMas X.K Wout D l) (X.pn ++ pins) (fun e sa => wpAny (model X.prog X.w) X.A (noteFrame e X.env) (fun _ sb => wpAny (model X.prog X.w) X.A (setFlight e none) (fun _ sc =>
    wpAny (model X.prog X.w) X.A (handleBy e X.env (hd0 :: hds)) (SP X pins D) X.xe sc) X.xe sb) X.xe sa) (fun u st air => ?_) PassesOwn.looking).run [] s σ H D (I.toTry _) h) (fun f s1 fin0 => ?_) (fun _ _ z => z)
  · obtain ⟨a, B, sI, pins', σ1, H1, cls, d, rfl, J0, nb, up, sky, na, os, ag, wish⟩ := air
    have J : Inv X pins σ1 H1 sI := J0.ofTry okX
    have sky1 : Sky B (X.env :: X.outer) a (Zc cls d) X.env.locals st.heap := by rw [← hst]; exact sky
    show wpAny (model X.prog X.w) X.A (noteFrame (.ref a) X.env) _ _ _
    refine Sky.land Zc.steady frs0 hfr0 sky1 fun hA flA upA => ?_
    have JA : Inv X pins σ1 H1 { st with heap := hA } := J.landed nb flA.1 (up.trans upA) os ag
    obtain ⟨oeA, vsA, heA, hzA, hdA⟩ := flA.there
    have noFr : ∀ {hh : Heap} {o : Obj} {ws : Array Value}, hh.FunFrames B (X.env :: X.outer) → hh.get? a = some o → o.data = .fields ws → a ∉ frs (X.env :: X.outer) := fun {hh o ws} ff e dd hm => by
      obtain ⟨_, o2, e2, hnf⟩ := ff.mem hm
      rw [e] at e2
      cases e2
      exact hnf _ dd
    have nfA := noFr flA.2.2.1 heA hdA
    have neL : a ≠ X.env.locals := fun z => nfA (List.mem_filterMap.mpr ⟨X.env, List.mem_cons_self, by rw [hfr0, z]⟩)
    have neF : a ∉ X.fs := fun hm => by
      obtain ⟨e, he, q⟩ := List.mem_filterMap.mp hm
      exact nfA (List.mem_filterMap.mpr ⟨e, List.mem_cons_of_mem _ he, q⟩)
    have SA := JA.suite heA hdA na neL neF
    have walk : ∀ {hs' : List ExceptHandler} {l' : List (Value × Nat × (Addr → Value → Option Addr → TS))}, HdsA X hs' l' → wMas X.K Wout D l' cls d σ1 H1 →
        wpAny (model X.prog X.w) X.A (handleBy (.ref a) X.env hs') (SP X pins D) X.xe { st with heap := hA } := by
      intro hs' l' hk
      induction hk with
      | nil =>
        intro wn
        refine wpAny_handleBy_nil ?_
        obtain ⟨_, _, _, oe, vs, TT, oT, ts', he, hz, hdd, h1, _⟩ := id flA
        unfold PySem.passOn
        refine wpAny_bind (wpAny_field he hdd h1 ?_)
        rw [if_neg (show ¬ ((Value.ref TT == Value.none) = true) from by simp)]
        have on : wpAny (model X.prog X.w) X.A (setFlight (.ref a) X.env.frame) (fun _ sx => wpAny (model X.prog X.w) X.A (throw (.ref a) : Sem Flow) (SP X pins D) X.xe sx) X.xe { st with heap := hA } := by
          rw [hfr0]
          refine HandSPX.setFlight_upZ flA fun hB hhB upB => wpAny_throw (tk _ _ ?_)
          exact ⟨a, B, sI, pins, σ1, H1, cls, d, rfl, J, nb, (up.trans upA).trans upB, .inr (.inr (by rw [hst]; exact hhB)), na, os, ag, wn⟩
        first
          | exact wpAny_bind (wpAny_pure (wpAny_bind on))
          | exact wpAny_bind on
      | @cons x n c i ts st0 suite np hp hds2 l2 hc hi hln hsu more ih =>
        intro wn
        obtain ⟨b, hb1, yes, no⟩ := wn
        refine wpAny_handleBy_cons (codeAny_handlers_test ?_) (by intro q; cases q)
        have LT : PySem.W.Looks (model X.prog X.w) hA (typeOf (.ref a)) cls := fun A' Q' E' s' k q => wpAny_typeOf_ref (k _ _ heA) (by rw [hzA.1]; exact q)
        have LM := PySem.W.exm_one (M := model X.prog X.w) JA.kIn LT hb1
        have nameOf : ∀ {Q' : Value → Shared → Prop} {E' : Value → Shared → Prop}, Q' c { st with heap := hA } → wpAny (model X.prog X.w) (X.A.mark (some (.ref a))) (eval (.Name x np) X.env) Q' E' { st with heap := hA } := fun {Q' E'} q => by
          obtain ⟨hg, hdbg, hm | ⟨hm, hv, hnn⟩⟩ := hc
          · exact ld_glob (X := X.suite a ((a, oeA) :: (X.pn ++ pins))) SA hg hm q hdbg
          · exact ld_blt (X := X.suite a ((a, oeA) :: (X.pn ++ pins))) SA hg hm hv q hnn hdbg
        refine nameOf (LM.here ?_)
        cases b with
        | false =>
          show wpAny _ X.A (handleBy (.ref a) X.env hds2) _ _ _
          exact ih (no rfl)
        | true =>
          refine codeAny_handlers_suite_as ?_
          refine HandSPX.lands_againZ flA fun hB flB upB => ?_
          have JB : Inv X pins σ1 H1 { st with heap := hB } := J.landed nb flB.1 ((up.trans upA).trans upB) os ag
          obtain ⟨oeB, vsB, heB, hzB, hdB⟩ := flB.there
          have SB := JB.suite heB hdB na neL neF
          refine store_ok (X := X.suite a ((a, oeB) :: (X.pn ++ pins))) (v := .ref a) SB nd hi (.inl hln) rfl (fun s5 S5 => ?_) (.inr hln)
          refine wpAny_mono ((hsu a oeB cls d (X.pn ++ pins) hzB ⟨_, hdB⟩).run [] s5 _ H1 _ S5 (yes rfl a na)) (fun f s6 q0 => ?_) (fun _ _ z => False.elim z)
          have gone : ∀ {σ6 : L2.St} {H6 : Hp} {Q6 : Shared → Prop}, Inv (X.suite a ((a, oeB) :: (X.pn ++ pins))) [] σ6 H6 s6 → (∀ s7, Inv X pins (σ6.set i none) H6 s7 → Q6 s7) →
              wpAny (model X.prog X.w) X.A (do bindName X.env n .none; unbindBehindTheSuite X.env n hp) (fun _ s7 => Q6 s7) X.xe s6 := fun {σ6 H6 Q6} S6 hq => gone_ok (S6.unsuite okX) nd hi hln hq
          cases f with
          | next =>
            obtain ⟨_, _, S6, q6⟩ := q0
            exact gone S6 fun s7 J7 => ⟨_, _, J7, q6⟩
          | brk =>
            obtain ⟨_, _, S6, q6⟩ := q0
            exact gone S6 fun s7 J7 => ⟨_, _, J7, q6⟩
          | cont =>
            obtain ⟨_, _, S6, q6⟩ := q0
            exact gone S6 fun s7 J7 => ⟨_, _, J7, q6⟩
          | ret u =>
            obtain ⟨_, _, _, S6, r6, q6⟩ := q0
            exact gone S6 fun s7 J7 => ⟨_, _, _, J7, r6, q6⟩
    exact walk all wish
  · cases f with
    | next =>
      obtain ⟨_, _, J1, q⟩ := fin0
      exact wpAny_execs_nil ⟨_, _, J1.ofTry okX, q⟩
    | brk =>
      obtain ⟨_, _, J1, q⟩ := fin0
      exact ⟨_, _, J1.ofTry okX, q⟩
    | cont =>
      obtain ⟨_, _, J1, q⟩ := fin0
      exact ⟨_, _, J1.ofTry okX, q⟩
    | ret v =>
      obtain ⟨_, _, _, J1, r, q⟩ := fin0
      exact ⟨_, _, _, J1.ofTry okX, r, q⟩
end
end XR

set_option Elab.async false
set_option linter.all false
set_option maxRecDepth 100000
set_option maxHeartbeats 4000000
/-! A pen: a pair of a list of numbers and a count, changed by each draw; all else stands. -/
namespace PEN
open PySem PySem.Spec PyProof.Rows L2 Evl

def cut (p l : Addr) (H : Hp) : Hp := fun a => if a = p ∨ a = l then none else H a
theorem cut_at {p l a : Addr} {H : Hp} (h1 : a ≠ p) (h2 : a ≠ l) : cut p l H a = H a := by
  unfold cut
  rw [if_neg (by rintro (z | z) <;> contradiction)]
theorem cut_some {p l a : Addr} {H : Hp} {o : HO} (h : cut p l H a = some o) : a ≠ p ∧ a ≠ l ∧ H a = some o := by
  unfold cut at h
  by_cases z : a = p ∨ a = l
  · rw [if_pos z] at h
    cases h
  · rw [if_neg z] at h
    exact ⟨fun e => z (.inl e), fun e => z (.inr e), h⟩
theorem cut_ex {p l : Addr} {H : Hp} : Ex (cut p l H) H := fun a o h => (cut_some h).2.2
theorem cut_mono {p l : Addr} {H H' : Hp} (e : Ex H H') : Ex (cut p l H) (cut p l H') := fun a o h => by
  obtain ⟨h1, h2, h3⟩ := cut_some h
  rw [cut_at h1 h2]
  exact e _ _ h3
/-- all but the pen stands -/
def Px (p l : Addr) (H H' : Hp) : Prop := Ex (cut p l H) (cut p l H')
theorem Px.refl {p l : Addr} (H : Hp) : Px p l H H := Ex.refl _
theorem Px.trans {p l : Addr} {H H1 H2 : Hp} (a : Px p l H H1) (b : Px p l H1 H2) : Px p l H H2 := Ex.trans a b
theorem Px.of {p l : Addr} {H H' : Hp} (e : Ex H H') : Px p l H H' := cut_mono e
theorem Px.get {p l a : Addr} {H H' : Hp} {o : HO} (k : Px p l H H') (h1 : a ≠ p) (h2 : a ≠ l) (h : H a = some o) : H' a = some o := (cut_some (k a o ((cut_at h1 h2).trans h))).2.2
theorem Px.upd {p l : Addr} {H H' : Hp} {a : Addr} {o : HO} (k : Px p l H H') (h : a = p ∨ a = l ∨ H a = none) : Px p l H (upd H' a o) := fun b u hb => by
  obtain ⟨h1, h2, h3⟩ := cut_some hb
  have n : b ≠ a := by
    rintro rfl
    rcases h with z | z | z
    · exact h1 z
    · exact h2 z
    · rw [z] at h3
      cases h3
  rw [cut_at h1 h2, upd_ne n]
  exact k.get h1 h2 h3
theorem Px.fresh {p l a : Addr} {H H' : Hp} (k : Px p l H H') (h1 : a ≠ p) (h2 : a ≠ l) (h : H' a = none) : H a = none := by
  cases z : H a with
  | none => rfl
  | some o =>
    rw [k.get h1 h2 z] at h
    cases h
/-- a pen with b draws left to it -/
def Pen (p l : Addr) (b : Nat) (H : Hp) : Prop := ∃ (c : Int) (ns : List Int), H p = some (.lst [.ref l, .int c]) ∧ H l = some (.lst (ns.map V.int)) ∧ ns ≠ [] ∧ 0 ≤ c ∧ c + b ≤ 1000000000000
theorem Pen.ne {p l : Addr} {b : Nat} {H : Hp} (h : Pen p l b H) : p ≠ l := by
  obtain ⟨c, ns, h1, h2, _⟩ := h
  rintro rfl
  rw [h1] at h2
  have z := HO.lst.inj (Option.some.inj h2)
  cases ns with
  | nil => cases z
  | cons n r =>
    rw [List.map_cons] at z
    cases (List.cons.inj z).1
theorem Pen.ex {p l : Addr} {b : Nat} {H H' : Hp} (e : Ex H H') (h : Pen p l b H) : Pen p l b H' := by
  obtain ⟨c, ns, h1, h2, h3⟩ := h
  exact ⟨c, ns, e _ _ h1, e _ _ h2, h3⟩
theorem Pen.less {p l : Addr} {b b' : Nat} {H : Hp} (h : Pen p l b H) (k : b' ≤ b) : Pen p l b' H := by
  obtain ⟨c, ns, h1, h2, h3, h4, h5⟩ := h
  exact ⟨c, ns, h1, h2, h3, h4, by omega⟩
theorem Pen.upd {p l a : Addr} {b : Nat} {H : Hp} {o : HO} (h : Pen p l b H) (h1 : a ≠ p) (h2 : a ≠ l) : Pen p l b (upd H a o) := by
  obtain ⟨c, ns, e1, e2, h3⟩ := h
  exact ⟨c, ns, (upd_ne (Ne.symm h1)).trans e1, (upd_ne (Ne.symm h2)).trans e2, h3⟩
/-- a new thing is not the pen -/
theorem Pen.new {p l a : Addr} {b : Nat} {H : Hp} (h : Pen p l b H) (n : H a = none) : a ≠ p ∧ a ≠ l := by
  obtain ⟨c, ns, e1, e2, _⟩ := h
  exact ⟨(ne_of_none e1 n).symm, (ne_of_none e2 n).symm⟩
theorem cut_fresh {p l a : Addr} {H : Hp} (h : H a = none) : cut p l H a = none := by
  unfold cut
  split
  · rfl
  · exact h
/-- a comprehension without a test goes on with its element -/
theorem yes_go {te : TE} {σ : L2.St} {H : Hp} {R : VK} {B : Hp → Prop} (h : te σ H R) : tYes σ H (fun b H3 => if b = true then te σ H3 R else B H3) := by
  show (if true = true then te σ H R else B H)
  exact iteT h
theorem fits {n : Nat} (h : n ≤ 1000) : n ≤ sizeLine := Nat.le_of_lt (small1000 h)
/-! ### names -/
/-- the signs of a name -/
def Let (z : Str) : Prop := ∀ c ∈ z.cps.toList, 97 ≤ c ∧ c ≤ 122
/-! ### the promises -/
def spDraw : Sp := fun vs H Q _ => ∃ (p l : Addr) (m : Int) (b : Nat), vs = [.ref p, .int m] ∧ (0 < m ∧ m < 1073741824) ∧ Pen p l (b + 1) H ∧ ∀ r H', 0 ≤ r ∧ r < m → Px p l H H' → Pen p l b H' → Q (.int r) H'
def spPick (K : PySem.W.Frag) : Sp := fun vs H Q _ => ∃ (p l a : Addr) (xs : List V) (b : Nat), vs = [.ref p, .ref a] ∧ SqL K (cut p l H) a xs ∧ (xs ≠ [] ∧ xs.length ≤ 1000000) ∧ Pen p l (b + 1) H ∧ ∀ r H', r ∈ xs → Px p l H H' → Pen p l b H' → Q r H'
def spWord : Sp := fun vs H Q _ => ∃ (p l : Addr) (m b : Nat), vs = [.ref p, .int (m : Int)] ∧ (1 ≤ m ∧ m ≤ 12) ∧ Pen p l (b + 14) H ∧ ∀ (z : Str) H', (Let z ∧ 1 ≤ z.length ∧ z.length ≤ m) → Px p l H H' → Pen p l b H' → Q (.str z) H'
def NamesOk (ys : List Str) : Prop := ys.Nodup ∧ ∀ y ∈ ys, Let y ∧ 1 ≤ y.length ∧ y.length ≤ 12
def spNames (K : PySem.W.Frag) : Sp := fun vs H Q _ => ∃ (p l : Addr) (n b : Nat), vs = [.ref p, .int (n : Int)] ∧ n ≤ 11 ∧ Pen p l (b + n * 16) H ∧
  ∀ (q : Addr) (ys : List Str) H', H q = none → H' q = some (.lst (ys.map V.str)) → ys.length = n → NamesOk ys → Px p l H H' → Pen p l b H' → Q (.ref q) H'
end PEN

set_option Elab.async false
set_option linter.all false
set_option maxRecDepth 100000
set_option maxHeartbeats 4000000
/-! A head's facts as any tests of the written part, and tables with text keys beside them. -/
namespace XT
open PySem PySem.Spec PyProof.Rows L2 He XH
abbrev AlU : Type := AlD × List (Option (List (Option (Str × Int))))
def obsU (ff : List Fc) (dd : List DefD) (tt : List Tab) (K : PySem.W.Frag) : AlU := (obsB ff dd K, tt.map fun x => dicW K (x.1 K))
def valU (dd : List DefD) (tt : List Tab) (w : World) : AlU := (valD dd, tt.map fun x => some (keysIn w.params x.2))
def obsUG (n : Nat) (ff : List Fc) (dd : List DefD) (tt : List Tab) (h0 : Addr → Option Obj) : AlU := obsU ff dd tt (frG h0 (asD h0 n))
def SaysU (ff : List Fc) (dd : List DefD) (tt : List Tab) (w : World) (K : PySem.W.Frag) : Prop := obsU ff dd tt K = valU dd tt w
def hookU (n : Nat) (ff : List Fc) (dd : List DefD) (tt : List Tab) : PySem.W.Hook where
  α := AlU
  obs := fun st => obsUG n ff dd tt st.heap.get?
  val := fun ww => valU dd tt ww
  says := fun ww hh => ∃ K : PySem.W.Frag, K.In hh ∧ SaysU ff dd tt ww K
  of := fun _ _ z => ⟨_, frG_in, z⟩
  keeps := fun _ _ _ ⟨K, inn, c⟩ kk => ⟨K, PySem.W.Frag.In.keeps inn kk, c⟩
theorem obsUG_eq {n : Nat} {ff : List Fc} {dd : List DefD} {tt : List Tab} {h0 : Addr → Option Obj} {st : Shared} (h : ∀ a, h0 a = st.heap.get? a) : obsUG n ff dd tt h0 = (hookU n ff dd tt).obs st := by
  have z : h0 = st.heap.get? := funext h
  rw [z]
  rfl
section
variable {ff : List Fc} {dd : List DefD} {tt : List Tab} {w : World} {K : PySem.W.Frag}
theorem SaysU.b (c : SaysU ff dd tt w K) : SaysB ff dd K := congrArg (fun z : AlU => z.1) c
theorem SaysU.at (c : SaysU ff dd tt w K) (i : Nat) {x : Tab} (h : tt[i]? = some x := by rfl) : ∃ es n, KDict K w (x.1 K) es n := by
  have z : (tt.map fun x => dicW K (x.1 K)) = tt.map fun x => some (keysIn w.params x.2) := congrArg (fun z : AlU => z.2) c
  have z2 : (tt.map fun x => dicW K (x.1 K))[i]? = (tt.map fun x => some (keysIn w.params x.2))[i]? := congrArg (fun l => l[i]?) z
  rw [List.getElem?_map, List.getElem?_map, h] at z2
  exact dicW_ok (Option.some.inj z2)
end
/-- an entry of a table that is an empty tuple of the top; that is any object -/
def emptyB (K : PySem.W.Frag) (x k : Str) : Bool := match PySem.W.nsIn K (ga K x) k with
  | some (some (.ref a)) => (match K.lookup a with
    | some ⟨.type c, _, .seq its _, _⟩ => c == "tuple" && its.toList.isEmpty
    | _ => false)
  | _ => false
theorem emptyB_ok {K : PySem.W.Frag} {x k : Str} (q : emptyB K x k = true) : ∃ a, PySem.W.nsIn K (ga K x) k = some (some (.ref a)) ∧ ∀ H, SqT K H a [] := by
  unfold emptyB at q
  split at q
  · rename_i a e
    split at q
    · rename_i c dd its n sl e2
      obtain ⟨q1, q2⟩ := ba q
      have e3 := beq_iff_eq.mp q1
      subst e3
      have e4 : its.toList = [] := List.isEmpty_iff.mp q2
      refine ⟨a, e, fun H => .inr ⟨_, its, n, e2, rfl, rfl, ?_, ?_⟩⟩
      · rw [← Array.length_toList, e4]
        exact Nat.zero_le _
      · rw [e4]
        exact .nil
    · cases q
  · cases q
def refB (K : PySem.W.Frag) (x k : Str) : Bool := match PySem.W.nsIn K (ga K x) k with
  | some (some (.ref _)) => true
  | _ => false
theorem refB_ok {K : PySem.W.Frag} {x k : Str} (q : refB K x k = true) : ∃ a, PySem.W.nsIn K (ga K x) k = some (some (.ref a)) := by
  unfold refB at q
  split at q
  · rename_i a e
    exact ⟨a, e⟩
  · cases q
end XT

set_option Elab.async false
set_option linter.all false
set_option maxRecDepth 100000
set_option maxHeartbeats 4000000
/-! Tests of a head: entries of a table that are tuples of texts, or texts. -/
namespace XT
open PySem PySem.Spec PyProof.Rows L2 He XH
def strsB : List Value → List Str → Bool
  | [], [] => true
  | .str z _ :: r, y :: s => z == y && strsB r s
  | _, _ => false
theorem strsB_ok : ∀ {vs : List Value} {zs : List Str}, strsB vs zs = true → Vals (zs.map V.str) vs
  | [], [], _ => .nil
  | .str z t :: r, y :: s, h => by
    obtain ⟨h1, h2⟩ := ba (show (z == y && strsB r s) = true from h)
    rw [beq_iff_eq.mp h1]
    exact .cons ⟨t, rfl⟩ (strsB_ok h2)
def entB (K : PySem.W.Frag) (x k : Str) (zs : List Str) : Bool := match PySem.W.nsIn K (ga K x) k with
  | some (some (.ref a)) => (match K.lookup a with
    | some ⟨.type c, _, .seq its _, _⟩ => c == "tuple" && (decide (its.toList.length ≤ 1000) && strsB its.toList zs)
    | _ => false)
  | _ => false
theorem entB_ok {K : PySem.W.Frag} {x k : Str} {zs : List Str} (q : entB K x k zs = true) : ∃ a, PySem.W.nsIn K (ga K x) k = some (some (.ref a)) ∧ ∀ H, SqT K H a (zs.map V.str) := by
  unfold entB at q
  split at q
  · rename_i a e
    split at q
    · rename_i c dd its n sl e2
      obtain ⟨q1, q2⟩ := ba q
      obtain ⟨q2, q3⟩ := ba q2
      have e3 := beq_iff_eq.mp q1
      subst e3
      refine ⟨a, e, fun H => .inr ⟨_, its, n, e2, rfl, rfl, ?_, strsB_ok q3⟩⟩
      rw [← Array.length_toList]
      exact Nat.le_trans (of_decide_eq_true q2) (by decide)
    · cases q
  · cases q
def sndB (K : PySem.W.Frag) (x k z : Str) : Bool := match PySem.W.nsIn K (ga K x) k with
  | some (some (.str y _)) => y == z
  | _ => false
theorem sndB_ok {K : PySem.W.Frag} {x k z : Str} (q : sndB K x k z = true) : ∃ t, PySem.W.nsIn K (ga K x) k = some (some (.str z t)) := by
  unfold sndB at q
  split at q
  · rename_i y t e
    rw [← beq_iff_eq.mp q]
    exact ⟨t, e⟩
  · cases q
def emptyAtB (K : PySem.W.Frag) (a : Addr) : Bool := match K.lookup a with
  | some ⟨.type c, _, .seq its _, _⟩ => c == "tuple" && its.toList.isEmpty
  | _ => false
theorem emptyAtB_ok {K : PySem.W.Frag} {a : Addr} (q : emptyAtB K a = true) (H : Hp) : SqT K H a [] := by
  unfold emptyAtB at q
  split at q
  · rename_i c dd its n sl e2
    obtain ⟨q1, q2⟩ := ba q
    have e3 := beq_iff_eq.mp q1
    subst e3
    have e4 : its.toList = [] := List.isEmpty_iff.mp q2
    refine .inr ⟨_, its, n, e2, rfl, rfl, ?_, ?_⟩
    · rw [← Array.length_toList, e4]
      exact Nat.zero_le _
    · rw [e4]
      exact .nil
  · cases q
end XT

set_option Elab.async false
set_option linter.all false
set_option maxRecDepth 100000
set_option maxHeartbeats 8000000

/-! What the laws over drawn codes share. -/
namespace TR
open PySem PySem.Spec PyProof.Rows L2 He XH XV XR PEN Evl

def alphabet : Str := "abcdefghijklmnopqrstuvwxyz"
theorem alpha_at : ∀ j : Fin 26, alphabet.cps.toList[j.1]? = some (97 + j.1) := by decide +kernel
theorem alpha_pick {r : Int} (h : 0 ≤ r ∧ r < 26) : ∃ c : Nat, atI alphabet.cps.toList r = some c ∧ 97 ≤ c ∧ c ≤ 122 := by
  have e : ((r.toNat : Nat) : Int) = r := by omega
  have z := atI_nat (xs := alphabet.cps.toList) (j := r.toNat) (alpha_at ⟨r.toNat, by omega⟩)
  rw [e] at z
  exact ⟨97 + r.toNat, z, by omega, by omega⟩
def sign (c : Nat) : Str := ⟨#[c]⟩
theorem joinL_signs : ∀ cs : List Nat, TL.joinL [] (cs.map fun c => [c]) = cs
  | [] => rfl
  | [c] => rfl
  | c :: d :: r => by
    show [c] ++ ([] ++ TL.joinL [] ((d :: r).map fun c => [c])) = c :: d :: r
    rw [joinL_signs (d :: r)]
    rfl
theorem join_signs (cs : List Nat) : (Txt.join ("" : Str) (cs.map sign)).cps.toList = cs := by
  have z : TL.tl (Txt.join ("" : Str) (cs.map sign)) = TL.joinL (TL.tl ("" : Str)) ((cs.map sign).map TL.tl) := by
    rw [TL.join_eq, TL.tl_join]
  rw [List.map_map] at z
  have e : (TL.tl ∘ sign) = fun c => [c] := rfl
  rw [e] at z
  have e2 : TL.tl ("" : Str) = [] := by decide +kernel
  rw [e2, joinL_signs] at z
  exact z
theorem len_codes (z : Str) : z.length = z.cps.toList.length := by
  show z.cps.size = _
  simp
theorem sum_signs : ∀ cs : List Nat, ((cs.map sign).map (·.length)).sum = cs.length
  | [] => rfl
  | c :: r => by
    show 1 + ((r.map sign).map (·.length)).sum = r.length + 1
    rw [sum_signs r]
    omega


/-! ### comprehensions over a range from lo -/
theorem el_lcR2 {σ : L2.St} {H : Hp} {t : TT} {te : TE} {ta : TA} {j : Nat} {vs : List Nat} {lo n : Int} (f : Nat → Bool) (v : Nat → V) (h : EvA ta σ H [.int lo, .int n]) (hn : 0 ≤ lo ∧ lo ≤ 40000 ∧ lo ≤ n ∧ n ≤ 40000) (hw : ∀ x, wipe ((wipe σ vs).set j (some x)) vs = wipe σ vs)
    (ht : ∀ (i : Nat) H1, Ex H H1 → lo + (i : Int) < n → EvT t ((wipe σ vs).set j (some (.int (lo + (i : Int))))) H1 (f i)) (he : ∀ (i : Nat) H1, Ex H H1 → lo + (i : Int) < n → f i = true → Ev te ((wipe σ vs).set j (some (.int (lo + (i : Int))))) H1 (v i)) :
    EvL (tLc (iRng2 ta) (gName j) t te vs) σ H (given (n - lo).toNat f v) := fun H0 e Q q => h H0 e _ fun H1 e1 => ⟨lo, n, rfl, ⟨by omega, by omega, by omega, by omega⟩, fun Dl hD =>
  lc_range (lo := lo) (n := (n - lo).toNat) (Cw H1 f v Dl) ⟨hD, Ex.new hD, upd_same⟩ (fun i H' hi pw => ⟨hw _, cw_turn pw (by omega) (ht i H1 (e.trans e1) (by omega)) (fun hf => he i H1 (e.trans e1) (by omega) hf)⟩)
    (fun H' pw => q Dl H' (fresh_back e1 pw.1) (e1.trans pw.2.1) pw.2.2)⟩
/-! ### texts of one sign -/
theorem fold_codes (a : Array Nat) : ∀ (n : Nat) (acc : Array Nat), ((List.replicate n a).foldl (· ++ ·) acc).toList = acc.toList ++ (List.replicate n a.toList).flatten
  | 0, acc => by simp
  | n + 1, acc => by
    rw [List.replicate_succ, List.foldl_cons, fold_codes a n, Array.toList_append, List.replicate_succ, List.flatten_cons, List.append_assoc]
theorem repS_codes (z : Str) (n : Nat) : (repS z n).cps.toList = (List.replicate n z.cps.toList).flatten := by
  show ((List.replicate n z.cps).foldl (· ++ ·) #[]).toList = _
  rw [fold_codes]
  rfl
def aS (n : Nat) : Str := repS ("a" : Str) n
theorem aS_len (n : Nat) : (aS n).length = n := by
  have z := repS_len ("a" : Str) n
  have e : (("a" : Str)).length = 1 := by decide +kernel
  rw [e, Nat.mul_one] at z
  exact z
theorem aS_let (n : Nat) : Let (aS n) := by
  intro c hc
  have e : (("a" : Str)).cps.toList = [97] := by decide +kernel
  have z : c ∈ (List.replicate n [97]).flatten := by
    have k := repS_codes ("a" : Str) n
    rw [e] at k
    rw [← k]
    exact hc
  obtain ⟨l, hl, hc2⟩ := List.mem_flatten.mp z
  rw [(List.mem_replicate.mp hl).2] at hc2
  rw [List.mem_singleton.mp hc2]
  exact ⟨by decide, by decide⟩
theorem inV_strs (z : Str) : ∀ ys : List Str, inV (.str z) (ys.map V.str) = decide (z ∈ ys)
  | [] => by simp [inV]
  | y :: r => by
    have ih := inV_strs z r
    show (eqV (.str y) (.str z) || inV (.str z) (r.map V.str)) = decide (z ∈ y :: r)
    rw [ih]
    show ((y == z) || decide (z ∈ r)) = decide (z ∈ y :: r)
    by_cases h : z = y
    · subst h
      simp
    · have h' : ¬ y = z := fun e => h e.symm
      simp [h, h']
theorem flat_strs (ys : List Str) : (ys.map V.str).all flatV = true := by
  rw [List.all_map]
  exact List.all_eq_true.mpr fun _ _ => rfl
theorem crowd : ∀ {cs ys : List Str}, cs.Nodup → (∀ c ∈ cs, c ∈ ys) → cs.length ≤ ys.length
  | [], _, _, _ => Nat.zero_le _
  | c :: r, ys, nd, h => by
    obtain ⟨n1, n2⟩ := List.nodup_cons.mp nd
    have hc := h c (List.mem_cons_self ..)
    have k : r.length ≤ (ys.erase c).length := crowd n2 fun d hd => (List.mem_erase_of_ne (fun e => n1 (by rw [← e]; exact hd))).mpr (h d (List.mem_cons_of_mem _ hd))
    rw [List.length_erase_of_mem hc] at k
    have hl : 0 < ys.length := List.length_pos_of_mem hc
    rw [List.length_cons]
    omega
def cands : List Str := (List.range 12).map fun i => aS (1 + i)
theorem cands_nodup : cands.Nodup := by
  have z : ((List.range 12).map fun i => (aS (1 + i)).length).Nodup := by
    have e : ((List.range 12).map fun i => (aS (1 + i)).length) = (List.range 12).map fun i => 1 + i := List.map_congr_left fun i _ => aS_len _
    rw [e]
    decide
  have z2 : (cands.map (·.length)).Nodup := by
    unfold cands
    rw [List.map_map]
    exact z
  exact List.Pairwise.of_map (f := fun z : Str => z.length) (fun a b h e => h (by rw [e])) z2
theorem spare_first {ys : List Str} (hl : ys.length ≤ 10) : ∃ z, (given 12 (fun i => !decide (aS (1 + i) ∈ ys)) (fun i => V.str (aS (1 + i))))[0]? = some (.str z) ∧ z ∉ ys ∧ Let z ∧ 1 ≤ z.length ∧ z.length ≤ 12 := by
  have ne : ((List.range 12).filter fun i => !decide (aS (1 + i) ∈ ys)) ≠ [] := by
    intro e
    have all : ∀ c ∈ cands, c ∈ ys := by
      intro c hc
      obtain ⟨i, hi, rfl⟩ := List.mem_map.mp hc
      by_cases h : aS (1 + i) ∈ ys
      · exact h
      · have m : i ∈ (List.range 12).filter fun i => !decide (aS (1 + i) ∈ ys) := List.mem_filter.mpr ⟨hi, by simp [h]⟩
        rw [e] at m
        cases m
    have k := crowd cands_nodup all
    have k2 : cands.length = 12 := by
      unfold cands
      rw [List.length_map, List.length_range]
    omega
  unfold given
  cases hf : (List.range 12).filter fun i => !decide (aS (1 + i) ∈ ys) with
  | nil => exact absurd hf ne
  | cons i r =>
    have m : i ∈ (List.range 12).filter fun i => !decide (aS (1 + i) ∈ ys) := by
      rw [hf]
      exact List.mem_cons_self ..
    obtain ⟨m1, m2⟩ := List.mem_filter.mp m
    have m3 := List.mem_range.mp m1
    exact ⟨aS (1 + i), rfl, by simpa using m2, aS_let _, by rw [aS_len]; omega, by rw [aS_len]; omega⟩
theorem two_c {k : Bool} {u v : V} {σ : L2.St} {H : Hp} {Q : VK} (h : ∀ x, x = u ∨ x = v → Q x H) : if k = true then tC u σ H Q else tC v σ H Q := by
  cases k with
  | true => exact h u (.inl rfl)
  | false => exact h v (.inr rfl)

theorem given_all_at {j : Nat} {x : V} {v : Nat → V} {n : Nat} (h : (given n (fun _ => true) v)[j]? = some x) : x = v j := by
  unfold given at h
  rw [List.filter_eq_self.mpr (fun _ _ => rfl), List.getElem?_map] at h
  cases q : (List.range n)[j]? with
  | none =>
    rw [q] at h
    cases h
  | some k =>
    rw [q] at h
    obtain ⟨hk, ek⟩ := List.getElem?_eq_some_iff.mp q
    rw [List.getElem_range] at ek
    subst ek
    exact (Option.some.inj h).symm

theorem pe_nv {X : Cx} {e : Expr} : PE X e (fun _ _ _ => False) := ⟨fun _ _ _ _ _ _ h => h.elim⟩
theorem pt_nv {X : Cx} {e : Expr} : PT X e (fun _ _ _ => False) := ⟨fun _ _ _ _ _ _ h => h.elim⟩
theorem pg_nv {X : Cx} {e : Expr} : PG X e (fun _ _ _ _ => False) := ⟨fun _ _ _ _ _ _ _ _ _ h => h.elim⟩
theorem op_in_nil {X : Cx} : OpR X (compareOp .In) (fun x y H Q => ∃ p, y = .ref p ∧ SqT X.K H p [] ∧ Q (.bl false) H) := by
  intro pins s σ H x y v u Q I rx ry h
  obtain ⟨p, rfl, hq, q⟩ := h
  cases ry
  obtain ⟨its, r, pl, hz⟩ := I.tuple hq
  cases r
  refine SeqAt.in_tupleAt (fun _ => false) pl (fun w hw => by simp at hw) ?_
  have e : (([] : List Value).toArray.any fun x => false) = false := by simp
  rw [e]
  exact ⟨.bl false, H, I, rfl, q⟩

/-! ### names -/
def goodN (z : Str) : Bool := decide (1 ≤ z.length) && (decide (z.length ≤ 12) && z.cps.toList.all fun c => decide (c ∈ alphabet.cps.toList))
def spIsName : Sp := fun vs H Q _ => ∃ z : Str, vs = [.str z] ∧ z.length ≤ 1000 ∧ ∀ H', Ex H H' → Q (.bl (goodN z)) H'

theorem ev_chain {ta tb tc : TE} {σ : L2.St} {H : Hp} {a b c : Int} (ha : Ev ta σ H (.int a)) (hb : Ev tb σ H (.int b)) (hc : Ev tc σ H (.int c)) : Ev (tChain (rI0 fun i j => .bl (decide (i ≤ j))) (rI0 fun i j => .bl (decide (i ≤ j))) ta tb tc) σ H (.bl (decide (a ≤ b) && decide (b ≤ c))) := fun H1 e Q q =>
  ha H1 e _ fun H2 e2 => hb H2 (e.trans e2) _ fun H3 e3 => ⟨a, b, rfl, rfl, decide (a ≤ b), rfl, by
    cases h : decide (a ≤ b) with
    | false =>
      rw [h] at q
      exact ite_ff (q H3 (e2.trans e3))
    | true =>
      rw [h, Bool.true_and] at q
      exact ite_tt (hc H3 ((e.trans e2).trans e3) _ fun H4 e4 => ⟨b, c, rfl, rfl, q H4 ((e2.trans e3).trans e4)⟩)⟩
theorem isi_str {K : PySem.W.Frag} {H : Hp} {z : Str} : RC (rIsi K) [.str z, .ty "str"] H (.bl true) := fun H1 e Q q => ⟨.str z, .ty "str", .type "str", .type "str", true, rfl, .ty _, .base (.str z), kit_ty (by decide +kernel), q H1 (Ex.refl _)⟩
theorem ev_isiT {K : PySem.W.Frag} {ta : TE} {σ : L2.St} {H : Hp} {x : V} {t : Value} {b : Bool} (ha : Ev ta σ H x) (hT : ∀ H1, Ex H H1 → TyX K H1 x t) (hk : PySem.W.kitAny K t [.type "list", .type "tuple"] = some b) :
    Ev (tCB (rIsiT K) (tCons ta (tCons (tTup (tCons (tC (.ty "list")) (tCons (tC (.ty "tuple")) tNil))) tNil))) σ H (.bl b) := fun H1 e Q q =>
  ha H1 e _ fun H2 e2 => (eu_tup (ea_cons ev_c (ea_cons ev_c ea_nil)) (by decide)) H2 (e.trans e2) _ fun p H3 n e3 h3 => ⟨x, p, _, t, [.type "list", .type "tuple"], b, rfl, h3, .cons (.ty _) (.cons (.ty _) .nil), hT H3 ((e.trans e2).trans e3), hk, q H3 (e2.trans e3)⟩
theorem kit_no {K : PySem.W.Frag} : PySem.W.kitAny K (.type "str") [.type "list", .type "tuple"] = some false := kitAny_cons (b := false) (kit_ty (by decide +kernel)) (fun _ => kitAny_cons (b := false) (kit_ty (by decide +kernel)) (fun _ => kitAny_nil) (fun z => nomatch z)) (fun z => nomatch z)
theorem kit_l {K : PySem.W.Frag} : PySem.W.kitAny K (.type "list") [.type "list", .type "tuple"] = some true := kitAny_cons (b := true) (kit_ty (by decide +kernel)) (fun z => nomatch z) (fun _ => rfl)
theorem kit_t {K : PySem.W.Frag} : PySem.W.kitAny K (.type "tuple") [.type "list", .type "tuple"] = some true := kitAny_cons (b := false) (kit_ty (by decide +kernel)) (fun _ => kitAny_cons (b := true) (kit_ty (by decide +kernel)) (fun z => nomatch z) (fun _ => rfl)) (fun z => nomatch z)
theorem take_more {α : Type} {l : List α} {i : Nat} {c : α} (h : l[i]? = some c) : l.take (i + 1) = l.take i ++ [c] := by
  rw [List.take_add_one, h]
  rfl

mutual
theorem dpM {K : PySem.W.Frag} {H H' : Hp} (e : Ex H H') : ∀ (d : PyData) (v : V), Dp K H v d → Dp K H' v d
  | .none, _, h => by
    cases h
    exact .non
  | .bool b, _, h => by
    cases h
    exact .bl b
  | .int i, _, h => by
    cases h
    exact .int i
  | .str x, _, h => by
    cases h
    exact .str x
  | .list ds, _, h => by
    cases h with
    | lst h1 h2 => exact .lst (ex_l e h1) (dpMs e ds _ h2)
  | .tuple ds, _, h => by
    cases h with
    | tup h1 h2 => exact .tup (ex_t e h1) (dpMs e ds _ h2)
  | .dict _, _, h => by cases h
theorem dpMs {K : PySem.W.Frag} {H H' : Hp} (e : Ex H H') : ∀ (ds : List PyData) (vs : List V), DpAll K H vs ds → DpAll K H' vs ds
  | [], _, h => by
    cases h
    exact .nil
  | d :: ds, _, h => by
    cases h with
    | cons h1 h2 => exact .cons (dpM e d _ h1) (dpMs e ds _ h2)
end

def legal (zs : List Str) : Prop := ∀ z ∈ zs, PyData.strOk z = true
def Tn (z : Str) : Prop := z.length ≤ 1000 ∧ PyData.strOk z = true
theorem let_ok {z : Str} (h : Let z) : PyData.strOk z = true := by
  unfold PyData.strOk
  rw [Array.all_eq_true]
  intro i hi
  have k := h z.cps[i] (by simp)
  exact decide_eq_true (by omega)
theorem lay_strs : ∀ zs : List Str, legal zs → PyData.canLayAll0 (zs.map PyData.str) = true
  | [], _ => by simp [PyData.canLayAll0]
  | z :: r, h => by
    have k := lay_strs r fun y hy => h y (List.mem_cons_of_mem _ hy)
    have k2 := h z List.mem_cons_self
    simp [PyData.canLayAll0, PyData.canLay0, k, k2]
theorem dep_strs : ∀ zs : List Str, PyData.depthAll (zs.map PyData.str) ≤ 1
  | [] => by simp [PyData.depthAll]
  | z :: r => by
    have k := dep_strs r
    simp only [List.map_cons, PyData.depthAll, PyData.depth]
    omega
theorem dp_strs {K : PySem.W.Frag} {H : Hp} : ∀ zs : List Str, DpAll K H (zs.map V.str) (zs.map PyData.str)
  | [] => .nil
  | z :: r => .cons (.str z) (dp_strs r)
theorem shp_list (zs : List Str) (h : legal zs) : SeqAt.shaped (.list (zs.map PyData.str)) = true := by
  have k := dep_strs zs
  unfold SeqAt.shaped
  rw [Bool.and_eq_true]
  refine ⟨by simp [PyData.canLay0, lay_strs zs h], decide_eq_true ?_⟩
  simp only [PyData.depth]
  omega

theorem cut_take (xs : List V) (i : Nat) : cutV xs none (some (i : Int)) = xs.take i := by
  unfold cutV
  rw [HT.sIx_none, HT.sIx_nat, List.drop_zero, Nat.sub_zero]
  rcases Nat.le_total i xs.length with h | h
  · rw [Nat.min_eq_left h]
  · rw [Nat.min_eq_right h, List.take_of_length_le (Nat.le_refl _), List.take_of_length_le h]

theorem cut_drop (xs : List V) (i : Nat) : cutV xs (some (i : Int)) none = xs.drop i := by
  unfold cutV
  rw [HT.sIx_none, HT.sIx_nat]
  rcases Nat.le_total i xs.length with h | h
  · rw [Nat.min_eq_left h, List.take_of_length_le (by rw [List.length_drop]; exact Nat.le_refl _)]
  · rw [Nat.min_eq_right h, Nat.sub_self, List.take_zero, List.drop_eq_nil_of_le h]

theorem strs_off {p l b : Addr} {n : Nat} {H : Hp} {zs : List Str} (h : Pen p l n H) (k : H b = some (.lst (zs.map V.str))) : b ≠ p ∧ b ≠ l := by
  obtain ⟨c, ns, e1, e2, e3, _⟩ := h
  refine ⟨fun e => ?_, fun e => ?_⟩
  · rw [e, e1] at k
    cases zs with
    | nil => cases HO.lst.inj (Option.some.inj k)
    | cons z r =>
      have y := HO.lst.inj (Option.some.inj k)
      rw [List.map_cons] at y
      cases (List.cons.inj y).1
  · rw [e, e2] at k
    cases ns with
    | nil => exact e3 rfl
    | cons n r =>
      cases zs with
      | nil => cases HO.lst.inj (Option.some.inj k)
      | cons z r2 =>
        have y := HO.lst.inj (Option.some.inj k)
        rw [List.map_cons, List.map_cons] at y
        cases (List.cons.inj y).1
theorem tup_off {p l b : Addr} {n : Nat} {H : Hp} {xs : List V} (h : Pen p l n H) (k : H b = some (.tup xs)) : b ≠ p ∧ b ≠ l := by
  obtain ⟨c, ns, e1, e2, e3, _⟩ := h
  exact ⟨(fun e => by rw [e, e1] at k; cases k), (fun e => by rw [e, e2] at k; cases k)⟩

theorem nat_of {r m : Int} (h : 0 ≤ r ∧ r < m) : ∃ n : Nat, r = (n : Int) ∧ (n : Int) < m := ⟨r.toNat, by omega, by omega⟩

def Xa (a : Addr) (H H' : Hp) : Prop := ∀ c o, c ≠ a → H c = some o → H' c = some o
theorem Xa.of {a : Addr} {H H' : Hp} (e : Ex H H') : Xa a H H' := fun c o _ h => e c o h
theorem Xa.trans {a : Addr} {H H1 H2 : Hp} (p : Xa a H H1) (q : Xa a H1 H2) : Xa a H H2 := fun c o n h => q c o n (p c o n h)
theorem Xa.upd {a : Addr} {H : Hp} {o : HO} : Xa a H (upd H a o) := fun c u n h => (upd_ne n).trans h
theorem Xa.new {a : Addr} {H0 H H' : Hp} (e : Ex H0 H) (n : H0 a = none) (k : Xa a H H') : Ex H0 H' := fun c o h => k c o (ne_of_none h n) (e c o h)
theorem putF_tail {f g : Str} {v x : V} {r : List (Str × V)} (h : ¬ g = f) : putF f v ((g, x) :: r) = (g, x) :: putF f v r := if_neg h

theorem pe_fldc {X : Cx} {K : PySem.W.Frag} {e : Expr} {ta : TE} {f : Str} {pos : Pos} (hK : X.K = K) (he : PE X e ta) (hb : attributeBase e f X.env (eval e X.env) = eval e X.env) : PE X (.Attribute e f pos) (tFld K ta f) := hK ▸ pe_fld he hb
/-- a field of an instance, as it is read -/
theorem ev_fld {K : PySem.W.Frag} {ta : TE} {σ : L2.St} {H : Hp} {a C dx : Addr} {fs : List (Str × V)} {f : Str} {v : V} (h : Ev ta σ H (.ref a)) (ha : H a = some (.ins C dx fs)) (c : Cls K C) (n : NoAttr K C f) (l : fs.lookup f = some v) : Ev (tFld K ta f) σ H v := fun H1 e Q q =>
  h H1 e _ fun H2 e2 => ⟨a, C, dx, fs, v, rfl, e2 _ _ (e _ _ ha), c, n, l, q H2 e2⟩

theorem q_cb {te : TE} {r : List V → Hp → VK → Prop} {i : Nat} {tz : TS} {D : Ends} {σ : L2.St} {H : Hp} (h : te σ H fun x H1 => r [x] H1 fun v H2 => tz D (σ.set i (some v)) H2) : tSeq (tAsg (tCB r (tCons te tNil)) (gName i)) tz D σ H := h


/-! ### trees of texts -/
mutual
inductive Tt : Nat → PyData → Prop
  | str {n : Nat} {z : Str} (h : z.length ≤ 1000) : Tt n (.str z)
  | int {n : Nat} (i : Int) : Tt n (.int i)
  | tup {n : Nat} {ds : List PyData} (l : ds.length ≤ 100) (h : Tts n ds) : Tt (n + 1) (.tuple ds)
inductive Tts : Nat → List PyData → Prop
  | nil {n : Nat} : Tts n []
  | cons {n : Nat} {d : PyData} {ds : List PyData} (h : Tt n d) (r : Tts n ds) : Tts n (d :: ds)
end
theorem Tts.at {n : Nat} : ∀ {ds : List PyData}, Tts n ds → ∀ d ∈ ds, Tt n d
  | _, .cons h r, d, hd => by
    rcases List.mem_cons.mp hd with e | k
    · rw [e]; exact h
    · exact r.at d k
theorem Tts.of {n : Nat} : ∀ {ds : List PyData}, (∀ d ∈ ds, Tt n d) → Tts n ds
  | [], _ => .nil
  | d :: r, h => .cons (h d List.mem_cons_self) (Tts.of fun x hx => h x (List.mem_cons_of_mem _ hx))
mutual
theorem Tt.up : ∀ {n : Nat} {d : PyData}, Tt n d → Tt (n + 1) d
  | _, _, .str h => .str h
  | _, _, .int i => .int i
  | _, _, .tup l h => .tup l h.up
theorem Tts.up : ∀ {n : Nat} {ds : List PyData}, Tts n ds → Tts (n + 1) ds
  | _, _, .nil => .nil
  | _, _, .cons h r => .cons h.up r.up
end
theorem Tts.app {n : Nat} : ∀ {ds es : List PyData}, Tts n ds → Tts n es → Tts n (ds ++ es)
  | _, _, .nil, h => h
  | _, _, .cons h r, k => .cons h (r.app k)
theorem dpAll_len {K : PySem.W.Frag} {H : Hp} : ∀ {vs : List V} {ds : List PyData}, DpAll K H vs ds → vs.length = ds.length
  | _, _, .nil => rfl
  | _, _, .cons _ r => by rw [List.length_cons, List.length_cons, dpAll_len r]
theorem dpAll_at {K : PySem.W.Frag} {H : Hp} : ∀ {vs : List V} {ds : List PyData}, DpAll K H vs ds → ∀ {i : Nat} {v : V}, vs[i]? = some v → ∃ d, ds[i]? = some d ∧ Dp K H v d
  | _, _, .nil, i, v, h => by cases h
  | _, _, .cons (d := d) h r, 0, v, e => by
    cases e
    exact ⟨d, rfl, h⟩
  | _, _, .cons h r, i + 1, v, e => dpAll_at r (i := i) e
theorem dpAll_add {K : PySem.W.Frag} {H : Hp} {v : V} {d : PyData} : ∀ {vs : List V} {ds : List PyData}, DpAll K H vs ds → Dp K H v d → DpAll K H (vs ++ [v]) (ds ++ [d])
  | _, _, .nil, h => .cons h .nil
  | _, _, .cons a r, h => .cons a (dpAll_add r h)
theorem dpAll_app {K : PySem.W.Frag} {H : Hp} : ∀ {vs ws : List V} {ds es : List PyData}, DpAll K H vs ds → DpAll K H ws es → DpAll K H (vs ++ ws) (ds ++ es)
  | _, _, _, _, .nil, h => h
  | _, _, _, _, .cons a r, h => .cons a (dpAll_app r h)
/-- a write to a list leaves trees of texts as they are -/
theorem sqt_off {K : PySem.W.Frag} {H : Hp} {a D : Addr} {xs ys : List V} {o : HO} (h : SqT K H a xs) (hD : H D = some (.lst ys)) : SqT K (upd H D o) a xs := by
  rcases h with h | h
  · refine .inl ?_
    rcases h with h | ⟨ob, h⟩
    · exact .inl ((upd_ne (fun e => by rw [e, hD] at h; cases h)).trans h)
    · exact .inr ⟨ob, (upd_ne (fun e => by rw [e, hD] at h; cases h)).trans h⟩
  · exact .inr h
mutual
theorem dp_off {K : PySem.W.Frag} {H : Hp} {D : Addr} {ys : List V} {o : HO} (hD : H D = some (.lst ys)) : ∀ {n : Nat} {d : PyData} {v : V}, Tt n d → Dp K H v d → Dp K (upd H D o) v d
  | _, _, _, .str _, h => by
    cases h
    exact .str _
  | _, _, _, .int _, h => by
    cases h
    exact .int _
  | _, _, _, .tup _ hs, h => by
    cases h with
    | tup h1 h2 => exact .tup (sqt_off h1 hD) (dps_off hD hs h2)
theorem dps_off {K : PySem.W.Frag} {H : Hp} {D : Addr} {ys : List V} {o : HO} (hD : H D = some (.lst ys)) : ∀ {n : Nat} {ds : List PyData} {vs : List V}, Tts n ds → DpAll K H vs ds → DpAll K (upd H D o) vs ds
  | _, _, _, .nil, h => by
    cases h
    exact .nil
  | _, _, _, .cons h1 r1, h => by
    cases h with
    | cons h2 r2 => exact .cons (dp_off hD h1 h2) (dps_off hD r1 r2)
end
theorem tyx_t {K : PySem.W.Frag} {H : Hp} {a : Addr} {xs : List V} (h : SqT K H a xs) : TyX K H (.ref a) (.type "tuple") := by
  rcases h with h | ⟨o, its, n, hk, hc, _⟩
  · rcases h with h | ⟨ob, h⟩
    · exact .base (.tup h)
    · exact .fTuple h
  · exact .kTuple hk hc
theorem tyx_l {K : PySem.W.Frag} {H : Hp} {a : Addr} {xs : List V} (h : SqL K H a xs) : TyX K H (.ref a) (.type "list") := by
  rcases h with h | ⟨o, its, n, hk, hc, _⟩
  · rcases h with h | ⟨ob, h⟩
    · exact .base (.lst h)
    · exact .base (.frz h)
  · exact .kList hk hc
theorem op_catT0 {X : Cx} : OpR X (binaryOp .Add) (fun x y H Q => ∃ a b ys, x = .ref a ∧ y = .ref b ∧ SqT X.K H a [] ∧ SqT X.K H b ys ∧ Q (.ref b) H) := by
  intro pins s σ H x y v u Q I rx ry h
  obtain ⟨a, b, ys, rfl, rfl, ha, hb, q⟩ := h
  cases rx
  cases ry
  obtain ⟨its, r1, p1, _⟩ := I.tuple ha
  obtain ⟨its2, r2, p2, _⟩ := I.tuple hb
  cases r1
  obtain ⟨⟨cls, dd, data, sl⟩, ho, hc, n, hd⟩ := id p1
  obtain ⟨⟨cls2, dd2, data2, sl2⟩, ho2, hc2, n2, hd2⟩ := id p2
  simp only at hc hd hc2 hd2
  subst hc hd hc2 hd2
  exact concat_meets ⟨_, ho, rfl⟩ ⟨_, ho2, rfl⟩ noFill_tuple_add seq_tuple_add PySem.F.slot_tuple_add PySem.F.entry_tuple_add (PySem.F.args_tuple_add_2 _ _) (tuple_addW0 a b _ its2.toArray n n2 dd dd2 sl sl2 (by simp)) ⟨ho, ho2, ⟨.ref b, H, I, rfl, q⟩⟩
theorem units65 {k : Nat} {A : Around} (r : Room k A) : A.units + 65 < cLine := by
  have z := r.un
  omega
theorem go_test {t : TT} {σ : L2.St} {H : Hp} {b : Bool} {Q : Bool → Hp → Prop} (h : EvT t σ H b) (k : ∀ H2, Ex H H2 → Q b H2) : t σ H Q := h H (Ex.refl H) Q k
theorem pg_tupc {X : Cx} {K : PySem.W.Frag} {es : List Expr} {k : Nat} {t : TGs} {n : Nat} {pos : Pos} (hK : X.K = K) (hc : X.calm = true) (h : PGs X es t) (hn : (assignEach es X.env).length = n := by rfl) (hst : (assignEach es X.env).findIdx? (·.1) = none := by rfl) : PG X (.Tuple es k pos) (gTup K n t) := hK ▸ pg_tup hc h hn hst
theorem walk_zipT {K : PySem.W.Frag} {a b : Addr} {xs ys : List V} {n : Nat} (hn : n = min xs.length ys.length) : Walk (RZ.ItzT K a b) n (fun H => SqT K H a xs ∧ SqT K H b ys) (YPair (fun i => xs[i]?) (fun i => ys[i]?)) := by
  subst hn
  refine ⟨fun i _ hi q => ?_, fun _ q => ⟨xs, ys, q.1, q.2, by omega⟩, fun i H v H' _ q y => ?_⟩
  · have k1 : i < xs.length := by omega
    have k2 : i < ys.length := by omega
    exact ⟨xs, ys, xs[i], ys[i], q.1, q.2, List.getElem?_eq_getElem k1, List.getElem?_eq_getElem k2⟩
  · obtain ⟨T, x, z, e1, e2, e3, e4, e5⟩ := y
    exact ⟨T, x, z, e1, e2, e3, e4 xs q.1, e5 ys q.2⟩
/-! ### statements -/
def ENT : List (Str × List Str) := [("put", ["cell"]), ("blank", ["cell"]), ("give", ["cell"]), ("push", ["row"]), ("pop", ["row"]), ("cut", ["row"]), ("answer", ["how"]), ("deeper", ["function"]), ("stop", ["end"]), ("fault", []), ("may", []), ("again", []), ("out", []),
  ("either", ["part", "part"]), ("tries", ["part"]), ("told", ["part", "part"]), ("look", ["cell", "part", "part"]), ("guard", ["part", "part"]), ("lastly", ["part", "part"])]
def isP : PyData → Bool
  | .tuple _ => true
  | _ => false
def argsOf : PyData → List PyData
  | .tuple (_ :: r) => r
  | _ => []
def wordOf : PyData → PyData
  | .tuple (w :: _) => w
  | _ => .none
def bodyOf : PyData → List PyData
  | .tuple ds => ds
  | _ => []
def parts (d : PyData) : List PyData := (argsOf d).filter isP
/-- a statement by its shape: a known word, as many entries as it has, parts where it has parts -/
def Sh (d : PyData) : Prop := ∃ w ks args, d = .tuple (.str w :: args) ∧ (w, ks) ∈ ENT ∧ args.length = ks.length ∧ ∀ (i : Nat) (k : Str) (x : PyData), ks[i]? = some k → args[i]? = some x → isP x = decide (k = "part")
def nums : Nat → List PyData → List PyData → List (PyData × List PyData)
  | 0, _, _ => []
  | n + 1, ss, ar => ss.flatMap fun s => (s, ar) :: ((parts s).zipIdx.flatMap fun p => nums n (bodyOf p.1) (ar ++ [.tuple [wordOf s, .int (p.2 : Nat)]]))
/-- a body: short, of such statements, of such bodies -/
def Bod : Nat → List PyData → Prop
  | 0, ss => ss = []
  | n + 1, ss => ss.length ≤ 14 ∧ ∀ s ∈ ss, Sh s ∧ ∀ p ∈ parts s, ∃ ds, p = .tuple ds ∧ Bod n ds
/-! ### the walkers' promises over trees -/
def spKd (K : PySem.W.Frag) : Sp := fun vs H Q _ => ∃ t w rest ks, vs = [.ref t] ∧ SqT K H t (.str w :: rest) ∧ (w, ks) ∈ ENT ∧ ∀ a H', (∀ H, SqT K H a (ks.map V.str)) → Ex H H' → Q (.ref a) H'
def spPt (K : PySem.W.Frag) : Sp := fun vs H Q _ => ∃ v d n, vs = [v] ∧ Dp K H v d ∧ Tt n d ∧ Sh d ∧ ∀ q ys H', H q = none → Ex H H' → H' q = some (.lst ys) → DpAll K H' ys (parts d) → Q (.ref q) H'

def spFr (K : PySem.W.Frag) (n : Nat) : Sp := fun vs H Q _ => ∃ v d, vs = [v] ∧ Dp K H v d ∧ Tt n d ∧ ∀ v' H', Ex H H' → Dp K H' v' d → Q v' H'

end TR
set_option Elab.async false
set_option linter.all false
set_option maxRecDepth 100000
set_option maxHeartbeats 8000000
/-! max with default=, == by an own __eq__ of any outcome. -/
namespace XQ
open PySem PySem.Spec PyProof.Rows L2 He XH XV XR PEN TR Evl

/-! ### max(xs, default=d) -/
def mxD (d : Int) : List Int → Int
  | [] => d
  | n :: r => r.foldl max n
def rMaxDef (K : PySem.W.Frag) : List V → List V → Hp → VK → Prop := fun vs zs H Q => ∃ (a : Addr) (ns : List Int) (d : Int), vs = [V.ref a] ∧ zs = [V.int d] ∧ SqL K H a (ns.map V.int) ∧ Q (.int (mxD d ns)) H
theorem reads_nums {h : Heap} : ∀ {ns : List Int} {its : List Value}, Vals (ns.map V.int) its → ReadsAll h its (ns.map PyData.int) []
  | [], _, r => by
    cases r
    exact .nil
  | n :: ns, _, r => by
    cases r with
    | cons r1 r2 =>
      obtain ⟨t, rfl⟩ := r1
      exact ReadsAll.cons (.int n t) (reads_nums r2)
theorem depth_nums : ∀ ns : List Int, PyData.depthAll (ns.map PyData.int) ≤ 1
  | [] => by simp [PyData.depthAll]
  | n :: r => by
    have k := depth_nums r
    simp only [List.map_cons, PyData.depthAll, PyData.depth]
    omega
theorem alike_nums (ns : List Int) : PySem.W.AlikeAll (ns.map PyData.int) := PySem.W.alikeAll_datum ns
theorem cr_maxDef {X : Cx} (hc : X.calm = true) (hu : X.A.units + 65 < cLine) : CallRK X (.builtin "max") [Str.ofString "default"] (rMaxDef X.K) := by
  intro pins s σ H xs zs us ws Q I rx rz h
  obtain ⟨a, ns, d, rfl, rfl, hs, q⟩ := h
  obtain ⟨its, rv, hl, _⟩ := I.list hs
  rw [Vals.ref1 rx]
  cases rz with
  | @cons _ w0 _ _ r1 r2 =>
    cases r2
    have dn := depth_nums ns
    refine PySem.W.max_list_default (d := w0) (xs := ns.map PyData.int) (as := []) (I.ok.hd hc) hl.isList (by simpa using reads_nums rv) (alike_nums ns) (by omega) (fun e h' tk hk => ?_) (fun y ys i v h' tk bs e hi r hk => ?_)
    · have e2 : ns = [] := List.map_eq_nil_iff.mp e
      subst e2
      exact ⟨.int d, H, I.kept hk, r1, q⟩
    · cases ns with
      | nil => cases e
      | cons n rest =>
        rw [List.map_cons] at e
        injection e with e1 e2
        subst e1 e2
        rw [PySem.W.maxD_ints] at r
        obtain ⟨t, rfl, _⟩ := reads_int_inv r
        exact ⟨.int (rest.foldl max n), H, I.kept hk, ⟨_, rfl⟩, q⟩

/-! ### x == y by the own __eq__ of x's class -/
def rOwn (K : PySem.W.Frag) (C : Addr) (sp : Sp) : R2 := fun x y H Q => ∃ (a dx : Addr) (fs : List (Str × V)) (t : Value), x = .ref a ∧ H a = some (.ins C dx fs) ∧ TyX K H y t ∧ PySem.W.notFirst K C t = true ∧ sp [.ref a, y] H (fun v H' => (∃ b, v = .bl b) ∧ Q v H') E0
theorem op_own {X : Cx} {C f : Addr} {fd : FuncData} {ps : List Str} {sp : Sp} {n : Nat} (F : FnOk X.prog X.w X.K X.mg X.base CX0 n f fd ps sp)
    (hs : PySem.W.findIn X.K (.ref C) "__eq__" = some (some (.ref f))) (hf : PySem.W.isFn X.K (.ref f) = true) (hb : Binds X.K fd ps []) (hr : Room n X.A) : OpR X (compareOp .Eq) (rOwn X.K C sp) := by
  intro pins s σ H x y v u Q I rx ry h
  obtain ⟨a, dx, fs, t, rfl, ha, ty, nf, hsp⟩ := h
  cases (show v = Value.ref a from rx)
  obtain ⟨mA, J, _⟩ := ins_get I.hok ha
  obtain ⟨od, J, _⟩ := J.look
  obtain ⟨m, hF⟩ := I.fr
  obtain ⟨P, Z, hp, _⟩ := kit_of I ry ty
  show wpAny (model X.prog X.w) X.A (richCompare .Eq (.ref a) u) (EP X pins σ Q) X.xe s
  refine PySem.W.cmp_K (op := .Eq) (tb := t) hr.units0 hF I.ok.mod.kin J (Z.ty _ _ I.kIn hp) nf hs hf ?_
  have hl := F.len _ _ _ _ hsp
  have r2 : Vals [V.ref a, y] [Value.ref a, u] := .cons rfl (.cons ry .nil)
  refine wpAny_call (codeAny_mono (F.run X.A X.stack s H ⟨[.ref a, u], []⟩ [.ref a, u] [.ref a, y] _ E0 hr I.env0 (by
    have := hb s [.ref a, u] I.kIn (by simpa using hl)
    simpa using this) r2 hsp) fun r s' hq => ?_)
  cases r with
  | error e => exact False.elim hq
  | ok fl =>
    cases fl with
    | ret w =>
      obtain ⟨z, H', I', rz, ⟨b, ez⟩, qz⟩ := I.after hq
      subst ez
      cases (show w = Value.bool b from rz)
      exact ⟨.bl b, H', I', rfl, qz⟩
    | next => exact False.elim hq
    | brk => exact False.elim hq
    | cont => exact False.elim hq
theorem op_or {X : Cx} {f : Value → Value → Sem Value} {r r' : R2} (h : OpR X f r) (h' : OpR X f r') : OpR X f (fun x y H Q => r x y H Q ∨ r' x y H Q) := by
  intro pins s σ H x y v u Q I rx ry q
  rcases q with q | q
  · exact h pins s σ H x y v u Q I rx ry q
  · exact h' pins s σ H x y v u Q I rx ry q
def orR (r r' : R2) : R2 := fun x y H Q => r x y H Q ∨ r' x y H Q
theorem op_or2 {X : Cx} {f : Value → Value → Sem Value} {r r' : R2} (h : OpR X f r) (h' : OpR X f r') : OpR X f (orR r r') := op_or h h'
end XQ

set_option Elab.async false
set_option linter.all false
set_option maxRecDepth 100000
set_option maxHeartbeats 8000000
/-! Puzzles: trees as data, what a puzzle is in a heap. -/
namespace PZ
open PySem PySem.Spec PyProof.Rows L2 He XH XV XR PEN TR XQ Evl

/-! ### trees -/
def nd (bs : List Int) (ks : List PyData) : PyData := .tuple [.tuple (bs.map PyData.int), .tuple ks]
theorem nums_inj : ∀ {a b : List Int}, a.map PyData.int = b.map PyData.int → a = b
  | [], [], _ => rfl
  | x :: a, y :: b, h => by
    rw [List.map_cons, List.map_cons] at h
    injection h with h1 h2
    injection h1 with h1
    rw [h1, nums_inj h2]
theorem nd_inj {bs bs' : List Int} {ks ks' : List PyData} (h : nd bs ks = nd bs' ks') : bs = bs' ∧ ks = ks' := by
  unfold nd at h
  injection h with h
  injection h with h1 h2
  injection h1 with h1
  injection h2 with h2 _
  injection h2 with h2
  exact ⟨nums_inj h1, h2⟩
mutual
def size : PyData → Nat
  | .tuple [_, .tuple ks] => 1 + sizeL ks
  | _ => 0
def sizeL : List PyData → Nat
  | [] => 0
  | k :: r => size k + sizeL r
end
mutual
def deep : PyData → Nat
  | .tuple [_, .tuple ks] => 1 + deepL ks
  | _ => 0
def deepL : List PyData → Nat
  | [] => 0
  | k :: r => max (deep k) (deepL r)
end
/-- the digits of a node -/
def istr (i : Int) : Str := (toString i : String)
def digS (bs : List Int) : Str := if (Txt.join ("" : Str) (bs.map istr)).length = 0 then "." else Txt.join ("" : Str) (bs.map istr)
def intOf : PyData → Int
  | .int i => i
  | _ => 0
mutual
def spell : PyData → Str
  | .tuple [.tuple bs, .tuple ks] => if ks = [] then digS (bs.map intOf) else digS (bs.map intOf) ++ ("(" : Str) ++ Txt.join ("," : Str) (spellL ks) ++ (")" : Str)
  | _ => "-"
def spellL : List PyData → List Str
  | [] => []
  | k :: r => spell k :: spellL r
end
def isN : PyData → Bool
  | .none => true
  | _ => false
/-- how many are left if what is spare at the end is dropped -/
def keepN {α : Type} (p : α → Bool) : List α → Nat
  | [] => 0
  | x :: r => if keepN p r = 0 then (if p x = true then 0 else 1) else keepN p r + 1
def short {α : Type} (p : α → Bool) (xs : List α) : List α := xs.take (keepN p xs)
def isZ : Int → Bool := fun b => decide (b = 0)
mutual
def trim : PyData → PyData
  | .tuple [.tuple bs, .tuple ks] => nd (short isZ (bs.map intOf)) ((trimL ks).take (keepN isN (trimL ks)))
  | d => d
def trimL : List PyData → List PyData
  | [] => []
  | k :: r => trim k :: trimL r
end
theorem ints_of (bs : List Int) : (bs.map PyData.int).map intOf = bs := by
  rw [List.map_map]
  exact List.map_id' bs
theorem size_nd (bs : List Int) (ks : List PyData) : size (nd bs ks) = 1 + sizeL ks := by simp [size, nd]
theorem deep_nd (bs : List Int) (ks : List PyData) : deep (nd bs ks) = 1 + deepL ks := by simp [deep, nd]
theorem spell_nd (bs : List Int) (ks : List PyData) : spell (nd bs ks) = if ks = [] then digS bs else digS bs ++ ("(" : Str) ++ Txt.join ("," : Str) (spellL ks) ++ (")" : Str) := by
  have e := ints_of bs
  simp only [spell, nd]
  rw [e]
theorem trim_nd (bs : List Int) (ks : List PyData) : trim (nd bs ks) = nd (short isZ bs) (short isN (trimL ks)) := by
  have e := ints_of bs
  simp only [trim, nd]
  rw [e]
  rfl
theorem spellL_map (ks : List PyData) : spellL ks = ks.map spell := by
  induction ks with
  | nil => rfl
  | cons k r ih => simp [spellL, ih]
theorem trimL_map (ks : List PyData) : trimL ks = ks.map trim := by
  induction ks with
  | nil => rfl
  | cons k r ih => simp [trimL, ih]
theorem size_non : size .none = 0 := by simp [size]
theorem deep_non : deep .none = 0 := by simp [deep]
theorem spell_non : spell .none = "-" := by simp [spell]
theorem trim_non : trim .none = .none := by simp [trim]
theorem sizeL_sum (ks : List PyData) : sizeL ks = (ks.map size).sum := by
  induction ks with
  | nil => rfl
  | cons k r ih => simp [sizeL, ih]
/-! ### what is dropped -/
theorem keepN_app {α : Type} (p : α → Bool) (x : α) : ∀ l : List α, keepN p (l ++ [x]) = if p x = true then keepN p l else l.length + 1
  | [] => by
    show (if (0 : Nat) = 0 then (if p x = true then 0 else 1) else 0 + 1) = _
    rfl
  | y :: r => by
    have ih := keepN_app p x r
    show (if keepN p (r ++ [x]) = 0 then (if p y = true then 0 else 1) else keepN p (r ++ [x]) + 1) = _
    rw [ih]
    by_cases h : p x = true
    · rw [if_pos h, if_pos h]
      rfl
    · rw [if_neg h, if_neg h, if_neg (by omega)]
      rfl
theorem keepN_le {α : Type} (p : α → Bool) : ∀ l : List α, keepN p l ≤ l.length
  | [] => Nat.le_refl _
  | y :: r => by
    have ih := keepN_le p r
    show (if keepN p r = 0 then (if p y = true then 0 else 1) else keepN p r + 1) ≤ r.length + 1
    split
    · split <;> omega
    · omega
theorem keepN_take {α : Type} {p : α → Bool} {l : List α} {i : Nat} {x : α} (h : l[i]? = some x) : keepN p (l.take (i + 1)) = if p x = true then keepN p (l.take i) else i + 1 := by
  have hi := (List.getElem?_eq_some_iff.mp h).1
  rw [take_more h, keepN_app, List.length_take, Nat.min_eq_left (Nat.le_of_lt hi)]
theorem keepN_map {α β : Type} (p : β → Bool) (f : α → β) : ∀ l : List α, keepN p (l.map f) = keepN (fun x => p (f x)) l
  | [] => rfl
  | y :: r => by
    have ih := keepN_map p f r
    show (if keepN p (r.map f) = 0 then (if p (f y) = true then 0 else 1) else keepN p (r.map f) + 1) = _
    rw [ih]
    rfl
theorem keepN_congr {α : Type} {p q : α → Bool} : ∀ {l : List α}, (∀ x ∈ l, p x = q x) → keepN p l = keepN q l
  | [], _ => rfl
  | y :: r, h => by
    have ih := keepN_congr (l := r) fun x hx => h x (List.mem_cons_of_mem _ hx)
    show (if keepN p r = 0 then (if p y = true then 0 else 1) else keepN p r + 1) = (if keepN q r = 0 then (if q y = true then 0 else 1) else keepN q r + 1)
    rw [ih, h y List.mem_cons_self]
theorem keepN_drop {α : Type} {p : α → Bool} {l : List α} {i : Nat} {x : α} (h : l[i]? = some x) (hp : p x = true) (k : keepN p (l.take (i + 1)) = keepN p l) : keepN p (l.take i) = keepN p l := by
  rw [← k, keepN_take h, if_pos hp]
theorem short_map {α β : Type} (p : β → Bool) (f : α → β) (l : List α) : short p (l.map f) = (short (fun x => p (f x)) l).map f := by
  unfold short
  rw [keepN_map, List.map_take]
/-! ### trees that are not too great -/
mutual
inductive Bd (B C : Nat) : PyData → Prop
  | mk {d : PyData} {bs : List Int} {ks : List PyData} (e : d = nd bs ks) (h1 : bs.length ≤ B) (h2 : ∀ b ∈ bs, b = 0 ∨ b = 1) (h3 : ks.length ≤ C) (h4 : BdL B C ks) : Bd B C d
inductive BdL (B C : Nat) : List PyData → Prop
  | nil : BdL B C []
  | non {ks : List PyData} (r : BdL B C ks) : BdL B C (.none :: ks)
  | one {k : PyData} {ks : List PyData} (h : Bd B C k) (r : BdL B C ks) : BdL B C (k :: ks)
end
theorem Bd.nd' {B C : Nat} {bs : List Int} {ks : List PyData} (h : Bd B C (nd bs ks)) : bs.length ≤ B ∧ (∀ b ∈ bs, b = 0 ∨ b = 1) ∧ ks.length ≤ C ∧ BdL B C ks := by
  cases h with
  | mk e h1 h2 h3 h4 =>
    obtain ⟨rfl, rfl⟩ := nd_inj e
    exact ⟨h1, h2, h3, h4⟩
theorem Bd.un {B C : Nat} {d : PyData} (h : Bd B C d) : ∃ bs ks, d = nd bs ks ∧ bs.length ≤ B ∧ (∀ b ∈ bs, b = 0 ∨ b = 1) ∧ ks.length ≤ C ∧ BdL B C ks := by
  cases h with
  | mk e h1 h2 h3 h4 => exact ⟨_, _, e, h1, h2, h3, h4⟩
theorem BdL.at {B C : Nat} : ∀ {ks : List PyData}, BdL B C ks → ∀ k ∈ ks, k = .none ∨ Bd B C k
  | _, .non r, k, hk => by
    rcases List.mem_cons.mp hk with e | h
    · exact .inl e
    · exact r.at k h
  | _, .one h0 r, k, hk => by
    rcases List.mem_cons.mp hk with e | h
    · rw [e]
      exact .inr h0
    · exact r.at k h
theorem BdL.of {B C : Nat} : ∀ {ks : List PyData}, (∀ k ∈ ks, k = .none ∨ Bd B C k) → BdL B C ks
  | [], _ => .nil
  | k :: r, h => by
    have ih := BdL.of (B := B) (C := C) (ks := r) fun x hx => h x (List.mem_cons_of_mem _ hx)
    rcases h k List.mem_cons_self with e | hb
    · rw [e]
      exact .non ih
    · exact .one hb ih
theorem BdL.take {B C : Nat} {ks : List PyData} (h : BdL B C ks) (n : Nat) : BdL B C (ks.take n) := BdL.of fun k hk => h.at k (List.mem_of_mem_take hk)
theorem Bd.notN {B C : Nat} {d : PyData} (h : Bd B C d) : isN d = false := by
  obtain ⟨bs, ks, rfl, _⟩ := h.un
  rfl
theorem Bd.ne {B C : Nat} {d : PyData} (h : Bd B C d) : d ≠ .none := fun e => by
  have := h.notN
  rw [e] at this
  cases this
mutual
theorem bd_trim {B C : Nat} : ∀ {d : PyData}, Bd B C d → Bd B C (trim d)
  | _, .mk (bs := bs) (ks := ks) e h1 h2 h3 h4 => by
    rw [e, trim_nd]
    have k := bdL_trim h4
    have l1 : (short isZ bs).length ≤ bs.length := by
      unfold short
      rw [List.length_take]
      omega
    have l2 : (short isN (trimL ks)).length ≤ ks.length := by
      unfold short
      rw [List.length_take, trimL_map, List.length_map]
      omega
    exact .mk rfl (by omega) (fun b hb => h2 b (List.mem_of_mem_take hb)) (by omega) (k.take _)
theorem bdL_trim {B C : Nat} : ∀ {ks : List PyData}, BdL B C ks → BdL B C (trimL ks)
  | _, .nil => by
    simp only [trimL]
    exact .nil
  | _, .non r => by
    simp only [trimL, trim_non]
    exact .non (bdL_trim r)
  | _, .one h r => by
    simp only [trimL]
    exact .one (bd_trim h) (bdL_trim r)
end
theorem sizeL_take (ks : List PyData) (n : Nat) : sizeL (ks.take n) ≤ sizeL ks := by
  induction ks generalizing n with
  | nil => simp
  | cons k r ih =>
    cases n with
    | zero => simp [sizeL]
    | succ n =>
      have k := ih n
      simp only [List.take_succ_cons, sizeL]
      omega
theorem deepL_take (ks : List PyData) (n : Nat) : deepL (ks.take n) ≤ deepL ks := by
  induction ks generalizing n with
  | nil => simp
  | cons k r ih =>
    cases n with
    | zero => simp [deepL]
    | succ n =>
      have k := ih n
      simp only [List.take_succ_cons, deepL]
      omega
mutual
theorem size_trim {B C : Nat} : ∀ {d : PyData}, Bd B C d → size (trim d) ≤ size d
  | _, .mk (bs := bs) (ks := ks) e h1 h2 h3 h4 => by
    rw [e, trim_nd, size_nd, size_nd]
    have k := sizeL_trim h4
    have k2 := sizeL_take (trimL ks) (keepN isN (trimL ks))
    unfold short
    omega
theorem sizeL_trim {B C : Nat} : ∀ {ks : List PyData}, BdL B C ks → sizeL (trimL ks) ≤ sizeL ks
  | _, .nil => by simp [trimL]
  | _, .non r => by
    have k := sizeL_trim r
    simp only [trimL, trim_non, sizeL]
    omega
  | _, .one h r => by
    have k := sizeL_trim r
    have k2 := size_trim h
    simp only [trimL, sizeL]
    omega
end
mutual
theorem deep_trim {B C : Nat} : ∀ {d : PyData}, Bd B C d → deep (trim d) ≤ deep d
  | _, .mk (bs := bs) (ks := ks) e h1 h2 h3 h4 => by
    rw [e, trim_nd, deep_nd, deep_nd]
    have k := deepL_trim h4
    have k2 := deepL_take (trimL ks) (keepN isN (trimL ks))
    unfold short
    omega
theorem deepL_trim {B C : Nat} : ∀ {ks : List PyData}, BdL B C ks → deepL (trimL ks) ≤ deepL ks
  | _, .nil => by simp [trimL]
  | _, .non r => by
    have k := deepL_trim r
    simp only [trimL, trim_non, deepL]
    omega
  | _, .one h r => by
    have k := deepL_trim r
    have k2 := deep_trim h
    simp only [trimL, deepL]
    omega
end
theorem deep_pos {B C : Nat} {d : PyData} (h : Bd B C d) : 1 ≤ deep d := by
  obtain ⟨bs, ks, rfl, _⟩ := h.un
  rw [deep_nd]
  omega
theorem size_pos {B C : Nat} {d : PyData} (h : Bd B C d) : 1 ≤ size d := by
  obtain ⟨bs, ks, rfl, _⟩ := h.un
  rw [size_nd]
  omega
theorem deepL_at {ks : List PyData} {k : PyData} (h : k ∈ ks) : deep k ≤ deepL ks := by
  induction ks with
  | nil => cases h
  | cons x r ih =>
    simp only [deepL]
    rcases List.mem_cons.mp h with e | h
    · rw [e]
      omega
    · have := ih h
      omega
theorem sizeL_at {ks : List PyData} {k : PyData} (h : k ∈ ks) : size k ≤ sizeL ks := by
  induction ks with
  | nil => cases h
  | cons x r ih =>
    simp only [sizeL]
    rcases List.mem_cons.mp h with e | h
    · rw [e]
      omega
    · have := ih h
      omega
mutual
theorem Bd.mono {B C B' C' : Nat} (h : B ≤ B') (h' : C ≤ C') : ∀ {d : PyData}, Bd B C d → Bd B' C' d
  | _, .mk e h1 h2 h3 h4 => .mk e (Nat.le_trans h1 h) h2 (Nat.le_trans h3 h') (h4.mono h h')
theorem BdL.mono {B C B' C' : Nat} (h : B ≤ B') (h' : C ≤ C') : ∀ {ks : List PyData}, BdL B C ks → BdL B' C' ks
  | _, .nil => .nil
  | _, .non r => .non (r.mono h h')
  | _, .one k r => .one (k.mono h h') (r.mono h h')
end
theorem BdL.app {B C : Nat} : ∀ {ks js : List PyData}, BdL B C ks → BdL B C js → BdL B C (ks ++ js)
  | _, _, .nil, h => h
  | _, _, .non r, h => .non (r.app h)
  | _, _, .one k r, h => .one k (r.app h)
theorem sizeL_app (a b : List PyData) : sizeL (a ++ b) = sizeL a + sizeL b := by
  induction a with
  | nil => simp [sizeL]
  | cons k r ih =>
    simp only [List.cons_append, sizeL, ih]
    omega
theorem deepL_app (a b : List PyData) : deepL (a ++ b) = max (deepL a) (deepL b) := by
  induction a with
  | nil => simp [deepL]
  | cons k r ih =>
    simp only [List.cons_append, deepL, ih]
    omega
end PZ

set_option Elab.async false
set_option linter.all false
set_option maxRecDepth 100000
set_option maxHeartbeats 8000000
namespace PZ
open PySem PySem.Spec PyProof.Rows L2 He XH XV XR PEN TR XQ Evl

/-! ### lengths of texts -/
theorem app_len (a b : Str) : (a ++ b).length = a.length + b.length := by
  obtain ⟨a⟩ := a
  obtain ⟨b⟩ := b
  show (a ++ b).size = a.size + b.size
  simp
theorem empty_app (w : Str) : Str.empty ++ w = w := by
  obtain ⟨a⟩ := w
  show (⟨#[] ++ a⟩ : Str) = ⟨a⟩
  simp
theorem joinL_len (S : List Nat) : ∀ ls : List (List Nat), (TL.joinL S ls).length ≤ (ls.map (·.length)).sum + ls.length * S.length
  | [] => Nat.zero_le _
  | [p] => by
    show p.length ≤ (p.length + 0) + 1 * S.length
    omega
  | p :: q :: r => by
    have k := joinL_len S (q :: r)
    show (p ++ (S ++ TL.joinL S (q :: r))).length ≤ _
    rw [List.length_append, List.length_append, List.map_cons, List.sum_cons, List.length_cons, Nat.succ_mul]
    omega
theorem join_len (a : Str) (ys : List Str) : (Txt.join a ys).length ≤ (ys.map (·.length)).sum + ys.length * a.length := by
  have z : TL.tl (Txt.join a ys) = TL.joinL (TL.tl a) (ys.map TL.tl) := by
    rw [TL.join_eq, TL.tl_join]
  have l1 : (Txt.join a ys).length = (TL.tl (Txt.join a ys)).length := len_codes _
  have l2 : a.length = (TL.tl a).length := len_codes _
  have l3 : (ys.map TL.tl).map (·.length) = ys.map (·.length) := by
    rw [List.map_map]
    exact List.map_congr_left fun y _ => (len_codes y).symm
  have k := joinL_len (TL.tl a) (ys.map TL.tl)
  rw [l3, List.length_map] at k
  rw [l1, z, l2]
  exact k
theorem sum_le {α : Type} {f : α → Nat} {b : Nat} : ∀ {l : List α}, (∀ x ∈ l, f x ≤ b) → (l.map f).sum ≤ l.length * b
  | [], _ => by simp
  | x :: r, h => by
    have k := sum_le (l := r) fun y hy => h y (List.mem_cons_of_mem _ hy)
    have k2 := h x List.mem_cons_self
    rw [List.map_cons, List.sum_cons, List.length_cons, Nat.succ_mul]
    omega
theorem istr_len {b : Int} (h : b = 0 ∨ b = 1) : (istr b).length = 1 := by
  rcases h with rfl | rfl <;> decide +kernel
theorem bits_sum {bs : List Int} (h : ∀ b ∈ bs, b = 0 ∨ b = 1) : ((bs.map istr).map (·.length)).sum = bs.length := by
  induction bs with
  | nil => rfl
  | cons b r ih =>
    have k := istr_len (h b List.mem_cons_self)
    have k2 := ih fun x hx => h x (List.mem_cons_of_mem _ hx)
    rw [List.map_cons, List.map_cons, List.sum_cons, k2, List.length_cons, k]
    omega
theorem digS_len {bs : List Int} (h : ∀ b ∈ bs, b = 0 ∨ b = 1) : (digS bs).length ≤ bs.length + 1 := by
  unfold digS
  split
  · have : ("." : Str).length = 1 := by decide +kernel
    omega
  · have k := join_len ("" : Str) (bs.map istr)
    have k2 := bits_sum h
    have k3 : ("" : Str).length = 0 := by decide +kernel
    rw [k2, k3] at k
    omega
theorem s1 : ("(" : Str).length = 1 ∧ (")" : Str).length = 1 ∧ ("," : Str).length = 1 ∧ ("-" : Str).length = 1 := by decide +kernel
mutual
theorem spell_len {B C : Nat} (hB : B ≤ 60) (hC : C ≤ 600) : ∀ {d : PyData}, Bd B C d → (spell d).length ≤ 1300 * size d
  | _, .mk (bs := bs) (ks := ks) e h1 h2 h3 h4 => by
    rw [e, spell_nd, size_nd]
    have k := spellL_len hB hC h4
    have kd := digS_len h2
    obtain ⟨p1, p2, p3, p4⟩ := s1
    split
    · omega
    · rw [app_len, app_len, app_len, p1, p2]
      have j := join_len ("," : Str) (spellL ks)
      have l : (spellL ks).length = ks.length := by rw [spellL_map, List.length_map]
      rw [p3, l] at j
      omega
theorem spellL_len {B C : Nat} (hB : B ≤ 60) (hC : C ≤ 600) : ∀ {ks : List PyData}, BdL B C ks → ((spellL ks).map (·.length)).sum ≤ 1300 * sizeL ks + ks.length
  | _, .nil => by simp [spellL]
  | _, .non r => by
    have k := spellL_len hB hC r
    obtain ⟨p1, p2, p3, p4⟩ := s1
    simp only [spellL, spell_non, sizeL, size_non, List.map_cons, List.sum_cons, List.length_cons, p4]
    omega
  | _, .one h r => by
    have k := spellL_len hB hC r
    have k2 := spell_len hB hC h
    simp only [spellL, sizeL, List.map_cons, List.sum_cons, List.length_cons]
    omega
end

/-! ### what keeps tuples and instances as they are -/
structure Kp (H H' : Hp) : Prop where
  ins : ∀ c C dx fs, fs ≠ [] → H c = some (.ins C dx fs) → H' c = some (.ins C dx fs)
  tup : ∀ c xs, Rd H c (.tup xs) → Rd H' c (.tup xs)
theorem Kp.refl (H : Hp) : Kp H H := ⟨fun _ _ _ _ _ h => h, fun _ _ h => h⟩
theorem Kp.trans {H H1 H2 : Hp} (a : Kp H H1) (b : Kp H1 H2) : Kp H H2 := ⟨fun c C dx fs n h => b.ins c C dx fs n (a.ins c C dx fs n h), fun c xs h => b.tup c xs (a.tup c xs h)⟩
theorem Kp.of {H H' : Hp} (e : Ex H H') : Kp H H' := ⟨fun c C dx fs _ h => e _ _ h, fun c xs h => ex_rd e h⟩
theorem Kp.lst {H : Hp} {D : Addr} {ys : List V} {o : HO} (hD : H D = some (.lst ys)) : Kp H (upd H D o) :=
  ⟨fun c C dx fs _ h => (upd_ne (fun e => by rw [e, hD] at h; cases h)).trans h, fun c xs h => by
    rcases h with h | ⟨o, h⟩
    · exact .inl ((upd_ne (fun e => by rw [e, hD] at h; cases h)).trans h)
    · exact .inr ⟨o, (upd_ne (fun e => by rw [e, hD] at h; cases h)).trans h⟩⟩
theorem Kp.xa {H H' : Hp} {a C dx : Addr} (ha : H a = some (.ins C dx [])) (k : Xa a H H') : Kp H H' :=
  ⟨fun c C' dx' fs n h => k c _ (fun e => by rw [e, ha] at h; injection h with h; injection h with _ _ h; exact n h.symm) h, fun c xs h => by
    rcases h with h | ⟨o, h⟩
    · exact .inl (k c _ (fun e => by rw [e, ha] at h; cases h) h)
    · exact .inr ⟨o, k c _ (fun e => by rw [e, ha] at h; cases h) h⟩⟩
theorem Kp.px {H H' : Hp} {p l : Addr} {n : Nat} (hP : Pen p l n H) (k : Px p l H H') : Kp H H' := by
  obtain ⟨c, ns, e1, e2, _⟩ := hP
  refine ⟨fun c C' dx' fs n h => k.get (fun e => by rw [e, e1] at h; cases h) (fun e => by rw [e, e2] at h; cases h) h, fun c xs h => ?_⟩
  rcases h with h | ⟨o, h⟩
  · exact .inl (k.get (fun e => by rw [e, e1] at h; cases h) (fun e => by rw [e, e2] at h; cases h) h)
  · exact .inr ⟨o, k.get (fun e => by rw [e, e1] at h; cases h) (fun e => by rw [e, e2] at h; cases h) h⟩
theorem Kp.t {K : PySem.W.Frag} {H H' : Hp} (k : Kp H H') {a : Addr} {xs : List V} (h : SqT K H a xs) : SqT K H' a xs := by
  rcases h with h | h
  · exact .inl (k.tup _ _ h)
  · exact .inr h
mutual
def tupD : PyData → Bool
  | .list _ => false
  | .dict _ => false
  | .tuple ds => tupDs ds
  | _ => true
def tupDs : List PyData → Bool
  | [] => true
  | d :: r => tupD d && tupDs r
end
mutual
theorem dp_kp {K : PySem.W.Frag} {H H' : Hp} (k : Kp H H') : ∀ (d : PyData) (v : V), tupD d = true → Dp K H v d → Dp K H' v d
  | .none, _, _, h => by
    cases h
    exact .non
  | .bool b, _, _, h => by
    cases h
    exact .bl b
  | .int i, _, _, h => by
    cases h
    exact .int i
  | .str x, _, _, h => by
    cases h
    exact .str x
  | .list ds, _, t, h => by simp [tupD] at t
  | .dict ds, _, t, h => by simp [tupD] at t
  | .tuple ds, _, t, h => by
    simp only [tupD] at t
    cases h with
    | tup h1 h2 => exact .tup (k.t h1) (dps_kp k ds _ t h2)
theorem dps_kp {K : PySem.W.Frag} {H H' : Hp} (k : Kp H H') : ∀ (ds : List PyData) (vs : List V), tupDs ds = true → DpAll K H vs ds → DpAll K H' vs ds
  | [], _, _, h => by
    cases h
    exact .nil
  | d :: ds, _, t, h => by
    simp only [tupDs, Bool.and_eq_true] at t
    cases h with
    | cons h1 h2 => exact .cons (dp_kp k d _ t.1 h1) (dps_kp k ds _ t.2 h2)
end
theorem tupDs_ints (bs : List Int) : tupDs (bs.map PyData.int) = true := by
  induction bs with
  | nil => rfl
  | cons b r ih => simp [tupDs, tupD, ih]
mutual
theorem bd_tup {B C : Nat} : ∀ {d : PyData}, Bd B C d → tupD d = true
  | _, .mk (bs := bs) (ks := ks) e h1 h2 h3 h4 => by
    rw [e]
    simp [nd, tupD, tupDs, tupDs_ints, bdL_tup h4]
theorem bdL_tup {B C : Nat} : ∀ {ks : List PyData}, BdL B C ks → tupDs ks = true
  | _, .nil => rfl
  | _, .non r => by simp [tupDs, tupD, bdL_tup r]
  | _, .one h r => by simp [tupDs, bd_tup h, bdL_tup r]
end
theorem dp_ints {K : PySem.W.Frag} {H : Hp} : ∀ {bs : List Int} {vs : List V}, DpAll K H vs (bs.map PyData.int) → vs = bs.map V.int
  | [], _, h => by
    cases h
    rfl
  | b :: r, _, h => by
    cases h with
    | cons h1 h2 =>
      cases h1
      rw [dp_ints h2]
      rfl
theorem dp_nums {K : PySem.W.Frag} {H : Hp} (bs : List Int) : DpAll K H (bs.map V.int) (bs.map PyData.int) := by
  induction bs with
  | nil => exact .nil
  | cons b r ih => exact .cons (.int b) ih
/-- a tree in a heap -/
theorem dp_nd {K : PySem.W.Frag} {H : Hp} {v : V} {bs : List Int} {ks : List PyData} (h : Dp K H v (nd bs ks)) : ∃ t tb tk vs, v = .ref t ∧ SqT K H t [.ref tb, .ref tk] ∧ SqT K H tb (bs.map V.int) ∧ SqT K H tk vs ∧ DpAll K H vs ks := by
  unfold nd at h
  cases h with
  | tup h1 h2 =>
    cases h2 with
    | cons h3 h4 =>
      cases h3 with
      | tup h5 h6 =>
        cases h4 with
        | cons h7 h8 =>
          cases h8
          cases h7 with
          | tup h9 h10 =>
            have e := dp_ints h6
            subst e
            exact ⟨_, _, _, _, rfl, h1, h5, h9, h10⟩
theorem nd_dp {K : PySem.W.Frag} {H : Hp} {t tb tk : Addr} {vs : List V} {bs : List Int} {ks : List PyData} (h1 : SqT K H t [.ref tb, .ref tk]) (h2 : SqT K H tb (bs.map V.int)) (h3 : SqT K H tk vs) (h4 : DpAll K H vs ks) : Dp K H (.ref t) (nd bs ks) :=
  .tup h1 (.cons (.tup h2 (dp_nums bs)) (.cons (.tup h3 h4) .nil))

/-! ### puzzles -/
mutual
inductive Pz (K : PySem.W.Frag) (H : Hp) : Addr → PyData → Prop
  | mk {a dx ba ca : Addr} {d : PyData} {bs : List Int} {ks : List PyData} {vs : List V} (e : d = nd bs ks) (b : Bd 60 600 d)
      (h : H a = some (.ins (ga K "Puzzle") dx [("bits", .ref ba), ("children", .ref ca), ("size", .int (size d : Nat)), ("depth", .int (deep d : Nat)), ("spelling", .str (spell d))]))
      (hb : SqT K H ba (bs.map V.int)) (hc : SqT K H ca vs) (hk : PzL K H vs ks) : Pz K H a d
inductive PzL (K : PySem.W.Frag) (H : Hp) : List V → List PyData → Prop
  | nil : PzL K H [] []
  | non {vs : List V} {ks : List PyData} (r : PzL K H vs ks) : PzL K H (.non :: vs) (.none :: ks)
  | one {a : Addr} {vs : List V} {k : PyData} {ks : List PyData} (h : Pz K H a k) (r : PzL K H vs ks) : PzL K H (.ref a :: vs) (k :: ks)
end
theorem Pz.kp {K : PySem.W.Frag} {H H' : Hp} (k : Kp H H') {a : Addr} {d : PyData} (h : Pz K H a d) : Pz K H' a d := by
  refine Pz.rec (motive_1 := fun a d _ => Pz K H' a d) (motive_2 := fun vs ks _ => PzL K H' vs ks) ?_ ?_ ?_ ?_ h
  · intro a dx ba ca d bs ks vs e b h hb hc hk ih
    exact .mk e b (k.ins _ _ _ _ (fun z => nomatch z) h) (k.t hb) (k.t hc) ih
  · exact .nil
  · intro vs ks r ih
    exact .non ih
  · intro a vs d ks h r ih1 ih2
    exact .one ih1 ih2
theorem PzL.kp {K : PySem.W.Frag} {H H' : Hp} (k : Kp H H') : ∀ {vs : List V} {ks : List PyData}, PzL K H vs ks → PzL K H' vs ks
  | _, _, .nil => .nil
  | _, _, .non r => .non (r.kp k)
  | _, _, .one h r => .one (h.kp k) (r.kp k)
theorem Pz.bd {K : PySem.W.Frag} {H : Hp} {a : Addr} {d : PyData} (h : Pz K H a d) : Bd 60 600 d := by
  cases h with
  | mk e b _ _ _ _ => exact b
theorem PzL.bd {K : PySem.W.Frag} {H : Hp} : ∀ {vs : List V} {ks : List PyData}, PzL K H vs ks → BdL 60 600 ks
  | _, _, .nil => .nil
  | _, _, .non r => .non r.bd
  | _, _, .one h r => .one h.bd r.bd
theorem PzL.len {K : PySem.W.Frag} {H : Hp} : ∀ {vs : List V} {ks : List PyData}, PzL K H vs ks → vs.length = ks.length
  | _, _, .nil => rfl
  | _, _, .non r => by rw [List.length_cons, List.length_cons, r.len]
  | _, _, .one _ r => by rw [List.length_cons, List.length_cons, r.len]
theorem PzL.app {K : PySem.W.Frag} {H : Hp} : ∀ {vs ws : List V} {ks js : List PyData}, PzL K H vs ks → PzL K H ws js → PzL K H (vs ++ ws) (ks ++ js)
  | _, _, _, _, .nil, h => h
  | _, _, _, _, .non r, h => .non (r.app h)
  | _, _, _, _, .one k r, h => .one k (r.app h)
theorem PzL.take {K : PySem.W.Frag} {H : Hp} : ∀ {vs : List V} {ks : List PyData} (n : Nat), PzL K H vs ks → PzL K H (vs.take n) (ks.take n)
  | _, _, 0, _ => .nil
  | _, _, n + 1, .nil => .nil
  | _, _, n + 1, .non r => .non (r.take n)
  | _, _, n + 1, .one h r => .one h (r.take n)
/-- a child at its place -/
theorem PzL.at {K : PySem.W.Frag} {H : Hp} : ∀ {vs : List V} {ks : List PyData}, PzL K H vs ks → ∀ {i : Nat} {v : V}, vs[i]? = some v → ∃ k, ks[i]? = some k ∧ ((v = .non ∧ k = .none) ∨ ∃ c, v = .ref c ∧ Pz K H c k)
  | _, _, .nil, i, v, h => by cases h
  | _, _, .non r, 0, v, h => by
    cases h
    exact ⟨_, rfl, .inl ⟨rfl, rfl⟩⟩
  | _, _, .one p r, 0, v, h => by
    cases h
    exact ⟨_, rfl, .inr ⟨_, rfl, p⟩⟩
  | _, _, .non r, i + 1, v, h => r.at (i := i) h
  | _, _, .one p r, i + 1, v, h => r.at (i := i) h

theorem spellL_at {ks : List PyData} {i : Nat} {k : PyData} (h : ks[i]? = some k) : (spellL ks)[i]? = some (spell k) := by
  rw [spellL_map, List.getElem?_map, h]
  rfl
theorem keep_bits (bs : List Int) : keepN (fun v : V => decide (v = .int 0)) (bs.map V.int) = keepN isZ bs := by
  rw [keepN_map]
  refine keepN_congr fun b _ => ?_
  unfold isZ
  by_cases h : b = 0
  · subst h
    rfl
  · rw [decide_eq_false h]
    exact decide_eq_false fun e => h (by injection e)
theorem keep_kids {K : PySem.W.Frag} {H : Hp} : ∀ {ws : List V} {ks : List PyData}, PzL K H ws ks → keepN (fun v : V => decide (v = .non)) ws = keepN isN ks
  | _, _, .nil => rfl
  | _, _, .non r => by
    have k := keep_kids r
    simp only [keepN, k, isN]
    rfl
  | _, _, .one (k := d) h r => by
    have k := keep_kids r
    have e := h.bd.notN
    simp only [keepN, k, e]
    rfl
theorem PzL.nodes {K : PySem.W.Frag} {H : Hp} : ∀ {ws : List V} {ks : List PyData}, PzL K H ws ks → PzL K H (ws.filter fun v => !decide (v = .non)) (ks.filter fun k => !isN k)
  | _, _, .nil => .nil
  | _, _, .non r => by
    have k := r.nodes
    rw [List.filter_cons, List.filter_cons, if_neg (by decide), if_neg (by decide)]
    exact k
  | _, _, .one (k := d) h r => by
    have k := r.nodes
    have e := h.bd.notN
    rw [List.filter_cons, List.filter_cons, if_pos (by rw [decide_eq_false (by intro z; cases z)]; rfl), if_pos (by rw [e]; rfl)]
    exact .one h k
theorem PzL.ref {K : PySem.W.Frag} {H : Hp} {ws : List V} {ks : List PyData} (h : PzL K H ws ks) (n : ∀ k ∈ ks, isN k = false) {i : Nat} {v : V} (hv : ws[i]? = some v) : ∃ c k, v = .ref c ∧ ks[i]? = some k ∧ Pz K H c k := by
  obtain ⟨k, hk, cas⟩ := h.at hv
  rcases cas with ⟨_, rfl⟩ | ⟨c, rfl, hp⟩
  · have := n _ (List.mem_of_getElem? hk)
    cases this
  · exact ⟨c, k, rfl, hk, hp⟩
theorem size_nodes (ks : List PyData) : ((ks.filter fun k => !isN k).map size).sum = sizeL ks := by
  induction ks with
  | nil => rfl
  | cons k r ih =>
    rw [List.filter_cons]
    cases h : isN k with
    | true =>
      have e : k = .none := by
        cases k <;> first | rfl | cases h
      rw [if_neg (by decide), ih, e]
      simp [sizeL, size_non]
    | false =>
      rw [if_pos (by decide), List.map_cons, List.sum_cons, ih]
      simp [sizeL]
theorem fold_max : ∀ (l : List Nat) (m : Nat), (l.map fun n : Nat => (n : Int)).foldl max (m : Int) = ((l.foldl max m : Nat) : Int)
  | [], _ => rfl
  | n :: r, m => by
    rw [List.map_cons, List.foldl_cons, List.foldl_cons]
    have e : max (m : Int) (n : Int) = ((max m n : Nat) : Int) := by omega
    rw [e, fold_max r]
theorem max_nodes : ∀ (ks : List PyData) (m : Nat), ((ks.filter fun k => !isN k).map deep).foldl max m = max m (deepL ks)
  | [], m => by simp [deepL]
  | k :: r, m => by
    rw [List.filter_cons]
    cases h : isN k with
    | true =>
      have e : k = .none := by
        cases k <;> first | rfl | cases h
      rw [if_neg (by decide), max_nodes r m, e]
      simp [deepL, deep_non]
    | false =>
      rw [if_pos (by decide), List.map_cons, List.foldl_cons, max_nodes r]
      simp only [deepL]
      omega
theorem deep_nodes (ks : List PyData) : mxD 0 (((ks.filter fun k => !isN k).map deep).map fun n : Nat => (n : Int)) = (deepL ks : Nat) := by
  have k := max_nodes ks 0
  cases e : (ks.filter fun k => !isN k).map deep with
  | nil =>
    rw [e] at k
    simp only [List.foldl_nil] at k
    show (0 : Int) = _
    omega
  | cons n r =>
    rw [e] at k
    rw [List.foldl_cons] at k
    show (r.map fun n : Nat => (n : Int)).foldl max (n : Int) = _
    rw [fold_max]
    have e2 : max 0 n = n := by omega
    rw [e2] at k
    omega
/-- tuple(xs) of a list or a tuple -/
theorem tup_go {K : PySem.W.Frag} {H : Hp} {p : Addr} {ys : List V} {Q : VK} (h : SqL K H p ys ∨ SqT K H p ys) (k : ∀ r H', Ex H H' → SqT K H' r ys → Q (.ref r) H') : (SqL K H p ys ∧ ∀ l, H l = none → Q (.ref l) (upd H l (.tup ys))) ∨ (SqT K H p ys ∧ Q (.ref p) H) := by
  rcases h with h | h
  · exact .inl ⟨h, fun l hl => k l _ (Ex.new hl) (st_of upd_same)⟩
  · exact .inr ⟨h, k p H (Ex.refl H) h⟩
/-- x = tuple(xs), xs a list or a tuple -/
def rTup (K : PySem.W.Frag) : List V → Hp → VK → Prop := fun xs H Q => ∃ p ys, xs = [.ref p] ∧ ((SqL K H p ys ∧ ∀ l, H l = none → Q (.ref l) (upd H l (.tup ys))) ∨ (SqT K H p ys ∧ Q (.ref p) H))
theorem q_tup {K : PySem.W.Frag} {te : TE} {i : Nat} {tz : TS} {D : Ends} {σ : L2.St} {H : Hp} {p : Addr} {ys : List V} (he : Ev te σ H (.ref p)) (h : SqL K H p ys ∨ SqT K H p ys) (k : ∀ r H', Ex H H' → SqT K H' r ys → tz D (σ.set i (some (.ref r))) H') : tSeq (tAsg (tCB (rTup K) (tCons te tNil)) (gName i)) tz D σ H :=
  he H (Ex.refl H) _ fun H1 e1 => ⟨p, ys, rfl, tup_go (Q := fun v H' => tz D (σ.set i (some v)) H') (h.imp (ex_l e1) (ex_t e1)) fun r H' e g => k r H' (e1.trans e) g⟩
theorem take_all {α : Type} {l : List α} {n : Nat} (h : l.length ≤ n) : l.take n = l := List.take_of_length_le h
/-! ### data that may be compared -/
theorem layNums (bs : List Int) : PyData.canLayAll0 (bs.map PyData.int) = true := by
  induction bs with
  | nil => simp [PyData.canLayAll0]
  | cons b r ih => simp [PyData.canLayAll0, PyData.canLay0, ih]
mutual
theorem lay_bd {B C : Nat} : ∀ {d : PyData}, Bd B C d → PyData.canLay0 d = true
  | _, .mk (bs := bs) (ks := ks) e h1 h2 h3 h4 => by
    rw [e]
    simp [nd, PyData.canLay0, PyData.canLayAll0, layNums, lay_bdL h4]
theorem lay_bdL {B C : Nat} : ∀ {ks : List PyData}, BdL B C ks → PyData.canLayAll0 ks = true
  | _, .nil => by simp [PyData.canLayAll0]
  | _, .non r => by simp [PyData.canLayAll0, PyData.canLay0, lay_bdL r]
  | _, .one h r => by simp [PyData.canLayAll0, lay_bd h, lay_bdL r]
end
mutual
theorem dep_bd {B C : Nat} : ∀ {d : PyData}, Bd B C d → PyData.depth d ≤ 2 * deep d + 1
  | _, .mk (bs := bs) (ks := ks) e h1 h2 h3 h4 => by
    rw [e, deep_nd]
    have k := depth_nums bs
    have k2 := dep_bdL h4
    simp only [nd, PyData.depth, PyData.depthAll]
    omega
theorem dep_bdL {B C : Nat} : ∀ {ks : List PyData}, BdL B C ks → PyData.depthAll ks ≤ 2 * deepL ks + 1
  | _, .nil => by simp [PyData.depthAll]
  | _, .non r => by
    have k := dep_bdL r
    simp only [PyData.depthAll, PyData.depth, deepL, deep_non]
    omega
  | _, .one h r => by
    have k := dep_bdL r
    have k2 := dep_bd h
    simp only [PyData.depthAll, deepL]
    omega
end
theorem shp_bd {B C : Nat} {d : PyData} (h : Bd B C d) (hd : deep d ≤ 31) : SeqAt.shaped d = true := by
  have k := dep_bd h
  unfold SeqAt.shaped
  rw [Bool.and_eq_true]
  exact ⟨lay_bd h, decide_eq_true (by omega)⟩
theorem shp_kids {B C : Nat} {ks : List PyData} (h : BdL B C ks) (hd : deepL ks ≤ 30) : SeqAt.shaped (.tuple ks) = true := by
  have k := dep_bdL h
  unfold SeqAt.shaped
  rw [Bool.and_eq_true]
  refine ⟨by simp [PyData.canLay0, lay_bdL h], decide_eq_true ?_⟩
  simp only [PyData.depth]
  omega
theorem shp_nums (bs : List Int) : SeqAt.shaped (.tuple (bs.map PyData.int)) = true := by
  have k := depth_nums bs
  unfold SeqAt.shaped
  rw [Bool.and_eq_true]
  refine ⟨by simp [PyData.canLay0, layNums], decide_eq_true ?_⟩
  simp only [PyData.depth]
  omega
theorem eqv_non (d : PyData) : PyData.eqv d .none = isN d := by
  cases d <;> rfl
theorem eqv_zero (b : Int) : PyData.eqv (.int b) (.int 0) = isZ b := by
  show (b == 0) = decide (b = 0)
  by_cases h : b = 0 <;> simp [h]
theorem keep_nums (bs : List Int) : keepN (fun d => PyData.eqv d (.int 0)) (bs.map PyData.int) = keepN isZ bs := by
  rw [keepN_map]
  exact keepN_congr fun b _ => eqv_zero b
theorem keep_nons (ks : List PyData) : keepN (fun d => PyData.eqv d .none) ks = keepN isN ks := keepN_congr fun d _ => eqv_non d
theorem dps_take {K : PySem.W.Frag} {H : Hp} : ∀ {vs : List V} {ds : List PyData} (n : Nat), DpAll K H vs ds → DpAll K H (vs.take n) (ds.take n)
  | _, _, 0, _ => .nil
  | _, _, n + 1, .nil => .nil
  | _, _, n + 1, .cons h r => .cons h (dps_take n r)
theorem ev_call {sp : Sp} {ta : TA} {σ : L2.St} {H : Hp} {vs : List V} {v : V} (h : EvA ta σ H vs) (hs : ∀ H1, Ex H H1 → ∀ Q : VK, (∀ H2, Ex H1 H2 → Q v H2) → sp (vs ++ []) H1 Q E0) : Ev (tCall sp [] E0 ta) σ H v := fun H1 e Q q =>
  h H1 e _ fun H2 e2 => hs H2 (e.trans e2) Q fun H3 e3 => q H3 (e2.trans e3)
theorem rv_ix {K : PySem.W.Frag} {H : Hp} {p : Addr} {xs : List V} {i : Int} {v : V} (h : SqL K H p xs ∨ SqT K H p xs) (ha : atI xs i = some v) : RV (rIx K) (.ref p) (.int i) H v := fun H1 e Q q => by
  rcases h with h | h
  · exact .inl ⟨p, xs, i, v, rfl, rfl, ex_l e h, ha, q H1 (Ex.refl _)⟩
  · exact .inr (.inl ⟨p, xs, i, v, rfl, rfl, ex_t e h, ha, q H1 (Ex.refl _)⟩)
theorem rv_neD {K : PySem.W.Frag} {H : Hp} {x y : V} {d e : PyData} (hd : Dp K H x d) (he : Dp K H y e) (sd : SeqAt.shaped d = true) (se : SeqAt.shaped e = true) : RV (rNeD K) x y H (.bl (!PyData.eqv d e)) := fun H1 a Q q => ⟨d, e, dpM a _ _ hd, dpM a _ _ he, sd, se, q H1 (Ex.refl _)⟩
theorem rv_eqD {K : PySem.W.Frag} {H : Hp} {x y : V} {d e : PyData} (hd : Dp K H x d) (he : Dp K H y e) (sd : SeqAt.shaped d = true) (se : SeqAt.shaped e = true) : RV (rEqD K) x y H (.bl (PyData.eqv d e)) := fun H1 a Q q => ⟨d, e, dpM a _ _ hd, dpM a _ _ he, sd, se, q H1 (Ex.refl _)⟩
theorem rv_isNo {H : Hp} {x : V} : RV (fun x y H Q => y = .non ∧ Q (.bl (decide (x = .non))) H) x .non H (.bl (decide (x = .non))) := fun H1 _ Q q => ⟨rfl, q H1 (Ex.refl _)⟩
theorem rv_notNo {H : Hp} {x : V} : RV (fun x y H Q => y = .non ∧ Q (.bl (!decide (x = .non))) H) x .non H (.bl (!decide (x = .non))) := fun H1 _ Q q => ⟨rfl, q H1 (Ex.refl _)⟩
theorem dp_non {K : PySem.W.Frag} {H : Hp} {B C : Nat} {v : V} {d : PyData} (h : Dp K H v d) (hd : d = .none ∨ Bd B C d) : (v = .non ∧ d = .none) ∨ (∃ t, v = .ref t ∧ Bd B C d) := by
  rcases hd with rfl | hb
  · cases h
    exact .inl ⟨rfl, rfl⟩
  · obtain ⟨bs, ks, rfl, _⟩ := id hb.un
    obtain ⟨t, _, _, _, rfl, _⟩ := dp_nd h
    exact .inr ⟨t, rfl, hb⟩
theorem deepL_mem (ks : List PyData) : deepL ks = 0 ∨ ∃ k ∈ ks, deep k = deepL ks := by
  induction ks with
  | nil => exact .inl (by simp [deepL])
  | cons k r ih =>
    simp only [deepL]
    by_cases h : deepL r ≤ deep k
    · exact .inr ⟨k, List.mem_cons_self, by omega⟩
    · rcases ih with e | ⟨x, hx, e⟩
      · omega
      · exact .inr ⟨x, List.mem_cons_of_mem _ hx, by omega⟩
theorem eqv_same {d : PyData} (h : SeqAt.shaped d = true) : PyData.eqv d d = true := SeqAt.eqv_refl d (SeqAt.canLay_of_shaped h)
end PZ

set_option Elab.async false
set_option linter.all false
set_option maxRecDepth 100000
set_option maxHeartbeats 8000000
/-! Unlike trees have unlike spellings. -/
namespace PZ
open PySem PySem.Spec PyProof.Rows L2 He XH XV XR PEN TR XQ Evl

def cd (z : Str) : List Nat := z.cps.toList
theorem str_ext {a b : Str} (h : cd a = cd b) : a = b := by
  obtain ⟨x⟩ := a
  obtain ⟨y⟩ := b
  have e : x = y := Array.toList_inj.mp h
  rw [e]
theorem app_cd (a b : Str) : cd (a ++ b) = cd a ++ cd b := by
  obtain ⟨x⟩ := a
  obtain ⟨y⟩ := b
  show (x ++ y).toList = _
  simp [cd]
theorem join_cd (a : Str) (ys : List Str) : cd (Txt.join a ys) = TL.joinL (cd a) (ys.map cd) := by
  have z : TL.tl (Txt.join a ys) = TL.joinL (TL.tl a) (ys.map TL.tl) := by
    rw [TL.join_eq, TL.tl_join]
  exact z
def dg (b : Int) : Nat := if b = 0 then 48 else 49
theorem dg_two (b : Int) : dg b = 48 ∨ dg b = 49 := by
  unfold dg
  split
  · exact .inl rfl
  · exact .inr rfl
theorem dg_inj {b b' : Int} (h : b = 0 ∨ b = 1) (h' : b' = 0 ∨ b' = 1) (e : dg b = dg b') : b = b' := by
  rcases h with rfl | rfl <;> rcases h' with rfl | rfl <;> first | rfl | cases e
def dgc (bs : List Int) : List Nat := if bs = [] then [46] else bs.map dg
theorem joinL_ones : ∀ cs : List Nat, TL.joinL [] (cs.map fun c => [c]) = cs
  | [] => rfl
  | [c] => rfl
  | c :: d :: r => by
    show [c] ++ ([] ++ TL.joinL [] ((d :: r).map fun c => [c])) = c :: d :: r
    rw [joinL_ones (d :: r)]
    rfl
theorem digS_cd {bs : List Int} (h : ∀ b ∈ bs, b = 0 ∨ b = 1) : cd (digS bs) = dgc bs := by
  have j : cd (Txt.join ("" : Str) (bs.map istr)) = bs.map dg := by
    rw [join_cd, List.map_map]
    have e : cd ("" : Str) = [] := by decide +kernel
    rw [e]
    have e2 : bs.map (cd ∘ istr) = (bs.map dg).map fun c => [c] := by
      rw [List.map_map]
      refine List.map_congr_left fun b hb => ?_
      rcases h b hb with rfl | rfl <;> decide +kernel
    rw [e2, joinL_ones]
  have l : (Txt.join ("" : Str) (bs.map istr)).length = bs.length := by
    have z : (Txt.join ("" : Str) (bs.map istr)).length = (cd (Txt.join ("" : Str) (bs.map istr))).length := len_codes _
    rw [z, j, List.length_map]
  unfold digS dgc
  cases bs with
  | nil => decide +kernel
  | cons b r =>
    rw [if_neg (by rw [l]; simp), if_neg (by simp)]
    exact j
/-- what may stand behind a node -/
def term (x : List Nat) : Prop := ∀ c r, x = c :: r → c = 44 ∨ c = 41
theorem dgc_head (bs : List Int) : ∃ c r, dgc bs = c :: r ∧ (c = 46 ∨ c = 48 ∨ c = 49) := by
  unfold dgc
  cases bs with
  | nil => exact ⟨46, [], rfl, .inl rfl⟩
  | cons b r =>
    exact ⟨dg b, r.map dg, rfl, .inr (dg_two b)⟩
/-- runs of digits are told from what is behind them -/
theorem runs : ∀ {bs bs' : List Int} {x y : List Nat}, (∀ b ∈ bs, b = 0 ∨ b = 1) → (∀ b ∈ bs', b = 0 ∨ b = 1) → (∀ c r, x = c :: r → c ≠ 48 ∧ c ≠ 49) → (∀ c r, y = c :: r → c ≠ 48 ∧ c ≠ 49) →
    bs.map dg ++ x = bs'.map dg ++ y → bs = bs' ∧ x = y
  | [], [], _, _, _, _, _, _, h => ⟨rfl, h⟩
  | [], b :: r, x, y, _, _, hx, _, h => by
    have z := hx (dg b) _ h
    rcases dg_two b with e | e
    · exact absurd e z.1
    · exact absurd e z.2
  | b :: r, [], x, y, _, _, _, hy, h => by
    have z := hy (dg b) _ h.symm
    rcases dg_two b with e | e
    · exact absurd e z.1
    · exact absurd e z.2
  | b :: r, b' :: r', x, y, h1, h2, hx, hy, h => by
    rw [List.map_cons, List.map_cons, List.cons_append, List.cons_append] at h
    injection h with e1 e2
    obtain ⟨k1, k2⟩ := runs (fun c hc => h1 c (List.mem_cons_of_mem _ hc)) (fun c hc => h2 c (List.mem_cons_of_mem _ hc)) hx hy e2
    refine ⟨?_, k2⟩
    rw [dg_inj (h1 b List.mem_cons_self) (h2 b' List.mem_cons_self) e1, k1]
theorem dgc_app {bs bs' : List Int} {x y : List Nat} (h1 : ∀ b ∈ bs, b = 0 ∨ b = 1) (h2 : ∀ b ∈ bs', b = 0 ∨ b = 1) (hx : ∀ c r, x = c :: r → c ≠ 48 ∧ c ≠ 49) (hy : ∀ c r, y = c :: r → c ≠ 48 ∧ c ≠ 49) (h : dgc bs ++ x = dgc bs' ++ y) : bs = bs' ∧ x = y := by
  unfold dgc at h
  by_cases e : bs = []
  · rw [if_pos e] at h
    by_cases e' : bs' = []
    · rw [if_pos e'] at h
      injection h with _ h
      exact ⟨by rw [e, e'], h⟩
    · rw [if_neg e'] at h
      cases bs' with
      | nil => exact absurd rfl e'
      | cons b r =>
        rw [List.map_cons] at h
        injection h with h _
        rcases dg_two b with e2 | e2 <;> (rw [e2] at h; cases h)
  · rw [if_neg e] at h
    by_cases e' : bs' = []
    · rw [if_pos e'] at h
      cases bs with
      | nil => exact absurd rfl e
      | cons b r =>
        rw [List.map_cons] at h
        injection h with h _
        rcases dg_two b with e2 | e2 <;> (rw [e2] at h; cases h)
    · rw [if_neg e'] at h
      exact runs h1 h2 hx hy h
def rest (ks : List PyData) (x : List Nat) : List Nat := if ks = [] then x else 40 :: (TL.joinL [44] ((spellL ks).map cd) ++ (41 :: x))
theorem spell_cd {B C : Nat} {bs : List Int} {ks : List PyData} (h : Bd B C (nd bs ks)) (x : List Nat) : cd (spell (nd bs ks)) ++ x = dgc bs ++ rest ks x := by
  obtain ⟨_, h01, _, _⟩ := h.nd'
  rw [spell_nd]
  unfold rest
  by_cases e : ks = []
  · rw [if_pos e, if_pos e, digS_cd h01]
  · rw [if_neg e, if_neg e, app_cd, app_cd, app_cd, digS_cd h01, join_cd]
    have c1 : cd ("(" : Str) = [40] := by decide +kernel
    have c2 : cd (")" : Str) = [41] := by decide +kernel
    have c3 : cd ("," : Str) = [44] := by decide +kernel
    rw [c1, c2, c3]
    simp only [List.append_assoc, List.cons_append, List.nil_append]
theorem rest_head {ks : List PyData} {x : List Nat} (hx : term x) : ∀ c r, rest ks x = c :: r → c ≠ 48 ∧ c ≠ 49 := by
  intro c r h
  unfold rest at h
  by_cases e : ks = []
  · rw [if_pos e] at h
    rcases hx c r h with rfl | rfl <;> exact ⟨by decide, by decide⟩
  · rw [if_neg e] at h
    injection h with h _
    subst h
    exact ⟨by decide, by decide⟩
theorem joinL_cons (k : List Nat) (r : List (List Nat)) : TL.joinL [44] (k :: r) = k ++ (if r = [] then [] else 44 :: TL.joinL [44] r) := by
  cases r with
  | nil => simp [TL.joinL]
  | cons a r => rfl
theorem none_cd : cd (spell .none) = [45] := by
  rw [spell_non]
  decide +kernel
mutual
theorem spell_pre {B C B' C' : Nat} : ∀ {d d' : PyData} {x y : List Nat}, Bd B C d → (d' = .none ∨ Bd B' C' d') → term x → term y → cd (spell d) ++ x = cd (spell d') ++ y → d = d' ∧ x = y
  | _, d', x, y, .mk (bs := bs) (ks := ks) e h1 h2 h3 h4, hd', hx, hy, h => by
    subst e
    have hb : Bd B C (nd bs ks) := .mk rfl h1 h2 h3 h4
    rw [spell_cd hb] at h
    rcases hd' with rfl | hb'
    · rw [none_cd] at h
      obtain ⟨c, r, e, hc⟩ := dgc_head bs
      rw [e] at h
      injection h with h _
      subst h
      rcases hc with z | z | z <;> cases z
    · obtain ⟨bs', ks', rfl, l1, l2, l3, l4⟩ := id hb'.un
      rw [spell_cd hb'] at h
      obtain ⟨eb, hq⟩ := dgc_app h2 l2 (rest_head hx) (rest_head hy) h
      subst eb
      replace h := hq
      clear hq
      unfold rest at h
      by_cases e : ks = []
      · rw [if_pos e] at h
        by_cases e' : ks' = []
        · rw [if_pos e'] at h
          exact ⟨by rw [e, e'], h⟩
        · rw [if_neg e'] at h
          rcases hx _ _ h with z | z <;> cases z
      · rw [if_neg e] at h
        by_cases e' : ks' = []
        · rw [if_pos e'] at h
          rcases hy _ _ h.symm with z | z <;> cases z
        · rw [if_neg e'] at h
          injection h with _ h
          obtain ⟨eq, hq⟩ := spellL_pre h4 l4 e e' h
          exact ⟨by rw [eq], hq⟩
theorem spellL_pre {B C B' C' : Nat} : ∀ {ks ks' : List PyData} {x y : List Nat}, BdL B C ks → BdL B' C' ks' → ks ≠ [] → ks' ≠ [] → TL.joinL [44] ((spellL ks).map cd) ++ (41 :: x) = TL.joinL [44] ((spellL ks').map cd) ++ (41 :: y) → ks = ks' ∧ x = y
  | _, _, _, _, .nil, _, n, _, _ => absurd rfl n
  | _, [], _, _, _, _, _, n, _ => absurd rfl n
  | _, k' :: r', x, y, .non (ks := r) hr, hk', _, _, h => by
    have hk2 := hk'.at k' List.mem_cons_self
    have hr' : BdL B' C' r' := BdL.of fun z hz => hk'.at z (List.mem_cons_of_mem _ hz)
    simp only [spellL, List.map_cons, joinL_cons, List.append_assoc] at h
    have key : k' = .none ∧ (if (spellL r).map cd = [] then [] else 44 :: TL.joinL [44] ((spellL r).map cd)) ++ (41 :: x) = (if (spellL r').map cd = [] then [] else 44 :: TL.joinL [44] ((spellL r').map cd)) ++ (41 :: y) := by
      rcases hk2 with rfl | hb'
      · exact ⟨rfl, List.append_cancel_left h⟩
      · obtain ⟨bs', ks', rfl, l1, l2, l3, l4⟩ := id hb'.un
        rw [spell_cd hb', none_cd] at h
        obtain ⟨c, q, e, hc⟩ := dgc_head bs'
        rw [e] at h
        injection h with h _
        subst h
        rcases hc with z | z | z <;> cases z
    obtain ⟨ek, hq⟩ := key
    subst ek
    replace h := hq
    clear hq
    by_cases e : r = []
    · subst e
      by_cases e' : r' = []
      · subst e'
        simp [spellL] at h
        exact ⟨rfl, h⟩
      · have n' : (spellL r').map cd ≠ [] := by
          cases r' with
          | nil => exact absurd rfl e'
          | cons a b => simp [spellL]
        rw [if_neg n'] at h
        simp [spellL] at h
    · have n : (spellL r).map cd ≠ [] := by
        cases r with
        | nil => exact absurd rfl e
        | cons a b => simp [spellL]
      rw [if_neg n] at h
      by_cases e' : r' = []
      · subst e'
        simp [spellL] at h
      · have n' : (spellL r').map cd ≠ [] := by
          cases r' with
          | nil => exact absurd rfl e'
          | cons a b => simp [spellL]
        rw [if_neg n'] at h
        injection h with _ h
        obtain ⟨eq, hq⟩ := spellL_pre hr hr' e e' h
        exact ⟨by rw [eq], hq⟩
  | _, k' :: r', x, y, .one (k := k) (ks := r) hk hr, hk', _, _, h => by
    have hk2 := hk'.at k' List.mem_cons_self
    have hr' : BdL B' C' r' := BdL.of fun z hz => hk'.at z (List.mem_cons_of_mem _ hz)
    simp only [spellL, List.map_cons, joinL_cons, List.append_assoc] at h
    have tm : ∀ (r : List PyData) (x : List Nat), term ((if (spellL r).map cd = [] then [] else 44 :: TL.joinL [44] ((spellL r).map cd)) ++ (41 :: x)) := fun r x c q e => by
      split at e
      · injection e with e _
        exact .inr e.symm
      · injection e with e _
        exact .inl e.symm
    obtain ⟨eb, hq⟩ := spell_pre hk hk2 (tm r x) (tm r' y) h
    subst eb
    replace h := hq
    clear hq
    by_cases e : r = []
    · subst e
      by_cases e' : r' = []
      · subst e'
        simp [spellL] at h
        exact ⟨rfl, h⟩
      · have n' : (spellL r').map cd ≠ [] := by
          cases r' with
          | nil => exact absurd rfl e'
          | cons a b => simp [spellL]
        rw [if_neg n'] at h
        simp [spellL] at h
    · have n : (spellL r).map cd ≠ [] := by
        cases r with
        | nil => exact absurd rfl e
        | cons a b => simp [spellL]
      rw [if_neg n] at h
      by_cases e' : r' = []
      · subst e'
        simp [spellL] at h
      · have n' : (spellL r').map cd ≠ [] := by
          cases r' with
          | nil => exact absurd rfl e'
          | cons a b => simp [spellL]
        rw [if_neg n'] at h
        injection h with _ h
        obtain ⟨eq, hq⟩ := spellL_pre hr hr' e e' h
        exact ⟨by rw [eq], hq⟩
end
theorem spell_inj {B C B' C' : Nat} {d d' : PyData} (h : Bd B C d) (h' : Bd B' C' d') (e : spell d = spell d') : d = d' := by
  refine (spell_pre (x := []) (y := []) h (.inr h') (fun c r z => nomatch z) (fun c r z => nomatch z) ?_).1
  rw [e]
theorem eqv_nums : ∀ {bs bs' : List Int}, PyData.eqvAll (bs.map PyData.int) (bs'.map PyData.int) = true → bs = bs'
  | [], [], _ => rfl
  | [], _ :: _, h => by cases h
  | _ :: _, [], h => by cases h
  | b :: r, b' :: r', h => by
    rw [List.map_cons, List.map_cons] at h
    have h2 : ((b == b') && PyData.eqvAll (r.map PyData.int) (r'.map PyData.int)) = true := h
    rw [Bool.and_eq_true] at h2
    rw [beq_iff_eq.mp h2.1, eqv_nums h2.2]
mutual
theorem eqv_bd {B C B' C' : Nat} : ∀ {d d' : PyData}, Bd B C d → (d' = .none ∨ Bd B' C' d') → PyData.eqv d d' = true → d = d'
  | _, d', .mk (bs := bs) (ks := ks) e h1 h2 h3 h4, hd', h => by
    subst e
    rcases hd' with rfl | hb'
    · cases h
    · obtain ⟨bs', ks', rfl, l1, l2, l3, l4⟩ := id hb'.un
      have h5 : (PyData.eqvAll (bs.map PyData.int) (bs'.map PyData.int) && (PyData.eqvAll ks ks' && true)) = true := h
      rw [Bool.and_eq_true, Bool.and_true] at h5
      rw [eqv_nums h5.1, eqv_bdL h4 l4 h5.2]
theorem eqv_bdL {B C B' C' : Nat} : ∀ {ks ks' : List PyData}, BdL B C ks → BdL B' C' ks' → PyData.eqvAll ks ks' = true → ks = ks'
  | _, [], .nil, _, _ => rfl
  | _, _ :: _, .nil, _, h => by cases h
  | _, [], .non _, _, h => by cases h
  | _, [], .one _ _, _, h => by cases h
  | _, k' :: r', .non (ks := r) hr, hk', h => by
    have hr' : BdL B' C' r' := BdL.of fun z hz => hk'.at z (List.mem_cons_of_mem _ hz)
    have h2 : (PyData.eqv .none k' && PyData.eqvAll r r') = true := h
    rw [Bool.and_eq_true] at h2
    have e : k' = .none := by
      rcases hk'.at k' List.mem_cons_self with e | hb
      · exact e
      · obtain ⟨bs', ks', rfl, _⟩ := hb.un
        have := h2.1
        cases this
    rw [e, eqv_bdL hr hr' h2.2]
  | _, k' :: r', .one (k := k) (ks := r) hk hr, hk', h => by
    have hr' : BdL B' C' r' := BdL.of fun z hz => hk'.at z (List.mem_cons_of_mem _ hz)
    have h2 : (PyData.eqv k k' && PyData.eqvAll r r') = true := h
    rw [Bool.and_eq_true] at h2
    rw [eqv_bd hk (hk'.at k' List.mem_cons_self) h2.1, eqv_bdL hr hr' h2.2]
end
/-- == of trees and == of their spellings -/
theorem eq_both {B C B' C' : Nat} {d d' : PyData} (h : Bd B C d) (h' : Bd B' C' d') (hl : deep d ≤ 31) : PyData.eqv d d' = decide (V.str (spell d') = V.str (spell d)) := by
  by_cases e : d = d'
  · subst e
    rw [decide_eq_true rfl]
    exact eqv_same (shp_bd h hl)
  · rw [decide_eq_false fun z => e (spell_inj h h' (by injection z with z; exact z.symm))]
    cases q : PyData.eqv d d' with
    | false => rfl
    | true => exact absurd (eqv_bd h (.inr h') q) e
theorem keepN_rep {α : Type} {p : α → Bool} {x : α} (hx : p x = true) (l : List α) : ∀ n : Nat, keepN p (l ++ List.replicate n x) = keepN p l
  | 0 => by simp
  | n + 1 => by
    rw [List.replicate_succ', ← List.append_assoc, keepN_app, if_pos hx]
    exact keepN_rep hx l n
theorem short_rep {α : Type} {p : α → Bool} {x : α} (hx : p x = true) (l : List α) (n : Nat) : short p (l ++ List.replicate n x) = short p l := by
  unfold short
  rw [keepN_rep hx, List.take_append_of_le_length (keepN_le p l)]
/-! ### data made on the way -/
def rCat2 (K : PySem.W.Frag) : R2 := fun x y H Q => (∃ a b ys, x = .ref a ∧ y = .ref b ∧ SqT K H a [] ∧ SqT K H b ys ∧ Q (.ref b) H) ∨ rCatT K x y H Q
theorem op_cat2 {X : Cx} : OpR X (binaryOp .Add) (rCat2 X.K) := op_or op_catT0 op_catT
def EvD (K : PySem.W.Frag) (te : TE) (σ : L2.St) (H : Hp) (d : PyData) : Prop := ∀ H1, Ex H H1 → ∀ Q : VK, (∀ v H2, Ex H1 H2 → Dp K H2 v d → Q v H2) → te σ H1 Q
def EvDs (K : PySem.W.Frag) (ta : TA) (σ : L2.St) (H : Hp) (ds : List PyData) : Prop := ∀ H1, Ex H H1 → ∀ Q : List V → Hp → Prop, (∀ vs H2, Ex H1 H2 → DpAll K H2 vs ds → Q vs H2) → ta σ H1 Q
section
variable {K : PySem.W.Frag} {σ : L2.St} {H : Hp} {te ta tb ti : TE} {d : PyData} {ds xs ys : List PyData}
theorem ed_of {v : V} (h : Ev te σ H v) (hd : Dp K H v d) : EvD K te σ H d := fun H1 e Q q => h H1 e Q fun H2 e2 => q v H2 e2 (dpM (e.trans e2) _ _ hd)
theorem ed_var {i : Nat} {v : V} (h : σ[i]? = some (some v)) (hd : Dp K H v d) : EvD K (tVar i) σ H d := ed_of (ev_var h) hd
theorem ed_non : EvD K (tC .non) σ H .none := ed_of ev_c .non
theorem ed_int {i : Int} : EvD K (tC (.int i)) σ H (.int i) := ed_of ev_c (.int i)
theorem ed_str {z : Str} : EvD K (tC (.str z)) σ H (.str z) := ed_of ev_c (.str z)
theorem eds_nil : EvDs K tNil σ H [] := fun H1 e Q q => q [] H1 (Ex.refl _) .nil
theorem eds_cons {tr : TA} (h : EvD K te σ H d) (hr : EvDs K tr σ H ds) : EvDs K (tCons te tr) σ H (d :: ds) := fun H1 e Q q =>
  h H1 e _ fun v H2 e2 dv => hr H2 (e.trans e2) _ fun vs H3 e3 dvs => q (v :: vs) H3 (e2.trans e3) (.cons (dpM e3 _ _ dv) dvs)
theorem ed_tup {tt : TA} (h : EvDs K tt σ H ds) (hl : ds.length ≤ 1000) : EvD K (tTup tt) σ H (.tuple ds) := fun H1 e Q q =>
  h H1 e _ fun vs H2 e2 dvs => ⟨fits (by rw [dpAll_len dvs]; exact hl), fun p hp => q (.ref p) _ (e2.trans (Ex.new hp)) (.tup (st_of upd_same) (dpMs (Ex.new hp) _ _ dvs))⟩
theorem ed_cat (h1 : EvD K ta σ H (.tuple xs)) (h2 : EvD K tb σ H (.tuple ys)) (hl : xs.length + ys.length ≤ 1000) : EvD K (tOp (rCat2 K) ta tb) σ H (.tuple (xs ++ ys)) := fun H1 e Q q =>
  h1 H1 e _ fun v H2 e2 dv => h2 H2 (e.trans e2) _ fun u H3 e3 du => by
    cases dv with
    | @tup a vs _ ha hvs =>
      cases du with
      | @tup b us _ hb hus =>
        have lv := dpAll_len hvs
        have lu := dpAll_len hus
        have ha3 := ex_t e3 ha
        have hvs3 := dpMs e3 _ _ hvs
        cases vs with
        | nil =>
          cases xs with
          | nil => exact .inl ⟨a, b, us, rfl, rfl, ha3, hb, q (.ref b) H3 (e2.trans e3) (.tup hb hus)⟩
          | cons x r => cases lv
        | cons v r =>
          refine .inr ⟨a, b, v :: r, us, rfl, rfl, ha3, hb, (fun z => nomatch z), fits (by omega), (fun z => ?_), fun _ p hp => q (.ref p) _ ((e2.trans e3).trans (Ex.new hp)) (.tup (st_of upd_same) (dpMs (Ex.new hp) _ _ (dpAll_app hvs3 hus)))⟩
          subst z
          have e0 : ys = [] := by
            cases ys with
            | nil => rfl
            | cons y s => cases lu
          refine q (.ref a) H3 (e2.trans e3) ?_
          rw [e0, List.append_nil]
          exact .tup ha3 hvs3
theorem ed_take {i : Nat} (h1 : EvD K ta σ H (.tuple xs)) (h2 : Ev ti σ H (.int (i : Nat))) : EvD K (tSl (rSlA K) ta tNoPart (tPart ti)) σ H (.tuple (xs.take i)) := fun H1 e Q q =>
  h1 H1 e _ fun v H2 e2 dv => h2 H2 (e.trans e2) _ fun H3 e3 => ⟨(i : Nat), rfl, by
    cases dv with
    | @tup a vs _ ha hvs =>
      have lv := dpAll_len hvs
      have ha3 := ex_t e3 ha
      have hvs3 := dpMs e3 _ _ hvs
      refine ⟨a, vs, rfl, ha3, fun hw => ?_, fun hw r hr => ?_⟩
      · have w2 := hw.2
        rw [HT.sIx_nat] at w2
        refine q (.ref a) H3 (e2.trans e3) ?_
        rw [take_all (show xs.length ≤ i by omega)]
        exact .tup ha3 hvs3
      · refine q (.ref r) _ ((e2.trans e3).trans (Ex.new hr)) ?_
        refine .tup (st_of (by rw [upd_same, cut_take])) (dps_take _ (dpMs (Ex.new hr) _ _ hvs3))⟩
theorem dps_drop {K : PySem.W.Frag} {H : Hp} : ∀ {vs : List V} {ds : List PyData} (n : Nat), DpAll K H vs ds → DpAll K H (vs.drop n) (ds.drop n)
  | _, _, 0, h => h
  | _, _, n + 1, .nil => .nil
  | _, _, n + 1, .cons h r => dps_drop n r
theorem ed_drop {i : Nat} (h1 : EvD K ta σ H (.tuple xs)) (h2 : Ev ti σ H (.int (i : Nat))) : EvD K (tSl (rSlA K) ta (tPart ti) tNoPart) σ H (.tuple (xs.drop i)) := fun H1 e Q q =>
  h1 H1 e _ fun v H2 e2 dv => h2 H2 (e.trans e2) _ fun H3 e3 => ⟨(i : Nat), rfl, by
    cases dv with
    | @tup a vs _ ha hvs =>
      have lv := dpAll_len hvs
      have ha3 := ex_t e3 ha
      have hvs3 := dpMs e3 _ _ hvs
      refine ⟨a, vs, rfl, ha3, fun hw => ?_, fun hw r hr => ?_⟩
      · have w1 := hw.1
        rw [HT.sIx_nat] at w1
        refine q (.ref a) H3 (e2.trans e3) ?_
        have e0 : xs.drop i = xs := by
          rcases Nat.eq_zero_or_pos i with z | z
          · rw [z]
            rfl
          · have : xs.length = 0 := by omega
            rw [List.length_eq_zero_iff.mp this]
            simp
        rw [e0]
        exact .tup ha3 hvs3
      · refine q (.ref r) _ ((e2.trans e3).trans (Ex.new hr)) ?_
        refine .tup (st_of (by rw [upd_same, cut_drop])) (dps_drop _ (dpMs (Ex.new hr) _ _ hvs3))⟩
theorem ed_ix {i : Nat} (h1 : EvD K ta σ H (.tuple xs)) (h2 : Ev ti σ H (.int (i : Nat))) (hi : xs[i]? = some d) : EvD K (tOp (rIxT K) ta ti) σ H d := fun H1 e Q q =>
  h1 H1 e _ fun v H2 e2 dv => h2 H2 (e.trans e2) _ fun H3 e3 => by
    cases dv with
    | @tup a vs _ ha hvs =>
      have lv := dpAll_len hvs
      have h0 := (List.getElem?_eq_some_iff.mp hi).1
      have hx : vs[i]? = some (vs[i]'(by omega)) := List.getElem?_eq_getElem _
      obtain ⟨d', h3, h4⟩ := dpAll_at hvs hx
      rw [hi] at h3
      cases h3
      exact ⟨a, vs, (i : Nat), _, rfl, rfl, ex_t e3 ha, atI_nat hx, q _ H3 (e2.trans e3) (dpM e3 _ _ h4)⟩
theorem EvD.mono {H' : Hp} (e : Ex H H') (h : EvD K te σ H d) : EvD K te σ H' d := fun H1 a Q q => h H1 (e.trans a) Q q
theorem s_retD {D : Ends} (h : EvD K te σ H d) (k : ∀ v H1, Ex H H1 → Dp K H1 v d → D.rt v H1) : tRet te D σ H := h H (Ex.refl H) D.rt k
theorem q_asgED {D : Ends} {tz : TS} {i : Nat} (h : EvD K te σ H d) (k : ∀ v H1, Ex H H1 → Dp K H1 v d → tz D (σ.set i (some v)) H1) : tSeq (tAsg te (gName i)) tz D σ H := h H (Ex.refl H) _ k
/-- == and != of data -/
theorem ev_neD {e : PyData} (h1 : EvD K ta σ H d) (h2 : EvD K tb σ H e) (sd : SeqAt.shaped d = true) (se : SeqAt.shaped e = true) : Ev (tOp (rNeD K) ta tb) σ H (.bl (!PyData.eqv d e)) := fun H1 a Q q =>
  h1 H1 a _ fun v H2 e2 dv => h2 H2 (a.trans e2) _ fun u H3 e3 du => ⟨d, e, dpM e3 _ _ dv, du, sd, se, q H3 (e2.trans e3)⟩
theorem ev_eqD {e : PyData} (h1 : EvD K ta σ H d) (h2 : EvD K tb σ H e) (sd : SeqAt.shaped d = true) (se : SeqAt.shaped e = true) : Ev (tOp (rEqD K) ta tb) σ H (.bl (PyData.eqv d e)) := fun H1 a Q q =>
  h1 H1 a _ fun v H2 e2 dv => h2 H2 (a.trans e2) _ fun u H3 e3 du => ⟨d, e, dpM e3 _ _ dv, du, sd, se, q H3 (e2.trans e3)⟩
theorem ed_call {sp : Sp} {ta : TA} {vs : List V} (h : EvA ta σ H vs) (hs : ∀ H1, Ex H H1 → ∀ Q : VK, (∀ v H2, Ex H1 H2 → Dp K H2 v d → Q v H2) → sp (vs ++ []) H1 Q E0) : EvD K (tCall sp [] E0 ta) σ H d := fun H1 e Q q =>
  h H1 e _ fun H2 e2 => hs H2 (e.trans e2) Q fun v H3 e3 dv => q v H3 (e2.trans e3) dv
theorem ed_if {t : TT} {b : Bool} (h : EvT t σ H b) (h1 : b = true → EvD K ta σ H d) (h2 : b = false → EvD K tb σ H d) : EvD K (tIf t ta tb) σ H d := fun H1 e Q q => h H1 e _ fun H2 e2 => by
  cases b with
  | true =>
    show ta σ H2 Q
    exact h1 rfl H2 (e.trans e2) Q fun v H3 e3 dv => q v H3 (e2.trans e3) dv
  | false =>
    show tb σ H2 Q
    exact h2 rfl H2 (e.trans e2) Q fun v H3 e3 dv => q v H3 (e2.trans e3) dv
end
end PZ

set_option Elab.async false
set_option linter.all false
set_option maxRecDepth 100000
set_option maxHeartbeats 8000000
namespace XO
open PySem PySem.Spec PyProof.Rows L2 He XH XV XR PEN TR XQ PZ Evl
/-! order of data, tuples backwards, calls of methods -/
def rLtD (K : PySem.W.Frag) : R2 := fun x y H Q => ∃ d e, Dp K H x d ∧ Dp K H y e ∧ PySem.W.alike d e = true ∧ d ≠ .none ∧ d.depth ≤ 60 ∧ Q (.bl (PySem.W.dataLt d e)) H
theorem op_ltD {X : Cx} (hu : X.A.units + 64 < cLine) : OpR X (compareOp .Lt) (rLtD X.K) := by
  intro pins s σ H x y v u Q I rx ry h
  obtain ⟨d, e, hd, he, al, nn, dp, q⟩ := h
  obtain ⟨as, r1⟩ := Dp.reads I d x v hd rx
  obtain ⟨bs, r2⟩ := Dp.reads I e y u he ry
  exact PySem.W.lt_data r1 r2 al nn (by omega) ⟨.bl _, H, I, rfl, q⟩
theorem ev_ltD {K : PySem.W.Frag} {σ : L2.St} {H : Hp} {ta tb : TE} {d e : PyData} (h1 : EvD K ta σ H d) (h2 : EvD K tb σ H e) (al : PySem.W.alike d e = true) (nn : d ≠ .none) (dp : d.depth ≤ 60) : Ev (tOp (rLtD K) ta tb) σ H (.bl (PySem.W.dataLt d e)) := fun H1 a Q q =>
  h1 H1 a _ fun v H2 e2 dv => h2 H2 (a.trans e2) _ fun u H3 e3 du => ⟨d, e, dpM e3 _ _ dv, du, al, nn, dp, q H3 (e2.trans e3)⟩

theorem places_rev (n : Nat) : Builtin.Slice.slicePlaces ((n : Int) - 1) (-1) (-1) = n := by
  unfold Builtin.Slice.slicePlaces
  have h1 : ¬ ((-1 : Int) > 0) := by decide
  simp only [h1, if_false]
  by_cases h : (n : Int) - 1 > -1
  · rw [if_pos h]
    rw [show (- -1 : Int) = 1 by decide, Int.ediv_one]
    omega
  · rw [if_neg h]
    omega
theorem pick_rev (xs : Array Value) : ((List.range xs.size).filterMap fun (m : Nat) => xs[(((xs.size : Int) - 1) + (m : Int) * (-1)).toNat]?).toArray = xs.toList.reverse.toArray := by
  have e : ((List.range xs.size).filterMap fun (m : Nat) => xs[(((xs.size : Int) - 1) + (m : Int) * (-1)).toNat]?) = ((List.range xs.size).map fun k => xs.size - 1 - k).filterMap (xs[·]?) := by
    rw [List.filterMap_map]
    refine congrArg (fun f => List.filterMap f (List.range xs.size)) (funext fun m => ?_)
    show xs[(((xs.size : Int) - 1) + (m : Int) * (-1)).toNat]? = xs[xs.size - 1 - m]?
    rw [show (((xs.size : Int) - 1) + (m : Int) * (-1)).toNat = xs.size - 1 - m by omega]
  rw [e, PySem.W.krv_range, List.filterMap_reverse, PySem.W.krv_all]
section
variable {prog : Program} {w : World} {A : Around} {E : Value → Shared → Prop} {s : Shared}
theorem sliceApplied_rev {sl : Addr} {vl vu vs : Value} {n : Nat} {Q : Int × Int × Nat → Shared → Prop} (hs : s.heap.IsSliceOf sl vl vu vs) (pl : IsPart vl none) (pu : IsPart vu none) (ps : IsPart vs (some (-1)))
    (h : Q ((n : Int) - 1, -1, n) s) : wpAny (model prog w) A (Builtin.Slice.sliceApplied (.ref sl) (pure (n : Int))) Q E s := by
  obtain ⟨os, hos, hcs, hds⟩ := id hs
  unfold Builtin.Slice.sliceApplied Builtin.Slice.sliceFields
  refine wpAny_bind (wpAny_bind (wpAny_field hos hds (x := vl) rfl (wpAny_bind (wpAny_field hos hds (x := vu) rfl (wpAny_bind (wpAny_field hos hds (x := vs) rfl (wpAny_pure ?_)))))))
  refine wpAny_bind (HT.slicePart_ ps ?_)
  show wpAny _ _ (if ((-1 : Int) == 0) = true then _ else _) _ _ s
  rw [if_neg (by decide)]
  refine wpAny_bind (HT.slicePart_ pl (wpAny_bind (HT.slicePart_ pu (wpAny_bind (wpAny_pure ?_)))))
  show wpAny _ _ (pure ((n : Int) - 1, (-1 : Int), Builtin.Slice.slicePlaces ((n : Int) - 1) (-1) (-1))) _ _ s
  rw [places_rev]
  exact wpAny_pure h
theorem getItem_tuple_rev {t sl : Addr} {items : Array Value} {vl vu vs : Value} {Q : Value → Shared → Prop} (ht : IsTup s.heap t items) (hs : s.heap.IsSliceOf sl vl vu vs) (pl : IsPart vl none) (pu : IsPart vu none) (ps : IsPart vs (some (-1)))
    (h : Q (.ref s.heap.objs.size) { s with heap := s.heap.push { cls := .type "tuple", data := .seq items.toList.reverse.toArray } })
    (hsz : items.size ≤ sizeLine) : wpAny (model prog w) A (getItem (.ref t) (.ref sl)) Q E s := by
  have htake : sizeOk (.seq items.toList.reverse.toArray) := by
    show items.toList.reverse.toArray.size ≤ sizeLine
    rw [List.size_toArray, List.length_reverse, Array.length_toList]
    exact hsz
  obtain ⟨os, hos, hcs, hds⟩ := id hs
  have hTs : s.TypeIs (.ref sl) "slice" := ⟨os, hos, hcs⟩
  unfold getItem
  try with_reducible refine wpAny_holding ?_
  first | refine wpAny_bind (wpAny_pure ?_) | skip
  refine wpAny_bind (wpAny_sequenceKey ht.typeIs (by decide) ?_)
  refine wpAny_bind (wpAny_callSpecial?_slot (name := Str.ofString "__getitem__") ht.typeIs PyProof.Rows.slot_tuple_getitem
    (wpAny_call_entry PyProof.Rows.slot_tuple_getitem ht.typeIs entry_tuple_getitem ?_ (args_tuple_getitem _ _)))
  show wpAny _ _ (Builtin.Tuple.tupleItemsOf (.ref t) >>= _) _ _ s
  refine wpAny_bind (tupleItemsOf_ ht ?_)
  refine wpAny_bind (wpAny_typeOf hTs ?_)
  rw [if_pos (by decide)]
  refine wpAny_bind (sliceApplied_rev hs pl pu ps ?_)
  have hno : ¬ ((((items.size : Int) - 1) == 0 && (-1 : Int) == 1 && items.size == items.size) = true) := by
    rw [show ((-1 : Int) == 1) = false from rfl, Bool.and_false, Bool.false_and]
    exact Bool.false_ne_true
  show wpAny _ _ (if (((items.size : Int) - 1) == 0 && (-1 : Int) == 1 && items.size == items.size) = true then _ else _) _ _ s
  rw [if_neg hno, pick_rev]
  first
    | exact wpAny_bind (m := Builtin.Tuple.tupleExact _) (wpAny_newObj_type (wpAny_pure ⟨_, rfl, wpAny_pure h⟩) htake)
    | exact wpAny_bind (m := Builtin.Tuple.tupleExact _) (wpAny_newObj_type (wpAny_bind (wpAny_pure (wpAny_pure ⟨_, rfl, wpAny_pure h⟩))) htake)
    | exact wpAny_bind (wpAny_bind (m := Builtin.Tuple.tupleExact _) (wpAny_newObj_type (wpAny_pure (wpAny_pure ⟨_, rfl, wpAny_pure h⟩)) htake))
    | exact wpAny_bind (wpAny_bind (m := Builtin.Tuple.tupleExact _) (wpAny_newObj_type (wpAny_pure ⟨_, rfl, wpAny_pure h⟩) htake))
end
def tRevT (K : PySem.W.Frag) (te : TE) : TE := fun σ H Q => te σ H fun x H1 => ∃ a xs, x = .ref a ∧ SqT K H1 a xs ∧ ∀ p, H1 p = none → Q (.ref p) (upd H1 p (.tup xs.reverse))
theorem pe_revT {X : Cx} {e : Expr} {te : TE} {k : Nat} {p1 p2 p3 pos : Pos} (he : PE X e te) : PE X (.Subscript e (.Slice none none (some (.UnaryOp .USub (.Constant (.int 1) k p1) p2)) p3) pos) (tRevT X.K te) := by
  refine ⟨fun pins s σ H Q I h => ?_⟩
  refine Subscript_ (thn (he.run pins s σ H _ I h) fun v s1 ⟨x, H1, I1, r1, q1⟩ => ?_)
  obtain ⟨a, xs, ex, hx, q⟩ := q1
  subst ex
  cases r1
  have hst : PO X (some (.UnaryOp .USub (.Constant (.int 1) k p1) p2)) (tPart (tUn (rU fun i => .int (-i)) (tC (.int 1)))) := po_some (pe_un un_neg pe_int)
  refine wpAny_Slice (thn (po_none.run pins s1 σ H1 (fun o H2 => o = none ∧ H2 = H1) I1 ⟨rfl, rfl⟩) fun vl s2 ⟨l, H2, I2, pl, el, e2⟩ => ?_)
  subst el e2
  refine thn (po_none.run pins s2 σ H2 (fun o H3 => o = none ∧ H3 = H2) I2 ⟨rfl, rfl⟩) fun vu s3 ⟨u, H3, I3, pu, eu, e3⟩ => ?_
  subst eu e3
  refine thn (hst.run pins s3 σ H3 (fun o H4 => o = some (-1) ∧ H4 = H3) I3 ⟨1, rfl, -1, rfl, rfl, rfl⟩) fun vs s4 ⟨o, H4, I4, ps, eo, e4⟩ => ?_
  subst eo e4
  have I5 : Inv X pins σ H4 { s4 with heap := s4.heap.push { cls := .type "slice", data := .fields #[vl, vu, vs] } } := I4.kept (t' := s4.toks) fun b ob q => Heap.get?_push_of_some _ q
  obtain ⟨its, r, ht, hz⟩ := I5.tuple hx
  have hlen : its.toArray.size = xs.length := by rw [List.size_toArray]; exact r.length.symm
  show wpAny (model X.prog X.w) X.A (subscriptTail e (.Slice none none (some (.UnaryOp .USub (.Constant (.int 1) k p1) p2)) p3) (.ref a) (.ref s4.heap.objs.size)) (EP X pins σ Q) X.xe { s4 with heap := s4.heap.push { cls := .type "slice", data := .fields #[vl, vu, vs] } }
  refine tail_any (ops := [.ref a, .ref s4.heap.objs.size]) ht.typeIs PyProof.Rows.slot_tuple_getitem.lookup ?_ (by with_unfolding_all rfl)
  refine getItem_tuple_rev ht (Heap.IsSliceOf.new _ vl vu vs) pl pu ps ?_ (by rw [hlen]; exact hz)
  refine ⟨.ref _, _, I5.laid (t' := s4.toks) (o := .tup xs.reverse) (fun b ob q => Heap.get?_push_of_some _ q) (Nat.le_refl _) ?_, rfl, q _ (I5.hok.fresh (Nat.le_refl _))⟩
  exact ⟨by rw [List.length_reverse]; omega, _, r.reverse, IsTup.new _ _⟩
theorem dps_rev {K : PySem.W.Frag} {H : Hp} : ∀ {vs : List V} {ds : List PyData}, DpAll K H vs ds → DpAll K H vs.reverse ds.reverse
  | _, _, .nil => .nil
  | _, _, .cons h r => by
    rw [List.reverse_cons, List.reverse_cons]
    exact dpAll_app (dps_rev r) (.cons h .nil)
theorem ed_rev {K : PySem.W.Frag} {σ : L2.St} {H : Hp} {ta : TE} {xs : List PyData} (h : EvD K ta σ H (.tuple xs)) : EvD K (tRevT K ta) σ H (.tuple xs.reverse) := fun H1 a Q q =>
  h H1 a _ fun v H2 e2 dv => by
    cases dv with
    | @tup b vs _ hb hvs =>
      refine ⟨b, vs, rfl, hb, fun p hp => q (.ref p) _ (e2.trans (Ex.new hp)) ?_⟩
      exact .tup (st_of upd_same) (dps_rev (dpMs (Ex.new hp) _ _ hvs))
theorem ev_meth {σ : L2.St} {H : Hp} {ta : TE} {t : TA} {C a dx : Addr} {m : Str} {fs : List (Str × V)} {vs : List V} {v : V} {sp : Sp} {E : XK} (h : Ev ta σ H (.ref a)) (hi : H a = some (.ins C dx fs)) (l : fs.lookup m = none) (ht : EvA t σ H vs)
    (hs : ∀ H1, Ex H H1 → ∀ Q : VK, (∀ H2, Ex H1 H2 → Q v H2) → sp (.ref a :: (vs ++ [])) H1 Q E) : Ev (tMeth C m sp [] E ta t) σ H v := fun H1 e Q q =>
  h H1 e _ fun H2 e2 => ⟨a, dx, fs, rfl, (e.trans e2) _ _ hi, l, ht H2 (e.trans e2) _ fun H3 e3 => hs H3 ((e.trans e2).trans e3) Q fun H4 e4 => q H4 ((e2.trans e3).trans e4)⟩
/-! ### trees that are trimmed -/
theorem keepN_keep {α : Type} (p : α → Bool) (l : List α) : keepN p (l.take (keepN p l)) = keepN p l := by
  have key : ∀ n, n = l.length → keepN p (l.take (keepN p l)) = keepN p l := by
    intro n
    induction n generalizing l with
    | zero =>
      intro h
      rw [List.length_eq_zero_iff.mp h.symm]
      rfl
    | succ n ih =>
      intro h
      obtain ⟨r, x, rfl⟩ : ∃ r x, l = r ++ [x] := by
        rcases List.eq_nil_or_concat l with z | ⟨r, x, z⟩
        · rw [z] at h
          cases h
        · exact ⟨r, x, by rw [z]; simp⟩
      rw [keepN_app]
      cases q : p x with
      | true =>
        rw [if_pos rfl, List.take_append_of_le_length (keepN_le p r)]
        exact ih r (by rw [List.length_append] at h; simpa using h)
      | false =>
        rw [if_neg Bool.false_ne_true, List.take_of_length_le (by rw [List.length_append]; exact Nat.le_refl _), keepN_app, q, if_neg Bool.false_ne_true]
  exact key _ rfl
theorem short_short {α : Type} (p : α → Bool) (l : List α) : short p (short p l) = short p l := by
  unfold short
  rw [keepN_keep, List.take_take, Nat.min_self]
mutual
theorem trim_trim {B C : Nat} : ∀ {d : PyData}, Bd B C d → trim (trim d) = trim d
  | _, .mk (bs := bs) (ks := ks) rfl _ _ _ hk => by
    rw [trim_nd, trim_nd, short_short]
    have e1 : trimL (short isN (trimL ks)) = short isN (trimL ks) := by
      unfold short
      rw [trimL_map (List.take _ _), List.map_take, ← trimL_map (trimL ks), trimL_trimL hk]
    rw [e1, short_short]
theorem trimL_trimL {B C : Nat} : ∀ {ks : List PyData}, BdL B C ks → trimL (trimL ks) = trimL ks
  | _, .nil => by simp [trimL]
  | _, .non r => by simp [trimL, trim_non, trimL_trimL r]
  | _, .one h r => by simp [trimL, trim_trim h, trimL_trimL r]
end
end XO

set_option Elab.async false
set_option linter.all false
set_option maxRecDepth 100000
set_option maxHeartbeats 4000000
/-! Reading the spelling of a puzzle: rules for replaced texts and their words, and the mathematics of the words of a spelling. -/
namespace RP
open PySem PySem.Spec PyProof.Rows L2 He XH XV XR PEN TR XQ PZ Evl StrLaws
/-! ### rules -/
theorem FunD.okT {P : Program} {w : World} {K : PySem.W.Frag} {mg : Str → Option Value} {base : Heap} {x qual : Str} {params : Arguments} {body : List Stmt} {scope : Scope} {dvs : List V} {kws : List (Str × V)} {f : Addr} {fd : FuncData}
    {CX : CXT} {N ps : List Str} {k : Nat} {sp : Sp} (F : FunD K x qual params body scope dvs kws f fd) (S : FnScope N ps scope) (hnc : ∀ y ∈ scope.names, y.2 ≠ .cell) (hps : 1 ≤ ps.length) (len : ∀ vs H Q E, sp vs H Q E → vs.length = ps.length)
    (hbody : ∀ (cdv : Value) (A : Around) (outer : List Env) (s : Shared) (H : Hp) (vs : List V) (Q : VK) (E : XK), Room k (A.deeper (envOfC qual scope s.heap.objs.size f cdv)) → sp vs H Q E →
      ∃ t, PSsT (cxOf CX P w K mg base N qual scope f cdv A outer s H E) body t ∧ t { nx := fun _ H' => Q .non H', rt := Q } (start N vs) H) : FnOk P w K mg base CX (k + 1) f fd ps sp := by
  obtain ⟨oc, od, dV, kV, doc, pm, an, cdv, ct, osl, rfl, lk, hcd, _, _⟩ := F.ex
  exact fn_ofT lk hcd S hnc hps len fun A outer s H vs Q E hr hsp => hbody cdv A outer s H vs Q E hr hsp
theorem pst_set {X : Cx} {i : Nat} {x : Str} {e : Expr} {te : TE} {pos pos' : Pos} (hN : X.N.Nodup) (hi : X.N[i]? = some x) (hx : Loc X.env.scope x) (he : PET X e te) (hs : swapsWith e (some (.Name x pos')) pos.line X.env = pure false := by rfl) (hf : X.fn x = true ∨ X.env.scope.names.lookup x = some .local := by first | exact .inl rfl | exact .inr rfl | assumption) :
    PST X (.Assign [.Name x pos'] e pos) (tAsg te (gName i)) := by
  intro pins s σ H D h0 I h
  refine wpAny_Assign_Name (thn (he pins s σ H _ h0 I h) fun v s1 ⟨y, H1, I1, r1, q1⟩ => ?_) hs
  exact store_ok I1 hN hi hx r1 (fun s2 I2 => ⟨_, H1, I2, q1⟩) hf
theorem pet_words {X : Cx} {o : Expr} {to : TE} {apos pos : Pos} (ho : PET X o to) (hbase : attributeBase o "split" X.env (eval o X.env) = eval o X.env := by rfl) (hline : (apos.endLine == pos.line) = true := by rfl) :
    PET X (.Call (.Attribute o "split" apos) [] [] pos) (tM0 (fun x xs H Q => ∃ a, x = .str a ∧ xs = [] ∧ a.length + 2 ≤ sizeLine ∧ rNewStrs (Txt.words a) H Q) to) := by
  intro pins s σ H Q h0 I h
  refine PySem.Call_method0 hbase hline (thn (ho pins s σ H _ h0 I h) fun v s1 ⟨x, H1, I1, r1, q1⟩ => ?_)
  obtain ⟨⟨a, rfl⟩, q1⟩ := q1
  obtain ⟨t, rfl⟩ := _root_.id r1
  exact ⟨"str", _, F.plainAttrs_str, F.slot_str_split, F.type_str_split, typeIs_str _ _ _, (fun _ e => nomatch e), Calls.callWith_builtin rfl (PySem.evalArgs_none (mt_words pins s1 σ H1 _ [] _ [] Q I1 r1 .nil q1))⟩
/-! ### a text with signs put in the place of signs -/
theorem replL_one (c : Nat) (z : List Nat) : ∀ l : List Nat, replL [c] z l = l.flatMap fun x => if x = c then z else [x]
  | [] => replL_nil
  | x :: r => by
    by_cases h : x = c
    · subst h
      rw [replL_hit (by simp) (by simp), List.flatMap_cons, if_pos rfl]
      show z ++ replL [x] z r = _
      rw [replL_one x z r]
    · rw [replL_miss (by simp [h]), List.flatMap_cons, if_neg h, replL_one c z r]
      rfl
def subOne (c : Nat) : List Nat := if c = 40 then [32, 40, 32] else if c = 41 then [32, 41, 32] else if c = 44 then [32] else [c]
def sub (l : List Nat) : List Nat := l.flatMap subOne
theorem sub_app (a b : List Nat) : sub (a ++ b) = sub a ++ sub b := List.flatMap_append
theorem sub_cons (c : Nat) (r : List Nat) : sub (c :: r) = subOne c ++ sub r := List.flatMap_cons
def subT (x : Str) : Str := Txt.replace (Txt.replace (Txt.replace x "(" " ( ") ")" " ) ") "," " "
theorem subT_cd (x : Str) : cd (subT x) = sub (cd x) := by
  have h1 : cd (Txt.replace x "(" " ( ") = (cd x).flatMap fun y => if y = 40 then [32, 40, 32] else [y] := by
    show (Txt.replace x "(" " ( ").cps.toList = _
    rw [replace_list (by decide +kernel)]
    exact replL_one 40 [32, 40, 32] _
  have h2 : cd (Txt.replace (Txt.replace x "(" " ( ") ")" " ) ") = (cd (Txt.replace x "(" " ( ")).flatMap fun y => if y = 41 then [32, 41, 32] else [y] := by
    show (Txt.replace _ ")" " ) ").cps.toList = _
    rw [replace_list (by decide +kernel)]
    exact replL_one 41 [32, 41, 32] _
  have h3 : cd (subT x) = (cd (Txt.replace (Txt.replace x "(" " ( ") ")" " ) ")).flatMap fun y => if y = 44 then [32] else [y] := by
    show (Txt.replace _ "," " ").cps.toList = _
    rw [replace_list (by decide +kernel)]
    exact replL_one 44 [32] _
  rw [h3, h2, h1]
  generalize cd x = l
  induction l with
  | nil => rfl
  | cons c r ih =>
    rw [sub_cons, ← ih, List.flatMap_cons, List.flatMap_append, List.flatMap_append]
    congr 1
    unfold subOne
    by_cases a : c = 40
    · subst a; rfl
    · by_cases b : c = 41
      · subst b; rfl
      · by_cases d : c = 44
        · subst d; rfl
        · simp [a, b, d]
theorem sub_len (l : List Nat) : (sub l).length ≤ 3 * l.length := by
  induction l with
  | nil => exact Nat.le_refl _
  | cons c r ih =>
    rw [sub_cons, List.length_append, List.length_cons]
    have : (subOne c).length ≤ 3 := by
      unfold subOne
      repeat' split
      all_goals simp
    omega
theorem len_cd (z : Str) : z.length = (cd z).length := by
  show z.cps.size = _
  simp [cd]
/-! ### words by codes -/
abbrev WS := List (List Nat) × List Nat
def stp (st : WS) (c : Nat) : WS := if Unicode.isSpace c = true then (if st.2.length = 0 then st else (st.1 ++ [st.2], [])) else (st.1, st.2 ++ [c])
def fin (st : WS) : List (List Nat) := if st.2.length = 0 then st.1 else st.1 ++ [st.2]
def scn (st : WS) (l : List Nat) : WS := l.foldl stp st
theorem scn_app (st : WS) (a b : List Nat) : scn st (a ++ b) = scn (scn st a) b := List.foldl_append
def codes (st : KWd.St) : WS := (st.1.map cd, cd st.2)
theorem codes_step (st : KWd.St) (c : Nat) : codes (KWd.step st c) = stp (codes st) c := by
  unfold KWd.step stp codes
  by_cases h : Unicode.isSpace c = true
  · rw [if_pos h, if_pos h]
    by_cases k : st.2.length = 0
    · rw [if_pos k, if_pos (by rw [← len_cd]; exact k)]
    · rw [if_neg k, if_neg (by rw [← len_cd]; exact k), List.map_append]
      rfl
  · rw [if_neg h, if_neg h, app_cd]
    rfl
theorem codes_fold (l : List Nat) : ∀ st : KWd.St, codes (l.foldl KWd.step st) = scn (codes st) l := by
  induction l with
  | nil => intro st; rfl
  | cons c r ih =>
    intro st
    show codes (r.foldl KWd.step (KWd.step st c)) = scn (stp (codes st) c) r
    rw [ih, codes_step]
theorem words_cd (x : Str) : (Txt.words x).map cd = fin (scn ([], []) (cd x)) := by
  rw [KWd.words_scan]
  have e : codes (KWd.scan x) = scn ([], []) (cd x) := codes_fold _ _
  rw [← e]
  unfold KWd.fin fin codes
  dsimp only
  by_cases k : (KWd.scan x).2.length = 0
  · rw [if_pos k, if_pos (by rw [← len_cd]; exact k)]
  · rw [if_neg k, if_neg (by rw [← len_cd]; exact k), List.map_append]
    rfl
theorem stp_flush (st : WS) : stp st 32 = (fin st, []) := by
  have h : Unicode.isSpace 32 = true := by decide +kernel
  unfold stp fin
  rw [if_pos h]
  obtain ⟨a, b⟩ := st
  dsimp only
  by_cases k : b.length = 0
  · rw [if_pos k, if_pos k, List.length_eq_zero_iff.mp k]
  · rw [if_neg k, if_neg k]
def plain (c : Nat) : Prop := c = 46 ∨ c = 48 ∨ c = 49 ∨ c = 45 ∨ c = 40 ∨ c = 41
theorem stp_plain {c : Nat} (h : plain c) (st : WS) : stp st c = (st.1, st.2 ++ [c]) := by
  have k : Unicode.isSpace c = false := by
    rcases h with rfl | rfl | rfl | rfl | rfl | rfl <;> decide +kernel
  unfold stp
  rw [k, if_neg Bool.false_ne_true]
theorem scn_plain : ∀ (l : List Nat), (∀ c ∈ l, plain c) → ∀ st : WS, scn st l = (st.1, st.2 ++ l)
  | [], _, st => by
    show st = _
    rw [List.append_nil]
  | c :: r, h, st => by
    show scn (stp st c) r = _
    rw [stp_plain (h c List.mem_cons_self), scn_plain r (fun x hx => h x (List.mem_cons_of_mem _ hx)), List.append_assoc]
    rfl
theorem dgc_plain (bs : List Int) : ∀ c ∈ dgc bs, c = 46 ∨ c = 48 ∨ c = 49 := fun c hc => by
  unfold dgc at hc
  by_cases e : bs = []
  · rw [if_pos e] at hc
    exact .inl (List.mem_singleton.mp hc)
  · rw [if_neg e] at hc
    obtain ⟨b, _, rfl⟩ := List.mem_map.mp hc
    rcases dg_two b with q | q
    · exact .inr (.inl q)
    · exact .inr (.inr q)
theorem sub_same : ∀ (l : List Nat), (∀ c ∈ l, c = 46 ∨ c = 48 ∨ c = 49 ∨ c = 45) → sub l = l
  | [], _ => rfl
  | c :: r, h => by
    rw [sub_cons, sub_same r fun x hx => h x (List.mem_cons_of_mem _ hx)]
    rcases h c List.mem_cons_self with rfl | rfl | rfl | rfl <;> rfl
/-! ### the words of a spelling -/
mutual
def toks : PyData → List (List Nat)
  | .tuple [.tuple bs, .tuple ks] => [dgc (bs.map intOf)] ++ (if ks = [] then [] else [[40]] ++ toksL ks ++ [[41]])
  | _ => [[45]]
def toksL : List PyData → List (List Nat)
  | [] => []
  | k :: r => toks k ++ toksL r
end
theorem toks_nd (bs : List Int) (ks : List PyData) : toks (nd bs ks) = [dgc bs] ++ (if ks = [] then [] else [[40]] ++ toksL ks ++ [[41]]) := by
  simp only [nd, toks, ints_of]
theorem toks_non : toks .none = [[45]] := by simp [toks]
theorem dgc_ne (bs : List Int) : (dgc bs).length ≠ 0 := by
  obtain ⟨c, r, e, _⟩ := dgc_head bs
  rw [e]
  simp
theorem fin_run (ws : List (List Nat)) (l : List Nat) (h : l.length ≠ 0) : fin (ws, l) = ws ++ [l] := by
  unfold fin
  rw [if_neg h]
theorem fin_nil (ws : List (List Nat)) : fin (ws, []) = ws := rfl
theorem scn_one (st : WS) (c : Nat) : scn st [c] = stp st c := rfl
theorem scn_flush (st : WS) (l : List Nat) : scn st (32 :: l) = scn (fin st, []) l := by
  show scn (stp st 32) l = _
  rw [stp_flush]
theorem scn_mark (st : WS) (c : Nat) (h : plain c) (l : List Nat) : scn st ([32, c, 32] ++ l) = scn (fin st ++ [[c]], []) l := by
  show scn st (32 :: (c :: 32 :: l)) = _
  rw [scn_flush]
  show scn (stp (fin st, []) c) (32 :: l) = _
  rw [stp_plain h, scn_flush]
  rfl
mutual
theorem scn_toks {B C : Nat} : ∀ {d : PyData}, Bd B C d → ∀ ws : List (List Nat), fin (scn (ws, []) (sub (cd (spell d)))) = ws ++ toks d
  | _, .mk (bs := bs) (ks := ks) rfl h1 h2 h3 hk => fun ws => by
    have e := spell_cd (.mk rfl h1 h2 h3 hk : Bd B C (nd bs ks)) []
    rw [List.append_nil] at e
    have sd : sub (dgc bs) = dgc bs := sub_same _ fun c hc => by
      rcases dgc_plain bs c hc with q | q | q
      · exact .inl q
      · exact .inr (.inl q)
      · exact .inr (.inr (.inl q))
    have pd : ∀ c ∈ dgc bs, plain c := fun c hc => by
      rcases dgc_plain bs c hc with q | q | q
      · exact .inl q
      · exact .inr (.inl q)
      · exact .inr (.inr (.inl q))
    rw [e, sub_app, sd, scn_app, scn_plain _ pd, toks_nd]
    unfold PZ.rest
    by_cases e0 : ks = []
    · rw [if_pos e0, if_pos e0]
      show fin (ws, [] ++ dgc bs) = _
      rw [List.nil_append, fin_run _ _ (dgc_ne bs), List.append_nil]
    · rw [if_neg e0, if_neg e0, sub_cons]
      show fin (scn _ ([32, 40, 32] ++ sub _)) = _
      rw [scn_mark _ _ (by simp [plain]), List.nil_append, fin_run _ _ (dgc_ne bs), sub_app, scn_app, sub_cons]
      show fin (scn (scn _ _) ([32, 41, 32] ++ sub [])) = _
      rw [scn_mark _ _ (by simp [plain]), scn_toksL hk e0]
      show fin ((ws ++ [dgc bs] ++ [[40]] ++ toksL ks ++ [[41]], []) : WS) = _
      rw [fin_nil]
      simp
theorem scn_toksL {B C : Nat} : ∀ {ks : List PyData}, BdL B C ks → ks ≠ [] → ∀ ws : List (List Nat), fin (scn (ws, []) (sub (TL.joinL [44] ((spellL ks).map cd)))) = ws ++ toksL ks
  | _, .nil => fun h => absurd rfl h
  | _, .non (ks := r) hr => fun _ ws => by
    simp only [spellL, List.map_cons]
    rw [joinL_cons, none_cd, toksL, toks_non]
    have one : scn (ws, []) (sub [45]) = (ws, [45]) := by
      show stp (ws, []) 45 = _
      rw [stp_plain (by simp [plain])]
      rfl
    rw [sub_app, scn_app, one]
    cases r with
    | nil => simp [sub, scn, fin, spellL, toksL]
    | cons k r =>
      rw [if_neg (by simp [spellL]), sub_cons]
      show fin (scn _ (32 :: sub _)) = _
      rw [scn_flush, fin_run ws [45] (by simp), scn_toksL hr (by simp)]
      simp
  | _, .one (k := k) (ks := r) hk hr => fun _ ws => by
    simp only [spellL, List.map_cons]
    rw [joinL_cons, toksL, sub_app, scn_app]
    have h0 := scn_toks hk ws
    cases r with
    | nil =>
      rw [if_pos (by simp [spellL])]
      show fin (scn (ws, []) (sub (cd (spell k)))) = _
      rw [h0]
      simp [toksL]
    | cons k' r =>
      rw [if_neg (by simp [spellL]), sub_cons]
      show fin (scn _ (32 :: sub _)) = _
      rw [scn_flush, h0, scn_toksL hr (by simp)]
      simp
end
theorem words_spell {B C : Nat} {d : PyData} (h : Bd B C d) : (Txt.words (subT (spell d))).map cd = toks d := by
  rw [words_cd, subT_cd, scn_toks h]
  rfl
end RP

set_option Elab.async false
set_option linter.all false
set_option maxRecDepth 100000
set_option maxHeartbeats 4000000
/-! What reading does, word by word from the last one, and what may follow what. -/
namespace RP
open PySem PySem.Spec PyProof.Rows L2 He XH XV XR PEN TR XQ PZ Evl StrLaws
theorem sizeL_short_eq : ∀ ks : List PyData, sizeL (short isN ks) = sizeL ks ∧ deepL (short isN ks) = deepL ks := by
  intro ks
  have key : ∀ n, ∀ ks : List PyData, n = ks.length → sizeL (short isN ks) = sizeL ks ∧ deepL (short isN ks) = deepL ks := by
    intro n
    induction n with
    | zero =>
      intro ks h
      rw [List.length_eq_zero_iff.mp h.symm]
      exact ⟨rfl, rfl⟩
    | succ n ih =>
      intro ks h
      rcases List.eq_nil_or_concat ks with z | ⟨r, x, z⟩
      · rw [z] at h
        cases h
      · have e : ks = r ++ [x] := by rw [z]; simp
        subst e
        have hr : n = r.length := by
          rw [List.length_append] at h
          simpa using h
        unfold short
        rw [keepN_app]
        cases q : isN x with
        | true =>
          have e0 : x = .none := by cases x <;> first | rfl | cases q
          rw [if_pos rfl, List.take_append_of_le_length (keepN_le _ r)]
          obtain ⟨h1, h2⟩ := ih r hr
          unfold short at h1 h2
          rw [h1, h2, sizeL_app, deepL_app, e0]
          simp [sizeL, deepL, size_non, deep_non]
        | false =>
          rw [if_neg Bool.false_ne_true, List.take_of_length_le (by rw [List.length_append]; exact Nat.le_refl _)]
          exact ⟨rfl, rfl⟩
  exact key _ ks rfl
mutual
theorem trim_eq {B C : Nat} : ∀ {d : PyData}, Bd B C d → size (trim d) = size d ∧ deep (trim d) = deep d
  | _, .mk (bs := bs) (ks := ks) rfl _ _ _ hk => by
    obtain ⟨h1, h2⟩ := trimL_eq hk
    obtain ⟨g1, g2⟩ := sizeL_short_eq (trimL ks)
    rw [trim_nd, size_nd, size_nd, deep_nd, deep_nd, g1, g2, h1, h2]
    exact ⟨rfl, rfl⟩
theorem trimL_eq {B C : Nat} : ∀ {ks : List PyData}, BdL B C ks → sizeL (trimL ks) = sizeL ks ∧ deepL (trimL ks) = deepL ks
  | _, .nil => ⟨rfl, rfl⟩
  | _, .non r => by
    obtain ⟨h1, h2⟩ := trimL_eq r
    simp only [trimL, sizeL, deepL, trim_non, h1, h2]
    exact ⟨trivial, trivial⟩
  | _, .one h r => by
    obtain ⟨h1, h2⟩ := trimL_eq r
    obtain ⟨g1, g2⟩ := trim_eq h
    simp only [trimL, sizeL, deepL, g1, g2, h1, h2]
    exact ⟨trivial, trivial⟩
end
def Bad (ch : List PyData) : Prop := 500 < 1 + sizeL (short isN ch) ∨ 30 < 1 + deepL (short isN ch)
inductive Good (tg : Option PyData) : List (List PyData) → List PyData → List (List Nat) → Prop
  | nil {fs : List (List PyData)} {ch : List PyData} {t : PyData} : tg = some t → fs = [[t]] → Good tg fs ch []
  | close {fs : List (List PyData)} {ch : List PyData} {r : List (List Nat)} : Good tg (fs ++ [[]]) ch r → Good tg fs ch ([41] :: r)
  | opens {fs S : List (List PyData)} {f ch : List PyData} {r : List (List Nat)} : fs = S ++ [f] → Good tg S f.reverse r → Good tg fs ch ([40] :: r)
  | dash {fs S : List (List PyData)} {f ch : List PyData} {r : List (List Nat)} : fs = S ++ [f] → Good tg (S ++ [f ++ [.none]]) ch r → Good tg fs ch ([45] :: r)
  | node {fs S : List (List PyData)} {f ch : List PyData} {r : List (List Nat)} {bs : List Int} : fs = S ++ [f] → bs.length ≤ 60 → (∀ b ∈ bs, b = 0 ∨ b = 1) → ch.length ≤ 600 → ¬ Bad ch →
      Good tg (S ++ [f ++ [nd (short isZ bs) (short isN ch)]]) [] r → Good tg fs ch (dgc bs :: r)
  | great {fs S : List (List PyData)} {f ch : List PyData} {r : List (List Nat)} {bs : List Int} : fs = S ++ [f] → bs.length ≤ 60 → (∀ b ∈ bs, b = 0 ∨ b = 1) → ch.length ≤ 600 → Bad ch → tg = none → Good tg fs ch (dgc bs :: r)
def Ok (d : PyData) : Prop := size d ≤ 500 ∧ deep d ≤ 30
theorem ok_kids {bs : List Int} {ks : List PyData} (h : Ok (nd bs ks)) : ∀ k ∈ ks, Ok k := fun k hk => by
  obtain ⟨h1, h2⟩ := h
  rw [size_nd] at h1
  rw [deep_nd] at h2
  have := sizeL_at hk
  have := deepL_at hk
  exact ⟨by omega, by omega⟩
theorem trimL_len (ks : List PyData) : (trimL ks).length = ks.length := by rw [trimL_map, List.length_map]
theorem bad_iff {B C : Nat} {bs : List Int} {ks : List PyData} (h : BdL B C ks) : Bad (trimL ks) ↔ ¬ Ok (nd bs ks) := by
  obtain ⟨g1, g2⟩ := sizeL_short_eq (trimL ks)
  obtain ⟨h1, h2⟩ := trimL_eq h
  unfold Bad Ok
  rw [g1, g2, h1, h2, size_nd, deep_nd]
  omega
mutual
theorem good_tree {C : Nat} (hC : C ≤ 600) {tg : Option PyData} : ∀ {d : PyData}, Bd 60 C d → ∀ (S : List (List PyData)) (f ch : List PyData) (r : List (List Nat)), (ch = [] ) →
    (Ok d → Good tg (S ++ [f ++ [trim d]]) [] r → Good tg (S ++ [f]) ch ((toks d).reverse ++ r)) ∧ (¬ Ok d → tg = none → Good tg (S ++ [f]) ch ((toks d).reverse ++ r))
  | _, .mk (bs := bs) (ks := ks) rfl h1 h2 h3 hk => fun S f ch r hch => by
    rw [toks_nd, trim_nd]
    have lk := trimL_len ks
    by_cases e0 : ks = []
    · subst e0
      rw [if_pos rfl, List.append_nil, hch]
      have hok : Ok (nd bs []) := by
        unfold Ok
        rw [size_nd, deep_nd]
        simp [sizeL, deepL]
      refine ⟨fun _ h => ?_, fun h => absurd hok h⟩
      refine .node rfl h1 h2 (by simp) ?_ h
      unfold Bad
      simp [short, keepN, sizeL, deepL]
    · rw [if_neg e0]
      have er : ([dgc bs] ++ ([[40]] ++ toksL ks ++ [[41]])).reverse ++ r = [41] :: ((toksL ks).reverse ++ ([40] :: (dgc bs :: r))) := by simp
      rw [er]
      have hl := good_list hC (tg := tg) hk (S ++ [f]) [] ([40] :: (dgc bs :: r)) ch hch
      by_cases hkids : ∀ k ∈ ks, k = .none ∨ Ok k
      · have key : Good tg (S ++ [f]) (trimL ks) (dgc bs :: r) → Good tg (S ++ [f]) ch ([41] :: ((toksL ks).reverse ++ ([40] :: (dgc bs :: r)))) := fun h => by
          refine .close (hl.1 hkids ?_)
          rw [List.nil_append]
          refine .opens rfl ?_
          rw [List.reverse_reverse]
          exact h
        refine ⟨fun hok h => key (.node rfl h1 h2 (by omega) (fun hb => (bad_iff (bs := bs) hk).mp hb hok) h), fun hno ht => key (.great rfl h1 h2 (by omega) ((bad_iff (bs := bs) hk).mpr hno) ht)⟩
      · refine ⟨fun hok _ => absurd (fun k hk2 => .inr (ok_kids hok k hk2)) hkids, fun _ ht => .close (hl.2 hkids ht)⟩
theorem good_list {C : Nat} (hC : C ≤ 600) {tg : Option PyData} : ∀ {ks : List PyData}, BdL 60 C ks → ∀ (S : List (List PyData)) (f : List PyData) (r : List (List Nat)) (ch : List PyData), ch = [] →
    ((∀ k ∈ ks, k = .none ∨ Ok k) → Good tg (S ++ [f ++ (trimL ks).reverse]) [] r → Good tg (S ++ [f]) ch ((toksL ks).reverse ++ r)) ∧ (¬ (∀ k ∈ ks, k = .none ∨ Ok k) → tg = none → Good tg (S ++ [f]) ch ((toksL ks).reverse ++ r))
  | _, .nil => fun S f r ch hch => by
    refine ⟨fun _ h => ?_, fun h => absurd (fun k hk => nomatch hk) h⟩
    rw [hch]
    simpa [trimL, toksL] using h
  | _, .non (ks := ks) hr => fun S f r ch hch => by
    have h0 := good_list hC (tg := tg) hr S f ([45] :: r) ch hch
    have e : (toksL (.none :: ks)).reverse ++ r = (toksL ks).reverse ++ ([45] :: r) := by
      simp [toksL, toks_non]
    rw [e]
    refine ⟨fun hk h => h0.1 (fun k hk2 => hk k (List.mem_cons_of_mem _ hk2)) (.dash rfl ?_), fun hk ht => h0.2 (fun hall => hk fun k hk2 => ?_) ht⟩
    · have e2 : f ++ (trimL ks).reverse ++ [PyData.none] = f ++ (trimL (.none :: ks)).reverse := by simp [trimL, trim_non]
      rw [e2]
      exact h
    · rcases List.mem_cons.mp hk2 with z | z
      · exact .inl z
      · exact hall k z
  | _, .one (k := k0) (ks := ks) hb hr => fun S f r ch hch => by
    have h0 := good_list hC (tg := tg) hr S f ((toks k0).reverse ++ r) ch hch
    have h1 := good_tree hC (tg := tg) hb S (f ++ (trimL ks).reverse) [] r rfl
    have e : (toksL (k0 :: ks)).reverse ++ r = (toksL ks).reverse ++ ((toks k0).reverse ++ r) := by
      simp [toksL]
    rw [e]
    have nk : k0 ≠ .none := hb.ne
    refine ⟨fun hk h => h0.1 (fun k hk2 => hk k (List.mem_cons_of_mem _ hk2)) (h1.1 ((hk k0 List.mem_cons_self).resolve_left nk) ?_), fun hk ht => ?_⟩
    · have e2 : f ++ (trimL ks).reverse ++ [trim k0] = f ++ (trimL (k0 :: ks)).reverse := by simp [trimL]
      rw [e2]
      exact h
    · by_cases hall : ∀ k ∈ ks, k = .none ∨ Ok k
      · refine h0.1 hall (h1.2 (fun hok => hk fun k hk2 => ?_) ht)
        rcases List.mem_cons.mp hk2 with z | z
        · rw [z]
          exact .inr hok
        · exact hall k z
      · exact h0.2 hall ht
end
theorem good_ok {C : Nat} (hC : C ≤ 600) {d : PyData} (h : Bd 60 C d) (hok : Ok d) : Good (some (trim d)) [[]] [] (toks d).reverse := by
  have k := (good_tree hC (tg := some (trim d)) h [] [] [] [] rfl).1 hok (.nil rfl rfl)
  simpa using k
theorem good_no {C : Nat} (hC : C ≤ 600) {d : PyData} (h : Bd 60 C d) (hok : ¬ Ok d) : Good none [[]] [] (toks d).reverse := by
  have k := (good_tree hC (tg := none) h [] [] [] [] rfl).2 hok rfl
  simpa using k
/-! ### d.get(x, y), d a table of the top -/
def tKGet2 (K : PySem.W.Frag) (w : World) (td ty tz : TE) : TE := fun σ H Q => td σ H fun x H1 => ∃ (a : Addr) (es : Array DictEntry) (n : Nat), x = .ref a ∧ KDict K w a es n ∧ ty σ H1 fun y H2 => tz σ H2 fun y2 H3 => ∃ (z : Str), y = .str z ∧ ((PySem.W.nsIn K a z = some none ∧ Q y2 H3) ∨ ∃ u v, PySem.W.nsIn K a z = some (some u) ∧ RelV v u ∧ Q v H3)
theorem pe_kget2 {X : Cx} {o e f : Expr} {apos cpos : Pos} {td ty tz : TE} (ho : PE X o td) (he : PE X e ty) (hf : PE X f tz) (m : M2 X o "get" apos e f cpos) : PE X (.Call (.Attribute o "get" apos) [e, f] [] cpos) (tKGet2 X.K X.w td ty tz) := by
  refine ⟨fun pins s σ H Q I h => ?_⟩
  refine wpAny_Call_method m.base m.few m.line PySem.F.plainAttrs_dict PySem.F.slot_dict_get PySem.F.type_dict_get (thn (ho.run pins s σ H _ I h) fun u s1 ⟨x, H1, I1, rx, a, es, n, ex, D, q1⟩ => ?_)
  subst ex
  cases (show u = Value.ref a from rx)
  refine ⟨kd_type D I1, fun b q => ?_, ?_⟩
  · cases q
    exact ⟨_, I1.kIn _ _ D.at_, rfl⟩
  rw [m.trees]
  refine Calls.callWith_builtin rfl (Calls.evalArgs_plain (Calls.spliced_cons (thn (he.run pins s1 σ H1 _ I1 q1) fun iv s2 ⟨y, H2, I2, ry, q2⟩ => Calls.spliced_cons (thn (hf.run pins s2 σ H2 _ I2 q2) fun fv s3 ⟨y2, H3, I3, rz, z, ey, q3⟩ => Calls.spliced_nil ?_))))
  subst ey
  obtain ⟨t, rfl⟩ := (show ∃ t, iv = Value.str z t from ry)
  have mp := PySem.W.mapOf_K (prog := X.prog) (w := X.w) I3.kIn D.at_ D.lit
  refine call_meetsIn PySem.F.slot_dict_get mp.typeIs PySem.F.entry_dict_get (PySem.F.args_dict_get_3 _ _ _) (meets_dict_get_default (strKind X.prog X.w) a (strKind_is X.prog X.w z t) D.low fv) ⟨_, mp, ?_⟩
  rcases q3 with ⟨en, q⟩ | ⟨u, v, en, rv, q⟩
  · rw [PySem.W.find_K D.at_ en]
    exact ⟨y2, H3, I3.tok _, rz, q⟩
  · rw [PySem.W.find_K D.at_ en]
    exact ⟨v, H3, I3.tok _, rv, q⟩
/-! ### what may follow what -/
def fol (e : Nat) : List Nat := if e = 0 then [48, 49, 46, 45] else if e = 1 then [48, 49, 40, 44, 41] else if e = 2 then [40, 44, 41] else [44, 41]
def ends (c : Nat) : Nat := if c = 48 ∨ c = 49 then 1 else if c = 46 then 2 else if c = 45 ∨ c = 41 then 3 else 0
def lev (c : Nat) : Int := if c = 40 then 1 else if c = 41 then -1 else 0
def inside : List Nat := [45, 44, 41]
abbrev AS := Nat × Int
def stepA (st : AS) (c : Nat) : Option AS := if c ∈ fol st.1 ∧ ¬ (st.2 = 0 ∧ c ∈ inside) then some (ends c, st.2 + lev c) else none
def runA : AS → List Nat → Option AS
  | st, [] => some st
  | st, c :: r => match stepA st c with | some st2 => runA st2 r | none => none
def acc (cs : List Nat) : Bool := match runA (0, 0) cs with | some (e, l) => decide (e ≠ 0 ∧ l = 0) | none => false
theorem runA_cons {st st2 : AS} {c : Nat} {r : List Nat} (h : stepA st c = some st2) : runA st (c :: r) = runA st2 r := by
  simp only [runA, h]
theorem stepA_go {e : Nat} {l : Int} {c : Nat} (h : c ∈ fol e) (hl : l ≠ 0 ∨ c ∉ inside) : stepA (e, l) c = some (ends c, l + lev c) := by
  unfold stepA
  rw [if_pos ⟨h, fun z => hl.elim (fun q => q z.1) fun q => q z.2⟩]
theorem run_digits {bs : List Int} (hb : ∀ b ∈ bs, b = 0 ∨ b = 1) (l : Int) (x : List Nat) : ∀ e, e = 1 ∨ (e = 0 ∧ bs ≠ []) → runA (e, l) (bs.map dg ++ x) = runA (1, l) x := by
  induction bs with
  | nil =>
    intro e he
    rcases he with rfl | ⟨_, h⟩
    · rfl
    · exact absurd rfl h
  | cons b r ih =>
    intro e he
    have st : stepA (e, l) (dg b) = some (1, l) := by
      rcases dg_two b with q | q <;> rw [q] <;> rcases he with rfl | ⟨rfl, _⟩ <;> simp [stepA, fol, inside, ends, lev]
    show runA (e, l) (dg b :: (r.map dg ++ x)) = _
    rw [runA_cons st, ih (fun b hb2 => hb b (List.mem_cons_of_mem _ hb2)) 1 (.inl rfl)]
theorem run_dgc {bs : List Int} (hb : ∀ b ∈ bs, b = 0 ∨ b = 1) (l : Int) (x : List Nat) : ∃ e, (e = 1 ∨ e = 2) ∧ runA (0, l) (dgc bs ++ x) = runA (e, l) x := by
  unfold dgc
  by_cases e0 : bs = []
  · rw [if_pos e0]
    refine ⟨2, .inr rfl, ?_⟩
    show runA (0, l) (46 :: x) = _
    rw [runA_cons (st2 := (2, l)) (by simp [stepA, fol, inside, ends, lev])]
  · rw [if_neg e0]
    exact ⟨1, .inl rfl, run_digits hb l x 0 (.inr ⟨rfl, e0⟩)⟩
mutual
theorem run_tree {B C : Nat} : ∀ {d : PyData}, Bd B C d → ∀ (l : Int), 0 ≤ l → ∀ x, ∃ e, (e = 1 ∨ e = 2 ∨ e = 3) ∧ runA (0, l) (cd (spell d) ++ x) = runA (e, l) x
  | _, .mk (bs := bs) (ks := ks) rfl h1 h2 h3 hk => fun l hl x => by
    rw [spell_cd (.mk rfl h1 h2 h3 hk : Bd B C (nd bs ks)) x]
    obtain ⟨e, he, h⟩ := run_dgc h2 l (PZ.rest ks x)
    rw [h]
    unfold PZ.rest
    by_cases e0 : ks = []
    · rw [if_pos e0]
      exact ⟨e, by omega, rfl⟩
    · rw [if_neg e0]
      refine ⟨3, by omega, ?_⟩
      have st : stepA (e, l) 40 = some (0, l + 1) := by
        rcases he with rfl | rfl <;> simp [stepA, fol, inside, ends, lev]
      rw [runA_cons st]
      have k := run_list hk e0 l hl x
      rw [List.append_assoc] at k
      exact k
theorem run_list {B C : Nat} : ∀ {ks : List PyData}, BdL B C ks → ks ≠ [] → ∀ (l : Int), 0 ≤ l → ∀ x, runA (0, l + 1) ((TL.joinL [44] ((spellL ks).map cd) ++ [41]) ++ x) = runA (3, l) x
  | _, .nil => fun h => absurd rfl h
  | _, .non (ks := r) hr => fun _ l hl x => by
    have hend : ∀ y, runA (3, l + 1) (41 :: y) = runA (3, l) y := fun y => by
      rw [runA_cons (stepA_go (by simp [fol]) (.inl (by omega)))]
      simp [ends, lev]
      rw [show l + 1 + -1 = l by omega]
    have hcom : ∀ y, runA (3, l + 1) (44 :: y) = runA (0, l + 1) y := fun y => by
      rw [runA_cons (stepA_go (by simp [fol]) (.inl (by omega)))]
      simp [ends, lev]
    simp only [spellL, List.map_cons]
    rw [joinL_cons, none_cd]
    have st : stepA (0, l + 1) 45 = some (3, l + 1) := by
      rw [stepA_go (by simp [fol]) (.inl (by omega))]
      simp [ends, lev]
    show runA (0, l + 1) (45 :: _) = _
    rw [runA_cons st]
    cases r with
    | nil =>
      rw [if_pos (by simp [spellL])]
      exact hend x
    | cons k r =>
      rw [if_neg (by simp [spellL])]
      have z := run_list hr (by simp) l hl x
      show runA (3, l + 1) (44 :: ((TL.joinL [44] _ ++ [41]) ++ x)) = _
      rw [hcom, z]
  | _, .one (k := k) (ks := r) hk hr => fun _ l hl x => by
    simp only [spellL, List.map_cons]
    rw [joinL_cons, List.append_assoc, List.append_assoc]
    obtain ⟨e, he, h⟩ := run_tree hk (l + 1) (by omega) ((if List.map cd (spellL r) = [] then [] else 44 :: TL.joinL [44] (List.map cd (spellL r))) ++ ([41] ++ x))
    rw [h]
    have hend : ∀ y, runA (e, l + 1) (41 :: y) = runA (3, l) y := fun y => by
      rw [runA_cons (stepA_go (by rcases he with rfl | rfl | rfl <;> simp [fol]) (.inl (by omega)))]
      simp [ends, lev]
      rw [show l + 1 + -1 = l by omega]
    have hcom : ∀ y, runA (e, l + 1) (44 :: y) = runA (0, l + 1) y := fun y => by
      rw [runA_cons (stepA_go (by rcases he with rfl | rfl | rfl <;> simp [fol]) (.inl (by omega)))]
      simp [ends, lev]
    cases r with
    | nil =>
      rw [if_pos (by simp [spellL])]
      exact hend x
    | cons k' r =>
      rw [if_neg (by simp [spellL])]
      have z := run_list hr (by simp) l hl x
      rw [List.append_assoc] at z
      show runA (e, l + 1) (44 :: (TL.joinL [44] _ ++ ([41] ++ x))) = _
      rw [hcom, z]
end
theorem acc_spell {B C : Nat} {d : PyData} (h : Bd B C d) : acc (cd (spell d)) = true := by
  obtain ⟨e, he, k⟩ := run_tree h 0 (by omega) []
  rw [List.append_nil] at k
  unfold acc
  rw [k]
  simp only [runA]
  rw [decide_eq_true_eq]
  exact ⟨by omega, trivial⟩
end RP

set_option Elab.async false
set_option linter.all false
set_option maxRecDepth 100000
set_option maxHeartbeats 4000000
/-! What is taken is a spelling; counts of signs. -/
namespace RP
open PySem PySem.Spec PyProof.Rows L2 He XH XV XR PEN TR XQ PZ Evl StrLaws
def isD (c : Nat) : Bool := decide (c = 48) || decide (c = 49)
def dcnt (l : List Nat) : Nat := l.countP isD
def pcnt (l : List Nat) : Nat := l.countP fun c => decide (c = 40)
theorem dcnt_app (a b : List Nat) : dcnt (a ++ b) = dcnt a + dcnt b := List.countP_append
theorem pcnt_app (a b : List Nat) : pcnt (a ++ b) = pcnt a + pcnt b := List.countP_append
def undg (c : Nat) : Int := if c = 48 then 0 else 1
theorem runA_step {e : Nat} {k : Int} {c : Nat} {r : List Nat} {z : AS} (h : runA (e, k) (c :: r) = some z) : c ∈ fol e ∧ (k ≠ 0 ∨ c ∉ inside) ∧ runA (ends c, k + lev c) r = some z := by
  simp only [runA] at h
  by_cases hq : c ∈ fol e ∧ ¬ (k = 0 ∧ c ∈ inside)
  · have st : stepA (e, k) c = some (ends c, k + lev c) := by
      unfold stepA
      rw [if_pos hq]
    rw [st] at h
    refine ⟨hq.1, ?_, h⟩
    by_cases h0 : k = 0
    · exact .inr fun q => hq.2 ⟨h0, q⟩
    · exact .inl h0
  · have st : stepA (e, k) c = none := by
      unfold stepA
      rw [if_neg hq]
    rw [st] at h
    cases h
/-- a run of digits, and what may stand behind it -/
theorem take_digits {k : Int} {z : AS} : ∀ (l : List Nat), runA (1, k) l = some z → ∃ (bs : List Int) (x : List Nat), l = bs.map dg ++ x ∧ (∀ b ∈ bs, b = 0 ∨ b = 1) ∧ runA (1, k) x = some z ∧ (x = [] ∨ ∃ c r, x = c :: r ∧ (c = 40 ∨ c = 44 ∨ c = 41))
  | [], h => ⟨[], [], rfl, (fun b hb => nomatch hb), h, .inl rfl⟩
  | c :: r, h => by
    obtain ⟨h1, h2, h3⟩ := runA_step h
    have cs : c = 48 ∨ c = 49 ∨ c = 40 ∨ c = 44 ∨ c = 41 := by simpa [fol] using h1
    by_cases hd : c = 48 ∨ c = 49
    · have e1 : ends c = 1 := by
        unfold ends
        rw [if_pos hd]
      have e2 : lev c = 0 := by
        rcases hd with q | q <;> rw [q] <;> rfl
      rw [e1, e2, Int.add_zero] at h3
      obtain ⟨bs, x, hr, hb, hx, hs⟩ := take_digits r h3
      refine ⟨undg c :: bs, x, ?_, ?_, hx, hs⟩
      · rw [List.map_cons, List.cons_append, ← hr]
        congr 1
        rcases hd with q | q <;> rw [q] <;> rfl
      · intro b hb2
        rcases List.mem_cons.mp hb2 with q | q
        · rw [q]
          unfold undg
          split
          · exact .inl rfl
          · exact .inr rfl
        · exact hb b q
    · exact ⟨[], c :: r, rfl, (fun b hb => nomatch hb), h, .inr ⟨c, r, rfl, by omega⟩⟩
theorem tail_shape {e : Nat} {k : Int} {x : List Nat} {z : AS} (he : e = 2 ∨ e = 3) (h : runA (e, k) x = some z) : x = [] ∨ ∃ c r, x = c :: r ∧ ((c = 40 ∧ e = 2) ∨ c = 44 ∨ c = 41) := by
  cases x with
  | nil => exact .inl rfl
  | cons c r =>
    obtain ⟨h1, _⟩ := runA_step h
    refine .inr ⟨c, r, rfl, ?_⟩
    rcases he with rfl | rfl
    · have : c = 40 ∨ c = 44 ∨ c = 41 := by simpa [fol] using h1
      omega
    · have : c = 44 ∨ c = 41 := by simpa [fol] using h1
      omega
theorem dcnt_digits {bs : List Int} : dcnt (bs.map dg) = bs.length := by
  induction bs with
  | nil => rfl
  | cons b r ih =>
    have h : dcnt (dg b :: r.map dg) = 1 + dcnt (r.map dg) := by
      unfold dcnt
      rw [List.countP_cons]
      have : isD (dg b) = true := by
        rcases dg_two b with q | q <;> rw [q] <;> rfl
      rw [this, if_pos rfl]
      omega
    rw [List.map_cons, h, ih, List.length_cons]
    omega
/-- what is behind a node or a dash -/
def Cut (x : List Nat) : Prop := x = [] ∨ ∃ c r, x = c :: r ∧ (c = 44 ∨ c = 41)
theorem parse {B C : Nat} : ∀ n : Nat,
    (∀ (l : List Nat) (k : Int) (e : Nat), l.length ≤ n → dcnt l ≤ B → l.length ≤ C → 0 ≤ k → e ≠ 0 → runA (0, k) l = some (e, 0) →
      ∃ d x e1, (d = .none ∧ k ≠ 0 ∨ Bd B C d) ∧ l = cd (spell d) ++ x ∧ x.length < l.length ∧ runA (e1, k) x = some (e, 0) ∧ Cut x ∧ (e1 = 1 ∨ e1 = 2 ∨ e1 = 3)) ∧
    (∀ (l : List Nat) (k : Int) (e : Nat), l.length ≤ n → dcnt l ≤ B → l.length ≤ C → 0 ≤ k → e ≠ 0 → runA (0, k + 1) l = some (e, 0) →
      ∃ ks x, ks ≠ [] ∧ BdL B C ks ∧ l = TL.joinL [44] ((spellL ks).map cd) ++ 41 :: x ∧ x.length + ks.length ≤ l.length ∧ runA (3, k) x = some (e, 0)) := by
  intro n
  induction n with
  | zero =>
    refine ⟨fun l k e hl _ _ hk he h => ?_, fun l k e hl _ _ hk he h => ?_⟩
    · rw [List.length_eq_zero_iff.mp (by omega : l.length = 0)] at h
      simp only [runA] at h
      injection h with h
      injection h with h1 h2
      exact absurd h1.symm he
    · rw [List.length_eq_zero_iff.mp (by omega : l.length = 0)] at h
      simp only [runA] at h
      injection h with h
      injection h with h1 h2
      omega
  | succ n ih =>
    have node : ∀ (l : List Nat) (k : Int) (e : Nat), l.length ≤ n + 1 → dcnt l ≤ B → l.length ≤ C → 0 ≤ k → e ≠ 0 → runA (0, k) l = some (e, 0) →
      ∃ d x e1, (d = .none ∧ k ≠ 0 ∨ Bd B C d) ∧ l = cd (spell d) ++ x ∧ x.length < l.length ∧ runA (e1, k) x = some (e, 0) ∧ Cut x ∧ (e1 = 1 ∨ e1 = 2 ∨ e1 = 3) := by
      intro l k e hl hB hC hk he h
      cases l with
      | nil =>
        simp only [runA] at h
        injection h with h
        injection h with h1 h2
        exact absurd h1.symm he
      | cons c r =>
        rw [List.length_cons] at hl hC
        -- a node of these bits, what is behind them
        have go : ∀ (bs : List Int) (y : List Nat) (e1 : Nat), (e1 = 1 ∨ e1 = 2) → c :: r = dgc bs ++ y → (∀ b ∈ bs, b = 0 ∨ b = 1) → bs.length ≤ B → bs.length ≤ C → y.length ≤ r.length → dcnt y ≤ B → runA (e1, k) y = some (e, 0) → (y = [] ∨ ∃ c r, y = c :: r ∧ (c = 40 ∨ c = 44 ∨ c = 41)) →
            ∃ d x e1, (d = .none ∧ k ≠ 0 ∨ Bd B C d) ∧ c :: r = cd (spell d) ++ x ∧ x.length < (c :: r).length ∧ runA (e1, k) x = some (e, 0) ∧ Cut x ∧ (e1 = 1 ∨ e1 = 2 ∨ e1 = 3) := by
          intro bs y e1 he1 hy hb lb lc ly hdy hr hs
          have leaf : Bd B C (nd bs []) := .mk rfl lb hb (Nat.zero_le _) .nil
          have plain : Cut y → ∃ d x e1, (d = .none ∧ k ≠ 0 ∨ Bd B C d) ∧ c :: r = cd (spell d) ++ x ∧ x.length < (c :: r).length ∧ runA (e1, k) x = some (e, 0) ∧ Cut x ∧ (e1 = 1 ∨ e1 = 2 ∨ e1 = 3) := fun hcut => by
            refine ⟨nd bs [], y, e1, .inr leaf, ?_, by rw [List.length_cons]; omega, hr, hcut, by omega⟩
            rw [spell_cd leaf y, hy]
            unfold PZ.rest
            rw [if_pos rfl]
          rcases hs with hs | ⟨c2, r2, hs, hc2⟩
          · exact plain (.inl hs)
          · by_cases h40 : c2 = 40
            · rw [hs, h40] at hr
              obtain ⟨_, _, h3⟩ := runA_step hr
              have e40 : ends 40 = 0 ∧ lev 40 = 1 := by decide
              rw [e40.1, e40.2] at h3
              have hlr : y.length = r2.length + 1 := by rw [hs]; rfl
              have hd2 : dcnt r2 ≤ B := by
                rw [hs] at hdy
                have : dcnt (c2 :: r2) = dcnt [c2] + dcnt r2 := dcnt_app [c2] r2
                omega
              obtain ⟨ks, x, hks, hbk, hl2, hlen, hrx⟩ := ih.2 r2 k e (by omega) hd2 (by omega) hk he h3
              have hbd : Bd B C (nd bs ks) := .mk rfl lb hb (by omega) hbk
              refine ⟨nd bs ks, x, 3, .inr hbd, ?_, by rw [List.length_cons]; omega, hrx, ?_, by omega⟩
              · rw [spell_cd hbd x, hy]
                unfold PZ.rest
                rw [if_neg hks, hs, h40, hl2]
              · rcases tail_shape (.inr rfl) hrx with q | ⟨c3, r3, q, hq⟩
                · exact .inl q
                · exact .inr ⟨c3, r3, q, by omega⟩
            · exact plain (.inr ⟨c2, r2, hs, by omega⟩)
        obtain ⟨h1, h2, h3⟩ := runA_step h
        have cs : c = 48 ∨ c = 49 ∨ c = 46 ∨ c = 45 := by simpa [fol] using h1
        have dr : dcnt (c :: r) = dcnt [c] + dcnt r := dcnt_app [c] r
        by_cases h45 : c = 45
        · subst h45
          have hk0 : k ≠ 0 := h2.resolve_right (by simp [inside])
          have e3 : ends 45 = 3 ∧ lev 45 = 0 := by decide
          rw [e3.1, e3.2, Int.add_zero] at h3
          refine ⟨.none, r, 3, .inl ⟨rfl, hk0⟩, ?_, by rw [List.length_cons]; omega, h3, ?_, by omega⟩
          · rw [none_cd]
            rfl
          · rcases tail_shape (.inr rfl) h3 with q | ⟨c3, r3, q, hq⟩
            · exact .inl q
            · exact .inr ⟨c3, r3, q, by omega⟩
        · by_cases h46 : c = 46
          · subst h46
            have e3 : ends 46 = 2 ∧ lev 46 = 0 := by decide
            rw [e3.1, e3.2, Int.add_zero] at h3
            refine go [] r 2 (.inr rfl) rfl (fun b hb => nomatch hb) (Nat.zero_le _) (Nat.zero_le _) (Nat.le_refl _) (by omega) h3 ?_
            rcases tail_shape (.inl rfl) h3 with q | ⟨c3, r3, q, hq⟩
            · exact .inl q
            · exact .inr ⟨c3, r3, q, by omega⟩
          · have hd : c = 48 ∨ c = 49 := by omega
            have e1 : ends c = 1 := by
              unfold ends
              rw [if_pos hd]
            have e2 : lev c = 0 := by
              rcases hd with q | q <;> rw [q] <;> rfl
            rw [e1, e2, Int.add_zero] at h3
            obtain ⟨bs, x, hr, hb, hx, hs⟩ := take_digits r h3
            have hb1 : ∀ b ∈ undg c :: bs, b = 0 ∨ b = 1 := by
              intro b hb2
              rcases List.mem_cons.mp hb2 with q | q
              · rw [q]
                unfold undg
                split
                · exact .inl rfl
                · exact .inr rfl
              · exact hb b q
            have hdc : dg (undg c) = c := by
              rcases hd with q | q <;> rw [q] <;> rfl
            have hrd : dcnt r = bs.length + dcnt x := by rw [hr, dcnt_app, dcnt_digits]
            have hc1 : dcnt [c] = 1 := by
              rcases hd with q | q <;> rw [q] <;> rfl
            have hrl : r.length = bs.length + x.length := by rw [hr, List.length_append, List.length_map]
            refine go (undg c :: bs) x 1 (.inl rfl) ?_ hb1 (by rw [List.length_cons]; omega) (by rw [List.length_cons]; omega) (by omega) (by omega) hx hs
            unfold dgc
            rw [if_neg (by simp), List.map_cons, hdc, List.cons_append, ← hr]
    refine ⟨node, fun l k e hl hB hC hk he h => ?_⟩
    obtain ⟨d, x, e1, hd, hlx, hlen, hrx, hcut, he1⟩ := node l (k + 1) e hl hB hC (by omega) he h
    have ndx : dcnt x ≤ B := by
      rw [hlx, dcnt_app] at hB
      omega
    have one : BdL B C [d] := by
      rcases hd with ⟨q, _⟩ | q
      · rw [q]
        exact .non .nil
      · exact .one q .nil
    rcases hcut with q | ⟨c, r, q, hc⟩
    · rw [q] at hrx
      simp only [runA] at hrx
      injection hrx with hrx
      injection hrx with h1 h2
      omega
    · rw [q] at hrx hlen
      rw [List.length_cons] at hlen
      obtain ⟨_, _, h3⟩ := runA_step hrx
      by_cases h41 : c = 41
      · subst h41
        have e3 : ends 41 = 3 ∧ lev 41 = -1 := by decide
        rw [e3.1, e3.2, show k + 1 + -1 = k by omega] at h3
        refine ⟨[d], r, by simp, one, ?_, by simp; omega, h3⟩
        rw [hlx, q]
        simp [spellL, TL.joinL]
      · have h44 : c = 44 := by omega
        subst h44
        have e3 : ends 44 = 0 ∧ lev 44 = 0 := by decide
        rw [e3.1, e3.2, Int.add_zero] at h3
        have ndr : dcnt r ≤ B := by
          rw [q] at ndx
          have : dcnt (44 :: r) = dcnt [44] + dcnt r := dcnt_app [44] r
          omega
        obtain ⟨ks, y, hks, hbk, hl2, hlen2, hry⟩ := ih.2 r k e (by omega) ndr (by omega) hk he h3
        have hbk2 : BdL B C (d :: ks) := by
          rcases hd with ⟨q, _⟩ | q
          · rw [q]
            exact .non hbk
          · exact .one q hbk
        refine ⟨d :: ks, y, by simp, hbk2, ?_, by rw [List.length_cons]; omega, hry⟩
        rw [hlx, q, hl2]
        simp only [spellL, List.map_cons]
        rw [joinL_cons, if_neg (by
          cases ks with
          | nil => exact absurd rfl hks
          | cons a b => simp [spellL])]
        simp
theorem acc_tree {l : List Nat} {B C : Nat} (hB : dcnt l ≤ B) (hC : l.length ≤ C) (h : acc l = true) : ∃ d, Bd B C d ∧ l = cd (spell d) := by
  unfold acc at h
  cases hr : runA (0, 0) l with
  | none =>
    rw [hr] at h
    cases h
  | some z =>
    obtain ⟨e, k⟩ := z
    rw [hr] at h
    simp only at h
    rw [decide_eq_true_eq] at h
    obtain ⟨he, hk⟩ := h
    subst hk
    obtain ⟨d, x, e1, hd, hlx, _, hrx, hcut, he1⟩ := (parse (B := B) (C := C) l.length).1 l 0 e (Nat.le_refl _) hB hC (by omega) he hr
    rcases hd with ⟨_, q⟩ | hd
    · exact absurd rfl q
    · rcases hcut with q | ⟨c, r, q, hc⟩
      · rw [q, List.append_nil] at hlx
        exact ⟨d, hd, hlx⟩
      · rw [q] at hrx
        obtain ⟨_, h2, _⟩ := runA_step hrx
        rcases h2 with h2 | h2
        · exact absurd rfl h2
        · rcases hc with rfl | rfl <;> simp [inside] at h2
end RP

set_option Elab.async false
set_option linter.all false
set_option maxRecDepth 100000
set_option maxHeartbeats 4000000
/-! A spelling read from the left by its nodes; how long, how deep it is. -/
namespace RP
open PySem PySem.Spec PyProof.Rows L2 He XH XV XR PEN TR XQ PZ Evl StrLaws
/-! ### counts -/
def spL (ks : List PyData) : List Nat := TL.joinL [44] ((spellL ks).map cd)
theorem spL_one (k : PyData) : spL [k] = cd (spell k) := by simp [spL, spellL, TL.joinL]
theorem spL_cons (k k2 : PyData) (r : List PyData) : spL (k :: k2 :: r) = cd (spell k) ++ (44 :: spL (k2 :: r)) := by
  unfold spL
  rw [show spellL (k :: k2 :: r) = spell k :: spellL (k2 :: r) by simp [spellL], List.map_cons, joinL_cons, if_neg (by simp [spellL])]
theorem cd_node {B C : Nat} {bs : List Int} {ks : List PyData} (h : Bd B C (nd bs ks)) : cd (spell (nd bs ks)) = dgc bs ++ (if ks = [] then [] else 40 :: (spL ks ++ [41])) := by
  have e := spell_cd h []
  rw [List.append_nil] at e
  rw [e]
  unfold PZ.rest
  by_cases q : ks = []
  · rw [if_pos q, if_pos q]
  · rw [if_neg q, if_neg q]
    rfl
def cnt (p : Nat → Bool) (l : List Nat) : Nat := l.countP p
theorem cnt_app (p : Nat → Bool) (a b : List Nat) : cnt p (a ++ b) = cnt p a + cnt p b := List.countP_append
theorem dcnt_dgc {bs : List Int} : dcnt (dgc bs) = bs.length := by
  unfold dgc
  by_cases e : bs = []
  · rw [if_pos e, e]
    rfl
  · rw [if_neg e, dcnt_digits]
theorem pcnt_dgc (bs : List Int) : pcnt (dgc bs) = 0 := by
  unfold pcnt
  rw [List.countP_eq_zero]
  intro c hc
  have := dgc_plain bs c hc
  simp
  omega
theorem dgc_len (bs : List Int) : (dgc bs).length ≤ bs.length + 1 ∧ 1 ≤ (dgc bs).length := by
  unfold dgc
  by_cases e : bs = []
  · rw [if_pos e]
    simp
  · rw [if_neg e, List.length_map]
    cases bs with
    | nil => exact absurd rfl e
    | cons a r => simp
mutual
theorem cnts : ∀ {d : PyData}, Bd 6 3 d → dcnt (cd (spell d)) ≤ 6 * size d ∧ pcnt (cd (spell d)) ≤ size d ∧ (cd (spell d)).length + 1 ≤ 15 * size d
  | _, .mk (bs := bs) (ks := ks) rfl h1 h2 h3 hk => by
    have hb : Bd 6 3 (nd bs ks) := .mk rfl h1 h2 h3 hk
    rw [cd_node hb, size_nd, dcnt_app, pcnt_app, List.length_append, dcnt_dgc, pcnt_dgc]
    obtain ⟨l1, l2⟩ := dgc_len bs
    by_cases e0 : ks = []
    · rw [if_pos e0]
      simp only [dcnt, pcnt, List.countP_nil, List.length_nil]
      omega
    · rw [if_neg e0]
      obtain ⟨c1, c2, c3⟩ := cntsL hk e0
      have d1 : dcnt (40 :: (spL ks ++ [41])) = dcnt (spL ks) := by
        have : dcnt (40 :: (spL ks ++ [41])) = dcnt [40] + (dcnt (spL ks) + dcnt [41]) := by rw [← dcnt_app, ← dcnt_app]; rfl
        rw [this]
        show 0 + (_ + 0) = _
        omega
      have d2 : pcnt (40 :: (spL ks ++ [41])) = 1 + pcnt (spL ks) := by
        have : pcnt (40 :: (spL ks ++ [41])) = pcnt [40] + (pcnt (spL ks) + pcnt [41]) := by rw [← pcnt_app, ← pcnt_app]; rfl
        rw [this]
        show 1 + (_ + 0) = _
        omega
      rw [d1, d2, List.length_cons, List.length_append]
      show _ ∧ _ ∧ _ + (_ + 1 + 1) + 1 ≤ _
      omega
theorem cntsL : ∀ {ks : List PyData}, BdL 6 3 ks → ks ≠ [] → dcnt (spL ks) ≤ 6 * sizeL ks ∧ pcnt (spL ks) ≤ sizeL ks ∧ (spL ks).length + 1 ≤ 15 * sizeL ks + 2 * ks.length
  | _, .nil => fun h => absurd rfl h
  | _, .non (ks := []) _ => fun _ => by
    rw [spL_one, none_cd]
    simp only [sizeL, size_non]
    decide
  | _, .non (ks := k2 :: r) hr => fun _ => by
    obtain ⟨c1, c2, c3⟩ := cntsL hr (by simp)
    rw [spL_cons, none_cd]
    have d1 : dcnt ([45] ++ (44 :: spL (k2 :: r))) = dcnt (spL (k2 :: r)) := by
      have : dcnt ([45] ++ (44 :: spL (k2 :: r))) = dcnt [45] + (dcnt [44] + dcnt (spL (k2 :: r))) := by rw [← dcnt_app, ← dcnt_app]; rfl
      rw [this]
      show 0 + (0 + _) = _
      omega
    have d2 : pcnt ([45] ++ (44 :: spL (k2 :: r))) = pcnt (spL (k2 :: r)) := by
      have : pcnt ([45] ++ (44 :: spL (k2 :: r))) = pcnt [45] + (pcnt [44] + pcnt (spL (k2 :: r))) := by rw [← pcnt_app, ← pcnt_app]; rfl
      rw [this]
      show 0 + (0 + _) = _
      omega
    rw [d1, d2, sizeL, size_non]
    simp only [List.length_append, List.length_cons, List.length_nil] at c3 ⊢
    omega
  | _, .one (k := k) (ks := []) hk _ => fun _ => by
    obtain ⟨c1, c2, c3⟩ := cnts hk
    rw [spL_one]
    simp only [sizeL, List.length_cons, List.length_nil]
    omega
  | _, .one (k := k) (ks := k2 :: r) hk hr => fun _ => by
    obtain ⟨b1, b2, b3⟩ := cnts hk
    obtain ⟨c1, c2, c3⟩ := cntsL hr (by simp)
    rw [spL_cons]
    have d1 : dcnt (cd (spell k) ++ (44 :: spL (k2 :: r))) = dcnt (cd (spell k)) + dcnt (spL (k2 :: r)) := by
      have : dcnt (cd (spell k) ++ (44 :: spL (k2 :: r))) = dcnt (cd (spell k)) + (dcnt [44] + dcnt (spL (k2 :: r))) := by rw [← dcnt_app, ← dcnt_app]; rfl
      rw [this]
      show _ + (0 + _) = _
      omega
    have d2 : pcnt (cd (spell k) ++ (44 :: spL (k2 :: r))) = pcnt (cd (spell k)) + pcnt (spL (k2 :: r)) := by
      have : pcnt (cd (spell k) ++ (44 :: spL (k2 :: r))) = pcnt (cd (spell k)) + (pcnt [44] + pcnt (spL (k2 :: r))) := by rw [← pcnt_app, ← pcnt_app]; rfl
      rw [this]
      show _ + (0 + _) = _
      omega
    rw [d1, d2, sizeL]
    simp only [List.length_append, List.length_cons, List.length_nil] at c3 ⊢
    omega
end
mutual
theorem deep_cnt {B C : Nat} : ∀ {d : PyData}, Bd B C d → deep d ≤ pcnt (cd (spell d)) + 1 ∧ size d ≤ (cd (spell d)).length
  | _, .mk (bs := bs) (ks := ks) rfl h1 h2 h3 hk => by
    have hb : Bd B C (nd bs ks) := .mk rfl h1 h2 h3 hk
    rw [cd_node hb, size_nd, deep_nd, pcnt_app, List.length_append]
    obtain ⟨l1, l2⟩ := dgc_len bs
    by_cases e0 : ks = []
    · rw [if_pos e0, e0]
      simp only [sizeL, deepL, List.length_nil]
      omega
    · rw [if_neg e0]
      obtain ⟨c1, c2⟩ := deep_cntL hk e0
      have d2 : pcnt (40 :: (spL ks ++ [41])) = 1 + pcnt (spL ks) := by
        have : pcnt (40 :: (spL ks ++ [41])) = pcnt [40] + (pcnt (spL ks) + pcnt [41]) := by rw [← pcnt_app, ← pcnt_app]; rfl
        rw [this]
        show 1 + (_ + 0) = _
        omega
      rw [d2, List.length_cons, List.length_append]
      omega
theorem deep_cntL {B C : Nat} : ∀ {ks : List PyData}, BdL B C ks → ks ≠ [] → deepL ks ≤ pcnt (spL ks) + 1 ∧ sizeL ks ≤ (spL ks).length
  | _, .nil => fun h => absurd rfl h
  | _, .non (ks := []) _ => fun _ => by
    simp [sizeL, size_non, deepL, deep_non]
  | _, .non (ks := k2 :: r) hr => fun _ => by
    obtain ⟨c1, c2⟩ := deep_cntL hr (by simp)
    rw [spL_cons, none_cd, deepL, sizeL, size_non, deep_non]
    have d2 : pcnt ([45] ++ (44 :: spL (k2 :: r))) = pcnt (spL (k2 :: r)) := by
      have : pcnt ([45] ++ (44 :: spL (k2 :: r))) = pcnt [45] + (pcnt [44] + pcnt (spL (k2 :: r))) := by rw [← pcnt_app, ← pcnt_app]; rfl
      rw [this]
      show 0 + (0 + _) = _
      omega
    rw [d2]
    simp only [List.length_append, List.length_cons, List.length_nil] at c2 ⊢
    omega
  | _, .one (k := k) (ks := []) hk _ => fun _ => by
    obtain ⟨c1, c2⟩ := deep_cnt hk
    rw [spL_one]
    simp only [sizeL, deepL]
    omega
  | _, .one (k := k) (ks := k2 :: r) hk hr => fun _ => by
    obtain ⟨b1, b2⟩ := deep_cnt hk
    obtain ⟨c1, c2⟩ := deep_cntL hr (by simp)
    rw [spL_cons, deepL, sizeL]
    have d2 : pcnt (cd (spell k) ++ (44 :: spL (k2 :: r))) = pcnt (cd (spell k)) + pcnt (spL (k2 :: r)) := by
      have : pcnt (cd (spell k) ++ (44 :: spL (k2 :: r))) = pcnt (cd (spell k)) + (pcnt [44] + pcnt (spL (k2 :: r))) := by rw [← pcnt_app, ← pcnt_app]; rfl
      rw [this]
      show _ + (0 + _) = _
      omega
    rw [d2, List.length_append, List.length_cons]
    omega
end
/-! ### reading from the left -/
def behV (cs : List Nat) (at_ : Nat) : Nat := if cs[at_]? = some 46 then at_ + 1 else at_ + ((cs.drop at_).takeWhile isD).length
def kidsV (cs : List Nat) (rec : Nat → Option Nat) : Nat → Nat → Option Nat
  | 0, _ => none
  | m + 1, b => match (if cs[b + 1]? = some 45 then some (b + 2) else rec (b + 1)) with
    | none => none
    | some b2 => if cs[b2]? = some 41 then some (b2 + 1) else if cs[b2]? = some 44 then kidsV cs rec m b2 else none
def nodeV (cs : List Nat) : Nat → Nat → Option Nat
  | 0, _ => none
  | f + 1, at_ => if behV cs at_ = at_ then none else if cs[behV cs at_]? = some 40 then kidsV cs (nodeV cs f) cs.length (behV cs at_) else some (behV cs at_)
theorem at_drop {cs : List Nat} {i c : Nat} {r : List Nat} (h : cs.drop i = c :: r) : cs[i]? = some c := by
  have e : (cs.drop i)[0]? = cs[i + 0]? := List.getElem?_drop
  rw [h] at e
  exact e.symm
theorem at_none {cs : List Nat} {i : Nat} (h : cs.drop i = []) : cs[i]? = none := by
  have e : (cs.drop i)[0]? = cs[i + 0]? := List.getElem?_drop
  rw [h] at e
  exact e.symm
theorem drop_at {cs : List Nat} {i c : Nat} (h : cs[i]? = some c) : cs.drop i = c :: cs.drop (i + 1) := by
  obtain ⟨h1, h2⟩ := List.getElem?_eq_some_iff.mp h
  rw [List.drop_eq_getElem_cons h1, h2]
theorem drop_more {cs a x : List Nat} {i : Nat} (h : cs.drop i = a ++ x) : cs.drop (i + a.length) = x := by
  rw [← List.drop_drop, h, List.drop_left]
theorem tw_digits : ∀ (bs : List Int) (y : List Nat), (∀ b ∈ bs, b = 0 ∨ b = 1) → (∀ c r, y = c :: r → c ≠ 48 ∧ c ≠ 49) → (bs.map dg ++ y).takeWhile isD = bs.map dg
  | [], y, _, hy => by
    cases y with
    | nil => rfl
    | cons c r =>
      have := hy c r rfl
      have e : isD c = false := by
        unfold isD
        rw [decide_eq_false this.1, decide_eq_false this.2]
        rfl
      show List.takeWhile isD (c :: r) = []
      rw [List.takeWhile_cons, e]
      rfl
  | b :: r, y, hb, hy => by
    have e : isD (dg b) = true := by
      rcases dg_two b with q | q <;> rw [q] <;> rfl
    show List.takeWhile isD (dg b :: (r.map dg ++ y)) = _
    rw [List.takeWhile_cons, if_pos e, tw_digits r y (fun x hx => hb x (List.mem_cons_of_mem _ hx)) hy]
    rfl
theorem beh_dgc {cs y : List Nat} {i : Nat} {bs : List Int} (hb : ∀ b ∈ bs, b = 0 ∨ b = 1) (hy : ∀ c r, y = c :: r → c ≠ 48 ∧ c ≠ 49) (h : cs.drop i = dgc bs ++ y) : behV cs i = i + (dgc bs).length := by
  unfold behV
  unfold dgc at h ⊢
  by_cases e : bs = []
  · rw [if_pos e] at h ⊢
    rw [if_pos (at_drop h)]
    rfl
  · rw [if_neg e] at h ⊢
    have hne : cs[i]? ≠ some 46 := by
      cases bs with
      | nil => exact absurd rfl e
      | cons b r =>
        rw [at_drop h]
        rcases dg_two b with q | q <;> rw [q] <;> decide
    rw [if_neg hne, h, tw_digits bs y hb hy]
theorem spL_ne {B C : Nat} : ∀ {ks : List PyData}, BdL B C ks → ks ≠ [] → ks.length ≤ (spL ks).length
  | _, .nil, h => absurd rfl h
  | _, .non (ks := []) _, _ => by
    rw [spL_one, none_cd]
    exact Nat.le_refl _
  | _, .non (ks := k2 :: r) hr, _ => by
    have := spL_ne hr (by simp)
    rw [spL_cons, none_cd]
    simp only [List.length_append, List.length_cons, List.length_nil] at this ⊢
    omega
  | _, .one (k := k) (ks := []) hk _, _ => by
    have := deep_cnt hk
    have := size_pos hk
    rw [spL_one]
    show 1 ≤ _
    omega
  | _, .one (k := k) (ks := k2 :: r) hk hr, _ => by
    have := spL_ne hr (by simp)
    rw [spL_cons]
    simp only [List.length_append, List.length_cons, List.length_nil] at this ⊢
    omega
mutual
theorem node_ok {B C : Nat} {cs : List Nat} : ∀ {d : PyData}, Bd B C d → ∀ (f i : Nat) (x : List Nat), deep d ≤ f → term x → cs.drop i = cd (spell d) ++ x → ∃ b, nodeV cs f i = some b ∧ cs.drop b = x ∧ b + x.length = cs.length
  | _, .mk (bs := bs) (ks := ks) rfl h1 h2 h3 hk => fun f i x hf hx h => by
    have hb : Bd B C (nd bs ks) := .mk rfl h1 h2 h3 hk
    rw [deep_nd] at hf
    obtain ⟨f, rfl⟩ : ∃ g, f = g + 1 := ⟨f - 1, by omega⟩
    have hlen : i + (cd (spell (nd bs ks))).length + x.length = cs.length := by
      have e : (cs.drop i).length = cs.length - i := List.length_drop
      rw [h, List.length_append] at e
      have : 1 ≤ (cd (spell (nd bs ks))).length := by
        have := deep_cnt hb
        have := size_pos hb
        omega
      omega
    rw [spell_cd hb x] at h
    have hbeh := beh_dgc h2 (rest_head hx) h
    obtain ⟨l1, l2⟩ := dgc_len bs
    have hd := drop_more h
    show ∃ b, (if behV cs i = i then none else if cs[behV cs i]? = some 40 then kidsV cs (nodeV cs f) cs.length (behV cs i) else some (behV cs i)) = some b ∧ _ ∧ _
    rw [hbeh, if_neg (by omega)]
    rw [cd_node hb, List.length_append] at hlen
    unfold PZ.rest at hd
    by_cases e0 : ks = []
    · rw [if_pos e0] at hd hlen
      have hn : cs[i + (dgc bs).length]? ≠ some 40 := by
        cases x with
        | nil =>
          rw [at_none hd]
          exact fun q => nomatch q
        | cons c r =>
          rw [at_drop hd]
          have := hx c r rfl
          intro q
          injection q with q
          omega
      rw [if_neg hn]
      refine ⟨_, rfl, hd, ?_⟩
      simp at hlen
      omega
    · rw [if_neg e0] at hd hlen
      rw [if_pos (at_drop hd)]
      have hd2 : cs.drop (i + (dgc bs).length + 1) = spL ks ++ 41 :: x := drop_more (a := [40]) hd
      have hkl := spL_ne hk e0
      have hsl : (spL ks).length ≤ cs.length := by
        have e : (cs.drop (i + (dgc bs).length + 1)).length = cs.length - (i + (dgc bs).length + 1) := List.length_drop
        rw [hd2, List.length_append] at e
        omega
      exact kids_ok hk e0 f cs.length (i + (dgc bs).length) x (by omega) (by omega) hd2
theorem kids_ok {B C : Nat} {cs : List Nat} : ∀ {ks : List PyData}, BdL B C ks → ks ≠ [] → ∀ (f m i : Nat) (x : List Nat), deepL ks ≤ f → ks.length ≤ m → cs.drop (i + 1) = spL ks ++ 41 :: x → ∃ b, kidsV cs (nodeV cs f) m i = some b ∧ cs.drop b = x ∧ b + x.length = cs.length
  | _, .nil => fun h => absurd rfl h
  | _, .non (ks := r) hr => fun _ f m i x hf hm h => by
    obtain ⟨m, rfl⟩ : ∃ g, m = g + 1 := ⟨m - 1, by simp at hm; omega⟩
    rw [List.length_cons] at hm
    cases r with
    | nil =>
      rw [spL_one, none_cd] at h
      have h1 : cs[i + 1]? = some 45 := at_drop h
      have h2 : cs.drop (i + 2) = 41 :: x := drop_more (a := [45]) h
      have h3 : cs.drop (i + 3) = x := drop_more (a := [41]) h2
      refine ⟨i + 3, ?_, h3, ?_⟩
      · simp only [kidsV, h1, if_true, at_drop h2]
      · have e : (cs.drop (i + 2)).length = cs.length - (i + 2) := List.length_drop
        rw [h2, List.length_cons] at e
        omega
    | cons k2 r =>
      rw [spL_cons, none_cd] at h
      have h1 : cs[i + 1]? = some 45 := at_drop h
      have h2 : cs.drop (i + 2) = 44 :: (spL (k2 :: r) ++ 41 :: x) := by
        have := drop_more (a := [45]) (x := 44 :: (spL (k2 :: r) ++ 41 :: x)) (by rw [h]; simp)
        exact this
      have h3 : cs.drop (i + 2 + 1) = spL (k2 :: r) ++ 41 :: x := drop_more (a := [44]) h2
      rw [deepL] at hf
      obtain ⟨b, g1, g2⟩ := kids_ok hr (by simp) f m (i + 2) x (by omega) (by omega) h3
      refine ⟨b, ?_, g2⟩
      simp only [kidsV, h1, if_true, at_drop h2]
      exact g1
  | _, .one (k := k) (ks := r) hk hr => fun _ f m i x hf hm h => by
    obtain ⟨m, rfl⟩ : ∃ g, m = g + 1 := ⟨m - 1, by simp at hm; omega⟩
    rw [List.length_cons] at hm
    rw [deepL] at hf
    have h45 : ∀ y, cs.drop (i + 1) = cd (spell k) ++ y → cs[i + 1]? ≠ some 45 := fun y hy => by
      obtain ⟨bs, ks, rfl, _⟩ := hk.un
      rw [spell_cd hk y] at hy
      obtain ⟨c, t, e, hc⟩ := dgc_head bs
      rw [e] at hy
      rw [at_drop hy]
      intro q
      injection q with q
      omega
    cases r with
    | nil =>
      rw [spL_one] at h
      obtain ⟨b, g1, g2, g3⟩ := node_ok hk f (i + 1) (41 :: x) (by omega) (fun c r e => by injection e with e1 _; exact .inr e1.symm) h
      refine ⟨b + 1, ?_, drop_more (a := [41]) g2, by rw [List.length_cons] at g3; omega⟩
      simp only [kidsV, if_neg (h45 _ h), g1, at_drop g2, if_true]
    | cons k2 r =>
      rw [spL_cons, List.append_assoc] at h
      obtain ⟨b, g1, g2, g3⟩ := node_ok hk f (i + 1) (44 :: (spL (k2 :: r) ++ 41 :: x)) (by omega) (fun c r e => by injection e with e1 _; exact .inl e1.symm) (by rw [h]; simp)
      have h3 : cs.drop (b + 1) = spL (k2 :: r) ++ 41 :: x := drop_more (a := [44]) g2
      obtain ⟨b2, g4, g5⟩ := kids_ok hr (by simp) f m b x (by omega) (by omega) h3
      refine ⟨b2, ?_, g5⟩
      simp only [kidsV, if_neg (h45 _ h), g1, at_drop g2]
      exact g4
end
/-! ### what it reads is a spelling -/
theorem beh_back (cs : List Nat) (i : Nat) (h : behV cs i ≠ i) : ∃ bs : List Int, (∀ b ∈ bs, b = 0 ∨ b = 1) ∧ bs.length ≤ cs.length ∧ cs.drop i = dgc bs ++ cs.drop (behV cs i) := by
  unfold behV at h ⊢
  by_cases e : cs[i]? = some 46
  · rw [if_pos e]
    exact ⟨[], (fun b hb => nomatch hb), Nat.zero_le _, drop_at e⟩
  · rw [if_neg e] at h ⊢
    have key : ∀ l : List Nat, ∃ bs : List Int, (∀ b ∈ bs, b = 0 ∨ b = 1) ∧ bs.length = (l.takeWhile isD).length ∧ l = bs.map dg ++ l.drop (l.takeWhile isD).length := by
      intro l
      induction l with
      | nil => exact ⟨[], (fun b hb => nomatch hb), rfl, rfl⟩
      | cons c r ih =>
        rw [List.takeWhile_cons]
        by_cases hc : isD c = true
        · rw [if_pos hc]
          obtain ⟨bs, h1, h2, h3⟩ := ih
          refine ⟨undg c :: bs, ?_, by rw [List.length_cons, List.length_cons, h2], ?_⟩
          · intro b hb
            rcases List.mem_cons.mp hb with q | q
            · rw [q]
              unfold undg
              split
              · exact .inl rfl
              · exact .inr rfl
            · exact h1 b q
          · have hd : dg (undg c) = c := by
              unfold isD at hc
              rw [Bool.or_eq_true, decide_eq_true_eq, decide_eq_true_eq] at hc
              rcases hc with q | q <;> rw [q] <;> rfl
            rw [List.map_cons, hd, List.length_cons, List.drop_succ_cons, List.cons_append, ← h3]
        · rw [if_neg hc]
          exact ⟨[], (fun b hb => nomatch hb), rfl, rfl⟩
    obtain ⟨bs, h1, h2, h3⟩ := key (cs.drop i)
    refine ⟨bs, h1, ?_, ?_⟩
    · have a : ((cs.drop i).takeWhile isD).length ≤ (cs.drop i).length := (List.takeWhile_sublist _).length_le
      rw [List.length_drop] at a
      omega
    · have hne : bs ≠ [] := fun q => by
        rw [q] at h2
        rw [← h2] at h
        exact h rfl
      unfold dgc
      rw [if_neg hne, ← List.drop_drop]
      exact h3
theorem node_snd {cs : List Nat} : ∀ (f i b : Nat), nodeV cs f i = some b → ∃ d, Bd cs.length cs.length d ∧ cs.drop i = cd (spell d) ++ cs.drop b
  | 0, i, b, h => by cases h
  | f + 1, i, b, h => by
    have h : (if behV cs i = i then none else if cs[behV cs i]? = some 40 then kidsV cs (nodeV cs f) cs.length (behV cs i) else some (behV cs i)) = some b := h
    by_cases h0 : behV cs i = i
    · rw [if_pos h0] at h
      cases h
    · rw [if_neg h0] at h
      obtain ⟨bs, hb, lb, hd⟩ := beh_back cs i h0
      by_cases h40 : cs[behV cs i]? = some 40
      · rw [if_pos h40] at h
        have kids : ∀ (m i : Nat), kidsV cs (nodeV cs f) m i = some b → ∃ ks, ks ≠ [] ∧ BdL cs.length cs.length ks ∧ cs.drop (i + 1) = spL ks ++ 41 :: cs.drop b := by
          intro m
          induction m with
          | zero => intro i h; cases h
          | succ m ih =>
            intro i h
            simp only [kidsV] at h
            have child : ∀ b2, (if cs[i + 1]? = some 45 then some (i + 2) else nodeV cs f (i + 1)) = some b2 → ∃ d, BdL cs.length cs.length [d] ∧ cs.drop (i + 1) = cd (spell d) ++ cs.drop b2 := fun b2 hb2 => by
              by_cases h45 : cs[i + 1]? = some 45
              · rw [if_pos h45] at hb2
                injection hb2 with hb2
                subst hb2
                refine ⟨.none, .non .nil, ?_⟩
                rw [none_cd]
                exact drop_at h45
              · rw [if_neg h45] at hb2
                obtain ⟨d, hd1, hd2⟩ := node_snd f (i + 1) b2 hb2
                exact ⟨d, .one hd1 .nil, hd2⟩
            cases hc : (if cs[i + 1]? = some 45 then some (i + 2) else nodeV cs f (i + 1)) with
            | none =>
              rw [hc] at h
              cases h
            | some b2 =>
              rw [hc] at h
              obtain ⟨d, hd1, hd2⟩ := child b2 hc
              by_cases h41 : cs[b2]? = some 41
              · simp only [h41, if_true] at h
                injection h with h
                subst h
                refine ⟨[d], by simp, hd1, ?_⟩
                rw [hd2, drop_at h41, spL_one]
              · by_cases h44 : cs[b2]? = some 44
                · simp only [h44] at h
                  rw [if_pos trivial] at h
                  obtain ⟨ks, hks, hbk, hd3⟩ := ih b2 h
                  refine ⟨d :: ks, by simp, BdL.app hd1 hbk, ?_⟩
                  cases ks with
                  | nil => exact absurd rfl hks
                  | cons k2 r => rw [hd2, drop_at h44, spL_cons, hd3, List.append_assoc]; rfl
                · simp only [if_neg h41, if_neg h44] at h
                  cases h
        obtain ⟨ks, hks, hbk, hd3⟩ := kids cs.length (behV cs i) h
        have hkl := spL_ne hbk hks
        have hsl : (spL ks).length ≤ cs.length := by
          have e : (cs.drop (behV cs i + 1)).length = cs.length - (behV cs i + 1) := List.length_drop
          rw [hd3, List.length_append] at e
          omega
        have hbd : Bd cs.length cs.length (nd bs ks) := .mk rfl lb hb (by omega) hbk
        refine ⟨nd bs ks, hbd, ?_⟩
        rw [spell_cd hbd, hd, drop_at h40, hd3]
        unfold PZ.rest
        rw [if_neg hks]
        rfl
      · rw [if_neg h40] at h
        injection h with h
        rw [h] at hd
        have hbd : Bd cs.length cs.length (nd bs []) := .mk rfl lb hb (Nat.zero_le _) .nil
        refine ⟨nd bs [], hbd, ?_⟩
        rw [spell_cd hbd, hd]
        unfold PZ.rest
        rw [if_pos rfl]
theorem good_iff {cs : List Nat} (hp : pcnt cs ≤ 40) : nodeV cs 41 0 = some cs.length ↔ acc cs = true := by
  constructor
  · intro h
    obtain ⟨d, hd, e⟩ := node_snd 41 0 cs.length h
    rw [List.drop_zero, List.drop_length, List.append_nil] at e
    rw [e]
    exact acc_spell hd
  · intro h
    obtain ⟨d, hd, e⟩ := acc_tree (l := cs) (Nat.le_refl _) (Nat.le_refl _) h
    have h1 := (deep_cnt hd).1
    rw [← e] at h1
    obtain ⟨b, g1, _, g3⟩ := node_ok (cs := cs) hd 41 0 [] (by omega) (fun c r q => nomatch q) (by rw [List.drop_zero, List.append_nil]; exact e)
    rw [g1]
    simp at g3
    rw [g3]
end RP

set_option Elab.async false
set_option linter.all false
set_option maxRecDepth 100000
set_option maxHeartbeats 8000000

namespace K10
open PySem PySem.Spec PyProof.Rows L2 He XH XV XR PEN TR XQ PZ Evl
def top (i : Nat) : Stmt := PySem.Challenge.pw_tryback_k10_spellings_refused.main.body.getD i (.Pass ⟨0, 0, 0, 0⟩)
abbrev s_wall : Stmt := top 0
theorem sc_wall : FnScope ["k"] ["k"] (defScope s_wall) := ⟨rfl, rfl, rfl, by decide +kernel, rfl, by decide +kernel, by decide +kernel⟩
abbrev s_BadText_init : Stmt := inClass (top 3) 0
theorem sc_BadText_init : FnScope ["self", "line"] ["self", "line"] (defScope s_BadText_init) := ⟨rfl, rfl, rfl, by decide +kernel, rfl, by decide +kernel, by decide +kernel⟩
abbrev s_NoSuch_init : Stmt := inClass (top 6) 0
theorem sc_NoSuch_init : FnScope ["self", "name"] ["self", "name"] (defScope s_NoSuch_init) := ⟨rfl, rfl, rfl, by decide +kernel, rfl, by decide +kernel, by decide +kernel⟩
abbrev s_Puzzle_init : Stmt := inClass (top 14) 0
theorem sc_Puzzle_init : FnScope ["self", "bits", "children", "all_bits", "all_children", "nodes", "child", "node"] ["self", "bits", "children"] (defScope s_Puzzle_init) := ⟨rfl, rfl, rfl, by decide +kernel, rfl, by decide +kernel, by decide +kernel⟩
abbrev s_Puzzle_paths : Stmt := inClass (top 14) 1
theorem sc_Puzzle_paths : FnScope ["self"] ["self"] (defScope s_Puzzle_paths) := ⟨rfl, rfl, rfl, by decide +kernel, rfl, by decide +kernel, by decide +kernel⟩
abbrev s_Puzzle_before : Stmt := inClass (top 14) 2
theorem sc_Puzzle_before : FnScope ["self", "other"] ["self", "other"] (defScope s_Puzzle_before) := ⟨rfl, rfl, rfl, by decide +kernel, rfl, by decide +kernel, by decide +kernel⟩
abbrev s_Puzzle_with_bits : Stmt := inClass (top 14) 3
theorem sc_Puzzle_with_bits : FnScope ["self", "path", "bits"] ["self", "path", "bits"] (defScope s_Puzzle_with_bits) := ⟨rfl, rfl, rfl, by decide +kernel, rfl, by decide +kernel, by decide +kernel⟩
abbrev s_Puzzle_with_child : Stmt := inClass (top 14) 4
theorem sc_Puzzle_with_child : FnScope ["self", "path", "number", "child"] ["self", "path", "number", "child"] (defScope s_Puzzle_with_child) := ⟨rfl, rfl, rfl, by decide +kernel, rfl, by decide +kernel, by decide +kernel⟩
abbrev s_Puzzle_rebuilt : Stmt := inClass (top 14) 5
theorem sc_Puzzle_rebuilt : FnScope ["self", "path", "node"] ["self", "path", "node"] (defScope s_Puzzle_rebuilt) := ⟨rfl, rfl, rfl, by decide +kernel, rfl, by decide +kernel, by decide +kernel⟩
abbrev s_Puzzle_node_at : Stmt := inClass (top 14) 6
theorem sc_Puzzle_node_at : FnScope ["self", "path", "node", "number"] ["self", "path"] (defScope s_Puzzle_node_at) := ⟨rfl, rfl, rfl, by decide +kernel, rfl, by decide +kernel, by decide +kernel⟩
abbrev s_Puzzle___contains__ : Stmt := inClass (top 14) 7
theorem sc_Puzzle___contains__ : FnScope ["self", "x"] ["self", "x"] (defScope s_Puzzle___contains__) := ⟨rfl, rfl, rfl, by decide +kernel, rfl, by decide +kernel, by decide +kernel⟩
abbrev s_Puzzle___getitem__ : Stmt := inClass (top 14) 8
theorem sc_Puzzle___getitem__ : FnScope ["self", "at", "node"] ["self", "at"] (defScope s_Puzzle___getitem__) := ⟨rfl, rfl, rfl, by decide +kernel, rfl, by decide +kernel, by decide +kernel⟩
abbrev s_Puzzle___iter__ : Stmt := inClass (top 14) 9
theorem sc_Puzzle___iter__ : FnScope ["self"] ["self"] (defScope s_Puzzle___iter__) := ⟨rfl, rfl, rfl, by decide +kernel, rfl, by decide +kernel, by decide +kernel⟩
abbrev s_Puzzle___eq__ : Stmt := inClass (top 14) 10
theorem sc_Puzzle___eq__ : FnScope ["self", "other"] ["self", "other"] (defScope s_Puzzle___eq__) := ⟨rfl, rfl, rfl, by decide +kernel, rfl, by decide +kernel, by decide +kernel⟩
abbrev s_check_entries : Stmt := top 15
theorem sc_check_entries : FnScope ["bits", "children", "bit", "child"] ["bits", "children"] (defScope s_check_entries) := ⟨rfl, rfl, rfl, by decide +kernel, rfl, by decide +kernel, by decide +kernel⟩
abbrev s_is_bit : Stmt := top 16
theorem sc_is_bit : FnScope ["bit"] ["bit"] (defScope s_is_bit) := ⟨rfl, rfl, rfl, by decide +kernel, rfl, by decide +kernel, by decide +kernel⟩
abbrev s_trimmed : Stmt := top 17
theorem sc_trimmed : FnScope ["entries", "empty", "many"] ["entries", "empty"] (defScope s_trimmed) := ⟨rfl, rfl, rfl, by decide +kernel, rfl, by decide +kernel, by decide +kernel⟩
abbrev s_spelled : Stmt := top 18
theorem sc_spelled : FnScope ["bits", "children", "digits", "inner", "bit", "child"] ["bits", "children"] (defScope s_spelled) := ⟨rfl, rfl, rfl, by decide +kernel, rfl, by decide +kernel, by decide +kernel⟩
abbrev s_read_puzzle : Stmt := top 19
theorem sc_read_puzzle : FnScope ["text", "words", "families", "children", "word", "digit"] ["text"] (defScope s_read_puzzle) := ⟨rfl, rfl, rfl, by decide +kernel, rfl, by decide +kernel, by decide +kernel⟩
abbrev s_check_spelling : Stmt := top 20
theorem sc_check_spelling : FnScope ["text", "ending", "level", "sign"] ["text"] (defScope s_check_spelling) := ⟨rfl, rfl, rfl, by decide +kernel, rfl, by decide +kernel, by decide +kernel⟩
abbrev s_law_draw : Stmt := top 22
theorem sc_law_draw : FnScope ["_law_pen", "_law_many", "_law_spot", "_law_at", "_law_cell", "_law_mixed"] ["_law_pen", "_law_many"] (defScope s_law_draw) := ⟨rfl, rfl, rfl, by decide +kernel, rfl, by decide +kernel, by decide +kernel⟩
abbrev s_law_pick : Stmt := top 23
theorem sc_law_pick : FnScope ["_law_pen", "_law_row"] ["_law_pen", "_law_row"] (defScope s_law_pick) := ⟨rfl, rfl, rfl, by decide +kernel, rfl, by decide +kernel, by decide +kernel⟩
abbrev s_law_tree : Stmt := top 24
theorem sc_law_tree : FnScope ["_law_pen", "_law_room", "_law_deep_here", "_law_bits", "_law_left", "_law_children", "_law_k", "_law_child"] ["_law_pen", "_law_room", "_law_deep_here"] (defScope s_law_tree) := ⟨rfl, rfl, rfl, by decide +kernel, rfl, by decide +kernel, by decide +kernel⟩
abbrev s_law_size : Stmt := top 25
theorem sc_law_size : FnScope ["_law_tree_here", "_law_child"] ["_law_tree_here"] (defScope s_law_size) := ⟨rfl, rfl, rfl, by decide +kernel, rfl, by decide +kernel, by decide +kernel⟩
abbrev s_law_puzzle : Stmt := top 26
theorem sc_law_puzzle : FnScope ["_law_tree_here", "_law_children", "_law_child"] ["_law_tree_here"] (defScope s_law_puzzle) := ⟨rfl, rfl, rfl, by decide +kernel, rfl, by decide +kernel, by decide +kernel⟩
abbrev s_law_short : Stmt := top 27
theorem sc_law_short : FnScope ["_law_row", "_law_spare", "_law_last", "_law_at"] ["_law_row", "_law_spare"] (defScope s_law_short) := ⟨rfl, rfl, rfl, by decide +kernel, rfl, by decide +kernel, by decide +kernel⟩
abbrev s_law_trimmed : Stmt := top 28
theorem sc_law_trimmed : FnScope ["_law_tree_here", "_law_kids", "_law_child"] ["_law_tree_here"] (defScope s_law_trimmed) := ⟨rfl, rfl, rfl, by decide +kernel, rfl, by decide +kernel, by decide +kernel⟩
abbrev s_law_deep : Stmt := top 29
theorem sc_law_deep : FnScope ["_law_tree_here", "_law_child"] ["_law_tree_here"] (defScope s_law_deep) := ⟨rfl, rfl, rfl, by decide +kernel, rfl, by decide +kernel, by decide +kernel⟩
abbrev s_law_spelled : Stmt := top 30
theorem sc_law_spelled : FnScope ["_law_tree_here", "_law_text", "_law_inner", "_law_bit", "_law_child"] ["_law_tree_here"] (defScope s_law_spelled) := ⟨rfl, rfl, rfl, by decide +kernel, rfl, by decide +kernel, by decide +kernel⟩
abbrev s_law_same : Stmt := top 31
theorem sc_law_same : FnScope ["_law_puzzle_here", "_law_tree_here", "_law_at", "_law_child"] ["_law_puzzle_here", "_law_tree_here"] (defScope s_law_same) := ⟨rfl, rfl, rfl, by decide +kernel, rfl, by decide +kernel, by decide +kernel⟩
abbrev s_law_behind : Stmt := top 32
theorem sc_law_behind : FnScope ["_law_text", "_law_at", "_law_k"] ["_law_text", "_law_at"] (defScope s_law_behind) := ⟨rfl, rfl, rfl, by decide +kernel, rfl, by decide +kernel, by decide +kernel⟩
abbrev s_law_node : Stmt := top 33
theorem sc_law_node : FnScope ["_law_text", "_law_at", "_law_deep_here", "_law_behind_here", "_law_k"] ["_law_text", "_law_at", "_law_deep_here"] (defScope s_law_node) := ⟨rfl, rfl, rfl, by decide +kernel, rfl, by decide +kernel, by decide +kernel⟩
abbrev s_law_told : Stmt := top 34
theorem sc_law_told : FnScope ["_law_text", "_law_puzzle_here", "_law_told_here", "e"] ["_law_text"] (defScope s_law_told) := ⟨rfl, rfl, rfl, by decide +kernel, rfl, by decide +kernel, by decide +kernel⟩
abbrev s_law_bent : Stmt := top 35
theorem sc_law_bent : FnScope ["_law_pen", "_law_text", "_law_signs", "_law_k", "_law_at", "_law_sign", "_law_kind"] ["_law_pen", "_law_text"] (defScope s_law_bent) := ⟨rfl, rfl, rfl, by decide +kernel, rfl, by decide +kernel, by decide +kernel⟩
abbrev s_law_levels : Stmt := top 36
theorem sc_law_levels : FnScope ["_law_pen", "_law_many", "_law_inner", "_law_k"] ["_law_pen", "_law_many", "_law_inner"] (defScope s_law_levels) := ⟨rfl, rfl, rfl, by decide +kernel, rfl, by decide +kernel, by decide +kernel⟩
abbrev s_law : Stmt := top 37
theorem sc_law : FnScope ["_law_script", "_law_pen", "_law_turn", "_law_text", "_law_good", "_law_told_here", "_law_many", "_law_flat", "_law_due"] ["_law_script"] (defScope s_law) := ⟨rfl, rfl, rfl, by decide +kernel, rfl, by decide +kernel, by decide +kernel⟩
abbrev FnP (K : PySem.W.Frag) (x qn : Str) (st : Stmt) (f : Addr) (fd : FuncData) : Prop := FunD K x qn (defArgs st) (defBody st) (defScope st) [] [] f fd
def globs : List Str := [("BadPuzzle" : Str), ("BadText" : Str), ("ENDS_WITH" : Str), ("LEVELS" : Str), ("MAY_FOLLOW" : Str), ("NoSuch" : Str), ("Puzzle" : Str), ("TooGreat" : Str), ("TryError" : Str), ("_law_behind" : Str), ("_law_bent" : Str), ("_law_deep" : Str), ("_law_draw" : Str), ("_law_levels" : Str), ("_law_node" : Str), ("_law_pick" : Str), ("_law_puzzle" : Str), ("_law_same" : Str), ("_law_short" : Str), ("_law_size" : Str), ("_law_spelled" : Str), ("_law_told" : Str), ("_law_tree" : Str), ("_law_trimmed" : Str), ("_wall" : Str), ("check_entries" : Str), ("check_spelling" : Str), ("is_bit" : Str), ("law" : Str), ("read_puzzle" : Str), ("spelled" : Str), ("trimmed" : Str)]
def frees : List Str := ["range", "len", "int", "str", "list", "tuple", "isinstance", "all", "sum", "max", "min", "bool"]
def Cl (P : Program) (w : World) (K : PySem.W.Frag) (mg : Str → Option Value) (base : Heap) (CX : CXT) (k : Nat) (f : Addr) (ps : List Str) (sp : Sp) : Prop := ∃ fd, FnOk P w K mg base CX k f fd ps sp ∧ Binds K fd ps [] ∧ PySem.W.keepIn K (.ref f) = true
structure Txt (K : PySem.W.Frag) (w : World) (mg : Str → Option Value) : Prop where
  gl : ∀ x ∈ globs, mg x = some (.ref (ga K x))
  fr : ∀ x ∈ frees, mg x = none
  c_MOST_NODES : ∃ t, mg "MOST_NODES" = some (.int 500 t)
  c_GREATEST_DEPTH : ∃ t, mg "GREATEST_DEPTH" = some (.int 30 t)
  c_ONLY_INSIDE : ∃ t, mg "ONLY_INSIDE" = some (.str "-,)" t)

def pF : List String := ["bits", "children", "size", "depth", "spelling"]
structure Tx (K : PySem.W.Frag) (w : World) (mg : Str → Option Value) : Prop extends Txt K w mg where
  cp : Cls K (ga K "Puzzle")
  np : ∀ x ∈ pF, NoAttr K (ga K "Puzzle") x
  mp : Mk K (ga K "Puzzle") (ma K (ga K "Puzzle") "__init__")
  ef : PySem.W.findIn K (.ref (ga K "Puzzle")) "__eq__" = some (some (.ref (ma K (ga K "Puzzle") "__eq__")))
  en : PySem.W.isFn K (.ref (ma K (ga K "Puzzle") "__eq__")) = true
  ia : PySem.W.findIn K (.ref (ga K "Puzzle")) "__class__" = some (some (.builtin "object.__class__"))
  ig : PySem.W.specialIn K (.builtin "object.__class__") "__get__" = some (some (.builtin "getset_descriptor.__get__"))
  it : PySem.W.takesIn K (.builtin "object.__class__") = some true
  im : PySem.W.mroIn K (ga K "Puzzle") (.type "object") = some true
  nf : ∀ t ∈ ["NoneType", "tuple", "str", "int", "list"], PySem.W.notFirst K (ga K "Puzzle") (.type t) = true
  ki : PySem.W.kitOne K (.ref (ga K "Puzzle")) (.ref (ga K "Puzzle")) = some true
  kn : ∀ t ∈ ["NoneType", "tuple", "str", "int", "list"], PySem.W.kitOne K (.type t) (.ref (ga K "Puzzle")) = some false
theorem Tx.ty {K : PySem.W.Frag} {w : World} {mg : Str → Option Value} (T : Tx K w mg) {H : Hp} {a dx : Addr} {fs : List (Str × V)} (h : H a = some (.ins (ga K "Puzzle") dx fs)) : TyX K H (.ref a) (.ref (ga K "Puzzle")) := .base (.ins h T.cp T.ia T.ig T.it T.im)
theorem Tx.tz {K : PySem.W.Frag} {w : World} {mg : Str → Option Value} (T : Tx K w mg) {H : Hp} {a : Addr} {d : PyData} (h : Pz K H a d) : TyX K H (.ref a) (.ref (ga K "Puzzle")) := by
  cases h with
  | mk e b h hb hc hk => exact T.ty h
theorem self_first {K : PySem.W.Frag} {C : Addr} : PySem.W.notFirst K C (.ref C) = true := by
  unfold PySem.W.notFirst
  simp

end K10
set_option Elab.async false
set_option linter.all false
set_option maxRecDepth 100000
set_option maxHeartbeats 8000000
namespace K10
open PySem PySem.Spec PyProof.Rows L2 He XH XV XR PEN TR XQ PZ Evl


def bitB (i : Int) : Bool := inV (V.int i) [V.int 0, V.int 1]
theorem bitB_ok {i : Int} (h : i = 0 ∨ i = 1) : bitB i = true := by
  rcases h with rfl | rfl <;> decide
def spBit : Sp := fun vs H Q _ => ∃ i : Int, vs = [.int i] ∧ ∀ H', Ex H H' → Q (.bl (bitB i)) H'
def spChk (K : PySem.W.Frag) : Sp := fun vs H Q _ => ∃ (ba ca : Addr) (bs : List Int) (ws : List V) (ks : List PyData), vs = [.ref ba, .ref ca] ∧ SqT K H ba (bs.map V.int) ∧ (∀ b ∈ bs, b = 0 ∨ b = 1) ∧ bs.length ≤ 1000 ∧ SqT K H ca ws ∧ PzL K H ws ks ∧ ks.length ≤ 1000 ∧ ∀ H', Ex H H' → Q .non H'
/-- == of a puzzle and a puzzle, or a thing of another kind -/
def spEq (K : PySem.W.Frag) : Sp := fun vs H Q _ => ∃ a y d, vs = [.ref a, y] ∧ Pz K H a d ∧ ((∃ b d', y = .ref b ∧ Pz K H b d' ∧ ∀ H', Ex H H' → Q (.bl (decide (V.str (spell d) = V.str (spell d')))) H') ∨ (∃ t, TyX K H y (.type t) ∧ PySem.W.kitOne K (.type t) (.ref (ga K "Puzzle")) = some false ∧ ∀ H', Ex H H' → Q (.bl false) H'))
/-- what x == y reads as, by value or by the own __eq__ -/
def eqR (K : PySem.W.Frag) : R2 := orR rEq (rOwn K (ga K "Puzzle") (spEq K))
def spTrim (K : PySem.W.Frag) : Sp := fun vs H Q _ => ∃ (a : Addr) (e : V) (xs : List V) (p : V → Bool), vs = [.ref a, e] ∧ SqT K H a xs ∧ xs.length ≤ 1000 ∧ (∀ x ∈ xs, RV (eqR K) x e H (.bl (p x))) ∧ ∀ r H', Ex H H' → SqT K H' r (xs.take (keepN p xs)) → Q (.ref r) H'
theorem isi_of {K : PySem.W.Frag} {H : Hp} {x c : V} {t u : Value} {b : Bool} (hc : ClsV c u) (hx : ∀ H1, Ex H H1 → TyX K H1 x t) (k : PySem.W.kitOne K t u = some b) : RC (rIsi K) [x, c] H (.bl b) := fun H1 e Q q => ⟨x, c, t, u, b, rfl, hc, hx H1 e, k, q H1 (Ex.refl _)⟩
theorem tyx_mono {K : PySem.W.Frag} {H H' : Hp} {x : V} {t : Value} (h : TyX K H x t) (e : Ex H H') : TyX K H' x t := by
  cases h with
  | base h =>
    cases h with
    | non => exact .base .non
    | bl x => exact .base (.bl x)
    | int x => exact .base (.int x)
    | str x => exact .base (.str x)
    | flt x => exact .base (.flt x)
    | lst h => exact .base (.lst (e _ _ h))
    | frz h => exact .base (.frz (e _ _ h))
    | tup h => exact .base (.tup (e _ _ h))
    | dK h => exact .base (.dK (e _ _ h))
    | dT h => exact .base (.dT (e _ _ h))
    | ins h c a n t m => exact .base (.ins (e _ _ h) c a n t m)
  | byt b => exact .byt b
  | set h => exact .set (e _ _ h)
  | kList h c => exact .kList h c
  | kTuple h c => exact .kTuple h c
  | kDict h c => exact .kDict h c
  | fTuple h => exact .fTuple (e _ _ h)
  | fDict h => exact .fDict (e _ _ h)
theorem rep_more (i : Nat) : (List.replicate (i + 1) true).map V.bl = (List.replicate i true).map V.bl ++ [V.bl true] := by
  rw [List.replicate_succ', List.map_append]
  rfl
theorem rep_all (n : Nat) : (List.replicate n true).all id = true := by
  rw [List.all_eq_true]
  intro x hx
  rw [(List.mem_replicate.mp hx).2]
  rfl

section
variable {P : Program} {w : World} {K : PySem.W.Frag} {mg : Str → Option Value} {base : Heap}

theorem ok_is_bit {fd : FuncData} (F : FnP K "is_bit" "is_bit" s_is_bit (ga K "is_bit") fd) (T : Tx K w mg) : FnOk P w K mg base CX0 (0 + 1) (ga K "is_bit") fd ["bit"] spBit := by
  refine FunD.ok F sc_is_bit (fun vs H Q E h => ?_) (fun cdv A outer s H vs Q E hr h => ?_)
  · obtain ⟨i, rfl, _⟩ := h
    rfl
  · obtain ⟨i, rfl, kk⟩ := h
    have n_isinstance := T.fr "isinstance" (by decide +kernel)
    have n_int := T.fr "int" (by decide +kernel)
    have n_bool := T.fr "bool" (by decide +kernel)
    refine ⟨_, PSs.nox (pss_one (ps_ret (pe_and (pe_callB call_isi (by rfl) n_isinstance (by decide +kernel) (pa_cons (pv 0) (pa_cons (pe_bltn (v := .ty "int") (by rfl) n_int (by decide +kernel) rfl) pa_nil))) (pe_and (pe_not (pe_callB call_isi (by rfl) n_isinstance (by decide +kernel) (pa_cons (pv 0) (pa_cons (pe_bltn (v := .ty "bool") (by rfl) n_bool (by decide +kernel) rfl) pa_nil)))) (pe_one (pe_cmpR op_in_seq (pv 0) (pe_tup (pa_cons pe_int (pa_cons pe_int pa_nil))) (by rfl))))))), ?_⟩
    refine s_ret (v := .bl (bitB i)) (ev_is (ev_andV (a := true) (b := true && bitB i) (ev_cb (ea_cons (ev_var rfl) (ea_cons ev_c ea_nil)) (isi_of (.ty _) (fun _ _ => .base (.int i)) (kit_ty (by decide +kernel)))) fun _ => ev_andV (a := true) (b := bitB i) (ev_is (ev_notV (a := false) (ev_cb (ea_cons (ev_var rfl) (ea_cons ev_c ea_nil)) (isi_of (.ty _) (fun _ _ => .base (.int i)) (kit_ty (by decide +kernel))))) rfl) fun _ => ev_inU (ev_var rfl) (eu_tup (ea_cons ev_c (ea_cons ev_c ea_nil)) (by decide)) rfl rfl) ?_) fun H1 e1 => kk H1 e1
    rfl

theorem ok_check_entries {fd : FuncData} (F : FnP K "check_entries" "check_entries" s_check_entries (ga K "check_entries") fd) (T : Tx K w mg) (c_is_bit : Cl P w K mg base CX0 1 (ga K "is_bit") ["bit"] spBit) : FnOk P w K mg base CX0 (1 + 1) (ga K "check_entries") fd ["bits", "children"] (spChk K) := by
  obtain ⟨fd_is_bit, G_is_bit, b_is_bit, kp_is_bit⟩ := c_is_bit
  refine FunD.ok F sc_check_entries (fun vs H Q E h => ?_) (fun cdv A outer s H vs Q E hr h => ?_)
  · obtain ⟨ba, ca, bs, ws, ks, rfl, _⟩ := h
    rfl
  · obtain ⟨ba, ca, bs, ws, ks, rfl, hb, h01, lb, hc, hk, lk, kk⟩ := h
    have n_all := T.fr "all" (by decide +kernel)
    have g_is_bit := T.gl "is_bit" (by decide +kernel)
    have n_isinstance := T.fr "isinstance" (by decide +kernel)
    have g_Puzzle := T.gl "Puzzle" (by decide +kernel)
    refine ⟨_, PSs.nox (pss_cons (ps_if (pt_not (pt_val (pe_callB (cr_all rfl) (by rfl) n_all (by decide +kernel) (pa_cons (pe_lc (own := [("bit", 2)]) (g := gName 2) (by rfl) sc_check_entries.nd (pi_tup (pv 0)) (blkOk_by (own := [("bit", 2)]) (N := ["bits", "children", "bit", "child"]) (sc := defScope s_check_entries) (by decide +kernel)) (fun _ _ _ _ _ => (pg_name (i := 2) sc_check_entries.nd rfl (Or.inl rfl))) (fun _ _ _ _ _ => pts_nil) (fun _ _ _ _ _ => (pe_call G_is_bit (hr.mono (by decide)) (by rfl) g_is_bit kp_is_bit b_is_bit .nil pass0 (pa_cons (pv 2) pa_nil)))) pa_nil))))
      (pss_one ps_never)
      pss_nil)
      (pss_one (ps_if (pt_not (pt_val (pe_callB (cr_all rfl) (by rfl) n_all (by decide +kernel) (pa_cons (pe_lc (own := [("child", 3)]) (g := gName 3) (by rfl) sc_check_entries.nd (pi_tup (pv 1)) (blkOk_by (own := [("child", 3)]) (N := ["bits", "children", "bit", "child"]) (sc := defScope s_check_entries) (by decide +kernel)) (fun _ _ _ _ _ => (pg_name (i := 3) sc_check_entries.nd rfl (Or.inl rfl))) (fun _ _ _ _ _ => pts_nil) (fun _ _ _ _ _ => (pe_or (pe_cmpR op_isN (pv 3) pe_non (nomark _)) (pe_one (pe_callB (call_isi : CallR _ _ (rIsi K)) (by rfl) n_isinstance (by decide +kernel) (pa_cons (pv 3) (pa_cons (pe_glob (v := .ref _) (by rfl) g_Puzzle rfl) pa_nil))))))) pa_nil))))
      (pss_one ps_never)
      pss_nil))), ?_⟩
    have lw := hk.len
    refine q_when (b := false) (fun H1 e Q q => ?_) (fun hb => nomatch hb) (fun _ H1 e1 => ?_)
    · refine ⟨.ref ba, rfl, ba, rfl, ⟨_, ex_t e hb⟩, fun D hD => ?_⟩
      refine lc_tup (xs := bs.map V.int) (fun i H' => Ex H1 H' ∧ H' D = some (.lst ((List.replicate i true).map V.bl))) ⟨Ex.new hD, upd_same⟩ (fun i H' _ hI => ex_t (e.trans hI.1) hb) (fun i x H' hx hI => ?_) (fun H' hI => ?_)
      · obtain ⟨k1, k2⟩ := hI
        rw [List.getElem?_map] at hx
        cases q1 : bs[i]? with
        | none =>
          rw [q1] at hx
          cases hx
        | some b =>
          rw [q1] at hx
          cases hx
          have hi := (List.getElem?_eq_some_iff.mp q1).1
          refine ⟨rfl, yes_go ⟨.int b, rfl, b, rfl, fun H3 e3 => ⟨_, e3 _ _ k2, ?_, (k1.trans e3).mut hD, ?_⟩⟩⟩
          · rw [List.length_map, List.length_replicate]
            exact small1000 (by omega)
          · rw [upd_same, rep_more, bitB_ok (h01 b (List.mem_of_getElem? q1))]
      · obtain ⟨k1, k2⟩ := hI
        refine ⟨D, _, rfl, sq_of k2, _, rfl, ?_⟩
        rw [rep_all]
        exact q H' k1
    refine s_when (b := false) (fun H2 e Q q => ?_) (fun hb => nomatch hb) (fun _ H2 e2 => kk H2 (e1.trans e2))
    have e2 := e1.trans e
    refine ⟨.ref ca, rfl, ca, rfl, ⟨_, ex_t e2 hc⟩, fun D hD => ?_⟩
    refine lc_tup (xs := ws) (fun i H' => Ex H2 H' ∧ H' D = some (.lst ((List.replicate i true).map V.bl))) ⟨Ex.new hD, upd_same⟩ (fun i H' _ hI => ex_t (e2.trans hI.1) hc) (fun i x H' hx hI => ?_) (fun H' hI => ?_)
    · obtain ⟨k1, k2⟩ := hI
      have hi := (List.getElem?_eq_some_iff.mp hx).1
      obtain ⟨d, hd, cas⟩ := (hk.kp (Kp.of (e2.trans k1))).at hx
      refine ⟨rfl, yes_go ?_⟩
      have fin : ∀ H3, Ex H' H3 → ∃ acc, H3 D = some (.lst acc) ∧ acc.length < sizeLine ∧ Ex H2 (upd H3 D (.lst (acc ++ [V.bl true]))) ∧ upd H3 D (.lst (acc ++ [V.bl true])) D = some (.lst ((List.replicate (i + 1) true).map V.bl)) := fun H3 e3 => by
        refine ⟨_, e3 _ _ k2, ?_, (k1.trans e3).mut hD, ?_⟩
        · rw [List.length_map, List.length_replicate]
          exact small1000 (by omega)
        · rw [upd_same, rep_more]
      rcases cas with ⟨rfl, rfl⟩ | ⟨c, rfl, hp⟩
      · refine (ev_is (ev_orV (a := true) (b := true) (ev_op (ev_var rfl) ev_c (fun H5 e5 Q5 q5 => ⟨rfl, q5 H5 (Ex.refl _)⟩)) (fun z => nomatch z)) rfl) H' (Ex.refl _) _ fun H3 e3 => fin H3 e3
      · refine (ev_is (ev_orV (a := false) (b := true) (ev_op (ev_var rfl) ev_c (fun H5 e5 Q5 q5 => ⟨rfl, q5 H5 (Ex.refl _)⟩)) (fun _ => ev_cb (ea_cons (ev_var rfl) (ea_cons ev_c ea_nil)) (isi_of (.own _) (fun H5 e5 => tyx_mono (T.tz hp) e5) T.ki))) rfl) H' (Ex.refl _) _ fun H3 e3 => fin H3 e3
    · obtain ⟨k1, k2⟩ := hI
      refine ⟨D, _, rfl, sq_of k2, _, rfl, ?_⟩
      rw [rep_all]
      exact q H' k1

theorem ok_Puzzle___eq__ {fd : FuncData} {f : Addr} (F : FnP K "__eq__" "Puzzle.__eq__" s_Puzzle___eq__ f fd) (T : Tx K w mg) : FnOk P w K mg base CX0 (0 + 1) f fd ["self", "other"] (spEq K) := by
  refine FunD.ok F sc_Puzzle___eq__ (fun vs H Q E h => ?_) (fun cdv A outer s H vs Q E hr h => ?_)
  · obtain ⟨a, y, d, rfl, _⟩ := h
    rfl
  · obtain ⟨a, y, d, rfl, ha, cas⟩ := h
    have n_isinstance := T.fr "isinstance" (by decide +kernel)
    have g_Puzzle := T.gl "Puzzle" (by decide +kernel)
    refine ⟨_, PSs.nox (pss_one (ps_ret (pe_and (pe_callB call_isi (by rfl) n_isinstance (by decide +kernel) (pa_cons (pv 1) (pa_cons (pe_glob (v := .ref _) (by rfl) g_Puzzle rfl) pa_nil))) (pe_one (pe_cmpR op_eq (pe_fld (pv 0) rfl) (pe_fld (pv 1) rfl) (nomark _)))))), ?_⟩
    have ha0 := ha
    cases ha0 with
    | mk e b h hb hc hk =>
      rcases cas with ⟨b', d', rfl, hb', kk⟩ | ⟨t, ty, k, kk⟩
      · have hb0 := hb'
        cases hb0 with
        | mk e' b2 h' hb2 hc' hk' =>
          refine s_ret (ev_is (ev_andV (a := true) (b := decide (V.str (spell d) = V.str (spell d'))) (ev_cb (ea_cons (ev_var rfl) (ea_cons ev_c ea_nil)) (isi_of (.own _) (fun H5 e5 => tyx_mono (T.tz hb') e5) T.ki)) fun _ => ev_op (ev_fld (ev_var rfl) h T.cp (T.np "spelling" (by decide +kernel)) rfl) (ev_fld (ev_var rfl) h' T.cp (T.np "spelling" (by decide +kernel)) rfl) (rv_eq rfl)) rfl) fun H1 e1 => kk H1 e1
      · refine s_ret (ev_is (ev_andV (a := false) (b := true) (ev_cb (ea_cons (ev_var rfl) (ea_cons ev_c ea_nil)) (isi_of (.own _) (fun H5 e5 => tyx_mono ty e5) k)) (fun z => nomatch z)) rfl) fun H1 e1 => kk H1 e1

end
end K10
set_option Elab.async false
set_option linter.all false
set_option maxRecDepth 100000
set_option maxHeartbeats 8000000
namespace K10
open PySem PySem.Spec PyProof.Rows L2 He XH XV XR PEN TR XQ PZ Evl


theorem ev_ixT {K : PySem.W.Frag} {ta tb : TE} {σ : L2.St} {H : Hp} {p : Addr} {xs : List V} {i : Int} {v : V} (ha : Ev ta σ H (.ref p)) (hb : Ev tb σ H (.int i)) (h : SqT K H p xs) (hi : atI xs i = some v) : Ev (tOp (rIxT K) ta tb) σ H v := ev_op ha hb (rv_ixT h hi)
theorem RV.mono' {r : R2} {x y z : V} {H H' : Hp} (e : Ex H H') (h : RV r x y H z) : RV r x y H' z := fun H1 a Q q => h H1 (e.trans a) Q q
def spSpell (K : PySem.W.Frag) : Sp := fun vs H Q _ => ∃ (ba ca : Addr) (bs : List Int) (ws : List V) (ks : List PyData), vs = [.ref ba, .ref ca] ∧ SqT K H ba (bs.map V.int) ∧ (∀ b ∈ bs, b = 0 ∨ b = 1) ∧ bs.length ≤ 60 ∧ SqT K H ca ws ∧ PzL K H ws ks ∧ ks.length ≤ 600 ∧ sizeL ks ≤ 500 ∧ ∀ H', Ex H H' → Q (.str (spell (nd bs ks))) H'
theorem cut_take' (xs : List V) (i : Nat) : cutV xs none (some (i : Int)) = xs.take i := cut_take xs i
def szL (n : Nat) (h : n ≤ 1000000) : n ≤ sizeLine := by
  rw [sizeLine_eq]
  omega

section
variable {P : Program} {w : World} {K : PySem.W.Frag} {mg : Str → Option Value} {base : Heap}

theorem ok_trimmed {fd : FuncData} (F : FnP K "trimmed" "trimmed" s_trimmed (ga K "trimmed") fd) (T : Tx K w mg) (c_eq : Cl P w K mg base CX0 1 (ma K (ga K "Puzzle") "__eq__") ["self", "other"] (spEq K)) : FnOk P w K mg base CX0 (1 + 1) (ga K "trimmed") fd ["entries", "empty"] (spTrim K) := by
  obtain ⟨fd_eq, G_eq, b_eq, kp_eq⟩ := c_eq
  refine FunD.ok F sc_trimmed (fun vs H Q E h => ?_) (fun cdv A outer s H vs Q E hr h => ?_)
  · obtain ⟨a, e, xs, p, rfl, _⟩ := h
    rfl
  · obtain ⟨a, e, xs, p, rfl, ha, lx, heq, kk⟩ := h
    have n_len := T.fr "len" (by decide +kernel)
    refine ⟨_, PSs.nox (pss_cons (ps_set (i := 2) sc_trimmed.nd rfl (Or.inl rfl) (pe_callB call_len_seq (by rfl) n_len (by decide +kernel) (pa_cons (pv 0) pa_nil)))
      (pss_cons (ps_while PassesOwn.never (PW.pt (pw_and (pt_cmpR op_gt (pv 2) pe_int (nomark _)) (pw_and1 (pt_cmpR (op_or2 op_eq (op_own G_eq T.ef T.en b_eq (hr.mono (by decide)))) (pe_ix ix_tup (pv 0) (pe_op op_sub (pv 2) pe_int) (fun _ _ => rfl)) (pv 1) (nomark _)))))
      (pss_one (ps_aug (i := 2) sc_trimmed.nd rfl (Or.inl rfl) pe_int ip_sub)))
      (pss_one (ps_ret (pe_slice sl_tupA (pv 0) po_none (po_some (pv 2))))))), ?_⟩
    refine q_asg (v := .int (xs.length : Nat)) (ev_cb (ea_cons (ev_var rfl) ea_nil) fun H1 e1 Q1 q1 => ⟨a, xs, rfl, .inr (ex_t e1 ha), q1 H1 (Ex.refl _)⟩) fun H1 e1 => ?_
    dsimp only [gName, List.set]
    refine q_while (fun m σ' H' => ∃ many : Nat, m = many ∧ σ' = [some (.ref a), some e, some (.int (many : Nat))] ∧ Ex H H' ∧ many ≤ xs.length ∧ keepN p (xs.take many) = keepN p xs) xs.length ⟨xs.length, rfl, rfl, e1, Nat.le_refl _, by rw [List.take_length]⟩ (fun m σ' H' hW => ?_)
    obtain ⟨many, rfl, rfl, e2, lm, hk⟩ := hW
    have fin : keepN p (xs.take m) = m → ∀ H1, Ex H' H1 → tRet (tSl (rSlA K) (tVar 0) tNoPart (tPart (tVar 2))) { nx := fun _ H' => Q .non H', rt := Q } [some (.ref a), some e, some (.int (m : Nat))] H1 := fun hm H3 e3 => by
      have e23 := e2.trans e3
      have cc : cutV xs none (some (m : Int)) = xs.take (keepN p xs) := by rw [cut_take', ← hk, hm]
      refine ⟨.ref a, rfl, .int (m : Nat), rfl, (m : Nat), rfl, a, xs, rfl, ex_t e23 ha, fun hw => ?_, fun hw r hr => ?_⟩
      · have w2 := hw.2
        rw [HT.sIx_nat, Nat.min_eq_left lm] at w2
        refine kk a H3 e23 ?_
        have : xs.take (keepN p xs) = xs := by rw [← hk, hm, w2, List.take_length]
        rw [this]
        exact ex_t e23 ha
      · refine kk r _ (e23.trans (Ex.new hr)) ?_
        rw [cc]
        exact st_of upd_same
    cases m with
    | zero =>
      refine ⟨false, et_is (et_and (a := false) (b := false) (et_test (ev_op (ev_var rfl) ev_c rv_I0)) (fun z => nomatch z)) rfl, (fun z => nomatch z), fun _ H3 e3 => fin rfl H3 e3⟩
    | succ i =>
      have hi : i < xs.length := by omega
      have hx : xs[i]? = some xs[i] := List.getElem?_eq_getElem hi
      have hp := keepN_take (p := p) hx
      refine ⟨p xs[i], et_is (et_and (a := decide ((0 : Int) < ((i + 1 : Nat) : Int))) (b := p xs[i]) (et_test (ev_op (ev_var rfl) ev_c rv_I0)) (fun _ => et_test (ev_op (ev_ixT (i := ((i : Nat) : Int)) (ev_var rfl) (ev_is (ev_op (ev_var rfl) ev_c rv_I0) (by congr 1; omega)) (ex_t e2 ha) (atI_nat hx)) (ev_var rfl) (RV.mono' e2 (heq _ (List.getElem_mem hi)))))) ?_, fun hb H3 e3 => ?_, fun hb H3 e3 => ?_⟩
      · rw [decide_eq_true (show (0 : Int) < ((i + 1 : Nat) : Int) by omega)]
        rfl
      · refine ⟨fun σ2 H2 => σ2 = [some (.ref a), some e, some (.int ((i : Nat) : Int))] ∧ Ex H H2, fun σ2 H2 hN => ?_, s_aug (a := ((i + 1 : Nat) : Int)) (b := 1) rfl ev_c fun H4 e4 => ⟨?_, (e2.trans e3).trans e4⟩⟩
        · obtain ⟨rfl, e5⟩ := hN
          exact ⟨i, Nat.lt_succ_self _, i, rfl, rfl, e5, by omega, keepN_drop hx hb hk⟩
        · dsimp only [List.set]
          rw [show (((i + 1 : Nat) : Int) - 1) = ((i : Nat) : Int) by omega]
      · refine fin ?_ H3 e3
        rw [hp, hb]
        rfl

end
end K10
set_option Elab.async false
set_option linter.all false
set_option maxRecDepth 100000
set_option maxHeartbeats 8000000
namespace K10
open PySem PySem.Spec PyProof.Rows L2 He XH XV XR PEN TR XQ PZ Evl


def spInit (K : PySem.W.Frag) : Sp := fun vs H Q _ => ∃ (a ba ca dx : Addr) (bs : List Int) (ws : List V) (ks : List PyData), vs = [.ref a, .ref ba, .ref ca] ∧ H a = some (.ins (ga K "Puzzle") dx []) ∧ (SqL K H ba (bs.map V.int) ∨ SqT K H ba (bs.map V.int)) ∧ (∀ b ∈ bs, b = 0 ∨ b = 1) ∧ bs.length ≤ 60 ∧
  (SqL K H ca ws ∨ SqT K H ca ws) ∧ PzL K H ws ks ∧ ks.length ≤ 600 ∧ (sizeL ks < 500 ∧ deepL ks < 30) ∧ ∀ H', Xa a H H' → Pz K H' a (nd (short isZ bs) (short isN ks)) → Q .non H'

section
variable {P : Program} {w : World} {K : PySem.W.Frag} {mg : Str → Option Value} {base : Heap}

theorem ok_spelled {fd : FuncData} (F : FnP K "spelled" "spelled" s_spelled (ga K "spelled") fd) (T : Tx K w mg) : FnOk P w K mg base CX0 (0 + 1) (ga K "spelled") fd ["bits", "children"] (spSpell K) := by
  refine FunD.ok F sc_spelled (fun vs H Q E h => ?_) (fun cdv A outer s H vs Q E hr h => ?_)
  · obtain ⟨ba, ca, bs, ws, ks, rfl, _⟩ := h
    rfl
  · obtain ⟨ba, ca, bs, ws, ks, rfl, hb, h01, lb, hc, hk, lk, ls, kk⟩ := h
    have n_str := T.fr "str" (by decide +kernel)
    refine ⟨_, PSs.nox (pss_cons (ps_set (i := 2) sc_spelled.nd rfl (Or.inl rfl) (pe_orT (pe_join pe_str (pe_lc (own := [("bit", 4)]) (g := gName 4) (by rfl) sc_spelled.nd (pi_tup (pv 0)) (blkOk_by (own := [("bit", 4)]) (N := ["bits", "children", "digits", "inner", "bit", "child"]) (sc := defScope s_spelled) (by decide +kernel)) (fun _ _ _ _ _ => (pg_name (i := 4) sc_spelled.nd rfl (Or.inl rfl))) (fun _ _ _ _ _ => pts_nil) (fun _ _ _ _ _ => (pe_callTy call_str_int (by rfl) n_str (by decide +kernel) (pa_cons (pv 4) pa_nil))))) (pe_one pe_str)))
      (pss_cons (ps_if (pt_not (pt_truth (pv 1) (fun _ => rfl)))
      (pss_one (ps_ret (pv 2)))
      pss_nil)
      (pss_cons (ps_set (i := 3) sc_spelled.nd rfl (Or.inl rfl) (pe_join pe_str (pe_lc (own := [("child", 5)]) (g := gName 5) (by rfl) sc_spelled.nd (pi_tup (pv 1)) (blkOk_by (own := [("child", 5)]) (N := ["bits", "children", "digits", "inner", "bit", "child"]) (sc := defScope s_spelled) (by decide +kernel)) (fun _ _ _ _ _ => (pg_name (i := 5) sc_spelled.nd rfl (Or.inl rfl))) (fun _ _ _ _ _ => pts_nil) (fun _ _ _ _ _ => (pe_ifExp (pt_cmpR op_isN (pv 5) pe_non (nomark _)) pe_str (pe_fldc (K := K) rfl (pv 5) rfl))))))
      (pss_one (ps_ret (pe_joined (PJ.cons (pe_fmt (pv 2)) (PJ.cons pe_str (PJ.cons (pe_fmt (pv 3)) (PJ.cons pe_str PJ.nil)))))))))), ?_⟩
    have lw := hk.len
    obtain ⟨p1, p2, p3, p4⟩ := s1
    have ld := digS_len h01
    refine q_asg (v := .str (digS bs)) (fun H1 e Q1 q1 => ?_) fun H1 e1 => ?_
    · refine ⟨⟨_, rfl⟩, .ref ba, rfl, ba, rfl, ⟨_, ex_t e hb⟩, fun D hD => ?_⟩
      refine lc_tup (xs := bs.map V.int) (fun i H' => Ex H1 H' ∧ H' D = some (.lst (((bs.take i).map istr).map V.str))) ⟨Ex.new hD, upd_same⟩ (fun i H' _ hI => ex_t (e.trans hI.1) hb) (fun i x H' hx hI => ?_) (fun H' hI => ?_)
      · obtain ⟨k1, k2⟩ := hI
        rw [List.getElem?_map] at hx
        cases q2 : bs[i]? with
        | none =>
          rw [q2] at hx
          cases hx
        | some b =>
          rw [q2] at hx
          cases hx
          have hi := (List.getElem?_eq_some_iff.mp q2).1
          have hz : b.natAbs.log2 < 1920 := by
            rcases h01 b (List.mem_of_getElem? q2) with rfl | rfl <;> decide
          refine ⟨rfl, yes_go ⟨.int b, rfl, b, rfl, hz, _, k2, ?_, k1.mut hD, ?_⟩⟩
          · rw [List.length_map, List.length_map, List.length_take]
            exact small1000 (by omega)
          · rw [upd_same, take_more q2, List.map_append, List.map_append]
            rfl
      · obtain ⟨k1, k2⟩ := hI
        rw [List.length_map, List.take_length] at k2
        have bsum := bits_sum h01
        have z0 : ("" : Str).length = 0 := by decide +kernel
        have jl := join_len ("" : Str) (bs.map istr)
        rw [bsum, z0] at jl
        refine ⟨("" : Str), D, bs.map istr, rfl, rfl, .inl (sq_of k2), by rw [bsum, z0]; omega, ((Txt.join ("" : Str) (bs.map istr)).length : Int) != 0, ⟨fits (by omega), rfl⟩, ?_⟩
        have go : ∀ z, z = digS bs → Q1 (.str z) H' := fun z ez => by
          rw [ez]
          exact q1 H' k1
        refine ite2 (fun hk => go _ ?_) (fun hk => go _ ?_)
        · unfold digS
          rw [if_neg (by simpa using hk)]
        · unfold digS
          rw [if_pos (by simpa using hk)]
    dsimp only [gName, List.set]
    refine q_when (b := !(!ws.isEmpty)) (et_not fun H2 e Q2 q2 => ev_var rfl H2 e _ fun H3 e3 => ⟨!ws.isEmpty, (show TruV K (.ref ca) H3 (!ws.isEmpty) from Or.inr (Or.inl ⟨ws, ex_t (e1.trans (e.trans e3)) hc, rfl⟩)), q2 H3 e3⟩) (fun hb H2 e2 => ?_) (fun hb H2 e2 => ?_)
    · have e0 : ks = [] := by
        cases hk with
        | nil => rfl
        | non r => cases hb
        | one h r => cases hb
      have k := kk H2 (e1.trans e2)
      rw [spell_nd, if_pos e0] at k
      exact ⟨.str (digS bs), rfl, k⟩
    have ne : ks ≠ [] := by
      intro e
      rw [e] at hk
      cases hk
      cases hb
    have e12 := e1.trans e2
    have lsp := spellL_len (Nat.le_refl 60) (Nat.le_refl 600) hk.bd
    have lsl : (spellL ks).length = ks.length := by rw [spellL_map, List.length_map]
    have jl := join_len ("," : Str) (spellL ks)
    rw [p3, lsl] at jl
    refine q_asg (v := .str (Txt.join ("," : Str) (spellL ks))) (fun H3 e Q3 q3 => ?_) fun H3 e3 => ?_
    · have e13 := e12.trans e
      refine ⟨⟨_, rfl⟩, .ref ca, rfl, ca, rfl, ⟨_, ex_t e13 hc⟩, fun D hD => ?_⟩
      refine lc_tup (xs := ws) (fun i H' => Ex H3 H' ∧ H' D = some (.lst (((spellL ks).take i).map V.str))) ⟨Ex.new hD, upd_same⟩ (fun i H' _ hI => ex_t (e13.trans hI.1) hc) (fun i x H' hx hI => ?_) (fun H' hI => ?_)
      · obtain ⟨k1, k2⟩ := hI
        have hi := (List.getElem?_eq_some_iff.mp hx).1
        obtain ⟨d, hd, cas⟩ := (hk.kp (Kp.of (e13.trans k1))).at hx
        refine ⟨rfl, yes_go ?_⟩
        have fin : ∀ H4, Ex H' H4 → ∃ acc, H4 D = some (.lst acc) ∧ acc.length < sizeLine ∧ Ex H3 (upd H4 D (.lst (acc ++ [V.str (spell d)]))) ∧ upd H4 D (.lst (acc ++ [V.str (spell d)])) D = some (.lst (((spellL ks).take (i + 1)).map V.str)) := fun H4 e4 => by
          refine ⟨_, e4 _ _ k2, ?_, (k1.trans e4).mut hD, ?_⟩
          · rw [List.length_map, List.length_take]
            exact small1000 (by omega)
          · rw [upd_same, take_more (spellL_at hd), List.map_append]
            rfl
        rcases cas with ⟨rfl, rfl⟩ | ⟨c, rfl, hp⟩
        · exact (ev_is (ev_if (b := true) (et_test (ev_op (ev_var rfl) ev_c (fun H5 e5 Q5 q5 => ⟨rfl, q5 H5 (Ex.refl _)⟩))) (fun _ => ev_c) (fun z => nomatch z)) (by rw [spell_non])) H' (Ex.refl _) _ fun H4 e4 => fin H4 e4
        · have hp0 := hp
          cases hp0 with
          | mk e' b h' hb2 hc' hk' =>
            exact (ev_if (b := false) (et_test (ev_op (ev_var rfl) ev_c (fun H5 e5 Q5 q5 => ⟨rfl, q5 H5 (Ex.refl _)⟩))) (fun z => nomatch z) (fun _ => ev_fld (ev_var rfl) h' T.cp (T.np "spelling" (by decide +kernel)) rfl)) H' (Ex.refl _) _ fun H4 e4 => fin H4 e4
      · obtain ⟨k1, k2⟩ := hI
        rw [take_all (show (spellL ks).length ≤ ws.length by omega)] at k2
        exact ⟨("," : Str), D, spellL ks, rfl, rfl, .inl (sq_of k2), by rw [p3, lsl]; omega, q3 H' k1⟩
    have l1 := app_len (digS bs) ("(" : Str)
    have l2 := app_len (digS bs ++ ("(" : Str)) (Txt.join ("," : Str) (spellL ks))
    have l3 := app_len (digS bs ++ ("(" : Str) ++ Txt.join ("," : Str) (spellL ks)) (")" : Str)
    refine ⟨.str (digS bs), rfl, .inl ⟨digS bs, rfl, fits (by omega), digS bs, rfl, by rw [empty_app]; exact fits (by omega), ("(" : Str), rfl, by rw [empty_app, l1]; exact fits (by omega), .str (Txt.join ("," : Str) (spellL ks)), rfl, .inl ⟨Txt.join ("," : Str) (spellL ks), rfl, szL _ (by omega), Txt.join ("," : Str) (spellL ks), rfl, by rw [empty_app, l2]; exact szL _ (by omega), (")" : Str), rfl, by rw [empty_app, l3]; exact szL _ (by omega), ?_⟩⟩⟩
    rw [empty_app]
    have k := kk H3 (e12.trans e3)
    rw [spell_nd, if_neg ne] at k
    exact k

end
end K10
set_option Elab.async false
set_option linter.all false
set_option maxRecDepth 100000
set_option maxHeartbeats 8000000
namespace K10
open PySem PySem.Spec PyProof.Rows L2 He XH XV XR PEN TR XQ PZ Evl

section
variable {P : Program} {w : World} {K : PySem.W.Frag} {mg : Str → Option Value} {base : Heap}

theorem ok_Puzzle_init {fd : FuncData} {f : Addr} {dvs : List V} (F : FunD K "__init__" "Puzzle.__init__" (defArgs s_Puzzle_init) (defBody s_Puzzle_init) (defScope s_Puzzle_init) dvs [] f fd) (T : Tx K w mg) (c_check_entries : Cl P w K mg base CX0 2 (ga K "check_entries") ["bits", "children"] (spChk K)) (c_trimmed : Cl P w K mg base CX0 2 (ga K "trimmed") ["entries", "empty"] (spTrim K)) (c_spelled : Cl P w K mg base CX0 1 (ga K "spelled") ["bits", "children"] (spSpell K)) : FnOk P w K mg base CX0 (2 + 1) f fd ["self", "bits", "children"] (spInit K) := by
  obtain ⟨fd_check_entries, G_check_entries, b_check_entries, kp_check_entries⟩ := c_check_entries
  obtain ⟨fd_trimmed, G_trimmed, b_trimmed, kp_trimmed⟩ := c_trimmed
  obtain ⟨fd_spelled, G_spelled, b_spelled, kp_spelled⟩ := c_spelled
  refine FunD.ok F sc_Puzzle_init (fun vs H Q E h => ?_) (fun cdv A outer s H vs Q E hr h => ?_)
  · obtain ⟨a, ba, ca, dx, bs, ws, ks, rfl, _⟩ := h
    rfl
  · obtain ⟨a, ba, ca, dx, bs, ws, ks, rfl, ha, hb, h01, lb, hc, hk, lk, ⟨zs, zd⟩, kk⟩ := h
    have n_tuple := T.fr "tuple" (by decide +kernel)
    have g_check_entries := T.gl "check_entries" (by decide +kernel)
    have g_trimmed := T.gl "trimmed" (by decide +kernel)
    have n_sum := T.fr "sum" (by decide +kernel)
    have n_max := T.fr "max" (by decide +kernel)
    obtain ⟨tk_MOST_NODES, g_MOST_NODES⟩ := T.c_MOST_NODES
    obtain ⟨tk_GREATEST_DEPTH, g_GREATEST_DEPTH⟩ := T.c_GREATEST_DEPTH
    have g_spelled := T.gl "spelled" (by decide +kernel)
    refine ⟨_, PSs.nox (pss_cons (ps_set (i := 3) sc_Puzzle_init.nd rfl (Or.inl rfl) (pe_callTy call_tuple_of (by rfl) n_tuple (by decide +kernel) (pa_cons (pv 1) pa_nil)))
      (pss_cons (ps_set (i := 4) sc_Puzzle_init.nd rfl (Or.inl rfl) (pe_callTy call_tuple_of (by rfl) n_tuple (by decide +kernel) (pa_cons (pv 2) pa_nil)))
      (pss_cons (ps_expr (pe_call G_check_entries (hr.mono (by decide)) (by rfl) g_check_entries kp_check_entries b_check_entries .nil pass0 (pa_cons (pv 3) (pa_cons (pv 4) pa_nil))))
      (pss_cons (ps_fld (pv 0) (pe_call G_trimmed (hr.mono (by decide)) (by rfl) g_trimmed kp_trimmed b_trimmed .nil pass0 (pa_cons (pv 3) (pa_cons pe_int pa_nil))) rfl)
      (pss_cons (ps_fld (pv 0) (pe_call G_trimmed (hr.mono (by decide)) (by rfl) g_trimmed kp_trimmed b_trimmed .nil pass0 (pa_cons (pv 4) (pa_cons pe_non pa_nil))) rfl)
      (pss_cons (ps_setLc (i := 5) (own := [("child", 6)]) (g := gName 6) (by rfl) sc_Puzzle_init.nd rfl rfl (sw_true rfl rfl rfl (by decide +kernel)) (pi_tup (pe_fldc (K := K) rfl (pv 0) rfl)) (blkOk_by (own := [("child", 6)]) (N := ["self", "bits", "children", "all_bits", "all_children", "nodes", "child", "node"]) (sc := defScope s_Puzzle_init) (by decide +kernel)) (fun _ _ _ _ _ => (pg_name (i := 6) sc_Puzzle_init.nd rfl (Or.inl rfl))) (fun _ _ _ _ _ => (pts_one (pt_cmpR op_notN (pv 6) pe_non (nomark _)))) (fun _ _ _ _ _ => (pv 6)))
      (pss_cons (ps_fld (pv 0) (pe_op op_add pe_int (pe_callB (cr_sum rfl) (by rfl) n_sum (by decide +kernel) (pa_cons (pe_lc (own := [("node", 7)]) (g := gName 7) (by rfl) sc_Puzzle_init.nd (pi_list (pv 5)) (blkOk_by (own := [("node", 7)]) (N := ["self", "bits", "children", "all_bits", "all_children", "nodes", "child", "node"]) (sc := defScope s_Puzzle_init) (by decide +kernel)) (fun _ _ _ _ _ => (pg_name (i := 7) sc_Puzzle_init.nd rfl (Or.inl rfl))) (fun _ _ _ _ _ => pts_nil) (fun _ _ _ _ _ => (pe_fldc (K := K) rfl (pv 7) rfl))) pa_nil))) rfl)
      (pss_cons (ps_fld (pv 0) (pe_op op_add pe_int (pe_callBK (cr_maxDef rfl (units65 hr)) (by rfl) n_max (by decide +kernel) (pa_cons (pe_lc (own := [("node", 7)]) (g := gName 7) (by rfl) sc_Puzzle_init.nd (pi_list (pv 5)) (blkOk_by (own := [("node", 7)]) (N := ["self", "bits", "children", "all_bits", "all_children", "nodes", "child", "node"]) (sc := defScope s_Puzzle_init) (by decide +kernel)) (fun _ _ _ _ _ => (pg_name (i := 7) sc_Puzzle_init.nd rfl (Or.inl rfl))) (fun _ _ _ _ _ => pts_nil) (fun _ _ _ _ _ => (pe_fldc (K := K) rfl (pv 7) rfl))) pa_nil) (pk_cons pe_int pk_nil))) rfl)
      (pss_cons (ps_if (PW.pt (pw_or (pt_cmpR op_gt (pe_fldc (K := K) rfl (pv 0) rfl) (pe_glob (v := .int _) (by rfl) g_MOST_NODES ⟨_, rfl⟩) (nomark _)) (pw_or1 (pt_cmpR op_gt (pe_fldc (K := K) rfl (pv 0) rfl) (pe_glob (v := .int _) (by rfl) g_GREATEST_DEPTH ⟨_, rfl⟩) (nomark _)))))
      (pss_one ps_never)
      pss_nil)
      (pss_one (ps_fld (pv 0) (pe_call G_spelled (hr.mono (by decide)) (by rfl) g_spelled kp_spelled b_spelled .nil pass0 (pa_cons (pe_fldc (K := K) rfl (pv 0) rfl) (pa_cons (pe_fldc (K := K) rfl (pv 0) rfl) pa_nil))) rfl))))))))))), ?_⟩
    have lw := hk.len
    refine q_tup (K := K) (ev_var rfl) hb fun r3 H1 e1 g3 => ?_
    try dsimp only [gName, List.set]
    refine q_tup (K := K) (ev_var rfl) (hc.imp (ex_l e1) (ex_t e1)) fun r4 H2 e2 g4 => ?_
    try dsimp only [gName, List.set]
    have e12 := e1.trans e2
    refine ⟨.ref r3, rfl, .ref r4, rfl, r3, r4, bs, ws, ks, rfl, ex_t e2 g3, h01, by omega, g4, hk.kp (Kp.of e12), by omega, fun H3 e3 => ?_⟩
    have e13 := e12.trans e3
    -- the bits
    refine ⟨.ref r3, rfl, r3, .int 0, bs.map V.int, (fun v => decide (v = .int 0)), rfl, ex_t (e2.trans e3) g3, by rw [List.length_map]; omega, fun x hx => ?_, fun r5 H4 e4 g5 => ?_⟩
    · obtain ⟨b, _, rfl⟩ := List.mem_map.mp hx
      exact fun H5 e5 Q5 q5 => .inl ⟨rfl, q5 H5 (Ex.refl _)⟩
    rw [keep_bits, ← List.map_take] at g5
    have e14 := e13.trans e4
    refine ⟨.ref a, rfl, a, _, dx, [], rfl, e14 _ _ ha, T.cp, T.np "bits" (by decide +kernel), by decide, ?_⟩
    have a5 : upd H4 a (.ins (ga K "Puzzle") dx (putF "bits" (.ref r5) [])) a = some (.ins (ga K "Puzzle") dx [("bits", .ref r5)]) := upd_same
    generalize hH5 : upd H4 a (.ins (ga K "Puzzle") dx (putF "bits" (.ref r5) [])) = H5 at a5
    have x45 : Xa a H4 H5 := by rw [← hH5]; exact Xa.upd
    have x5 : Xa a H H5 := (Xa.of e14).trans x45
    have k5 := Kp.xa ha x5
    have k45 := Kp.xa (e14 _ _ ha) x45
    have p5 := hk.kp k5
    have g4' := k45.t (ex_t (e3.trans e4) g4)
    have g5' := k45.t g5
    -- the children
    refine ⟨.ref r4, rfl, r4, .non, ws, (fun v => decide (v = .non)), rfl, g4', by omega, fun x hx => ?_, fun r6 H6 e6 g6 => ?_⟩
    · obtain ⟨i, hi⟩ := List.mem_iff_getElem?.mp hx
      obtain ⟨d, hd, cas⟩ := p5.at hi
      rcases cas with ⟨rfl, rfl⟩ | ⟨c, rfl, hp⟩
      · exact fun H7 e7 Q7 q7 => .inl ⟨rfl, q7 H7 (Ex.refl _)⟩
      · intro H7 e7 Q7 q7
        have hp7 := hp.kp (Kp.of e7)
        have hp8 := hp7
        cases hp7 with
        | mk e' b h' hb' hc' hk' => exact .inr ⟨c, _, _, .type "NoneType", rfl, h', .base .non, T.nf "NoneType" (by simp), c, .non, d, rfl, hp8, .inr ⟨"NoneType", .base .non, T.kn "NoneType" (by simp), fun H9 e9 => ⟨⟨_, rfl⟩, q7 H9 e9⟩⟩⟩
    rw [keep_kids p5] at g6
    refine ⟨.ref a, rfl, a, _, dx, _, rfl, e6 _ _ a5, T.cp, T.np "children" (by decide +kernel), (show 1 < 1000 by decide), ?_⟩
    rw [putF_tail (by decide +kernel)]
    have a7 : upd H6 a (.ins (ga K "Puzzle") dx (("bits", .ref r5) :: putF "children" (.ref r6) [])) a = some (.ins (ga K "Puzzle") dx [("bits", .ref r5), ("children", .ref r6)]) := upd_same
    generalize hH7 : upd H6 a (.ins (ga K "Puzzle") dx (("bits", .ref r5) :: putF "children" (.ref r6) [])) = H7 at a7
    have x67 : Xa a H6 H7 := by rw [← hH7]; exact Xa.upd
    have x7 : Xa a H H7 := (x5.trans (Xa.of e6)).trans x67
    have tupx : ∀ {HA HB : Hp} {fs : List (Str × V)}, HA a = some (.ins (ga K "Puzzle") dx fs) → Xa a HA HB → ∀ {c : Addr} {xs : List V}, SqT K HA c xs → SqT K HB c xs := by
      intro HA HB fs hA hX c xs h
      rcases h with (h | ⟨o, h⟩) | h
      · exact .inl (.inl (hX c _ (fun e => by rw [e, hA] at h; cases h) h))
      · exact .inl (.inr ⟨o, hX c _ (fun e => by rw [e, hA] at h; cases h) h⟩)
      · exact .inr h
    have g5'' := tupx (e6 _ _ a5) x67 (ex_t e6 g5')
    have g6'' := tupx (e6 _ _ a5) x67 g6
    have k7 := Kp.xa ha x7
    have p7 : PzL K H7 (ws.take (keepN isN ks)) (ks.take (keepN isN ks)) := (hk.kp k7).take _
    have lks : (ks.take (keepN isN ks)).length ≤ 600 := by rw [List.length_take]; omega
    have szk := sizeL_take ks (keepN isN ks)
    have dpk := deepL_take ks (keepN isN ks)
    have lw7 := p7.len
    have pn := p7.nodes
    have lwn := pn.len
    have lwn2 : ((ws.take (keepN isN ks)).filter fun v => !decide (v = .non)).length ≤ 600 := Nat.le_trans (List.length_filter_le ..) (by omega)
    have nn : ∀ k ∈ (ks.take (keepN isN ks)).filter (fun k => !isN k), isN k = false := fun k hk => by simpa using (List.mem_filter.mp hk).2
    have snd := size_nodes (ks.take (keepN isN ks))
    have dnd := deep_nodes (ks.take (keepN isN ks))
    -- the nodes
    refine ⟨.ref a, rfl, a, _, dx, _, .ref r6, rfl, a7, T.cp, T.np "children" (by decide +kernel), rfl, r6, rfl, ⟨_, g6''⟩, fun N hN => ?_⟩
    refine lc_tup (xs := ws.take (keepN isN ks)) (fun i H' => Ex H7 H' ∧ H' N = some (.lst (((ws.take (keepN isN ks)).take i).filter fun v => !decide (v = .non)))) ⟨Ex.new hN, upd_same⟩ (fun i H' _ hI => ex_t hI.1 g6'') (fun i x H' hx hI => ?_) (fun H8 hI => ?_)
    · obtain ⟨k1, k2⟩ := hI
      have hi := (List.getElem?_eq_some_iff.mp hx).1
      refine ⟨rfl, go_test (b := !decide (x = .non)) (et_test (ev_op (ev_var rfl) ev_c (fun H9 e9 Q9 q9 => ⟨rfl, q9 H9 (Ex.refl _)⟩))) fun H9 e9 => ?_⟩
      rw [take_more hx, List.filter_append]
      refine ite2 (fun hq => ?_) (fun hq => ?_)
      · refine ⟨x, rfl, _, e9 _ _ k2, ?_, (k1.trans e9).mut hN, ?_⟩
        · have l1 := List.length_filter_le (fun v : V => !decide (v = .non)) ((ws.take (keepN isN ks)).take i)
          rw [List.length_take] at l1
          exact small1000 (by omega)
        · rw [upd_same, List.filter_cons, if_pos hq]
          rfl
      · refine ⟨k1.trans e9, ?_⟩
        rw [List.filter_cons, if_neg hq]
        show _ = some (HO.lst (_ ++ []))
        rw [List.append_nil]
        exact e9 _ _ k2
    obtain ⟨e8, h8⟩ := hI
    rw [List.take_length] at h8
    try dsimp only [gName, List.set]
    generalize hWN : (ws.take (keepN isN ks)).filter (fun v => !decide (v = .non)) = wn at *
    generalize hKN : (ks.take (keepN isN ks)).filter (fun k => !isN k) = kn at *
    have pn8 := pn.kp (Kp.of e8)
    -- size
    refine ⟨.ref N, rfl, N, rfl, ⟨_, sq_of h8⟩, fun D hD => ?_⟩
    refine lc_list (xs := wn) (fun i H' => Ex H8 H' ∧ H' D = some (.lst ((((kn.take i).map size).map fun n : Nat => (n : Int)).map V.int))) ⟨Ex.new hD, upd_same⟩ (fun i H' _ hI => sq_of (hI.1 _ _ h8)) (fun i x H' hx hI => ?_) (fun H9 hI => ?_)
    · obtain ⟨k1, k2⟩ := hI
      have hi := (List.getElem?_eq_some_iff.mp hx).1
      obtain ⟨c, k, rfl, hkn, hp⟩ := (pn8.kp (Kp.of k1)).ref nn hx
      cases hp with
      | mk e' b h' hb' hc' hk' =>
        refine ⟨rfl, yes_go ⟨.ref c, rfl, c, _, _, _, _, rfl, h', T.cp, T.np "size" (by decide +kernel), rfl, _, k2, ?_, k1.mut hD, ?_⟩⟩
        · rw [List.length_map, List.length_map, List.length_map, List.length_take]
          exact small1000 (by omega)
        · rw [upd_same, take_more hkn, List.map_append, List.map_append, List.map_append]
          rfl
    obtain ⟨e9, h9⟩ := hI
    rw [take_all (show kn.length ≤ wn.length by omega)] at h9
    refine ⟨D, _, rfl, sq_of h9, 1, _, rfl, rfl, .ref a, rfl, a, _, dx, _, rfl, e9 _ _ (e8 _ _ a7), T.cp, T.np "size" (by decide +kernel), (show 2 < 1000 by decide), ?_⟩
    have sumE : (1 : Int) + (((kn.map size).map fun n : Nat => (n : Int))).sum = (size (nd (short isZ bs) (short isN ks)) : Nat) := by
      have z : ∀ l : List Nat, (l.map fun n : Nat => (n : Int)).sum = ((l.sum : Nat) : Int) := fun l => by
        induction l with
        | nil => rfl
        | cons n r ih =>
          rw [List.map_cons, List.sum_cons, ih, List.sum_cons]
          omega
      rw [z, snd, size_nd]
      show _ = ((1 + sizeL (ks.take (keepN isN ks)) : Nat) : Int)
      omega
    dsimp only
    rw [putF_tail (by decide +kernel), putF_tail (by decide +kernel), sumE]
    have a10 : upd H9 a (.ins (ga K "Puzzle") dx (("bits", .ref r5) :: ("children", .ref r6) :: putF "size" (.int (size (nd (short isZ bs) (short isN ks)) : Nat)) [])) a = some (.ins (ga K "Puzzle") dx [("bits", .ref r5), ("children", .ref r6), ("size", .int (size (nd (short isZ bs) (short isN ks)) : Nat))]) := upd_same
    generalize hH10 : upd H9 a (.ins (ga K "Puzzle") dx (("bits", .ref r5) :: ("children", .ref r6) :: putF "size" (.int (size (nd (short isZ bs) (short isN ks)) : Nat)) [])) = H10 at a10
    have x910 : Xa a H9 H10 := by rw [← hH10]; exact Xa.upd
    have x10 : Xa a H H10 := (x7.trans (Xa.of (e8.trans e9))).trans x910
    have h8' := x910 N _ (fun e => by rw [e] at h8; rw [e8 _ _ a7] at h8; cases h8) (e9 _ _ h8)
    have pn10 : PzL K H10 wn kn := by
      have := (hk.kp (Kp.xa ha x10)).take (keepN isN ks)
      rw [← hWN, ← hKN]
      exact this.nodes
    -- depth
    refine ⟨.ref N, rfl, N, rfl, ⟨_, sq_of h8'⟩, fun D2 hD2 => ?_⟩
    refine lc_list (xs := wn) (fun i H' => Ex H10 H' ∧ H' D2 = some (.lst ((((kn.take i).map deep).map fun n : Nat => (n : Int)).map V.int))) ⟨Ex.new hD2, upd_same⟩ (fun i H' _ hI => sq_of (hI.1 _ _ h8')) (fun i x H' hx hI => ?_) (fun H11 hI => ?_)
    · obtain ⟨k1, k2⟩ := hI
      have hi := (List.getElem?_eq_some_iff.mp hx).1
      obtain ⟨c, k, rfl, hkn, hp⟩ := (pn10.kp (Kp.of k1)).ref nn hx
      cases hp with
      | mk e' b h' hb' hc' hk' =>
        refine ⟨rfl, yes_go ⟨.ref c, rfl, c, _, _, _, _, rfl, h', T.cp, T.np "depth" (by decide +kernel), rfl, _, k2, ?_, k1.mut hD2, ?_⟩⟩
        · rw [List.length_map, List.length_map, List.length_map, List.length_take]
          exact small1000 (by omega)
        · rw [upd_same, take_more hkn, List.map_append, List.map_append, List.map_append]
          rfl
    obtain ⟨e11, h11⟩ := hI
    rw [take_all (show kn.length ≤ wn.length by omega)] at h11
    refine ⟨D2, _, 0, rfl, rfl, sq_of h11, 1, _, rfl, rfl, .ref a, rfl, a, _, dx, _, rfl, e11 _ _ a10, T.cp, T.np "depth" (by decide +kernel), (show 3 < 1000 by decide), ?_⟩
    have depE : (1 : Int) + mxD 0 ((kn.map deep).map fun n : Nat => (n : Int)) = (deep (nd (short isZ bs) (short isN ks)) : Nat) := by
      rw [dnd, deep_nd]
      show _ = ((1 + deepL (ks.take (keepN isN ks)) : Nat) : Int)
      omega
    dsimp only
    rw [putF_tail (by decide +kernel), putF_tail (by decide +kernel), putF_tail (by decide +kernel), depE]
    have a12 : upd H11 a (.ins (ga K "Puzzle") dx (("bits", .ref r5) :: ("children", .ref r6) :: ("size", .int (size (nd (short isZ bs) (short isN ks)) : Nat)) :: putF "depth" (.int (deep (nd (short isZ bs) (short isN ks)) : Nat)) [])) a = some (.ins (ga K "Puzzle") dx [("bits", .ref r5), ("children", .ref r6), ("size", .int (size (nd (short isZ bs) (short isN ks)) : Nat)), ("depth", .int (deep (nd (short isZ bs) (short isN ks)) : Nat))]) := upd_same
    generalize hH12 : upd H11 a (.ins (ga K "Puzzle") dx (("bits", .ref r5) :: ("children", .ref r6) :: ("size", .int (size (nd (short isZ bs) (short isN ks)) : Nat)) :: putF "depth" (.int (deep (nd (short isZ bs) (short isN ks)) : Nat)) [])) = H12 at a12
    have x1112 : Xa a H11 H12 := by rw [← hH12]; exact Xa.upd
    have x12 : Xa a H H12 := (x10.trans (Xa.of e11)).trans x1112
    have g5a := tupx (e11 _ _ a10) x1112 (ex_t e11 (tupx (e9 _ _ (e8 _ _ a7)) x910 (ex_t (e8.trans e9) g5'')))
    have g6a := tupx (e11 _ _ a10) x1112 (ex_t e11 (tupx (e9 _ _ (e8 _ _ a7)) x910 (ex_t (e8.trans e9) g6'')))
    have p12 : PzL K H12 (ws.take (keepN isN ks)) (ks.take (keepN isN ks)) := (hk.kp (Kp.xa ha x12)).take _
    -- not too great
    have sn : size (nd (short isZ bs) (short isN ks)) = 1 + sizeL (ks.take (keepN isN ks)) := size_nd _ _
    have dn : deep (nd (short isZ bs) (short isN ks)) = 1 + deepL (ks.take (keepN isN ks)) := deep_nd _ _
    refine q_when (b := false) (et_is (et_or (a := false) (b := false) (et_is (a := decide ((500 : Int) < (size (nd (short isZ bs) (short isN ks)) : Nat))) (et_test (ev_op (ev_fld (ev_var rfl) a12 T.cp (T.np "size" (by decide +kernel)) rfl) ev_c rv_I0)) (decide_eq_false (by omega))) (fun _ => et_is (a := decide ((30 : Int) < (deep (nd (short isZ bs) (short isN ks)) : Nat))) (et_test (ev_op (ev_fld (ev_var rfl) a12 T.cp (T.np "depth" (by decide +kernel)) rfl) ev_c rv_I0)) (decide_eq_false (by omega)))) rfl) (fun hb => nomatch hb) (fun _ H13 e13b => ?_)
    -- the spelling
    have a13 := e13b _ _ a12
    have sb : ∀ b ∈ short isZ bs, b = 0 ∨ b = 1 := fun b hb => h01 b (List.mem_of_mem_take hb)
    have lsb : (short isZ bs).length ≤ 60 := by
      unfold short
      rw [List.length_take]
      omega
    refine ⟨.ref a, rfl, a, _, dx, _, .ref r5, rfl, a13, T.cp, T.np "bits" (by decide +kernel), rfl, .ref a, rfl, a, _, dx, _, .ref r6, rfl, a13, T.cp, T.np "children" (by decide +kernel), rfl, r5, r6, short isZ bs, ws.take (keepN isN ks), short isN ks, rfl, ex_t e13b g5a, sb, lsb, ex_t e13b g6a, p12.kp (Kp.of e13b), lks, (by show sizeL (ks.take (keepN isN ks)) ≤ 500; omega), fun H14 e14b => ?_⟩
    refine ⟨.ref a, rfl, a, _, dx, _, rfl, e14b _ _ a13, T.cp, T.np "spelling" (by decide +kernel), (show 4 < 1000 by decide), ?_⟩
    rw [putF_tail (by decide +kernel), putF_tail (by decide +kernel), putF_tail (by decide +kernel), putF_tail (by decide +kernel)]
    have x1415 : Xa a H14 (upd H14 a (.ins (ga K "Puzzle") dx (("bits", .ref r5) :: ("children", .ref r6) :: ("size", .int (size (nd (short isZ bs) (short isN ks)) : Nat)) :: ("depth", .int (deep (nd (short isZ bs) (short isN ks)) : Nat)) :: putF "spelling" (.str (spell (nd (short isZ bs) (short isN ks)))) []))) := Xa.upd
    have x15 := (x12.trans (Xa.of (e13b.trans e14b))).trans x1415
    have bdk : Bd 60 600 (nd (short isZ bs) (short isN ks)) := .mk rfl lsb sb lks (hk.bd.take _)
    exact kk _ x15 (.mk rfl bdk upd_same (tupx (e14b _ _ a13) x1415 (ex_t (e13b.trans e14b) g5a)) (tupx (e14b _ _ a13) x1415 (ex_t (e13b.trans e14b) g6a)) ((hk.kp (Kp.xa ha x15)).take _))

end
end K10
set_option Elab.async false
set_option linter.all false
set_option maxRecDepth 100000
set_option maxHeartbeats 8000000
namespace K10
open PySem PySem.Spec PyProof.Rows L2 He XH XV XR PEN TR XQ PZ Evl


def Tn : Nat → Nat
  | 0 => 10
  | n + 1 => 10 + 3 * (2 + Tn n)
def spTree (K : PySem.W.Frag) (n : Nat) : Sp := fun vs H Q _ => ∃ (p l : Addr) (room b : Nat), vs = [.ref p, .int (room : Nat), .int (n : Nat)] ∧ (1 ≤ room ∧ room ≤ 100) ∧ Pen p l (b + Tn n) H ∧ ∀ v d H', Px p l H H' → Pen p l b H' → Dp K H' v d → Bd 6 3 d → size d ≤ room → deep d ≤ n + 1 → Q v H'
def spSize (K : PySem.W.Frag) (n : Nat) : Sp := fun vs H Q _ => ∃ (v : V) (d : PyData) (B C : Nat), vs = [v] ∧ Dp K H v d ∧ Bd B C d ∧ C ≤ 600 ∧ deep d ≤ n ∧ ∀ H', Ex H H' → Q (.int (size d : Nat)) H'
theorem dpAll_none {K : PySem.W.Frag} {H : Hp} {v : V} {d : PyData} (h : Dp K H v d) (B C : Nat) (hd : d = .none ∨ Bd B C d) : decide (v = .non) = isN d := by
  rcases hd with rfl | hb
  · cases h
    rfl
  · rw [hb.notN]
    obtain ⟨bs, ks, rfl, _⟩ := hb.un
    obtain ⟨t, tb, tk, vs, rfl, _⟩ := dp_nd h
    exact decide_eq_false fun e => nomatch e
theorem int_sum : ∀ l : List Nat, (l.map fun n : Nat => (n : Int)).sum = ((l.sum : Nat) : Int)
  | [] => rfl
  | n :: r => by
    rw [List.map_cons, List.sum_cons, int_sum r, List.sum_cons]
    omega
theorem filt_more {α : Type} {l : List α} {i : Nat} {x : α} (f : α → Bool) (h : l[i]? = some x) : (l.take (i + 1)).filter f = (l.take i).filter f ++ (if f x = true then [x] else []) := by
  rw [take_more h, List.filter_append]
  cases q : f x <;> simp [q]

section
variable {P : Program} {w : World} {K : PySem.W.Frag} {mg : Str → Option Value} {base : Heap}

theorem ok_law_draw {fd : FuncData} (F : FnP K "_law_draw" "_law_draw" s_law_draw (ga K "_law_draw") fd) (T : Txt K w mg) : FnOk P w K mg base CX0 (0 + 1) (ga K "_law_draw") fd ["_law_pen", "_law_many"] spDraw := by
  refine FunD.ok F sc_law_draw (fun vs H Q E h => ?_) (fun cdv A outer s H vs Q E hr h => ?_)
  · obtain ⟨p, l, m, b, rfl, _⟩ := h
    rfl
  · obtain ⟨p, l, m, b, rfl, ⟨m0, m1⟩, hP, kk⟩ := h
    have n_int := T.fr "int" (by decide +kernel)
    have n_len := T.fr "len" (by decide +kernel)
    refine ⟨_, PSs.nox (pss_cons (ps_set (i := 2) sc_law_draw.nd rfl (Or.inl rfl) (pe_ix ix_list (pv 0) pe_int (fun _ _ => rfl)))
      (pss_cons (ps_asg (pe_op op_add (pv 2) pe_int) (pg_sub (pv 0) pe_int set_list))
      (pss_cons (ps_set (i := 3) sc_law_draw.nd rfl (Or.inl rfl) (pe_op op_mod (pe_callTy call_int1 (by rfl) n_int (by decide +kernel) (pa_cons (pv 2) pa_nil)) (pe_callB call_len_seq (by rfl) n_len (by decide +kernel) (pa_cons (pe_ix ix_list (pv 0) pe_int (fun _ _ => rfl)) pa_nil))))
      (pss_cons (ps_set (i := 4) sc_law_draw.nd rfl (Or.inl rfl) (pe_callTy call_int1 (by rfl) n_int (by decide +kernel) (pa_cons (pe_ix ix_list (pe_ix ix_list (pv 0) pe_int (fun _ _ => rfl)) (pv 3) (fun _ _ => rfl)) pa_nil)))
      (pss_cons (ps_if (pt_cmpR op_ge (pv 4) (pe_op op_pow pe_int pe_int) (nomark _))
      (pss_cons (ps_asg (pe_op op_fdiv (pv 4) (pv 1)) (pg_sub (pe_ix ix_list (pv 0) pe_int (fun _ _ => rfl)) (pv 3) set_list))
      (pss_one (ps_ret (pe_op op_mod (pe_callTy call_int1 (by rfl) n_int (by decide +kernel) (pa_cons (pv 4) pa_nil)) (pv 1)))))
      pss_nil)
      (pss_cons (ps_set (i := 5) sc_law_draw.nd rfl (Or.inl rfl) (pe_op op_pow (pe_callTy call_int1 (by rfl) n_int (by decide +kernel) (pa_cons (pe_op op_add (pe_op op_add (pe_op op_mul (pe_op op_mod (pe_callTy call_int1 (by rfl) n_int (by decide +kernel) (pa_cons (pv 4) pa_nil)) pe_int) pe_int) (pe_op op_mul (pv 2) pe_int)) pe_int) pa_nil)) pe_int))
      (pss_one (ps_ret (pe_op op_mod (pe_op op_fdiv (pe_callTy call_int1 (by rfl) n_int (by decide +kernel) (pa_cons (pe_op op_mod (pe_callTy call_int1 (by rfl) n_int (by decide +kernel) (pa_cons (pv 5) pa_nil)) pe_int) pa_nil)) pe_int) (pv 1)))))))))), ?_⟩
    have npl := hP.ne
    obtain ⟨c, ns, hp, hl, hne, c0, c1⟩ := hP
    have hl' : 0 < ns.length := by
      cases ns with
      | nil => exact absurd rfl hne
      | cons x r => exact Nat.succ_pos _
    have h1 : upd H p (.lst [.ref l, .int (c + 1)]) p = some (.lst [.ref l, .int (c + 1)]) := upd_same
    have h2 : upd H p (.lst [.ref l, .int (c + 1)]) l = some (.lst (ns.map V.int)) := (upd_ne npl.symm).trans hl
    have px1 : Px p l H (upd H p (.lst [.ref l, .int (c + 1)])) := (Px.refl H).upd (.inl rfl)
    have pen1 : Pen p l b (upd H p (.lst [.ref l, .int (c + 1)])) := ⟨c + 1, ns, h1, h2, hne, by omega, by omega⟩
    refine ⟨.ref p, rfl, p, _, 1, .int c, rfl, rfl, SqL.of hp, atI_nat (j := 1) rfl, ?_⟩
    refine ⟨.int c, rfl, c, 1, rfl, rfl, .ref p, rfl, p, _, 1, 1, rfl, rfl, hp, rfl, ?_⟩
    have em := Int.emod_nonneg c (show ((ns.map V.int).length : Int) ≠ 0 by rw [List.length_map]; omega)
    have el := Int.emod_lt_of_pos c (show (0 : Int) < ((ns.map V.int).length : Int) by rw [List.length_map]; omega)
    refine ⟨.int c, rfl, .inl ⟨c, rfl, .ref p, rfl, p, _, 0, .ref l, rfl, rfl, SqL.of h1, atI_nat (j := 0) rfl, l, _, rfl, .inl (SqL.of h2), c, _, rfl, rfl, (by show (0 : Int) < ((ns.map V.int).length : Int); rw [List.length_map]; omega), ?_⟩⟩
    generalize hz : c % ((ns.map V.int).length : Int) = z at em el
    obtain ⟨j, rfl⟩ : ∃ j : Nat, z = (j : Int) := ⟨z.toNat, by omega⟩
    have hj : j < ns.length := by
      rw [List.length_map] at el
      omega
    have gj : (ns.map V.int)[j]? = some (.int ns[j]) := by
      rw [List.getElem?_map, List.getElem?_eq_getElem hj]
      rfl
    generalize ns[j] = x at gj
    refine ⟨.ref p, rfl, p, _, 0, .ref l, rfl, rfl, SqL.of h1, atI_nat (j := 0) rfl, .int (c % ((ns.map V.int).length : Int)), rfl, l, _, j, .int x, rfl, by rw [hz], SqL.of h2, atI_nat gj, .inl ⟨x, rfl, ?_⟩⟩
    refine ⟨.int x, rfl, 10, 18, rfl, rfl, ⟨by decide, by decide, by decide⟩, x, _, rfl, rfl, _, rfl, ite2 (fun _ => ?_) (fun _ => ?_)⟩
    · have h3 : upd (upd H p (.lst [.ref l, .int (c + 1)])) l (.lst ((ns.map V.int).set j (.int (x / m)))) p = some (.lst [.ref l, .int (c + 1)]) := (upd_ne npl).trans h1
      have e3 : (ns.map V.int).set j (.int (x / m)) = (ns.set j (x / m)).map V.int := List.map_set.symm
      refine ⟨.int x, rfl, .int m, rfl, x, m, rfl, rfl, ⟨m0, m1⟩, .ref p, rfl, p, _, 0, .ref l, rfl, rfl, SqL.of h1, atI_nat (j := 0) rfl, .int (c % ((ns.map V.int).length : Int)), rfl, l, _, j, j, rfl, by rw [hz], h2, ixN_nat (by rw [List.length_map]; exact hj), ?_⟩
      refine ⟨.int x, rfl, .inl ⟨x, rfl, .int m, rfl, x, m, rfl, rfl, m0, ?_⟩⟩
      refine kk _ _ ⟨Int.emod_nonneg _ (by omega), Int.emod_lt_of_pos _ m0⟩ (px1.upd (.inr (.inl rfl))) ⟨c + 1, ns.set j (x / m), h3, ?_, ?_, by omega, by omega⟩
      · rw [← e3]
        exact upd_same
      · intro q
        have q2 : (ns.set j (x / m)).length = 0 := by
          rw [q]
          rfl
        rw [List.length_set] at q2
        omega
    · refine ⟨.int x, rfl, .inl ⟨x, rfl, x, 1000000007, rfl, rfl, (show (0 : Int) < 1000000007 by decide), _, 48271, rfl, rfl, .inr ⟨by decide, by decide⟩, .int c, rfl, c, 7919, rfl, rfl, .inr ⟨by decide, by decide⟩, _, _, rfl, rfl, _, 104729, rfl, rfl, .inl ⟨_, rfl, _, 5, rfl, rfl, ?_, ?_⟩⟩⟩
      · have z0 := Int.emod_nonneg x (show (1000000007 : Int) ≠ 0 by decide)
        have z1 := Int.emod_lt_of_pos x (show (0 : Int) < 1000000007 by decide)
        refine ⟨by decide, by decide, ?_⟩
        generalize x % 1000000007 = u at *
        omega
      · refine ⟨_, rfl, .inl ⟨_, rfl, _, 2147483647, rfl, rfl, (show (0 : Int) < 2147483647 by decide), .inl ⟨_, rfl, _, 8, rfl, rfl, ⟨by decide, by decide⟩, .int m, rfl, _, m, rfl, rfl, m0, ?_⟩⟩⟩
        exact kk _ _ ⟨Int.emod_nonneg _ (by omega), Int.emod_lt_of_pos _ m0⟩ px1 pen1

theorem ok_law_pick {fd : FuncData} (F : FnP K "_law_pick" "_law_pick" s_law_pick (ga K "_law_pick") fd) (T : Txt K w mg) (c_law_draw : Cl P w K mg base CX0 1 (ga K "_law_draw") ["_law_pen", "_law_many"] spDraw) : FnOk P w K mg base CX0 (1 + 1) (ga K "_law_pick") fd ["_law_pen", "_law_row"] (spPick K) := by
  obtain ⟨fd_law_draw, G_law_draw, b_law_draw, kp_law_draw⟩ := c_law_draw
  refine FunD.ok F sc_law_pick (fun vs H Q E h => ?_) (fun cdv A outer s H vs Q E hr h => ?_)
  · obtain ⟨p, l, a, xs, b, rfl, _⟩ := h
    rfl
  · obtain ⟨p, l, a, xs, b, rfl, hS, ⟨x0, x1⟩, hP, kk⟩ := h
    have g_law_draw := T.gl "_law_draw" (by decide +kernel)
    have n_len := T.fr "len" (by decide +kernel)
    refine ⟨_, PSs.nox (pss_one (ps_ret (pe_ix ix_list (pv 1) (pe_call G_law_draw (hr.mono (by decide)) (by rfl) g_law_draw kp_law_draw b_law_draw .nil pass0 (pa_cons (pv 0) (pa_cons (pe_callB call_len_seq (by rfl) n_len (by decide +kernel) (pa_cons (pv 1) pa_nil)) pa_nil))) (fun _ _ => rfl)))), ?_⟩
    have hS' : SqL K H a xs := ex_l cut_ex hS
    have hl : 0 < xs.length := by
      cases xs with
      | nil => exact absurd rfl x0
      | cons x r => exact Nat.succ_pos _
    refine ⟨.ref a, rfl, .ref p, rfl, .ref a, rfl, a, xs, rfl, .inl hS', p, l, (xs.length : Int), b, rfl, ⟨by omega, by omega⟩, hP, fun r H' hr px pen => ?_⟩
    obtain ⟨j, rfl⟩ : ∃ j : Nat, r = (j : Int) := ⟨r.toNat, by omega⟩
    have hj : j < xs.length := by omega
    have gj : xs[j]? = some xs[j] := List.getElem?_eq_getElem hj
    exact ⟨a, xs, j, xs[j], rfl, rfl, ex_l cut_ex (ex_l px hS), atI_nat gj, kk _ _ (List.getElem_mem hj) px pen⟩

theorem ok_law_size0 {fd : FuncData} (F : FnP K "_law_size" "_law_size" s_law_size (ga K "_law_size") fd) (T : Tx K w mg) : FnOk P w K mg base CX0 (0 + 1) (ga K "_law_size") fd ["_law_tree_here"] (spSize K 0) := by
  refine FunD.ok F sc_law_size (fun vs H Q E h => ?_) (fun cdv A outer s H vs Q E hr h => ?_)
  · obtain ⟨v, d, B, C, rfl, _⟩ := h
    rfl
  · exfalso
    obtain ⟨v, d, B, C, rfl, hd, hb, hC, hdp, kk⟩ := h
    have := deep_pos hb
    omega

theorem ok_law_sizeS {fd : FuncData} {n k : Nat} (F : FnP K "_law_size" "_law_size" s_law_size (ga K "_law_size") fd) (T : Tx K w mg) (c_law_size : Cl P w K mg base CX0 k (ga K "_law_size") ["_law_tree_here"] (spSize K n)) : FnOk P w K mg base CX0 (k + 1) (ga K "_law_size") fd ["_law_tree_here"] (spSize K (n + 1)) := by
  obtain ⟨fd_law_size, G_law_size, b_law_size, kp_law_size⟩ := c_law_size
  refine FunD.ok F sc_law_size (fun vs H Q E h => ?_) (fun cdv A outer s H vs Q E hr h => ?_)
  · obtain ⟨v, d, B, C, rfl, _⟩ := h
    rfl
  · obtain ⟨v, d, B, C, rfl, hd, hb, hC, hdp, kk⟩ := h
    have n_sum := T.fr "sum" (by decide +kernel)
    have g_law_size := T.gl "_law_size" (by decide +kernel)
    refine ⟨_, PSs.nox (pss_one (ps_ret (pe_op op_add pe_int (pe_callB (cr_sum rfl) (by rfl) n_sum (by decide +kernel) (pa_cons (pe_lc (own := [("_law_child", 1)]) (g := gName 1) (by rfl) sc_law_size.nd (pi_tup (pe_ix ix_tup (pv 0) pe_int (fun _ _ => rfl))) (blkOk_by (own := [("_law_child", 1)]) (N := ["_law_tree_here", "_law_child"]) (sc := defScope s_law_size) (by decide +kernel)) (fun _ _ _ _ _ => (pg_name (i := 1) sc_law_size.nd rfl (Or.inl rfl))) (fun _ _ _ _ _ => (pts_one (pt_cmpR op_notN (pv 1) pe_non (nomark _)))) (fun _ _ _ _ _ => (pe_call G_law_size (hr.mono (by omega)) (by rfl) g_law_size kp_law_size b_law_size .nil pass0 (pa_cons (pv 1) pa_nil)))) pa_nil))))), ?_⟩
    obtain ⟨bs, ks, rfl, lb, h01, lk, hbk⟩ := hb.un
    obtain ⟨t, tb, tk, ws, rfl, ht, htb, htk, hws⟩ := dp_nd hd
    rw [deep_nd] at hdp
    have lw := dpAll_len hws
    refine ⟨.ref t, rfl, t, _, 1, .ref tk, rfl, rfl, ht, atI_nat (j := 1) rfl, tk, rfl, ⟨_, htk⟩, fun D hD => ?_⟩
    refine lc_tup (xs := ws) (fun i H' => Ex H H' ∧ H' D = some (.lst (((((ks.take i).filter fun k => !isN k).map size).map fun n : Nat => (n : Int)).map V.int))) ⟨Ex.new hD, upd_same⟩ (fun i H' _ hI => ex_t hI.1 htk) (fun i x H' hx hI => ?_) (fun H' hI => ?_)
    · obtain ⟨k1, k2⟩ := hI
      obtain ⟨d, hd1, hxd⟩ := dpAll_at hws hx
      have hi := (List.getElem?_eq_some_iff.mp hd1).1
      have cas := hbk.at d (List.mem_of_getElem? hd1)
      have en := dpAll_none hxd B C cas
      refine ⟨rfl, go_test (b := !decide (x = .non)) (et_test (ev_op (ev_var rfl) ev_c (fun H9 e9 Q9 q9 => ⟨rfl, q9 H9 (Ex.refl _)⟩))) fun H9 e9 => ?_⟩
      rw [filt_more _ hd1, en]
      have lf : ((ks.take i).filter fun k => !isN k).length ≤ i := Nat.le_trans (List.length_filter_le ..) (by rw [List.length_take]; omega)
      refine ite2 (fun hq => ?_) (fun hq => ?_)
      · have hbd : Bd B C d := by
          rcases cas with rfl | h
          · cases hq
          · exact h
        have dl := deepL_at (List.mem_of_getElem? hd1)
        refine ⟨x, rfl, x, d, B, C, rfl, dpM (k1.trans e9) _ _ hxd, hbd, hC, by omega, fun H10 e10 => ⟨_, e10 _ _ (e9 _ _ k2), ?_, ((k1.trans e9).trans e10).mut hD, ?_⟩⟩
        · rw [List.length_map, List.length_map, List.length_map]
          exact small1000 (by omega)
        · rw [upd_same, if_pos hq, List.map_append, List.map_append, List.map_append]
          rfl
      · refine ⟨k1.trans e9, ?_⟩
        rw [if_neg hq, List.append_nil]
        exact e9 _ _ k2
    · obtain ⟨k1, k2⟩ := hI
      rw [take_all (show ks.length ≤ ws.length by omega)] at k2
      refine ⟨D, _, rfl, sq_of k2, 1, _, rfl, rfl, ?_⟩
      have e : (1 : Int) + ((((ks.filter fun k => !isN k).map size).map fun n : Nat => (n : Int))).sum = (size (nd bs ks) : Nat) := by
        rw [int_sum, size_nodes, size_nd]
        omega
      dsimp only
      rw [e]
      exact kk H' k1

theorem ok_law_tree0 {fd : FuncData} {k : Nat} (hk1 : 1 ≤ k) (F : FnP K "_law_tree" "_law_tree" s_law_tree (ga K "_law_tree") fd) (T : Tx K w mg) (c_law_draw : Cl P w K mg base CX0 1 (ga K "_law_draw") ["_law_pen", "_law_many"] spDraw) : FnOk P w K mg base CX0 (k + 1) (ga K "_law_tree") fd ["_law_pen", "_law_room", "_law_deep_here"] (spTree K 0) := by
  obtain ⟨fd_law_draw, G_law_draw, b_law_draw, kp_law_draw⟩ := c_law_draw
  refine FunD.ok F sc_law_tree (fun vs H Q E h => ?_) (fun cdv A outer s H vs Q E hr h => ?_)
  · obtain ⟨p, l, room, b, rfl, _⟩ := h
    rfl
  · obtain ⟨p, l, room, b, rfl, ⟨rm1, rm2⟩, hP, kk⟩ := h
    have n_tuple := T.fr "tuple" (by decide +kernel)
    have n_range := T.fr "range" (by decide +kernel)
    have g_law_draw := T.gl "_law_draw" (by decide +kernel)
    refine ⟨_, PSs.nox (pss_cons (ps_set (i := 3) sc_law_tree.nd rfl (Or.inl rfl) (pe_callTy call_tuple_of (by rfl) n_tuple (by decide +kernel) (pa_cons (pe_lc (own := [("_law_k", 6)]) (g := gName 6) (by rfl) sc_law_tree.nd (pi_range1 (by rfl) n_range (pa_cons (pe_call G_law_draw (hr.mono (by omega)) (by rfl) g_law_draw kp_law_draw b_law_draw .nil pass0 (pa_cons (pv 0) (pa_cons pe_int pa_nil))) pa_nil)) (blkOk_by (own := [("_law_k", 6)]) (N := ["_law_pen", "_law_room", "_law_deep_here", "_law_bits", "_law_left", "_law_children", "_law_k", "_law_child"]) (sc := defScope s_law_tree) (by decide +kernel)) (fun _ _ _ _ _ => (pg_name (i := 6) sc_law_tree.nd rfl (Or.inl rfl))) (fun _ _ _ _ _ => pts_nil) (fun _ _ _ _ _ => (pe_call G_law_draw (hr.mono (by omega)) (by rfl) g_law_draw kp_law_draw b_law_draw .nil pass0 (pa_cons (pv 0) (pa_cons pe_int pa_nil))))) pa_nil)))
      (pss_cons (ps_set (i := 4) sc_law_tree.nd rfl (Or.inl rfl) (pe_op op_sub (pv 1) pe_int))
      (pss_cons (ps_set (i := 5) sc_law_tree.nd rfl (Or.inl rfl) (pe_lst pa_nil))
      (pss_cons (ps_for PassesOwn.never rfl (pi_range1 (by rfl) n_range (pa_cons (pe_call G_law_draw (hr.mono (by omega)) (by rfl) g_law_draw kp_law_draw b_law_draw .nil pass0 (pa_cons (pv 0) (pa_cons pe_int pa_nil))) pa_nil)) (pg_name (i := 6) sc_law_tree.nd rfl (Or.inl rfl))
      (pss_one (ps_if (PW.pt (pw_and (pt_cmpR op_gt (pv 2) pe_int (nomark _)) (pw_and (pt_cmpR op_gt (pv 4) pe_int (nomark _)) (pw_and1 (pt_cmpR op_gt (pe_call G_law_draw (hr.mono (by omega)) (by rfl) g_law_draw kp_law_draw b_law_draw .nil pass0 (pa_cons (pv 0) (pa_cons pe_int pa_nil))) pe_int (nomark _))))))
      (pss_cons ps_never
      (pss_cons ps_never
      (pss_one ps_never)))
      (pss_one (ps_expr (pe_bm PySem.F.plainAttrs_list PySem.F.slot_list_append PySem.F.type_list_append mt_append (pv 5) (pa_cons pe_non pa_nil)))))))
      (pss_one (ps_ret (pe_tup (pa_cons (pv 3) (pa_cons (pe_callTy call_tuple_of (by rfl) n_tuple (by decide +kernel) (pa_cons (pv 5) pa_nil)) pa_nil))))))))), ?_⟩
    -- the bits
    refine ⟨.ref p, rfl, p, l, 7, b + 3 * 0 + 8, rfl, ⟨by decide, by decide⟩, hP.less (by show b + 3 * 0 + 8 + 1 ≤ b + 10; omega), fun r H1 hr px1 pen1 => ⟨r, rfl, by omega, by omega, fun D hD => ?_⟩⟩
    obtain ⟨rn, rfl, lrn⟩ := nat_of hr
    have nD : D ≠ p ∧ D ≠ l := pen1.new hD
    refine lc_range (lo := 0) (n := ((rn : Nat) : Int).toNat) (fun i H' => ∃ bs : List Int, bs.length = i ∧ (∀ b ∈ bs, b = 0 ∨ b = 1) ∧ H' D = some (.lst (bs.map V.int)) ∧ Px p l H H' ∧ Pen p l (b + 3 * 0 + 8 - i) H')
      ⟨[], rfl, (fun c hc => nomatch hc), upd_same, px1.trans (Px.of (Ex.new hD)), pen1.ex (Ex.new hD)⟩ (fun i H' hi hI => ?_) (fun H2 hI => ?_)
    · obtain ⟨bs, e1, e2, e3, e4, e5⟩ := hI
      refine ⟨rfl, yes_go ⟨.ref p, rfl, p, l, 2, b + 3 * 0 + 8 - (i + 1), rfl, ⟨by decide, by decide⟩, e5.less (by omega), fun r2 H3 hr2 px2 pen2 => ⟨bs.map V.int, px2.get nD.1 nD.2 e3, ?_, bs ++ [r2], ?_, ?_, ?_, (e4.trans px2).upd (.inr (.inr (px1.fresh nD.1 nD.2 hD))), pen2.upd nD.1 nD.2⟩⟩⟩
      · rw [List.length_map]
        exact small1000 (by omega)
      · rw [List.length_append, e1]
        rfl
      · intro x hx
        rcases List.mem_append.mp hx with h | h
        · exact e2 x h
        · rw [List.mem_singleton.mp h]
          omega
      · rw [upd_same, List.map_append]
        rfl
    obtain ⟨bs, lb, h01, gD, pxD, penD⟩ := hI
    refine ⟨D, _, rfl, .inl ⟨sq_of gD, fun tb htb => ?_⟩⟩
    have eT := Ex.new (o := .tup (bs.map V.int)) htb
    have pxT := pxD.trans (Px.of (p := p) (l := l) eT)
    have penT := penD.ex eT
    have tB0 : SqT K (upd H2 tb (.tup (bs.map V.int))) tb (bs.map V.int) := st_of upd_same
    generalize upd H2 tb (.tup (bs.map V.int)) = H3 at pxT penT tB0
    clear eT htb gD pxD penD
    dsimp only [gName, List.set]
    refine ⟨.int (room : Nat), rfl, (room : Nat), 1, rfl, rfl, ?_⟩
    try dsimp only [gName, List.set]
    refine q_asgL (el_lst ea_nil (by decide)) fun CL H4 hCL e4 gC0 => ?_
    have nC := penT.new hCL
    have hCL0 : H CL = none := pxT.fresh nC.1 nC.2 hCL
    have px4 := pxT.trans (Px.of (p := p) (l := l) e4)
    have pen4 := penT.ex e4
    try dsimp only [gName, List.set]
    refine ⟨.ref p, rfl, p, l, 4, b + 3 * 0, rfl, ⟨by decide, by decide⟩, pen4.less (by omega), fun q H5 hq5 px5 pen5 => ⟨q, rfl, by omega, by omega, ?_⟩⟩
    obtain ⟨qn, rfl, lqn⟩ := nat_of hq5
    have kp5 := Kp.px pen4 px5
    refine for_range (lo := 0) (n := ((qn : Nat) : Int).toNat) (fun i σ' H' => ∃ ks vs left v6 v7, σ' = [some (.ref p), some (.int (room : Nat)), some (.int (0 : Nat)), some (.ref tb), some (.int (left : Nat)), some (.ref CL), v6, v7] ∧ H' CL = some (.lst vs) ∧ DpAll K H' vs ks ∧ BdL 6 3 ks ∧ ks.length = i ∧ sizeL ks + left + 1 ≤ room ∧ deepL ks ≤ 0 ∧ SqT K H' tb (bs.map V.int) ∧ Px p l H H' ∧ Pen p l (b + (3 - i) * 0) H')
      ⟨[], [], room - 1, _, _, by rw [show (room : Int) - 1 = ((room - 1 : Nat) : Int) by omega]; rfl, px5.get nC.1 nC.2 gC0, .nil, .nil, rfl, by simp only [sizeL]; omega, by simp [deepL], kp5.t (ex_t e4 tB0), px4.trans px5, pen5.less (by omega)⟩ (fun i σ' H6 hi hI => ?_) (fun σ' H6 hI => ?_)
    · obtain ⟨ks, vs, left, v6, v7, rfl, gC, dK, bk, lk, sz, dp, tB, pxA, penA⟩ := hI
      have hi2 : i < 3 := by omega
      have lvs := dpAll_len dK
      have eqB : (3 - i) * 0 = (3 - (i + 1)) * 0 + 0 := by
        obtain ⟨t, ht⟩ : ∃ t, 3 - i = t + 1 := ⟨3 - i - 1, by omega⟩
        rw [ht, show 3 - (i + 1) = t by omega, Nat.succ_mul]
      rw [eqB] at penA
      dsimp only [gName, List.set]
      refine ⟨.int ((0 : Nat) : Int), rfl, ((0 : Nat) : Int), 0, rfl, rfl, _, rfl, ite2 (fun h => absurd (of_decide_eq_true h) (by decide)) (fun _ => iteF ?_)⟩
      refine ⟨.ref CL, rfl, .inl ⟨rfl, _, sq_of gC⟩, CL, vs, .non, rfl, rfl, gC, small1000 (by omega), ks ++ [.none], vs ++ [.non], left, _, _, rfl, upd_same, dps_kp (Kp.lst gC) _ _ (bdL_tup (bk.app (.non .nil))) (dpAll_app dK (.cons .non .nil)), bk.app (.non .nil), by rw [List.length_append, lk]; rfl, by rw [sizeL_app]; simp only [sizeL, size_non]; omega, by rw [deepL_app]; simp only [deepL, deep_non]; omega, (Kp.lst gC).t tB, (pxA).upd (.inr (.inr hCL0)), (penA.less (by omega)).upd nC.1 nC.2⟩
    · obtain ⟨ks, vs, left, v6, v7, rfl, gC, dK, bk, lk, sz, dp, tB, pxA, penA⟩ := hI
      refine ⟨.ref tb, rfl, .ref CL, rfl, CL, vs, rfl, .inl ⟨sq_of gC, fun tk htk => ⟨(show 2 ≤ sizeLine by decide), fun t ht => ?_⟩⟩⟩
      have e7 := Ex.new (o := .tup vs) htk
      have e8 := Ex.new (o := .tup [.ref tb, .ref tk]) ht
      refine kk (.ref t) (nd bs ks) _ (pxA.trans (Px.of (e7.trans e8))) ((penA.ex (e7.trans e8)).less (by omega)) (nd_dp (st_of upd_same) (ex_t (e7.trans e8) tB) (st_of (e8 _ _ upd_same)) (dpMs (e7.trans e8) _ _ dK)) (.mk rfl (by omega) h01 (by omega) bk) ?_ ?_
      · rw [size_nd]
        omega
      · rw [deep_nd]
        omega

theorem ok_law_treeS {fd : FuncData} {n k : Nat} (hk1 : 1 ≤ k) (F : FnP K "_law_tree" "_law_tree" s_law_tree (ga K "_law_tree") fd) (T : Tx K w mg) (c_law_draw : Cl P w K mg base CX0 1 (ga K "_law_draw") ["_law_pen", "_law_many"] spDraw) (c_law_tree : Cl P w K mg base CX0 k (ga K "_law_tree") ["_law_pen", "_law_room", "_law_deep_here"] (spTree K n)) (c_law_size : Cl P w K mg base CX0 k (ga K "_law_size") ["_law_tree_here"] (spSize K (n + 1))) : FnOk P w K mg base CX0 (k + 1) (ga K "_law_tree") fd ["_law_pen", "_law_room", "_law_deep_here"] (spTree K (n + 1)) := by
  obtain ⟨fd_law_draw, G_law_draw, b_law_draw, kp_law_draw⟩ := c_law_draw
  obtain ⟨fd_law_tree, G_law_tree, b_law_tree, kp_law_tree⟩ := c_law_tree
  obtain ⟨fd_law_size, G_law_size, b_law_size, kp_law_size⟩ := c_law_size
  refine FunD.ok F sc_law_tree (fun vs H Q E h => ?_) (fun cdv A outer s H vs Q E hr h => ?_)
  · obtain ⟨p, l, room, b, rfl, _⟩ := h
    rfl
  · obtain ⟨p, l, room, b, rfl, ⟨rm1, rm2⟩, hP, kk⟩ := h
    have n_tuple := T.fr "tuple" (by decide +kernel)
    have n_range := T.fr "range" (by decide +kernel)
    have g_law_draw := T.gl "_law_draw" (by decide +kernel)
    have g_law_tree := T.gl "_law_tree" (by decide +kernel)
    have g_law_size := T.gl "_law_size" (by decide +kernel)
    refine ⟨_, PSs.nox (pss_cons (ps_set (i := 3) sc_law_tree.nd rfl (Or.inl rfl) (pe_callTy call_tuple_of (by rfl) n_tuple (by decide +kernel) (pa_cons (pe_lc (own := [("_law_k", 6)]) (g := gName 6) (by rfl) sc_law_tree.nd (pi_range1 (by rfl) n_range (pa_cons (pe_call G_law_draw (hr.mono (by omega)) (by rfl) g_law_draw kp_law_draw b_law_draw .nil pass0 (pa_cons (pv 0) (pa_cons pe_int pa_nil))) pa_nil)) (blkOk_by (own := [("_law_k", 6)]) (N := ["_law_pen", "_law_room", "_law_deep_here", "_law_bits", "_law_left", "_law_children", "_law_k", "_law_child"]) (sc := defScope s_law_tree) (by decide +kernel)) (fun _ _ _ _ _ => (pg_name (i := 6) sc_law_tree.nd rfl (Or.inl rfl))) (fun _ _ _ _ _ => pts_nil) (fun _ _ _ _ _ => (pe_call G_law_draw (hr.mono (by omega)) (by rfl) g_law_draw kp_law_draw b_law_draw .nil pass0 (pa_cons (pv 0) (pa_cons pe_int pa_nil))))) pa_nil)))
      (pss_cons (ps_set (i := 4) sc_law_tree.nd rfl (Or.inl rfl) (pe_op op_sub (pv 1) pe_int))
      (pss_cons (ps_set (i := 5) sc_law_tree.nd rfl (Or.inl rfl) (pe_lst pa_nil))
      (pss_cons (ps_for PassesOwn.never rfl (pi_range1 (by rfl) n_range (pa_cons (pe_call G_law_draw (hr.mono (by omega)) (by rfl) g_law_draw kp_law_draw b_law_draw .nil pass0 (pa_cons (pv 0) (pa_cons pe_int pa_nil))) pa_nil)) (pg_name (i := 6) sc_law_tree.nd rfl (Or.inl rfl))
      (pss_one (ps_if (PW.pt (pw_and (pt_cmpR op_gt (pv 2) pe_int (nomark _)) (pw_and (pt_cmpR op_gt (pv 4) pe_int (nomark _)) (pw_and1 (pt_cmpR op_gt (pe_call G_law_draw (hr.mono (by omega)) (by rfl) g_law_draw kp_law_draw b_law_draw .nil pass0 (pa_cons (pv 0) (pa_cons pe_int pa_nil))) pe_int (nomark _))))))
      (pss_cons (ps_set (i := 7) sc_law_tree.nd rfl (Or.inl rfl) (pe_call G_law_tree (hr.mono (by omega)) (by rfl) g_law_tree kp_law_tree b_law_tree .nil pass0 (pa_cons (pv 0) (pa_cons (pe_op op_add pe_int (pe_call G_law_draw (hr.mono (by omega)) (by rfl) g_law_draw kp_law_draw b_law_draw .nil pass0 (pa_cons (pv 0) (pa_cons (pv 4) pa_nil)))) (pa_cons (pe_op op_sub (pv 2) pe_int) pa_nil)))))
      (pss_cons (ps_set (i := 4) sc_law_tree.nd rfl (Or.inl rfl) (pe_op op_sub (pv 4) (pe_call G_law_size (hr.mono (by omega)) (by rfl) g_law_size kp_law_size b_law_size .nil pass0 (pa_cons (pv 7) pa_nil))))
      (pss_one (ps_expr (pe_bm PySem.F.plainAttrs_list PySem.F.slot_list_append PySem.F.type_list_append mt_append (pv 5) (pa_cons (pv 7) pa_nil))))))
      (pss_one (ps_expr (pe_bm PySem.F.plainAttrs_list PySem.F.slot_list_append PySem.F.type_list_append mt_append (pv 5) (pa_cons pe_non pa_nil)))))))
      (pss_one (ps_ret (pe_tup (pa_cons (pv 3) (pa_cons (pe_callTy call_tuple_of (by rfl) n_tuple (by decide +kernel) (pa_cons (pv 5) pa_nil)) pa_nil))))))))), ?_⟩
    -- the bits
    refine ⟨.ref p, rfl, p, l, 7, b + 3 * (2 + Tn n) + 8, rfl, ⟨by decide, by decide⟩, hP.less (by show b + 3 * (2 + Tn n) + 8 + 1 ≤ b + (10 + 3 * (2 + Tn n)); omega), fun r H1 hr px1 pen1 => ⟨r, rfl, by omega, by omega, fun D hD => ?_⟩⟩
    obtain ⟨rn, rfl, lrn⟩ := nat_of hr
    have nD : D ≠ p ∧ D ≠ l := pen1.new hD
    refine lc_range (lo := 0) (n := ((rn : Nat) : Int).toNat) (fun i H' => ∃ bs : List Int, bs.length = i ∧ (∀ b ∈ bs, b = 0 ∨ b = 1) ∧ H' D = some (.lst (bs.map V.int)) ∧ Px p l H H' ∧ Pen p l (b + 3 * (2 + Tn n) + 8 - i) H')
      ⟨[], rfl, (fun c hc => nomatch hc), upd_same, px1.trans (Px.of (Ex.new hD)), pen1.ex (Ex.new hD)⟩ (fun i H' hi hI => ?_) (fun H2 hI => ?_)
    · obtain ⟨bs, e1, e2, e3, e4, e5⟩ := hI
      refine ⟨rfl, yes_go ⟨.ref p, rfl, p, l, 2, b + 3 * (2 + Tn n) + 8 - (i + 1), rfl, ⟨by decide, by decide⟩, e5.less (by omega), fun r2 H3 hr2 px2 pen2 => ⟨bs.map V.int, px2.get nD.1 nD.2 e3, ?_, bs ++ [r2], ?_, ?_, ?_, (e4.trans px2).upd (.inr (.inr (px1.fresh nD.1 nD.2 hD))), pen2.upd nD.1 nD.2⟩⟩⟩
      · rw [List.length_map]
        exact small1000 (by omega)
      · rw [List.length_append, e1]
        rfl
      · intro x hx
        rcases List.mem_append.mp hx with h | h
        · exact e2 x h
        · rw [List.mem_singleton.mp h]
          omega
      · rw [upd_same, List.map_append]
        rfl
    obtain ⟨bs, lb, h01, gD, pxD, penD⟩ := hI
    refine ⟨D, _, rfl, .inl ⟨sq_of gD, fun tb htb => ?_⟩⟩
    have eT := Ex.new (o := .tup (bs.map V.int)) htb
    have pxT := pxD.trans (Px.of (p := p) (l := l) eT)
    have penT := penD.ex eT
    have tB0 : SqT K (upd H2 tb (.tup (bs.map V.int))) tb (bs.map V.int) := st_of upd_same
    generalize upd H2 tb (.tup (bs.map V.int)) = H3 at pxT penT tB0
    clear eT htb gD pxD penD
    dsimp only [gName, List.set]
    refine ⟨.int (room : Nat), rfl, (room : Nat), 1, rfl, rfl, ?_⟩
    try dsimp only [gName, List.set]
    refine q_asgL (el_lst ea_nil (by decide)) fun CL H4 hCL e4 gC0 => ?_
    have nC := penT.new hCL
    have hCL0 : H CL = none := pxT.fresh nC.1 nC.2 hCL
    have px4 := pxT.trans (Px.of (p := p) (l := l) e4)
    have pen4 := penT.ex e4
    try dsimp only [gName, List.set]
    refine ⟨.ref p, rfl, p, l, 4, b + 3 * (2 + Tn n), rfl, ⟨by decide, by decide⟩, pen4.less (by omega), fun q H5 hq5 px5 pen5 => ⟨q, rfl, by omega, by omega, ?_⟩⟩
    obtain ⟨qn, rfl, lqn⟩ := nat_of hq5
    have kp5 := Kp.px pen4 px5
    refine for_range (lo := 0) (n := ((qn : Nat) : Int).toNat) (fun i σ' H' => ∃ ks vs left v6 v7, σ' = [some (.ref p), some (.int (room : Nat)), some (.int (n + 1 : Nat)), some (.ref tb), some (.int (left : Nat)), some (.ref CL), v6, v7] ∧ H' CL = some (.lst vs) ∧ DpAll K H' vs ks ∧ BdL 6 3 ks ∧ ks.length = i ∧ sizeL ks + left + 1 ≤ room ∧ deepL ks ≤ n + 1 ∧ SqT K H' tb (bs.map V.int) ∧ Px p l H H' ∧ Pen p l (b + (3 - i) * (2 + Tn n)) H')
      ⟨[], [], room - 1, _, _, by rw [show (room : Int) - 1 = ((room - 1 : Nat) : Int) by omega]; rfl, px5.get nC.1 nC.2 gC0, .nil, .nil, rfl, by simp only [sizeL]; omega, by simp [deepL], kp5.t (ex_t e4 tB0), px4.trans px5, pen5.less (by omega)⟩ (fun i σ' H6 hi hI => ?_) (fun σ' H6 hI => ?_)
    · obtain ⟨ks, vs, left, v6, v7, rfl, gC, dK, bk, lk, sz, dp, tB, pxA, penA⟩ := hI
      have hi2 : i < 3 := by omega
      have lvs := dpAll_len dK
      have eqB : (3 - i) * (2 + Tn n) = (3 - (i + 1)) * (2 + Tn n) + (2 + Tn n) := by
        obtain ⟨t, ht⟩ : ∃ t, 3 - i = t + 1 := ⟨3 - i - 1, by omega⟩
        rw [ht, show 3 - (i + 1) = t by omega, Nat.succ_mul]
      rw [eqB] at penA
      dsimp only [gName, List.set]
      refine ⟨.int ((n + 1 : Nat) : Int), rfl, ((n + 1 : Nat) : Int), 0, rfl, rfl, _, rfl, ite2 (fun _ => ?_) (fun h => absurd (decide_eq_true (by omega)) h)⟩
      refine ⟨.int (left : Nat), rfl, (left : Nat), 0, rfl, rfl, _, rfl, ite2 (fun hl => ?_) (fun hl => iteF ?_)⟩
      · have hl1 : 1 ≤ left := by
          have := of_decide_eq_true hl
          omega
        refine ⟨.ref p, rfl, p, l, 4, b + (3 - (i + 1)) * (2 + Tn n) + (1 + Tn n), rfl, ⟨by decide, by decide⟩, penA.less (by omega), fun r H7 hr7 px7 pen7 => ⟨r, 0, rfl, rfl, _, rfl, ite2 (fun _ => ?_) (fun _ => ?_)⟩⟩
        · have g7 := px7.get nC.1 nC.2 gC
          refine ⟨.ref p, rfl, .ref p, rfl, .int (left : Nat), rfl, p, l, (left : Nat), b + (3 - (i + 1)) * (2 + Tn n) + Tn n, rfl, ⟨by omega, by omega⟩, pen7.less (by omega), fun r8 H8 hr8 px8 pen8 => ⟨1, r8, rfl, rfl, .int ((n + 1 : Nat) : Int), rfl, ((n + 1 : Nat) : Int), 1, rfl, rfl, ?_⟩⟩
          obtain ⟨r9, rfl, l9⟩ := nat_of hr8
          refine ⟨p, l, 1 + r9, b + (3 - (i + 1)) * (2 + Tn n), ?_, ⟨by omega, by omega⟩, pen8, fun v d H9 px9 pen9 dv bd sd dd => ?_⟩
          · show [V.ref p, V.int (1 + (r9 : Int)), V.int (((n + 1 : Nat) : Int) - 1)] = _
            rw [show ((n + 1 : Nat) : Int) - 1 = ((n : Nat) : Int) by omega, show (1 : Int) + (r9 : Int) = ((1 + r9 : Nat) : Int) by omega]
          have px79 := (px7.trans px8).trans px9
          have kp9 := Kp.px penA px79
          have g9 := px79.get nC.1 nC.2 gC
          dsimp only [gName, List.set]
          refine ⟨.int (left : Nat), rfl, v, rfl, v, d, 6, 3, rfl, dv, bd, by decide, dd, fun H10 e10 => ⟨(left : Nat), (size d : Nat), rfl, rfl, ?_⟩⟩
          have g10 := e10 _ _ g9
          have pen10 := pen9.ex e10
          have kp10 := kp9.trans (Kp.of e10)
          dsimp only [gName, List.set]
          refine ⟨.ref CL, rfl, .inl ⟨rfl, _, sq_of g10⟩, v, rfl, CL, vs, v, rfl, rfl, g10, small1000 (by omega), ks ++ [d], vs ++ [v], left - size d, some (.int (0 + (i : Nat))), some v, ?_, upd_same, dps_kp (Kp.lst g10) _ _ (bdL_tup (bk.app (.one bd .nil))) (dpAll_app (dps_kp kp10 _ _ (bdL_tup bk) dK) (.cons (dpM e10 _ _ dv) .nil)), bk.app (.one bd .nil), by rw [List.length_append, lk]; rfl, by rw [sizeL_app]; simp only [sizeL]; omega, by rw [deepL_app]; simp only [deepL]; omega, (Kp.lst g10).t (kp10.t tB), ((pxA.trans px79).trans (Px.of e10)).upd (.inr (.inr hCL0)), (pen10.less (by omega)).upd nC.1 nC.2⟩
          try dsimp only [List.set]
          rw [show (left : Int) - (size d : Int) = ((left - size d : Nat) : Int) by omega]
        · have g7 := px7.get nC.1 nC.2 gC
          have kp7 := Kp.px penA px7
          refine ⟨.ref CL, rfl, .inl ⟨rfl, _, sq_of g7⟩, CL, vs, .non, rfl, rfl, g7, small1000 (by omega), ks ++ [.none], vs ++ [.non], left, _, _, rfl, upd_same, dps_kp (Kp.lst g7) _ _ (bdL_tup (bk.app (.non .nil))) (dpAll_app (dps_kp kp7 _ _ (bdL_tup bk) dK) (.cons .non .nil)), bk.app (.non .nil), by rw [List.length_append, lk]; rfl, by rw [sizeL_app]; simp only [sizeL, size_non]; omega, by rw [deepL_app]; simp only [deepL, deep_non]; omega, (Kp.lst g7).t (kp7.t tB), (pxA.trans px7).upd (.inr (.inr hCL0)), (pen7.less (by omega)).upd nC.1 nC.2⟩
      · refine ⟨.ref CL, rfl, .inl ⟨rfl, _, sq_of gC⟩, CL, vs, .non, rfl, rfl, gC, small1000 (by omega), ks ++ [.none], vs ++ [.non], left, _, _, rfl, upd_same, dps_kp (Kp.lst gC) _ _ (bdL_tup (bk.app (.non .nil))) (dpAll_app dK (.cons .non .nil)), bk.app (.non .nil), by rw [List.length_append, lk]; rfl, by rw [sizeL_app]; simp only [sizeL, size_non]; omega, by rw [deepL_app]; simp only [deepL, deep_non]; omega, (Kp.lst gC).t tB, (pxA).upd (.inr (.inr hCL0)), (penA.less (by omega)).upd nC.1 nC.2⟩
    · obtain ⟨ks, vs, left, v6, v7, rfl, gC, dK, bk, lk, sz, dp, tB, pxA, penA⟩ := hI
      refine ⟨.ref tb, rfl, .ref CL, rfl, CL, vs, rfl, .inl ⟨sq_of gC, fun tk htk => ⟨(show 2 ≤ sizeLine by decide), fun t ht => ?_⟩⟩⟩
      have e7 := Ex.new (o := .tup vs) htk
      have e8 := Ex.new (o := .tup [.ref tb, .ref tk]) ht
      refine kk (.ref t) (nd bs ks) _ (pxA.trans (Px.of (e7.trans e8))) ((penA.ex (e7.trans e8)).less (by omega)) (nd_dp (st_of upd_same) (ex_t (e7.trans e8) tB) (st_of (e8 _ _ upd_same)) (dpMs (e7.trans e8) _ _ dK)) (.mk rfl (by omega) h01 (by omega) bk) ?_ ?_
      · rw [size_nd]
        omega
      · rw [deep_nd]
        omega

end
end K10
set_option Elab.async false
set_option linter.all false
set_option maxRecDepth 100000
set_option maxHeartbeats 8000000
namespace K10
open PySem PySem.Spec PyProof.Rows L2 He XH XV XR PEN TR XQ PZ Evl


def spShort (K : PySem.W.Frag) : Sp := fun vs H Q _ => ∃ (a : Addr) (e : V) (xs : List V) (ds : List PyData) (de : PyData), vs = [.ref a, e] ∧ xs.length ≤ 1000 ∧ DpAll K H xs ds ∧ Dp K H e de ∧ (∀ d ∈ ds, SeqAt.shaped d = true) ∧ SeqAt.shaped de = true ∧
  ((SqT K H a xs ∧ ∀ r H', Ex H H' → SqT K H' r (xs.take (keepN (fun d => PyData.eqv d de) ds)) → Q (.ref r) H') ∨ (SqL K H a xs ∧ ∀ r H', H r = none → Ex H H' → H' r = some (.lst (xs.take (keepN (fun d => PyData.eqv d de) ds))) → Q (.ref r) H'))
def spLT (K : PySem.W.Frag) (n : Nat) : Sp := fun vs H Q _ => ∃ (v : V) (d : PyData) (B C : Nat), vs = [v] ∧ Dp K H v d ∧ Bd B C d ∧ (B ≤ 60 ∧ C ≤ 600) ∧ (deep d ≤ n ∧ deep d ≤ 31) ∧ ∀ v' H', Ex H H' → Dp K H' v' (trim d) → Q v' H'
def spLP (K : PySem.W.Frag) (n : Nat) : Sp := fun vs H Q _ => ∃ (v : V) (d : PyData), vs = [v] ∧ Dp K H v d ∧ Bd 60 600 d ∧ (deep d ≤ n ∧ deep d ≤ 30 ∧ size d ≤ 500) ∧ ∀ a H', Ex H H' → Pz K H' a (trim d) → Q (.ref a) H'
def spLD (K : PySem.W.Frag) (n : Nat) : Sp := fun vs H Q _ => ∃ (v : V) (d : PyData), vs = [v] ∧ Dp K H v d ∧ Bd 60 600 d ∧ deep d ≤ n ∧ ∀ H', Ex H H' → Q (.int (deep d : Nat)) H'
def spLS (K : PySem.W.Frag) (n : Nat) : Sp := fun vs H Q _ => ∃ (v : V) (d : PyData), vs = [v] ∧ Dp K H v d ∧ Bd 60 600 d ∧ (deep d ≤ n ∧ deep d ≤ 30 ∧ size d ≤ 500) ∧ ∀ H', Ex H H' → Q (.str (spell d)) H'
def spSame (K : PySem.W.Frag) (n : Nat) : Sp := fun vs H Q _ => ∃ (a : Addr) (v : V) (d : PyData), vs = [.ref a, v] ∧ Pz K H a d ∧ Dp K H v d ∧ (deep d ≤ n ∧ deep d ≤ 30 ∧ size d ≤ 500) ∧ ∀ H', Ex H H' → Q (.bl true) H'

section
variable {P : Program} {w : World} {K : PySem.W.Frag} {mg : Str → Option Value} {base : Heap}

theorem ok_law_short {fd : FuncData} (F : FnP K "_law_short" "_law_short" s_law_short (ga K "_law_short") fd) (T : Tx K w mg) : FnOk P w K mg base CX0 (0 + 1) (ga K "_law_short") fd ["_law_row", "_law_spare"] (spShort K) := by
  refine FunD.ok F sc_law_short (fun vs H Q E h => ?_) (fun cdv A outer s H vs Q E hr h => ?_)
  · obtain ⟨a, e, xs, ds, de, rfl, _⟩ := h
    rfl
  · obtain ⟨a, e, xs, ds, de, rfl, lx, hds, hde, sds, sde, cas⟩ := h
    have n_range := T.fr "range" (by decide +kernel)
    have n_len := T.fr "len" (by decide +kernel)
    refine ⟨_, PSs.nox (pss_cons (ps_set (i := 2) sc_law_short.nd rfl (Or.inl rfl) pe_int)
      (pss_cons (ps_for PassesOwn.never rfl (pi_range1 (by rfl) n_range (pa_cons (pe_callB call_len_seq (by rfl) n_len (by decide +kernel) (pa_cons (pv 0) pa_nil)) pa_nil)) (pg_name (i := 3) sc_law_short.nd rfl (Or.inl rfl))
      (pss_one (ps_if (pt_cmpR (op_neD hr.units) (pe_ix ix_seq (pv 0) (pv 3) (fun _ _ => rfl)) (pv 1) (nomark _))
      (pss_one (ps_set (i := 2) sc_law_short.nd rfl (Or.inl rfl) (pe_op op_add (pv 3) pe_int)))
      pss_nil)))
      (pss_one (ps_ret (pe_slice (L2.SlR.or sl_list sl_tupA) (pv 0) po_none (po_some (pv 2))))))), ?_⟩
    have ll := dpAll_len hds
    have hrow : SqL K H a xs ∨ SqT K H a xs := cas.symm.imp (fun h => h.1) (fun h => h.1)
    refine q_asg (v := .int 0) ev_c fun H1 e1 => ?_
    try dsimp only [gName, List.set]
    refine q_forR1 (n := (xs.length : Nat)) (ea_cons (ev_cb (ea_cons (ev_var rfl) ea_nil) fun H2 e2 Q2 q2 => ⟨a, xs, rfl, hrow.imp (ex_l (e1.trans e2)) (ex_t (e1.trans e2)), q2 H2 (Ex.refl _)⟩) ea_nil) ⟨by omega, by omega⟩ (fun i σ' H' => ∃ v3, σ' = [some (.ref a), some e, some (.int (keepN (fun d => PyData.eqv d de) (ds.take i) : Nat)), v3] ∧ Ex H H') (fun H2 e2 => ⟨_, rfl, e1.trans e2⟩) (fun i σ' H' hi hI => ?_) (fun σ' H' hI => ?_)
    · obtain ⟨v3, rfl, e2⟩ := hI
      have hi2 : i < xs.length := by omega
      have hx : xs[i]? = some xs[i] := List.getElem?_eq_getElem hi2
      obtain ⟨d, hd, hxd⟩ := dpAll_at hds hx
      rw [keepN_take hd]
      try dsimp only [gName, List.set]
      refine s_when (b := !PyData.eqv d de) (et_test (ev_op (ev_op (ev_var rfl) (ev_var rfl) (rv_ix (hrow.imp (ex_l e2) (ex_t e2)) (atI_nat hx))) (ev_var rfl) (rv_neD (dpM e2 _ _ hxd) (dpM e2 _ _ hde) (sds d (List.mem_of_getElem? hd)) sde))) (fun hb H3 e3 => s_asg (ev_op (ev_var rfl) ev_c rv_I0) fun H4 e4 => ⟨some (.int (i : Nat)), ?_, (e2.trans e3).trans e4⟩) (fun hb H3 e3 => ⟨some (.int (i : Nat)), ?_, e2.trans e3⟩)
      · rw [if_neg (by simpa using hb)]
        rfl
      · rw [if_pos (by simpa using hb)]
    · obtain ⟨v3, rfl, e2⟩ := hI
      rw [take_all (show ds.length ≤ ((xs.length : Nat) : Int).toNat by omega)]
      have km := keepN_le (fun d => PyData.eqv d de) ds
      rcases cas with ⟨ht, kk⟩ | ⟨hl, kk⟩
      · refine ⟨.ref a, rfl, .int (keepN (fun d => PyData.eqv d de) ds : Nat), rfl, (keepN (fun d => PyData.eqv d de) ds : Nat), rfl, .inr ⟨a, xs, rfl, ex_t e2 ht, fun hw => ?_, fun hw r hr => ?_⟩⟩
        · have w2 := hw.2
          rw [HT.sIx_nat] at w2
          refine kk a H' e2 ?_
          rw [take_all (show xs.length ≤ keepN (fun d => PyData.eqv d de) ds by omega)]
          exact ex_t e2 ht
        · refine kk r _ (e2.trans (Ex.new hr)) ?_
          rw [cut_take']
          exact st_of upd_same
      · refine ⟨.ref a, rfl, .int (keepN (fun d => PyData.eqv d de) ds : Nat), rfl, (keepN (fun d => PyData.eqv d de) ds : Nat), rfl, .inl ⟨a, xs, rfl, ex_l e2 hl, fun r hr => ?_⟩⟩
        refine kk r _ (fresh_back e2 hr) (e2.trans (Ex.new hr)) ?_
        rw [cut_take']
        exact upd_same

theorem ok_law_trimmed0 {fd : FuncData} (F : FnP K "_law_trimmed" "_law_trimmed" s_law_trimmed (ga K "_law_trimmed") fd) (T : Tx K w mg) : FnOk P w K mg base CX0 (0 + 1) (ga K "_law_trimmed") fd ["_law_tree_here"] (spLT K 0) := by
  refine FunD.ok F sc_law_trimmed (fun vs H Q E h => ?_) (fun cdv A outer s H vs Q E hr h => ?_)
  · obtain ⟨v, d, B, C, rfl, _⟩ := h
    rfl
  · exfalso
    obtain ⟨v, d, B, C, rfl, hd, hb, _, hdp, kk⟩ := h
    have := deep_pos hb
    omega

theorem ok_law_trimmedS {fd : FuncData} {n k : Nat} (hk1 : 1 ≤ k) (F : FnP K "_law_trimmed" "_law_trimmed" s_law_trimmed (ga K "_law_trimmed") fd) (T : Tx K w mg) (c_law_trimmed : Cl P w K mg base CX0 k (ga K "_law_trimmed") ["_law_tree_here"] (spLT K n)) (c_law_short : Cl P w K mg base CX0 1 (ga K "_law_short") ["_law_row", "_law_spare"] (spShort K)) : FnOk P w K mg base CX0 (k + 1) (ga K "_law_trimmed") fd ["_law_tree_here"] (spLT K (n + 1)) := by
  obtain ⟨fd_law_trimmed, G_law_trimmed, b_law_trimmed, kp_law_trimmed⟩ := c_law_trimmed
  obtain ⟨fd_law_short, G_law_short, b_law_short, kp_law_short⟩ := c_law_short
  refine FunD.ok F sc_law_trimmed (fun vs H Q E h => ?_) (fun cdv A outer s H vs Q E hr h => ?_)
  · obtain ⟨v, d, B, C, rfl, _⟩ := h
    rfl
  · obtain ⟨v, d, B, C, rfl, hd, hb, ⟨hB, hC⟩, hdp, kk⟩ := h
    have g_law_trimmed := T.gl "_law_trimmed" (by decide +kernel)
    have n_tuple := T.fr "tuple" (by decide +kernel)
    have g_law_short := T.gl "_law_short" (by decide +kernel)
    refine ⟨_, PSs.nox (pss_cons (ps_setLc (i := 1) (own := [("_law_child", 2)]) (g := gName 2) (by rfl) sc_law_trimmed.nd rfl rfl (sw_true rfl rfl rfl (by decide +kernel)) (pi_tup (pe_ix ix_tup (pv 0) pe_int (fun _ _ => rfl))) (blkOk_by (own := [("_law_child", 2)]) (N := ["_law_tree_here", "_law_kids", "_law_child"]) (sc := defScope s_law_trimmed) (by decide +kernel)) (fun _ _ _ _ _ => (pg_name (i := 2) sc_law_trimmed.nd rfl (Or.inl rfl))) (fun _ _ _ _ _ => pts_nil) (fun _ _ _ _ _ => (pe_ifExp (pt_cmpR op_isN (pv 2) pe_non (nomark _)) pe_non (pe_call G_law_trimmed (hr.mono (by omega)) (by rfl) g_law_trimmed kp_law_trimmed b_law_trimmed .nil pass0 (pa_cons (pv 2) pa_nil)))))
      (pss_one (ps_ret (pe_tup (pa_cons (pe_callTy call_tuple_of (by rfl) n_tuple (by decide +kernel) (pa_cons (pe_call G_law_short (hr.mono (by omega)) (by rfl) g_law_short kp_law_short b_law_short .nil pass0 (pa_cons (pe_ix ix_tup (pv 0) pe_int (fun _ _ => rfl)) (pa_cons pe_int pa_nil))) pa_nil)) (pa_cons (pe_callTy call_tuple_of (by rfl) n_tuple (by decide +kernel) (pa_cons (pe_call G_law_short (hr.mono (by omega)) (by rfl) g_law_short kp_law_short b_law_short .nil pass0 (pa_cons (pv 1) (pa_cons pe_non pa_nil))) pa_nil)) pa_nil)))))), ?_⟩
    obtain ⟨bs, ks, rfl, lb, h01, lk, hbk⟩ := hb.un
    obtain ⟨t, tb, tk, ws, rfl, ht, htb, htk, hws⟩ := dp_nd hd
    rw [deep_nd] at hdp
    have lw := dpAll_len hws
    refine ⟨.ref t, rfl, t, _, 1, .ref tk, rfl, rfl, ht, atI_nat (j := 1) rfl, tk, rfl, ⟨_, htk⟩, fun D hD => ?_⟩
    refine lc_tup (xs := ws) (fun i H' => ∃ vs', Ex H H' ∧ H' D = some (.lst vs') ∧ DpAll K H' vs' ((trimL ks).take i)) ⟨[], Ex.new hD, upd_same, .nil⟩ (fun i H' _ hI => by obtain ⟨vs', k1, _⟩ := hI; exact ex_t k1 htk) (fun i x H' hx hI => ?_) (fun H' hI => ?_)
    · obtain ⟨vs', k1, k2, k3⟩ := hI
      obtain ⟨d, hd1, hxd⟩ := dpAll_at hws hx
      have hi := (List.getElem?_eq_some_iff.mp hd1).1
      have hdt : (trimL ks)[i]? = some (trim d) := by rw [trimL_map, List.getElem?_map, hd1]; rfl
      have cas := hbk.at d (List.mem_of_getElem? hd1)
      have lvs := dpAll_len k3
      rw [List.length_take] at lvs
      have tds : tupDs ((trimL ks).take (i + 1)) = true := bdL_tup ((bdL_trim hbk).take _)
      refine ⟨rfl, yes_go ?_⟩
      have fin : ∀ v' H4, Ex H' H4 → Dp K H4 v' (trim d) → ∃ acc, H4 D = some (.lst acc) ∧ acc.length < sizeLine ∧ ∃ vs', Ex H (upd H4 D (.lst (acc ++ [v']))) ∧ upd H4 D (.lst (acc ++ [v'])) D = some (.lst vs') ∧ DpAll K (upd H4 D (.lst (acc ++ [v']))) vs' ((trimL ks).take (i + 1)) := fun v' H4 e4 dv => by
        refine ⟨_, e4 _ _ k2, small1000 (by omega), _, (k1.trans e4).mut hD, upd_same, ?_⟩
        refine dps_kp (Kp.lst (e4 _ _ k2)) _ _ tds ?_
        rw [take_more hdt]
        exact dpAll_app (dpMs e4 _ _ k3) (.cons dv .nil)
      rcases dp_non hxd cas with ⟨rfl, rfl⟩ | ⟨t', rfl, hbd⟩
      · exact (ev_if (b := true) (et_test (ev_op (ev_var rfl) ev_c rv_isNo)) (fun _ => ev_c (v := .non)) (fun z => nomatch z)) H' (Ex.refl _) _ fun H4 e4 => fin _ H4 e4 (by rw [trim_non]; exact .non)
      · refine ⟨.ref t', rfl, rfl, _, rfl, iteF ?_⟩
        have dl := deepL_at (List.mem_of_getElem? hd1)
        exact ⟨.ref t', rfl, .ref t', d, B, C, rfl, dpM k1 _ _ hxd, hbd, ⟨hB, hC⟩, ⟨by omega, by omega⟩, fun v' H4 e4 dv => fin v' H4 e4 dv⟩
    obtain ⟨vs', k1, k2, k3⟩ := hI
    have lt : (trimL ks).length = ks.length := by rw [trimL_map, List.length_map]
    rw [take_all (show (trimL ks).length ≤ ws.length by omega)] at k3
    have lvs := dpAll_len k3
    try dsimp only [gName, List.set]
    have hbt := bdL_trim hbk
    have dtl := deepL_trim hbk
    refine ⟨.ref t, rfl, t, _, 0, .ref tb, rfl, rfl, ex_t k1 ht, atI_nat (j := 0) rfl, tb, .int 0, bs.map V.int, bs.map PyData.int, .int 0, rfl, by rw [List.length_map]; omega, dp_nums bs, .int 0, (fun d hd => by obtain ⟨b, _, rfl⟩ := List.mem_map.mp hd; rfl), rfl, .inl ⟨ex_t k1 htb, fun r H2 e2 g2 => ⟨r, _, rfl, .inr ⟨g2, ?_⟩⟩⟩⟩
    rw [keep_nums] at g2
    refine ⟨.ref D, rfl, D, .non, vs', trimL ks, .none, rfl, by omega, dpMs e2 _ _ k3, .non, (fun d hd => ?_), rfl, .inr ⟨sq_of (e2 _ _ k2), fun r2 H3 hr2 e3 g3 => ⟨r2, _, rfl, .inl ⟨sq_of g3, fun u hu => ⟨(show 2 ≤ sizeLine by decide), fun tt htt => ?_⟩⟩⟩⟩⟩
    · rcases hbt.at d hd with rfl | hbd
      · rfl
      · have := deepL_at hd
        exact shp_bd hbd (by omega)
    have e4 := Ex.new (o := .tup (vs'.take (keepN (fun d => PyData.eqv d .none) (trimL ks)))) hu
    have e5 := Ex.new (o := .tup [.ref r, .ref u]) htt
    refine kk (.ref tt) _ ((((k1.trans e2).trans e3).trans e4).trans e5) ?_
    rw [trim_nd]
    refine nd_dp (st_of upd_same) ?_ (st_of (e5 _ _ upd_same)) ?_
    · rw [← List.map_take] at g2
      exact ex_t ((e3.trans e4).trans e5) g2
    · have e : (trimL ks).take (keepN (fun d => PyData.eqv d .none) (trimL ks)) = short isN (trimL ks) := by
        rw [keep_nons]
        rfl
      rw [← e]
      exact dps_take _ (dpMs (((e2.trans e3).trans e4).trans e5) _ _ k3)

theorem ok_law_puzzle0 {fd : FuncData} (F : FnP K "_law_puzzle" "_law_puzzle" s_law_puzzle (ga K "_law_puzzle") fd) (T : Tx K w mg) : FnOk P w K mg base CX0 (0 + 1) (ga K "_law_puzzle") fd ["_law_tree_here"] (spLP K 0) := by
  refine FunD.ok F sc_law_puzzle (fun vs H Q E h => ?_) (fun cdv A outer s H vs Q E hr h => ?_)
  · obtain ⟨v, d, rfl, _⟩ := h
    rfl
  · exfalso
    obtain ⟨v, d, rfl, hd, hb, hdp, kk⟩ := h
    have := deep_pos hb
    omega

theorem ok_law_puzzleS {fd : FuncData} {n k : Nat} (hk4 : 4 ≤ k) (F : FnP K "_law_puzzle" "_law_puzzle" s_law_puzzle (ga K "_law_puzzle") fd) (T : Tx K w mg) (c_law_puzzle : Cl P w K mg base CX0 k (ga K "_law_puzzle") ["_law_tree_here"] (spLP K n)) (c_init : Cl P w K mg base CX0 3 (ma K (ga K "Puzzle") "__init__") ["self", "bits", "children"] (spInit K)) : FnOk P w K mg base CX0 (k + 1) (ga K "_law_puzzle") fd ["_law_tree_here"] (spLP K (n + 1)) := by
  obtain ⟨fd_law_puzzle, G_law_puzzle, b_law_puzzle, kp_law_puzzle⟩ := c_law_puzzle
  obtain ⟨fd_init, G_init, b_init, kp_init⟩ := c_init
  refine FunD.ok F sc_law_puzzle (fun vs H Q E h => ?_) (fun cdv A outer s H vs Q E hr h => ?_)
  · obtain ⟨v, d, rfl, _⟩ := h
    rfl
  · obtain ⟨v, d, rfl, hd, hb, hdp, kk⟩ := h
    have g_law_puzzle := T.gl "_law_puzzle" (by decide +kernel)
    have g_Puzzle := T.gl "Puzzle" (by decide +kernel)
    have n_list := T.fr "list" (by decide +kernel)
    refine ⟨_, PSs.nox (pss_cons (ps_setLc (i := 1) (own := [("_law_child", 2)]) (g := gName 2) (by rfl) sc_law_puzzle.nd rfl rfl (sw_true rfl rfl rfl (by decide +kernel)) (pi_tup (pe_ix ix_tup (pv 0) pe_int (fun _ _ => rfl))) (blkOk_by (own := [("_law_child", 2)]) (N := ["_law_tree_here", "_law_children", "_law_child"]) (sc := defScope s_law_puzzle) (by decide +kernel)) (fun _ _ _ _ _ => (pg_name (i := 2) sc_law_puzzle.nd rfl (Or.inl rfl))) (fun _ _ _ _ _ => pts_nil) (fun _ _ _ _ _ => (pe_ifExp (pt_cmpR op_isN (pv 2) pe_non (nomark _)) pe_non (pe_call G_law_puzzle (hr.mono (by omega)) (by rfl) g_law_puzzle kp_law_puzzle b_law_puzzle .nil pass0 (pa_cons (pv 2) pa_nil)))))
      (pss_one (ps_ret (pe_make T.mp G_init (hr.mono (by omega)) (by rfl) g_Puzzle b_init .nil pass0 (pa_cons (pe_callTy call_list_of (by rfl) n_list (by decide +kernel) (pa_cons (pe_ix ix_tup (pv 0) pe_int (fun _ _ => rfl)) pa_nil)) (pa_cons (pv 1) pa_nil)))))), ?_⟩
    obtain ⟨bs, ks, rfl, lb, h01, lk, hbk⟩ := hb.un
    obtain ⟨t, tb, tk, ws, rfl, ht, htb, htk, hws⟩ := dp_nd hd
    rw [deep_nd, size_nd] at hdp
    have lw := dpAll_len hws
    refine ⟨.ref t, rfl, t, _, 1, .ref tk, rfl, rfl, ht, atI_nat (j := 1) rfl, tk, rfl, ⟨_, htk⟩, fun D hD => ?_⟩
    refine lc_tup (xs := ws) (fun i H' => ∃ vs', Ex H H' ∧ H' D = some (.lst vs') ∧ PzL K H' vs' ((trimL ks).take i)) ⟨[], Ex.new hD, upd_same, .nil⟩ (fun i H' _ hI => by obtain ⟨vs', k1, _⟩ := hI; exact ex_t k1 htk) (fun i x H' hx hI => ?_) (fun H' hI => ?_)
    · obtain ⟨vs', k1, k2, k3⟩ := hI
      obtain ⟨d, hd1, hxd⟩ := dpAll_at hws hx
      have hi := (List.getElem?_eq_some_iff.mp hd1).1
      have hdt : (trimL ks)[i]? = some (trim d) := by rw [trimL_map, List.getElem?_map, hd1]; rfl
      have cas := hbk.at d (List.mem_of_getElem? hd1)
      have lvs := k3.len
      rw [List.length_take] at lvs
      refine ⟨rfl, yes_go ?_⟩
      have fin : ∀ v' H4, Ex H' H4 → PzL K H4 [v'] [trim d] → ∃ acc, H4 D = some (.lst acc) ∧ acc.length < sizeLine ∧ ∃ vs', Ex H (upd H4 D (.lst (acc ++ [v']))) ∧ upd H4 D (.lst (acc ++ [v'])) D = some (.lst vs') ∧ PzL K (upd H4 D (.lst (acc ++ [v']))) vs' ((trimL ks).take (i + 1)) := fun v' H4 e4 dv => by
        refine ⟨_, e4 _ _ k2, small1000 (by omega), _, (k1.trans e4).mut hD, upd_same, ?_⟩
        refine PzL.kp (Kp.lst (e4 _ _ k2)) ?_
        rw [take_more hdt]
        exact (k3.kp (Kp.of e4)).app dv
      rcases dp_non hxd cas with ⟨rfl, rfl⟩ | ⟨t', rfl, hbd⟩
      · exact (ev_if (b := true) (et_test (ev_op (ev_var rfl) ev_c rv_isNo)) (fun _ => ev_c (v := .non)) (fun z => nomatch z)) H' (Ex.refl _) _ fun H4 e4 => fin _ H4 e4 (by rw [trim_non]; exact .non .nil)
      · refine ⟨.ref t', rfl, rfl, _, rfl, iteF ?_⟩
        have dl := deepL_at (List.mem_of_getElem? hd1)
        have sl := sizeL_at (List.mem_of_getElem? hd1)
        exact ⟨.ref t', rfl, .ref t', d, rfl, dpM k1 _ _ hxd, hbd, ⟨by omega, by omega, by omega⟩, fun a H4 e4 dv => fin (.ref a) H4 e4 (.one dv .nil)⟩
    obtain ⟨vs', k1, k2, k3⟩ := hI
    have lt : (trimL ks).length = ks.length := by rw [trimL_map, List.length_map]
    rw [take_all (show (trimL ks).length ≤ ws.length by omega)] at k3
    try dsimp only [gName, List.set]
    have dtl := deepL_trim hbk
    have stl := sizeL_trim hbk
    refine ⟨.ref t, rfl, t, _, 0, .ref tb, rfl, rfl, ex_t k1 ht, atI_nat (j := 0) rfl, tb, _, rfl, .inr (ex_t k1 htb), fun lb2 hlb2 => ⟨.ref D, rfl, fun x dx hx hdx hne => ?_⟩⟩
    have e2 := Ex.new (o := .lst (bs.map V.int)) hlb2
    have hx2 : upd (upd H' lb2 (.lst (bs.map V.int))) dx (.own x) x = none := (upd_ne (Ne.symm hne)).trans hx
    have e3 : Ex (upd H' lb2 (.lst (bs.map V.int))) (upd (upd (upd H' lb2 (.lst (bs.map V.int))) dx (.own x)) x (.ins (ga K "Puzzle") dx [])) := (Ex.new hdx).trans (Ex.new hx2)
    have e4 := e2.trans e3
    refine ⟨x, lb2, D, dx, bs, vs', trimL ks, rfl, upd_same, .inl (sq_of (e3 _ _ upd_same)), h01, lb, .inl (sq_of (e4 _ _ k2)), k3.kp (Kp.of e4), by omega, ⟨by omega, by omega⟩, fun H5 x5 p5 => ⟨rfl, ?_⟩⟩
    refine kk x H5 ((k1.trans e2).trans (Xa.new e3 hx x5)) ?_
    rw [trim_nd]
    exact p5

theorem ok_law_deep0 {fd : FuncData} (F : FnP K "_law_deep" "_law_deep" s_law_deep (ga K "_law_deep") fd) (T : Tx K w mg) : FnOk P w K mg base CX0 (0 + 1) (ga K "_law_deep") fd ["_law_tree_here"] (spLD K 0) := by
  refine FunD.ok F sc_law_deep (fun vs H Q E h => ?_) (fun cdv A outer s H vs Q E hr h => ?_)
  · obtain ⟨v, d, rfl, _⟩ := h
    rfl
  · exfalso
    obtain ⟨v, d, rfl, hd, hb, hdp, kk⟩ := h
    have := deep_pos hb
    omega

theorem ok_law_deepS {fd : FuncData} {n k : Nat} (F : FnP K "_law_deep" "_law_deep" s_law_deep (ga K "_law_deep") fd) (T : Tx K w mg) (c_law_deep : Cl P w K mg base CX0 k (ga K "_law_deep") ["_law_tree_here"] (spLD K n)) : FnOk P w K mg base CX0 (k + 1) (ga K "_law_deep") fd ["_law_tree_here"] (spLD K (n + 1)) := by
  obtain ⟨fd_law_deep, G_law_deep, b_law_deep, kp_law_deep⟩ := c_law_deep
  refine FunD.ok F sc_law_deep (fun vs H Q E h => ?_) (fun cdv A outer s H vs Q E hr h => ?_)
  · obtain ⟨v, d, rfl, _⟩ := h
    rfl
  · obtain ⟨v, d, rfl, hd, hb, hdp, kk⟩ := h
    have n_max := T.fr "max" (by decide +kernel)
    have g_law_deep := T.gl "_law_deep" (by decide +kernel)
    refine ⟨_, PSs.nox (pss_one (ps_ret (pe_op op_add pe_int (pe_callB (cr_max rfl) (by rfl) n_max (by decide +kernel) (pa_cons (pe_op op_cat (pe_lc (own := [("_law_child", 1)]) (g := gName 1) (by rfl) sc_law_deep.nd (pi_tup (pe_ix ix_tup (pv 0) pe_int (fun _ _ => rfl))) (blkOk_by (own := [("_law_child", 1)]) (N := ["_law_tree_here", "_law_child"]) (sc := defScope s_law_deep) (by decide +kernel)) (fun _ _ _ _ _ => (pg_name (i := 1) sc_law_deep.nd rfl (Or.inl rfl))) (fun _ _ _ _ _ => (pts_one (pt_cmpR op_notN (pv 1) pe_non (nomark _)))) (fun _ _ _ _ _ => (pe_call G_law_deep (hr.mono (by omega)) (by rfl) g_law_deep kp_law_deep b_law_deep .nil pass0 (pa_cons (pv 1) pa_nil)))) (pe_lst (pa_cons pe_int pa_nil))) pa_nil))))), ?_⟩
    obtain ⟨bs, ks, rfl, lb, h01, lk, hbk⟩ := hb.un
    obtain ⟨t, tb, tk, ws, rfl, ht, htb, htk, hws⟩ := dp_nd hd
    rw [deep_nd] at hdp
    have lw := dpAll_len hws
    refine ⟨.ref t, rfl, t, _, 1, .ref tk, rfl, rfl, ht, atI_nat (j := 1) rfl, tk, rfl, ⟨_, htk⟩, fun D hD => ?_⟩
    refine lc_tup (xs := ws) (fun i H' => Ex H H' ∧ H' D = some (.lst (((((ks.take i).filter fun k => !isN k).map deep).map fun n : Nat => (n : Int)).map V.int))) ⟨Ex.new hD, upd_same⟩ (fun i H' _ hI => ex_t hI.1 htk) (fun i x H' hx hI => ?_) (fun H' hI => ?_)
    · obtain ⟨k1, k2⟩ := hI
      obtain ⟨d, hd1, hxd⟩ := dpAll_at hws hx
      have hi := (List.getElem?_eq_some_iff.mp hd1).1
      have cas := hbk.at d (List.mem_of_getElem? hd1)
      have en := dpAll_none hxd 60 600 cas
      refine ⟨rfl, go_test (b := !decide (x = .non)) (et_test (ev_op (ev_var rfl) ev_c rv_notNo)) fun H9 e9 => ?_⟩
      rw [filt_more _ hd1, en]
      have lf : ((ks.take i).filter fun k => !isN k).length ≤ i := Nat.le_trans (List.length_filter_le ..) (by rw [List.length_take]; omega)
      refine ite2 (fun hq => ?_) (fun hq => ?_)
      · have hbd : Bd 60 600 d := by
          rcases cas with rfl | h
          · cases hq
          · exact h
        have dl := deepL_at (List.mem_of_getElem? hd1)
        refine ⟨x, rfl, x, d, rfl, dpM (k1.trans e9) _ _ hxd, hbd, by omega, fun H10 e10 => ⟨_, e10 _ _ (e9 _ _ k2), ?_, ((k1.trans e9).trans e10).mut hD, ?_⟩⟩
        · rw [List.length_map, List.length_map, List.length_map]
          exact small1000 (by omega)
        · rw [upd_same, if_pos hq, List.map_append, List.map_append, List.map_append]
          rfl
      · refine ⟨k1.trans e9, ?_⟩
        rw [if_neg hq, List.append_nil]
        exact e9 _ _ k2
    obtain ⟨k1, k2⟩ := hI
    rw [take_all (show ks.length ≤ ws.length by omega)] at k2
    have lf : (ks.filter fun k => !isN k).length ≤ ks.length := List.length_filter_le ..
    refine ⟨(show 1 ≤ sizeLine by decide), fun z hz => ?_⟩
    have e2 := Ex.new (o := .lst [.int 0]) hz
    refine ⟨D, z, _, _, rfl, rfl, e2 _ _ k2, upd_same, fits (by rw [List.length_map, List.length_map, List.length_map]; show _ + 1 ≤ 1000; omega), fun r hr => ?_⟩
    refine ⟨r, (((ks.filter fun k => !isN k).map deep).map fun n : Nat => (n : Int)) ++ [0], rfl, sq_of (by rw [upd_same, List.map_append]; rfl), by rw [List.length_append]; simp, fun m hm hmax => ⟨1, m, rfl, rfl, ?_⟩⟩
    have em : m = (deepL ks : Nat) := by
      have up : m ≤ (deepL ks : Nat) := by
        rcases List.mem_append.mp hm with h | h
        · obtain ⟨j, hj, rfl⟩ := List.mem_map.mp h
          obtain ⟨k, hk, rfl⟩ := List.mem_map.mp hj
          have := deepL_at (List.mem_filter.mp hk).1
          omega
        · rw [List.mem_singleton.mp h]
          omega
      have low : ((deepL ks : Nat) : Int) ≤ m := by
        rcases deepL_mem ks with e | ⟨k, hk, e⟩
        · rw [e]
          exact hmax 0 (List.mem_append_right _ (List.mem_singleton.mpr rfl))
        · cases hn : isN k with
          | true =>
            have e0 : k = .none := by
              cases k <;> first | rfl | cases hn
            rw [e0, deep_non] at e
            rw [← e]
            exact hmax 0 (List.mem_append_right _ (List.mem_singleton.mpr rfl))
          | false =>
            rw [← e]
            exact hmax _ (List.mem_append_left _ (List.mem_map.mpr ⟨deep k, List.mem_map.mpr ⟨k, List.mem_filter.mpr ⟨hk, by rw [hn]; rfl⟩, rfl⟩, rfl⟩))
      omega
    have k := kk _ ((k1.trans e2).trans (Ex.new (o := .lst (((((ks.filter fun k => !isN k).map deep).map fun n : Nat => (n : Int)).map V.int) ++ [.int 0])) hr))
    rw [deep_nd] at k
    dsimp only
    rw [em, show (1 : Int) + ((deepL ks : Nat) : Int) = ((1 + deepL ks : Nat) : Int) by omega]
    exact k

end
end K10
set_option Elab.async false
set_option linter.all false
set_option maxRecDepth 100000
set_option maxHeartbeats 8000000
namespace K10
open PySem PySem.Spec PyProof.Rows L2 He XH XV XR PEN TR XQ PZ Evl


theorem eqv_tup0 (ks : List PyData) : PyData.eqv (.tuple ks) (.tuple []) = ks.isEmpty := by
  cases ks <;> rfl
theorem rv_adds {a b : Str} {H : Hp} (h : a.length + b.length ≤ sizeLine) : RV (fun x y H Q => ∃ a b, x = .str a ∧ y = .str b ∧ a.length + b.length ≤ sizeLine ∧ Q (.str (a ++ b)) H) (.str a) (.str b) H (.str (a ++ b)) := fun H1 _ Q q => ⟨a, b, rfl, rfl, h, q H1 (Ex.refl _)⟩

section
variable {P : Program} {w : World} {K : PySem.W.Frag} {mg : Str → Option Value} {base : Heap}

theorem ok_law_spelled0 {fd : FuncData} (F : FnP K "_law_spelled" "_law_spelled" s_law_spelled (ga K "_law_spelled") fd) (T : Tx K w mg) : FnOk P w K mg base CX0 (0 + 1) (ga K "_law_spelled") fd ["_law_tree_here"] (spLS K 0) := by
  refine FunD.ok F sc_law_spelled (fun vs H Q E h => ?_) (fun cdv A outer s H vs Q E hr h => ?_)
  · obtain ⟨v, d, rfl, _⟩ := h
    rfl
  · exfalso
    obtain ⟨v, d, rfl, hd, hb, hdp, kk⟩ := h
    have := deep_pos hb
    omega

theorem ok_law_spelledS {fd : FuncData} {n k : Nat} (F : FnP K "_law_spelled" "_law_spelled" s_law_spelled (ga K "_law_spelled") fd) (T : Tx K w mg) (c_law_spelled : Cl P w K mg base CX0 k (ga K "_law_spelled") ["_law_tree_here"] (spLS K n)) : FnOk P w K mg base CX0 (k + 1) (ga K "_law_spelled") fd ["_law_tree_here"] (spLS K (n + 1)) := by
  obtain ⟨fd_law_spelled, G_law_spelled, b_law_spelled, kp_law_spelled⟩ := c_law_spelled
  refine FunD.ok F sc_law_spelled (fun vs H Q E h => ?_) (fun cdv A outer s H vs Q E hr h => ?_)
  · obtain ⟨v, d, rfl, _⟩ := h
    rfl
  · obtain ⟨v, d, rfl, hd, hb, hdp, kk⟩ := h
    have n_str := T.fr "str" (by decide +kernel)
    have g_law_spelled := T.gl "_law_spelled" (by decide +kernel)
    refine ⟨_, PSs.nox (pss_cons (ps_set (i := 1) sc_law_spelled.nd rfl (Or.inl rfl) (pe_orT (pe_join pe_str (pe_lc (own := [("_law_bit", 3)]) (g := gName 3) (by rfl) sc_law_spelled.nd (pi_tup (pe_ix ix_tup (pv 0) pe_int (fun _ _ => rfl))) (blkOk_by (own := [("_law_bit", 3)]) (N := ["_law_tree_here", "_law_text", "_law_inner", "_law_bit", "_law_child"]) (sc := defScope s_law_spelled) (by decide +kernel)) (fun _ _ _ _ _ => (pg_name (i := 3) sc_law_spelled.nd rfl (Or.inl rfl))) (fun _ _ _ _ _ => pts_nil) (fun _ _ _ _ _ => (pe_callTy call_str_int (by rfl) n_str (by decide +kernel) (pa_cons (pv 3) pa_nil))))) (pe_one pe_str)))
      (pss_cons (ps_set (i := 2) sc_law_spelled.nd rfl (Or.inl rfl) (pe_join pe_str (pe_lc (own := [("_law_child", 4)]) (g := gName 4) (by rfl) sc_law_spelled.nd (pi_tup (pe_ix ix_tup (pv 0) pe_int (fun _ _ => rfl))) (blkOk_by (own := [("_law_child", 4)]) (N := ["_law_tree_here", "_law_text", "_law_inner", "_law_bit", "_law_child"]) (sc := defScope s_law_spelled) (by decide +kernel)) (fun _ _ _ _ _ => (pg_name (i := 4) sc_law_spelled.nd rfl (Or.inl rfl))) (fun _ _ _ _ _ => pts_nil) (fun _ _ _ _ _ => (pe_ifExp (pt_cmpR op_isN (pv 4) pe_non (nomark _)) pe_str (pe_call G_law_spelled (hr.mono (by omega)) (by rfl) g_law_spelled kp_law_spelled b_law_spelled .nil pass0 (pa_cons (pv 4) pa_nil)))))))
      (pss_one (ps_ret (pe_ifExp (pt_cmpR (op_neD hr.units) (pe_ix ix_tup (pv 0) pe_int (fun _ _ => rfl)) (pe_tup pa_nil) (nomark _)) (pe_op op_add_str (pe_op op_add_str (pe_op op_add_str (pv 1) pe_str) (pv 2)) pe_str) (pv 1)))))), ?_⟩
    obtain ⟨bs, ks, rfl, lb, h01, lk, hbk⟩ := hb.un
    obtain ⟨t, tb, tk, ws, rfl, ht, htb, htk, hws⟩ := dp_nd hd
    rw [deep_nd, size_nd] at hdp
    have lw := dpAll_len hws
    obtain ⟨p1, p2, p3, p4⟩ := s1
    have ld := digS_len h01
    refine q_asg (v := .str (digS bs)) (fun H1 e Q1 q1 => ?_) fun H1 e1 => ?_
    · refine ⟨⟨_, rfl⟩, .ref t, rfl, t, _, 0, .ref tb, rfl, rfl, ex_t e ht, atI_nat (j := 0) rfl, tb, rfl, ⟨_, ex_t e htb⟩, fun D hD => ?_⟩
      refine lc_tup (xs := bs.map V.int) (fun i H' => Ex H1 H' ∧ H' D = some (.lst (((bs.take i).map istr).map V.str))) ⟨Ex.new hD, upd_same⟩ (fun i H' _ hI => ex_t (e.trans hI.1) htb) (fun i x H' hx hI => ?_) (fun H' hI => ?_)
      · obtain ⟨k1, k2⟩ := hI
        rw [List.getElem?_map] at hx
        cases q2 : bs[i]? with
        | none =>
          rw [q2] at hx
          cases hx
        | some b =>
          rw [q2] at hx
          cases hx
          have hi := (List.getElem?_eq_some_iff.mp q2).1
          have hz : b.natAbs.log2 < 1920 := by
            rcases h01 b (List.mem_of_getElem? q2) with rfl | rfl <;> decide
          refine ⟨rfl, yes_go ⟨.int b, rfl, b, rfl, hz, _, k2, ?_, k1.mut hD, ?_⟩⟩
          · rw [List.length_map, List.length_map, List.length_take]
            exact small1000 (by omega)
          · rw [upd_same, take_more q2, List.map_append, List.map_append]
            rfl
      · obtain ⟨k1, k2⟩ := hI
        rw [List.length_map, List.take_length] at k2
        have bsum := bits_sum h01
        have z0 : ("" : Str).length = 0 := by decide +kernel
        have jl := join_len ("" : Str) (bs.map istr)
        rw [bsum, z0] at jl
        refine ⟨("" : Str), D, bs.map istr, rfl, rfl, .inl (sq_of k2), by rw [bsum, z0]; omega, ((Txt.join ("" : Str) (bs.map istr)).length : Int) != 0, ⟨fits (by omega), rfl⟩, ?_⟩
        have go : ∀ z, z = digS bs → Q1 (.str z) H' := fun z ez => by
          rw [ez]
          exact q1 H' k1
        refine ite2 (fun hk => go _ ?_) (fun hk => go _ ?_)
        · unfold digS
          rw [if_neg (by simpa using hk)]
        · unfold digS
          rw [if_pos (by simpa using hk)]
    try dsimp only [gName, List.set]
    have lsp := spellL_len (Nat.le_refl 60) (Nat.le_refl 600) hbk
    have lsl : (spellL ks).length = ks.length := by rw [spellL_map, List.length_map]
    have jl := join_len ("," : Str) (spellL ks)
    rw [p3, lsl] at jl
    refine q_asg (v := .str (Txt.join ("," : Str) (spellL ks))) (fun H3 e Q3 q3 => ?_) fun H3 e3 => ?_
    · have e13 := e1.trans e
      refine ⟨⟨_, rfl⟩, .ref t, rfl, t, _, 1, .ref tk, rfl, rfl, ex_t e13 ht, atI_nat (j := 1) rfl, tk, rfl, ⟨_, ex_t e13 htk⟩, fun D hD => ?_⟩
      refine lc_tup (xs := ws) (fun i H' => Ex H3 H' ∧ H' D = some (.lst (((spellL ks).take i).map V.str))) ⟨Ex.new hD, upd_same⟩ (fun i H' _ hI => ex_t (e13.trans hI.1) htk) (fun i x H' hx hI => ?_) (fun H' hI => ?_)
      · obtain ⟨k1, k2⟩ := hI
        obtain ⟨d, hd1, hxd⟩ := dpAll_at hws hx
        have hi := (List.getElem?_eq_some_iff.mp hd1).1
        have cas := hbk.at d (List.mem_of_getElem? hd1)
        refine ⟨rfl, yes_go ?_⟩
        have fin : ∀ H4, Ex H' H4 → ∃ acc, H4 D = some (.lst acc) ∧ acc.length < sizeLine ∧ Ex H3 (upd H4 D (.lst (acc ++ [V.str (spell d)]))) ∧ upd H4 D (.lst (acc ++ [V.str (spell d)])) D = some (.lst (((spellL ks).take (i + 1)).map V.str)) := fun H4 e4 => by
          refine ⟨_, e4 _ _ k2, ?_, (k1.trans e4).mut hD, ?_⟩
          · rw [List.length_map, List.length_take]
            exact small1000 (by omega)
          · rw [upd_same, take_more (spellL_at hd1), List.map_append]
            rfl
        rcases dp_non hxd cas with ⟨rfl, rfl⟩ | ⟨t', rfl, hbd⟩
        · exact (ev_is (ev_if (b := true) (et_test (ev_op (ev_var rfl) ev_c rv_isNo)) (fun _ => ev_c) (fun z => nomatch z)) (by rw [spell_non])) H' (Ex.refl _) _ fun H4 e4 => fin H4 e4
        · refine ⟨.ref t', rfl, rfl, _, rfl, iteF ?_⟩
          have dl := deepL_at (List.mem_of_getElem? hd1)
          have sl := sizeL_at (List.mem_of_getElem? hd1)
          exact ⟨.ref t', rfl, .ref t', d, rfl, dpM (e13.trans k1) _ _ hxd, hbd, ⟨by omega, by omega, by omega⟩, fun H4 e4 => fin H4 e4⟩
      · obtain ⟨k1, k2⟩ := hI
        rw [take_all (show (spellL ks).length ≤ ws.length by omega)] at k2
        exact ⟨("," : Str), D, spellL ks, rfl, rfl, .inl (sq_of k2), by rw [p3, lsl]; omega, q3 H' k1⟩
    try dsimp only [gName, List.set]
    have e03 := e1.trans e3
    have l1 := app_len (digS bs) ("(" : Str)
    have l2 := app_len (digS bs ++ ("(" : Str)) (Txt.join ("," : Str) (spellL ks))
    refine s_ret (v := .str (spell (nd bs ks))) (ev_if (b := !PyData.eqv (.tuple ks) (.tuple [])) (et_test (ev_opU (ev_ixT (i := ((1 : Nat) : Int)) (ev_var rfl) ev_c (ex_t e03 ht) (atI_nat (j := 1) rfl)) (eu_tup ea_nil (by decide)) fun p H4 hp e4 => rv_neD (.tup (ex_t (e03.trans e4) htk) (dpMs (e03.trans e4) _ _ hws)) (.tup (st_of hp) .nil) (shp_kids hbk (by omega)) (by rfl))) (fun hb => ?_) (fun hb => ?_)) fun H4 e4 => kk H4 (e03.trans e4)
    · rw [eqv_tup0] at hb
      have ne : ks ≠ [] := fun e => by rw [e] at hb; cases hb
      refine ev_is (ev_op (ev_op (ev_op (ev_var rfl) ev_c (rv_adds (fits (by omega)))) (ev_var rfl) (rv_adds (szL _ (by omega)))) ev_c (rv_adds (szL _ (by omega)))) ?_
      rw [spell_nd, if_neg ne]
    · rw [eqv_tup0] at hb
      have e0 : ks = [] := by
        cases ks with
        | nil => rfl
        | cons a r => cases hb
      refine ev_is (ev_var rfl) ?_
      rw [spell_nd, if_pos e0]

theorem ok_law_same0 {fd : FuncData} (F : FnP K "_law_same" "_law_same" s_law_same (ga K "_law_same") fd) (T : Tx K w mg) : FnOk P w K mg base CX0 (0 + 1) (ga K "_law_same") fd ["_law_puzzle_here", "_law_tree_here"] (spSame K 0) := by
  refine FunD.ok F sc_law_same (fun vs H Q E h => ?_) (fun cdv A outer s H vs Q E hr h => ?_)
  · obtain ⟨a, v, d, rfl, _⟩ := h
    rfl
  · exfalso
    obtain ⟨a, v, d, rfl, hp, hd, hdp, kk⟩ := h
    have := deep_pos hp.bd
    omega

theorem ok_law_sameS {fd : FuncData} {n k : Nat} (F : FnP K "_law_same" "_law_same" s_law_same (ga K "_law_same") fd) (T : Tx K w mg) (c_law_same : Cl P w K mg base CX0 k (ga K "_law_same") ["_law_puzzle_here", "_law_tree_here"] (spSame K n)) (c_law_spelled : Cl P w K mg base CX0 k (ga K "_law_spelled") ["_law_tree_here"] (spLS K (n + 1))) (c_law_size : Cl P w K mg base CX0 k (ga K "_law_size") ["_law_tree_here"] (spSize K (n + 1))) (c_law_deep : Cl P w K mg base CX0 k (ga K "_law_deep") ["_law_tree_here"] (spLD K (n + 1))) : FnOk P w K mg base CX0 (k + 1) (ga K "_law_same") fd ["_law_puzzle_here", "_law_tree_here"] (spSame K (n + 1)) := by
  obtain ⟨fd_law_same, G_law_same, b_law_same, kp_law_same⟩ := c_law_same
  obtain ⟨fd_law_spelled, G_law_spelled, b_law_spelled, kp_law_spelled⟩ := c_law_spelled
  obtain ⟨fd_law_size, G_law_size, b_law_size, kp_law_size⟩ := c_law_size
  obtain ⟨fd_law_deep, G_law_deep, b_law_deep, kp_law_deep⟩ := c_law_deep
  refine FunD.ok F sc_law_same (fun vs H Q E h => ?_) (fun cdv A outer s H vs Q E hr h => ?_)
  · obtain ⟨a, v, d, rfl, _⟩ := h
    rfl
  · obtain ⟨a, v, d, rfl, hp, hd, hdp, kk⟩ := h
    have n_isinstance := T.fr "isinstance" (by decide +kernel)
    have g_Puzzle := T.gl "Puzzle" (by decide +kernel)
    have n_tuple := T.fr "tuple" (by decide +kernel)
    have n_len := T.fr "len" (by decide +kernel)
    have g_law_spelled := T.gl "_law_spelled" (by decide +kernel)
    have g_law_size := T.gl "_law_size" (by decide +kernel)
    have g_law_deep := T.gl "_law_deep" (by decide +kernel)
    have n_range := T.fr "range" (by decide +kernel)
    have g_law_same := T.gl "_law_same" (by decide +kernel)
    refine ⟨_, PSs.nox (pss_cons (ps_if (PW.pt (pw_or (pt_not (pt_val (pe_callB call_isi (by rfl) n_isinstance (by decide +kernel) (pa_cons (pv 0) (pa_cons (pe_glob (v := .ref _) (by rfl) g_Puzzle rfl) pa_nil))))) (pw_or (pt_cmpR (op_neD hr.units) (pe_fldc (K := K) rfl (pv 0) rfl) (pe_ix ix_tup (pv 1) pe_int (fun _ _ => rfl)) (nomark _)) (pw_or1 (pt_not (pt_val (pe_callB call_isi (by rfl) n_isinstance (by decide +kernel) (pa_cons (pe_fldc (K := K) rfl (pv 0) rfl) (pa_cons (pe_bltn (v := .ty "tuple") (by rfl) n_tuple (by decide +kernel) rfl) pa_nil)))))))))
      (pss_one (ps_ret pe_bl))
      pss_nil)
      (pss_cons (ps_if (PW.pt (pw_or (pt_cmpR op_ne (pe_callB call_len_seq (by rfl) n_len (by decide +kernel) (pa_cons (pe_fldc (K := K) rfl (pv 0) rfl) pa_nil)) (pe_callB call_len_seq (by rfl) n_len (by decide +kernel) (pa_cons (pe_ix ix_tup (pv 1) pe_int (fun _ _ => rfl)) pa_nil)) (nomark _)) (pw_or1 (pt_cmpR op_ne (pe_fldc (K := K) rfl (pv 0) rfl) (pe_call G_law_spelled (hr.mono (by omega)) (by rfl) g_law_spelled kp_law_spelled b_law_spelled .nil pass0 (pa_cons (pv 1) pa_nil)) (nomark _)))))
      (pss_one (ps_ret pe_bl))
      pss_nil)
      (pss_cons (ps_if (PW.pt (pw_or (pt_cmpR op_ne (pe_fldc (K := K) rfl (pv 0) rfl) (pe_call G_law_size (hr.mono (by omega)) (by rfl) g_law_size kp_law_size b_law_size .nil pass0 (pa_cons (pv 1) pa_nil)) (nomark _)) (pw_or1 (pt_cmpR op_ne (pe_fldc (K := K) rfl (pv 0) rfl) (pe_call G_law_deep (hr.mono (by omega)) (by rfl) g_law_deep kp_law_deep b_law_deep .nil pass0 (pa_cons (pv 1) pa_nil)) (nomark _)))))
      (pss_one (ps_ret pe_bl))
      pss_nil)
      (pss_cons (ps_for PassesOwn.never rfl (pi_range1 (by rfl) n_range (pa_cons (pe_callB call_len_seq (by rfl) n_len (by decide +kernel) (pa_cons (pe_ix ix_tup (pv 1) pe_int (fun _ _ => rfl)) pa_nil)) pa_nil)) (pg_name (i := 2) sc_law_same.nd rfl (Or.inl rfl))
      (pss_cons (ps_set (i := 3) sc_law_same.nd rfl (Or.inl rfl) (pe_ix ix_tup (pe_fldc (K := K) rfl (pv 0) rfl) (pv 2) (fun _ _ => rfl)))
      (pss_cons (ps_if (PW.pt (pw_and (pt_cmpR op_isN (pe_ix ix_tup (pe_ix ix_tup (pv 1) pe_int (fun _ _ => rfl)) (pv 2) (fun _ _ => rfl)) pe_non (nomark _)) (pw_and1 (pt_cmpR op_notN (pv 3) pe_non (nomark _)))))
      (pss_one (ps_ret pe_bl))
      pss_nil)
      (pss_one (ps_if (PW.pt (pw_and (pt_cmpR op_notN (pe_ix ix_tup (pe_ix ix_tup (pv 1) pe_int (fun _ _ => rfl)) (pv 2) (fun _ _ => rfl)) pe_non (nomark _)) (pw_and1 (pt_not (pt_val (pe_call G_law_same (hr.mono (by omega)) (by rfl) g_law_same kp_law_same b_law_same .nil pass0 (pa_cons (pv 3) (pa_cons (pe_ix ix_tup (pe_ix ix_tup (pv 1) pe_int (fun _ _ => rfl)) (pv 2) (fun _ _ => rfl)) pa_nil))))))))
      (pss_one (ps_ret pe_bl))
      pss_nil)))))
      (pss_one (ps_ret pe_bl)))))), ?_⟩
    have hp0 := hp
    cases hp0 with
    | @mk _ dx ba ca _ bs ks vs ed bd h hb hc hk =>
      subst ed
      obtain ⟨lb, h01, lk, hbk⟩ := bd.nd'
      obtain ⟨t, tb, tk, ws, rfl, ht, htb, htk, hws⟩ := dp_nd hd
      have lw := dpAll_len hws
      have lv := hk.len
      have hdp0 := hdp
      rw [deep_nd, size_nd] at hdp
      have fB : ∀ {H1 : Hp} {D : Addr} , True := fun {_ _} => True.intro
      refine q_when (b := false) (et_is (et_or (a := false) (b := false) (et_is (et_not (a := true) (et_B (ev_cb (ea_cons (ev_var rfl) (ea_cons ev_c ea_nil)) (isi_of (.own _) (fun H5 e5 => tyx_mono (T.tz hp) e5) T.ki)))) rfl) fun _ => et_or (a := false) (b := false) (et_is (et_test (ev_op (ev_fld (ev_var rfl) h T.cp (T.np "bits" (by decide +kernel)) rfl) (ev_ixT (i := ((0 : Nat) : Int)) (ev_var rfl) ev_c ht (atI_nat (j := 0) rfl)) (rv_neD (.tup hb (dp_nums bs)) (.tup htb (dp_nums bs)) (shp_nums bs) (shp_nums bs)))) (by rw [eqv_same (shp_nums bs)]; rfl)) fun _ => et_is (et_not (a := true) (et_B (ev_cb (ea_cons (ev_fld (ev_var rfl) h T.cp (T.np "children" (by decide +kernel)) rfl) (ea_cons ev_c ea_nil)) (isi_of (.ty _) (fun H5 e5 => tyx_t (ex_t e5 hc)) (kit_ty (by decide +kernel)))))) rfl) rfl) (fun z => nomatch z) (fun _ H1 e1 => ?_)
      have lenP : ∀ {te : TE} {σ : L2.St} {H2 : Hp} {q : Addr} {xs : List V}, Ev te σ H2 (.ref q) → SqT K H2 q xs → Ev (tCB (rLenS K) (tCons te tNil)) σ H2 (.int (xs.length : Nat)) := fun h1 h2 => ev_cb (ea_cons h1 ea_nil) fun H3 e3 Q3 q3 => ⟨_, _, rfl, .inr (ex_t e3 h2), q3 H3 (Ex.refl _)⟩
      refine q_when (b := false) (et_is (et_or (a := false) (b := false) (et_is (et_test (ev_op (lenP (ev_fld (ev_var rfl) (e1 _ _ h) T.cp (T.np "children" (by decide +kernel)) rfl) (ex_t e1 hc)) (lenP (ev_ixT (i := ((1 : Nat) : Int)) (ev_var rfl) ev_c (ex_t e1 ht) (atI_nat (j := 1) rfl)) (ex_t e1 htk)) (rv_ne rfl))) (by rw [lv, lw]; simp)) fun _ => et_is (et_test (ev_op (ev_fld (ev_var rfl) (e1 _ _ h) T.cp (T.np "spelling" (by decide +kernel)) rfl) (ev_call (v := .str (spell (nd bs ks))) (ea_cons (ev_var rfl) ea_nil) fun H3 e3 Q3 q3 => ⟨.ref t, nd bs ks, rfl, dpM (e1.trans e3) _ _ hd, bd, ⟨hdp0.1, hdp0.2.1, hdp0.2.2⟩, fun H4 e4 => q3 H4 e4⟩) (rv_ne rfl))) (by simp)) rfl) (fun z => nomatch z) (fun _ H2 e2 => ?_)
      have e12 := e1.trans e2
      refine q_when (b := false) (et_is (et_or (a := false) (b := false) (et_is (et_test (ev_op (ev_fld (ev_var rfl) (e12 _ _ h) T.cp (T.np "size" (by decide +kernel)) rfl) (ev_call (v := .int (size (nd bs ks) : Nat)) (ea_cons (ev_var rfl) ea_nil) fun H3 e3 Q3 q3 => ⟨.ref t, nd bs ks, 60, 600, rfl, dpM (e12.trans e3) _ _ hd, bd, by decide, hdp0.1, fun H4 e4 => q3 H4 e4⟩) (rv_ne rfl))) (by simp)) fun _ => et_is (et_test (ev_op (ev_fld (ev_var rfl) (e12 _ _ h) T.cp (T.np "depth" (by decide +kernel)) rfl) (ev_call (v := .int (deep (nd bs ks) : Nat)) (ea_cons (ev_var rfl) ea_nil) fun H3 e3 Q3 q3 => ⟨.ref t, nd bs ks, rfl, dpM (e12.trans e3) _ _ hd, bd, hdp0.1, fun H4 e4 => q3 H4 e4⟩) (rv_ne rfl))) (by simp)) rfl) (fun z => nomatch z) (fun _ H3 e3 => ?_)
      have e13 := e12.trans e3
      refine q_forR1 (n := (ws.length : Nat)) (ea_cons (lenP (ev_ixT (i := ((1 : Nat) : Int)) (ev_var rfl) ev_c (ex_t e13 ht) (atI_nat (j := 1) rfl)) (ex_t e13 htk)) ea_nil) ⟨by omega, by omega⟩ (fun i σ' H' => ∃ v2 v3, σ' = [some (.ref a), some (.ref t), v2, v3] ∧ Ex H H') (fun H4 e4 => ⟨_, _, rfl, e13.trans e4⟩) (fun i σ' H4 hi hI => ?_) (fun σ' H4 hI => ?_)
      · obtain ⟨v2, v3, rfl, e4⟩ := hI
        have hi2 : i < ws.length := by omega
        have hx : ws[i]? = some ws[i] := List.getElem?_eq_getElem hi2
        generalize ws[i] = x at hx
        obtain ⟨d, hd1, hxd⟩ := dpAll_at hws hx
        have hi3 : i < vs.length := by omega
        have hy : vs[i]? = some vs[i] := List.getElem?_eq_getElem hi3
        generalize vs[i] = y at hy
        obtain ⟨d', hd2, casy⟩ := hk.at hy
        rw [hd1] at hd2
        cases hd2
        have cas := hbk.at d (List.mem_of_getElem? hd1)
        have en := dpAll_none hxd 60 600 cas
        have yn : decide (y = .non) = isN d := by
          rcases casy with ⟨rfl, rfl⟩ | ⟨c, rfl, hpc⟩
          · rfl
          · rw [hpc.bd.notN]
            exact decide_eq_false fun e => nomatch e
        have ixT : ∀ {H5 : Hp} {σ : L2.St}, Ex H H5 → σ[1]? = some (some (.ref t)) → σ[2]? = some (some (.int (i : Nat))) → Ev (tOp (rIxT K) (tOp (rIxT K) (tVar 1) (tC (.int 1))) (tVar 2)) σ H5 x := fun e5 s1 s2 => ev_ixT (ev_ixT (i := ((1 : Nat) : Int)) (ev_var s1) ev_c (ex_t e5 ht) (atI_nat (j := 1) rfl)) (ev_var s2) (ex_t e5 htk) (atI_nat hx)
        try dsimp only [gName, List.set]
        refine q_asg (v := y) (ev_ixT (ev_fld (ev_var rfl) (e4 _ _ h) T.cp (T.np "children" (by decide +kernel)) rfl) (ev_var rfl) (ex_t e4 hc) (atI_nat hy)) fun H5 e5 => ?_
        have e45 := e4.trans e5
        try dsimp only [gName, List.set]
        refine q_when (b := false) (et_is (et_and (a := isN d) (b := !isN d) (et_is (et_test (ev_op (ixT e45 rfl rfl) ev_c rv_isNo)) en) fun _ => et_is (et_test (ev_op (ev_var rfl) ev_c rv_notNo)) (by rw [yn])) (by cases isN d <;> rfl)) (fun z => nomatch z) (fun _ H6 e6 => ?_)
        have e46 := e45.trans e6
        refine s_when (b := false) (et_is (et_and (a := !isN d) (b := false) (et_is (et_test (ev_op (ixT e46 rfl rfl) ev_c rv_notNo)) (by rw [en])) fun hn => ?_) (by cases isN d <;> rfl)) (fun z => nomatch z) (fun _ H7 e7 => ⟨_, _, rfl, e46.trans e7⟩)
        rcases casy with ⟨rfl, rfl⟩ | ⟨c, rfl, hpc⟩
        · cases hn
        · have dl := deepL_at (List.mem_of_getElem? hd1)
          have sl := sizeL_at (List.mem_of_getElem? hd1)
          exact et_is (et_not (a := true) (et_B (ev_call (v := .bl true) (ea_cons (ev_var rfl) (ea_cons (ixT e46 rfl rfl) ea_nil)) fun H8 e8 Q8 q8 => ⟨c, x, d, rfl, hpc.kp (Kp.of (e46.trans e8)), dpM (e46.trans e8) _ _ hxd, ⟨by omega, by omega, by omega⟩, fun H9 e9 => q8 H9 e9⟩))) rfl
      · obtain ⟨v2, v3, rfl, e4⟩ := hI
        exact kk H4 e4

end
end K10
set_option Elab.async false
set_option linter.all false
set_option maxRecDepth 100000
set_option maxHeartbeats 8000000
namespace K10
open PySem PySem.Spec PyProof.Rows L2 He XH XV XR PEN TR XQ PZ Evl


theorem rep_flat {α : Type} (x : α) (n : Nat) : (List.replicate n [x]).flatten = List.replicate n x := by
  induction n with
  | zero => rfl
  | succ n ih => rw [List.replicate_succ, List.flatten_cons, ih, List.replicate_succ]; rfl
theorem rv_own {K : PySem.W.Frag} {w : World} {mg : Str → Option Value} (T : Tx K w mg) {H : Hp} {a b : Addr} {d d' : PyData} (ha : Pz K H a d) (hb : Pz K H b d') : RV (rOwn K (ga K "Puzzle") (spEq K)) (.ref a) (.ref b) H (.bl (decide (V.str (spell d) = V.str (spell d')))) := fun H1 e Q q => by
  have ha1 := ha.kp (Kp.of e)
  have hb1 := hb.kp (Kp.of e)
  have ha2 := ha1
  cases ha2 with
  | mk e' b' h' hb' hc' hk' => exact ⟨a, _, _, .ref (ga K "Puzzle"), rfl, h', T.tz hb1, self_first, a, .ref b, d, rfl, ha1, .inl ⟨b, d', rfl, hb1, fun H2 e2 => ⟨⟨_, rfl⟩, q H2 e2⟩⟩⟩
theorem rv_ownO {K : PySem.W.Frag} {w : World} {mg : Str → Option Value} (T : Tx K w mg) {H : Hp} {a : Addr} {d : PyData} {y : V} {t : String} (ha : Pz K H a d) (hy : ∀ H1, Ex H H1 → TyX K H1 y (.type t)) (ht : t ∈ ["NoneType", "tuple", "str", "int", "list"]) : RV (rOwn K (ga K "Puzzle") (spEq K)) (.ref a) y H (.bl false) := fun H1 e Q q => by
  have ha1 := ha.kp (Kp.of e)
  have ha2 := ha1
  cases ha2 with
  | mk e' b' h' hb' hc' hk' => exact ⟨a, _, _, .type t, rfl, h', hy H1 e, T.nf t ht, a, y, d, rfl, ha1, .inr ⟨t, hy H1 e, T.kn t ht, fun H2 e2 => ⟨⟨_, rfl⟩, q H2 e2⟩⟩⟩
/-- Puzzle(..) of these -/
theorem make_go {K : PySem.W.Frag} {H : Hp} {ba ca : Addr} {bs : List Int} {ws : List V} {ks : List PyData} {R : Addr → Hp → Prop} (hb : SqL K H ba (bs.map V.int) ∨ SqT K H ba (bs.map V.int)) (h01 : ∀ b ∈ bs, b = 0 ∨ b = 1) (lb : bs.length ≤ 60) (hc : SqL K H ca ws ∨ SqT K H ca ws) (hk : PzL K H ws ks) (lk : ks.length ≤ 600) (hz : sizeL ks < 500 ∧ deepL ks < 30)
    (k : ∀ a H', H a = none → Ex H H' → Pz K H' a (nd (short isZ bs) (short isN ks)) → R a H') : ∀ x dx, H x = none → H dx = none → dx ≠ x → spInit K [.ref x, .ref ba, .ref ca] (upd (upd H dx (.own x)) x (.ins (ga K "Puzzle") dx [])) (fun v H2 => v = .non ∧ R x H2) E0 := fun x dx hx hdx hne => by
  have hx2 : upd H dx (.own x) x = none := (upd_ne (Ne.symm hne)).trans hx
  have e3 : Ex H (upd (upd H dx (.own x)) x (.ins (ga K "Puzzle") dx [])) := (Ex.new hdx).trans (Ex.new hx2)
  exact ⟨x, ba, ca, dx, bs, ws, ks, rfl, upd_same, hb.imp (ex_l e3) (ex_t e3), h01, lb, hc.imp (ex_l e3) (ex_t e3), hk.kp (Kp.of e3), lk, hz, fun H5 x5 p5 => ⟨rfl, k x H5 hx (Xa.new e3 hx x5) p5⟩⟩
theorem PzL.rep {K : PySem.W.Frag} {H : Hp} (n : Nat) : PzL K H (List.replicate n .non) (List.replicate n .none) := by
  induction n with
  | zero => exact .nil
  | succ n ih => exact .non ih
theorem sizeL_rep (n : Nat) : sizeL (List.replicate n PyData.none) = 0 := by
  induction n with
  | zero => simp [sizeL]
  | succ n ih => simp [List.replicate_succ, sizeL, ih, size_non]
theorem deepL_rep (n : Nat) : deepL (List.replicate n PyData.none) = 0 := by
  induction n with
  | zero => simp [deepL]
  | succ n ih => simp [List.replicate_succ, deepL, ih, deep_non]
/-- a puzzle made on the way -/
def EvP (K : PySem.W.Frag) (te : TE) (σ : L2.St) (H : Hp) (d : PyData) : Prop := ∀ H1, Ex H H1 → ∀ Q : VK, (∀ a H2, Ex H1 H2 → Pz K H2 a d → Q (.ref a) H2) → te σ H1 Q
section
variable {K : PySem.W.Frag} {w : World} {mg : Str → Option Value} {σ : L2.St} {H : Hp} {ta tb tl tm : TE} {d d' e : PyData}
theorem ev_ownPP (T : Tx K w mg) (h1 : EvP K ta σ H d) (h2 : EvP K tb σ H d') : Ev (tOp (rOwn K (ga K "Puzzle") (spEq K)) ta tb) σ H (.bl (decide (V.str (spell d) = V.str (spell d')))) := fun H1 a Q q =>
  h1 H1 a _ fun x H2 e2 p2 => h2 H2 (a.trans e2) _ fun y H3 e3 p3 => rv_own T (p2.kp (Kp.of e3)) p3 H3 (Ex.refl _) Q fun H4 e4 => q H4 ((e2.trans e3).trans e4)
theorem ev_callPD {sp : Sp} {r : V} (h1 : EvP K ta σ H d) (h2 : EvD K tb σ H e) (hs : ∀ a v H1, Ex H H1 → Pz K H1 a d → Dp K H1 v e → ∀ Q : VK, (∀ H2, Ex H1 H2 → Q r H2) → sp [.ref a, v] H1 Q E0) : Ev (tCall sp [] E0 (tCons ta (tCons tb tNil))) σ H r := fun H1 a Q q =>
  h1 H1 a _ fun x H2 e2 p2 => h2 H2 (a.trans e2) _ fun v H3 e3 d3 => hs x v H3 ((a.trans e2).trans e3) (p2.kp (Kp.of e3)) d3 Q fun H4 e4 => q H4 ((e2.trans e3).trans e4)
theorem evp_make {bs : List Int} {ws : List V} {ks : List PyData} (h1 : EvL tl σ H (bs.map V.int)) (h2 : EvL tm σ H ws) (h01 : ∀ b ∈ bs, b = 0 ∨ b = 1) (lb : bs.length ≤ 60) (hk : ∀ H1, Ex H H1 → PzL K H1 ws ks) (lk : ks.length ≤ 600) (hz : sizeL ks < 500 ∧ deepL ks < 30) : EvP K (tMake (ga K "Puzzle") (spInit K) [] E0 (tCons tl (tCons tm tNil))) σ H (nd (short isZ bs) (short isN ks)) := fun H1 a Q q =>
  h1 H1 a _ fun x H2 _ e2 g2 => h2 H2 (a.trans e2) _ fun y H3 _ e3 g3 => make_go (K := K) (.inl (sq_of (e3 _ _ g2))) h01 lb (.inl (sq_of g3)) (hk H3 ((a.trans e2).trans e3)) lk hz fun z H4 _ e4 p4 => q z H4 ((e2.trans e3).trans e4) p4
end
def spLaw (K : PySem.W.Frag) : Sp := fun vs H Q _ => ∃ (a : Addr) (ns : List Int), vs = [.ref a] ∧ SqL K H a (ns.map V.int) ∧ ns.length ≤ 63 ∧ ∀ H', Q (.bl true) H'


open XO
structure T08 (K : PySem.W.Frag) (w : World) (mg : Str → Option Value) : Prop extends Tx K w mg where
  tg : Bare K (ga K "TooGreat")
  ty : PySem.W.typeIn K (.ref (ga K "TooGreat")) = some (.type "type")
  bp : Bare K (ga K "BadPuzzle")
  by' : PySem.W.typeIn K (.ref (ga K "BadPuzzle")) = some (.type "type")
  m1 : PySem.W.exmOne K (.ref (ga K "BadPuzzle")) (.ref (ga K "BadPuzzle")) = some true
  m2 : PySem.W.exmOne K (.ref (ga K "TooGreat")) (.ref (ga K "BadPuzzle")) = some false
  m3 : PySem.W.exmOne K (.ref (ga K "TooGreat")) (.ref (ga K "TooGreat")) = some true
  i1 : PySem.W.kitOne K (.ref (ga K "BadPuzzle")) (.ref (ga K "TryError")) = some true
  i2 : PySem.W.kitOne K (.ref (ga K "BadPuzzle")) (.ref (ga K "TooGreat")) = some false
  i3 : PySem.W.kitOne K (.ref (ga K "TooGreat")) (.ref (ga K "TryError")) = some true
  i4 : PySem.W.kitOne K (.ref (ga K "TooGreat")) (.ref (ga K "BadPuzzle")) = some false
def kidB : V → Bool
  | .str _ => false
  | _ => true
def Kid (K : PySem.W.Frag) (H : Hp) (x : V) : Prop := x = .non ∨ (∃ c d, x = .ref c ∧ Pz K H c d) ∨ ∃ z, x = .str z
theorem Kid.kp {K : PySem.W.Frag} {H H' : Hp} {x : V} (e : Kp H H') (h : Kid K H x) : Kid K H' x := by
  rcases h with h | ⟨c, d, h1, h2⟩ | h
  · exact .inl h
  · exact .inr (.inl ⟨c, d, h1, h2.kp e⟩)
  · exact .inr (.inr h)
theorem kids_pz {K : PySem.W.Frag} {H : Hp} : ∀ {ws : List V}, (∀ x ∈ ws, Kid K H x) → ws.all kidB = true → ∃ ks, PzL K H ws ks
  | [], _, _ => ⟨[], .nil⟩
  | x :: r, h, ha => by
    rw [List.all_cons, Bool.and_eq_true] at ha
    obtain ⟨ks, hk⟩ := kids_pz (ws := r) (fun y hy => h y (List.mem_cons_of_mem _ hy)) ha.2
    rcases h x List.mem_cons_self with e | ⟨c, d, e, hp⟩ | ⟨z, e⟩
    · rw [e]
      exact ⟨_, .non hk⟩
    · rw [e]
      exact ⟨_, .one hp hk⟩
    · rw [e] at ha
      cases ha.1
theorem bitB_iff (i : Int) : bitB i = true ↔ i = 0 ∨ i = 1 := by
  constructor
  · intro h
    by_cases h0 : i = 0
    · exact .inl h0
    · by_cases h1 : i = 1
      · exact .inr h1
      · simp [bitB, inV, eqV] at h
        omega
  · exact bitB_ok
theorem bits_all {bs : List Int} (h : bs.all bitB = true) : ∀ b ∈ bs, b = 0 ∨ b = 1 := fun b hb => (bitB_iff b).mp (List.all_eq_true.mp h b hb)
def spChkX (K : PySem.W.Frag) : Sp := fun vs H Q E => ∃ (ba ca : Addr) (bs : List Int) (ws : List V), vs = [.ref ba, .ref ca] ∧ SqT K H ba (bs.map V.int) ∧ bs.length ≤ 1000 ∧ SqT K H ca ws ∧ ws.length ≤ 1000 ∧ (∀ x ∈ ws, Kid K H x) ∧
  ((bs.all bitB && ws.all kidB) = true → ∀ H', Ex H H' → Q .non H') ∧ ((bs.all bitB && ws.all kidB) = false → ∀ H', Ex H H' → E (.ref (ga K "BadPuzzle")) none H')
def spInitX (K : PySem.W.Frag) : Sp := fun vs H Q E => ∃ (a ba ca dx : Addr) (bs : List Int) (ws : List V), vs = [.ref a, .ref ba, .ref ca] ∧ H a = some (.ins (ga K "Puzzle") dx []) ∧ (SqL K H ba (bs.map V.int) ∨ SqT K H ba (bs.map V.int)) ∧ bs.length ≤ 60 ∧ (SqL K H ca ws ∨ SqT K H ca ws) ∧ ws.length ≤ 600 ∧ (∀ x ∈ ws, Kid K H x) ∧
  ((bs.all bitB && ws.all kidB) = false → ∀ H', Xa a H H' → E (.ref (ga K "BadPuzzle")) none H') ∧
  (∀ ks, (bs.all bitB && ws.all kidB) = true → PzL K H ws ks → ((500 < 1 + sizeL (short isN ks) ∨ 30 < 1 + deepL (short isN ks)) → ∀ H', Xa a H H' → E (.ref (ga K "TooGreat")) none H') ∧ (¬ (500 < 1 + sizeL (short isN ks) ∨ 30 < 1 + deepL (short isN ks)) → ∀ H', Xa a H H' → Pz K H' a (nd (short isZ bs) (short isN ks)) → Q .non H'))
theorem rep_app {α : Type} (f : α → Bool) {l : List α} {i : Nat} {x : α} (h : l[i]? = some x) : ((l.take (i + 1)).map f).map V.bl = ((l.take i).map f).map V.bl ++ [V.bl (f x)] := by
  rw [take_more h, List.map_append, List.map_append]
  rfl
theorem take_more' {α : Type} {l : List α} {i : Nat} {x : α} (h : l[i]? = some x) : l.take (i + 1) = l.take i ++ [x] := take_more h


open RP
def signs : List Nat := [48, 49, 46, 45, 41, 40, 44]
def enS (e : Nat) : Str := if e = 0 then "opening" else if e = 1 then "digits" else if e = 2 then "dot" else "child"
def folT (e : Nat) : Str := if e = 0 then "01.-" else if e = 1 then "01(,)" else if e = 2 then "(,)" else ",)"
def sgn (c : Nat) : Str := ⟨#[c]⟩
theorem folT_cd {e : Nat} (h : e ≤ 3) : (folT e).cps.toList = fol e := by
  have : e = 0 ∨ e = 1 ∨ e = 2 ∨ e = 3 := by omega
  rcases this with rfl | rfl | rfl | rfl <;> decide +kernel
theorem fol_signs {e c : Nat} (h : c ∈ fol e) : c ∈ signs := by
  unfold fol at h
  repeat' split at h
  all_goals (simp [signs] at h ⊢; omega)
theorem ends_le (c : Nat) : ends c ≤ 3 := by
  unfold ends
  repeat' split
  all_goals omega
theorem en_inj {e : Nat} (h : e ≤ 3) : decide (V.str (enS e) = V.str "opening") = decide (e = 0) := by
  have : e = 0 ∨ e = 1 ∨ e = 2 ∨ e = 3 := by omega
  rcases this with rfl | rfl | rfl | rfl <;> decide +kernel
theorem dec_int (a b : Int) : decide (V.int a = V.int b) = decide (a = b) := by simp
structure T9 (K : PySem.W.Frag) (w : World) (mg : Str → Option Value) : Prop extends T08 K w mg where
  mf : ∀ e, e ≤ 3 → KDct K w (ga K "MAY_FOLLOW") (enS e) (.str (folT e))
  ew : ∀ c ∈ signs, KDct K w (ga K "ENDS_WITH") (sgn c) (.str (enS (ends c)))
  lk : ∃ es n, KDict K w (ga K "LEVELS") es n
  lv : ∀ c ∈ signs, (PySem.W.nsIn K (ga K "LEVELS") (sgn c) = some none ∧ lev c = 0) ∨ ∃ u, PySem.W.nsIn K (ga K "LEVELS") (sgn c) = some (some u) ∧ RelV (.int (lev c)) u
  bt : Own K (ga K "BadText") (ma K (ga K "BadText") "__init__") ["line"]
theorem bt_made {K : PySem.W.Frag} {C : Addr} {σ : L2.St} {H : Hp} {Q : XK} {y : V} (U : OexC K C) (n1 : PySem.W.findIn K (.ref C) "line" = some none)
    (h : ∀ d H', Ex H H' → H' d = some (.xd [("line", y)]) → Q (.ref C) (some d) H') : tMkO C (spI1 K C "line") [] (tCons (tC y) tNil) σ H Q := by
  refine ⟨(show 1 ≤ 1000 by decide), fun a ha => ⟨a, y, rfl, U, n1, upd_same, fun d hd hda => ⟨rfl, d, _, upd_same, (upd_ne hda).trans upd_same, (upd_ne hda).symm.trans hd, h d _ ?_ upd_same⟩⟩⟩
  intro c o hc
  have c1 : c ≠ a := ne_of_none hc ha
  have c2 : c ≠ d := ne_of_none hc ((upd_ne hda).symm.trans hd)
  rw [upd_ne c2, del_ne c1, upd_ne c1, upd_ne c2, upd_ne c1]
  exact hc
theorem runA_app : ∀ (a b : List Nat) (st : AS), runA st (a ++ b) = (runA st a).bind fun s => runA s b
  | [], _, _ => rfl
  | c :: r, b, st => by
    show runA st (c :: (r ++ b)) = _
    simp only [runA]
    cases stepA st c with
    | none => rfl
    | some s2 => exact runA_app r b s2
theorem runA_more {cs : List Nat} {i c e : Nat} {l : Int} (h : cs[i]? = some c) (k : runA (0, 0) (cs.take i) = some (e, l)) : runA (0, 0) (cs.take (i + 1)) = stepA (e, l) c := by
  rw [take_more h, runA_app, k]
  show runA (e, l) [c] = _
  simp only [runA]
  cases stepA (e, l) c <;> rfl
theorem runA_stop {cs : List Nat} {i : Nat} (h : runA (0, 0) (cs.take i) = none) : acc cs = false := by
  have e : cs = cs.take i ++ cs.drop i := (List.take_append_drop i cs).symm
  unfold acc
  rw [e, runA_app, h]
  rfl
def spCheck (K : PySem.W.Frag) : Sp := fun vs H Q E => ∃ z : Str, vs = [.str z] ∧ z.length ≤ 100000 ∧ (acc (cd z) = true → ∀ H', Ex H H' → Q .non H') ∧ (acc (cd z) = false → ∀ d H', Ex H H' → H' d = some (.xd [("line", .int 1)]) → E (.ref (ga K "BadText")) (some d) H')
def spRead (K : PySem.W.Frag) : Sp := fun vs H Q E => ∃ z : Str, vs = [.str z] ∧ z.length ≤ 50000 ∧ (acc (cd z) = false → ∀ d H', Ex H H' → H' d = some (.xd [("line", .int 1)]) → E (.ref (ga K "BadText")) (some d) H') ∧
  (acc (cd z) = true → ∃ d, z = spell d ∧ Bd 60 600 d ∧ (Ok d → ∀ b H', Ex H H' → Pz K H' b (trim d) → Q (.ref b) H') ∧ (¬ Ok d → ∀ H', Ex H H' → E (.ref (ga K "TooGreat")) none H'))

section
variable {P : Program} {w : World} {K : PySem.W.Frag} {mg : Str → Option Value} {base : Heap}

theorem ok_badtext_init {C f : Addr} {fd : FuncData} (F : FnP K "__init__" "BadText.__init__" s_BadText_init f fd) : FnOk P w K mg base CX0 1 f fd ["self", "line"] (spI1 K C "line") := by
  refine FunD.ok F sc_BadText_init (fun vs H Q E h => ?_) (fun cdv A outer s H vs Q E hr h => ?_)
  · obtain ⟨a, y, rfl, _⟩ := h
    rfl
  · obtain ⟨a, y, rfl, U, no, ha, kk⟩ := h
    refine ⟨_, PSs.nox (pss_one (ps_ost (pv 0) (pv 1))), ?_⟩
    exact ⟨y, rfl, .ref a, rfl, a, C, rfl, U, no, .inl ⟨ha, fun dx h1 h2 => kk dx h1 h2⟩⟩

theorem ok_check_spelling {fd : FuncData} (F : FnP K "check_spelling" "check_spelling" s_check_spelling (ga K "check_spelling") fd) (T : T9 K w mg) (c_badtext : Cl P w K mg base CX0 1 (ma K (ga K "BadText") "__init__") ["self", "line"] (spI1 K (ga K "BadText") "line")) : FnOk P w K mg base (L2.CX P w) (2 + 1) (ga K "check_spelling") fd ["text"] (spCheck K) := by
  obtain ⟨fd_badtext, G_badtext, b_badtext, kp_badtext⟩ := c_badtext
  refine FunD.ok F sc_check_spelling (fun vs H Q E h => ?_) (fun cdv A outer s H vs Q E hr h => ?_)
  · obtain ⟨z, rfl, _⟩ := h
    rfl
  · obtain ⟨z, rfl, lz, kg, kb⟩ := h
    have g_MAY_FOLLOW := T.gl "MAY_FOLLOW" (by decide +kernel)
    obtain ⟨tk_ONLY_INSIDE, g_ONLY_INSIDE⟩ := T.c_ONLY_INSIDE
    have g_BadText := T.gl "BadText" (by decide +kernel)
    have g_ENDS_WITH := T.gl "ENDS_WITH" (by decide +kernel)
    have g_LEVELS := T.gl "LEVELS" (by decide +kernel)
    refine ⟨_, (pss_cons (ps_set (i := 1) sc_check_spelling.nd rfl (Or.inl rfl) pe_str)
      (pss_cons (ps_set (i := 2) sc_check_spelling.nd rfl (Or.inl rfl) pe_int)
      (pss_cons (ps_for (passes_of rfl) rfl (pi_str (pv 0)) (pg_name (i := 3) sc_check_spelling.nd rfl (Or.inl rfl))
      (pss_cons (ps_if (PW.pt (pw_or (pt_cmpR op_notIn_sign (pv 3) (pe_ix ix_kdict (pe_glob (v := .ref _) (by rfl) g_MAY_FOLLOW rfl) (pv 1) (fun _ _ => rfl)) (by rfl)) (pw_or1 (PW.pt (pw_and (pt_cmpR op_eq (pv 2) pe_int (nomark _)) (pw_and1 (pt_cmpR op_in_sign (pv 3) (pe_glob (v := .str _) (by rfl) g_ONLY_INSIDE ⟨_, rfl⟩) (by rfl))))))))
      (pss_one (ps_raise rfl (takes_of rfl rfl rfl rfl) (pmk_oex T.bt.ox T.bt.iC T.bt.tI G_badtext (hr.mono (by decide)) b_badtext .nil pass0 (by rfl) g_BadText (pa_cons pe_int pa_nil))))
      pss_nil)
      (pss_cons (ps_set (i := 1) sc_check_spelling.nd rfl (Or.inl rfl) (pe_ix ix_kdict (pe_glob (v := .ref _) (by rfl) g_ENDS_WITH rfl) (pv 3) (fun _ _ => rfl)))
      (pss_one (ps_aug (i := 2) sc_check_spelling.nd rfl (Or.inl rfl) (pe_kget2 (pe_glob (v := .ref _) (by rfl) g_LEVELS rfl) (pv 3) pe_int ⟨rfl, rfl, rfl, rfl⟩) ip_add)))))
      (pss_one (ps_if (PW.pt (pw_or (pt_cmpR op_eq (pv 1) pe_str (nomark _)) (pw_or1 (pt_cmpR op_ne (pv 2) pe_int (nomark _)))))
      (pss_one (ps_raise rfl (takes_of rfl rfl rfl rfl) (pmk_oex T.bt.ox T.bt.iC T.bt.tI G_badtext (hr.mono (by decide)) b_badtext .nil pass0 (by rfl) g_BadText (pa_cons pe_int pa_nil))))
      pss_nil))))), ?_⟩
    have g_ml : mg "MAY_FOLLOW" = some (.ref (ga K "MAY_FOLLOW")) := T.gl _ (by decide +kernel)
    obtain ⟨les, ln, LK⟩ := T.lk
    refine q_asg (v := .str (enS 0)) ev_c fun H1 e1 => ?_
    refine q_asg (v := .int 0) ev_c fun H2 e2 => ?_
    have e12 := e1.trans e2
    try dsimp only [gName, List.set]
    refine ⟨.str z, rfl, z, rfl, ?_⟩
    refine for_it (walk_str (z := z)) (fun i σ' H' => ∃ e l v3, σ' = [some (.str z), some (.str (enS e)), some (.int l), v3] ∧ Ex H H' ∧ e ≤ 3 ∧ runA (0, 0) ((cd z).take i) = some (e, l)) ⟨0, 0, _, rfl, e12, by decide, rfl⟩ (fun i σ' H' _ hI => trivial) (fun i x σ' H3 H4 hi hI hy => ?_) (fun σ' H' hI => ?_)
    · obtain ⟨e, l, v3, rfl, e3, he, hr0⟩ := hI
      obtain ⟨rfl, c, hc, rfl⟩ := hy
      have hc2 : (cd z)[i]? = some c := by
        show z.cps.toList[i]? = some c
        rw [Array.getElem?_toList]
        exact hc
      have more := runA_more hc2 hr0
      try dsimp only [gName, List.set]
      have t1 : EvT _ [some (.str z), some (.str (enS e)), some (.int l), some (.str (sgn c))] H4 (!decide (c ∈ fol e)) := et_test (ev_op (r := fun x y H Q => ∃ (c : Nat) (z : Str), x = .str ⟨#[c]⟩ ∧ y = .str z ∧ Q (.bl (!decide (c ∈ z.cps.toList))) H) (ev_var (i := 3) rfl) (ev_op (r := rIxD K w) (ev_c (v := .ref (ga K "MAY_FOLLOW"))) (ev_var (i := 1) rfl) (fun H5 e5 Q5 q5 => ⟨_, _, _, rfl, rfl, T.mf e he, q5 H5 (Ex.refl _)⟩)) (fun H5 e5 Q5 q5 => ⟨c, folT e, rfl, rfl, by rw [folT_cd he]; exact q5 H5 (Ex.refl _)⟩))
      have t2 : EvT _ [some (.str z), some (.str (enS e)), some (.int l), some (.str (sgn c))] H4 (decide (l = 0) && decide (c ∈ inside)) := et_and (et_is (et_test (ev_op (ev_var (i := 2) rfl) (ev_c (v := .int 0)) (rv_eq rfl))) (dec_int l 0)) fun _ => et_test (ev_op (r := fun x y H Q => ∃ (c : Nat) (z : Str), x = .str ⟨#[c]⟩ ∧ y = .str z ∧ Q (.bl (decide (c ∈ z.cps.toList))) H) (ev_var (i := 3) rfl) (ev_c (v := .str "-,)")) (fun H5 e5 Q5 q5 => ⟨c, "-,)", rfl, rfl, q5 H5 (Ex.refl _)⟩))
      cases hs : stepA (e, l) c with
      | none =>
        rw [hs] at more
        refine q_when (b := true) (et_is (et_or t1 fun _ => t2) ?_) (fun _ H5 e5 => ?_) (fun z => nomatch z)
        · unfold stepA at hs
          by_cases h1 : c ∈ fol e
          · by_cases h2 : l = 0 ∧ c ∈ inside
            · rw [decide_eq_true h1, decide_eq_true h2.1, decide_eq_true h2.2]
              rfl
            · rw [if_pos ⟨h1, h2⟩] at hs
              cases hs
          · rw [decide_eq_false h1]
            rfl
        · exact bt_made T.bt.ox (T.bt.no "line" (by decide)) fun dd H6 e6 hd => kb (runA_stop more) dd H6 ((e3.trans e5).trans e6) hd
      | some st2 =>
        rw [hs] at more
        have hcs : c ∈ fol e ∧ ¬ (l = 0 ∧ c ∈ inside) := by
          unfold stepA at hs
          by_cases hq : c ∈ fol e ∧ ¬ (l = 0 ∧ c ∈ inside)
          · exact hq
          · rw [if_neg hq] at hs
            cases hs
        have est : st2 = (ends c, l + lev c) := by
          unfold stepA at hs
          rw [if_pos hcs] at hs
          injection hs with hs
          exact hs.symm
        subst est
        have sg := fol_signs hcs.1
        refine q_when (b := false) (et_is (et_or t1 fun _ => t2) ?_) (fun z => nomatch z) (fun _ H5 e5 => ?_)
        · rw [decide_eq_true hcs.1]
          show (decide (l = 0) && decide (c ∈ inside)) = false
          by_cases h1 : l = 0
          · have h2 : ¬ c ∈ inside := fun q => hcs.2 ⟨h1, q⟩
            rw [decide_eq_false h2, Bool.and_false]
          · rw [decide_eq_false h1]
            rfl
        refine q_asg (v := .str (enS (ends c))) (ev_op (r := rIxD K w) (ev_c (v := .ref (ga K "ENDS_WITH"))) (ev_var (i := 3) rfl) (fun H6 e6 Q6 q6 => ⟨_, _, _, rfl, rfl, T.ew c sg, q6 H6 (Ex.refl _)⟩)) fun H6 e6 => ?_
        try dsimp only [gName, List.set]
        have e36 := (e3.trans e5).trans e6
        refine ⟨.int l, rfl, _, les, ln, rfl, LK, .str (sgn c), rfl, sgn c, rfl, ?_⟩
        have fin : ∃ e l' v3, ([some (V.str z), some (V.str (enS (ends c))), some (V.int (l + lev c)), some (V.str (sgn c))] : L2.St) = [some (V.str z), some (V.str (enS e)), some (V.int l'), v3] ∧ Ex H H6 ∧ e ≤ 3 ∧ runA (0, 0) ((cd z).take (i + 1)) = some (e, l') := ⟨ends c, l + lev c, _, rfl, e36, ends_le c, more⟩
        rcases T.lv c sg with ⟨hn, h0⟩ | ⟨u, hu, ru⟩
        · refine .inl ⟨hn, l, 0, rfl, rfl, ?_⟩
          rw [h0] at fin
          exact fin
        · exact .inr ⟨u, .int (lev c), hu, ru, l, lev c, rfl, rfl, fin⟩
    · obtain ⟨e, l, v3, rfl, e3, he, hr0⟩ := hI
      have e0 : (cd z).take z.cps.size = cd z := List.take_of_length_le (by simp [cd])
      rw [e0] at hr0
      have ea : acc (cd z) = decide (e ≠ 0 ∧ l = 0) := by
        unfold acc
        rw [hr0]
      dsimp only
      have t1 : EvT _ [some (.str z), some (.str (enS e)), some (.int l), v3] H' (decide (e = 0)) := et_is (et_test (ev_op (ev_var (i := 1) rfl) (ev_c (v := .str "opening")) (rv_eq rfl))) (en_inj he)
      have t2 : EvT _ [some (.str z), some (.str (enS e)), some (.int l), v3] H' (!decide (l = 0)) := et_is (et_test (ev_op (ev_var (i := 2) rfl) (ev_c (v := .int 0)) (rv_ne rfl))) (by rw [dec_int])
      refine s_when (b := decide (e = 0) || !decide (l = 0)) (et_or t1 fun _ => t2) (fun hb H5 e5 => ?_) (fun hb H5 e5 => kg ?_ H5 (e3.trans e5))
      · refine bt_made T.bt.ox (T.bt.no "line" (by decide)) fun dd H6 e6 hd => kb ?_ dd H6 ((e3.trans e5).trans e6) hd
        rw [ea]
        by_cases h1 : e = 0
        · exact decide_eq_false fun q => q.1 h1
        · by_cases h2 : l = 0
          · rw [decide_eq_false h1, decide_eq_true h2] at hb
            cases hb
          · exact decide_eq_false fun q => h2 q.2
      · rw [ea]
        by_cases h1 : e = 0
        · rw [decide_eq_true h1] at hb
          cases hb
        · by_cases h2 : l = 0
          · exact decide_eq_true ⟨h1, h2⟩
          · rw [decide_eq_false h1, decide_eq_false h2] at hb
            cases hb

end
end K10
set_option Elab.async false
set_option linter.all false
set_option maxRecDepth 100000
set_option maxHeartbeats 8000000
namespace K10
open PySem PySem.Spec PyProof.Rows L2 He XH XV XR PEN TR XQ PZ Evl

open XO RP

def spInitG (K : PySem.W.Frag) : Sp := fun vs H Q E => ∃ (a ba ca dx : Addr) (bs : List Int) (ws : List V) (ks : List PyData), vs = [.ref a, .ref ba, .ref ca] ∧ H a = some (.ins (ga K "Puzzle") dx []) ∧ (SqL K H ba (bs.map V.int) ∨ SqT K H ba (bs.map V.int)) ∧ (∀ b ∈ bs, b = 0 ∨ b = 1) ∧ bs.length ≤ 60 ∧ (SqL K H ca ws ∨ SqT K H ca ws) ∧ PzL K H ws ks ∧ ks.length ≤ 600 ∧
  (Bad ks → ∀ H', Xa a H H' → E (.ref (ga K "TooGreat")) none H') ∧ (¬ Bad ks → ∀ H', Xa a H H' → Pz K H' a (nd (short isZ bs) (short isN ks)) → Q .non H')
theorem make_goG {K : PySem.W.Frag} {H : Hp} {E : XK} {ba ca : Addr} {bs : List Int} {ws : List V} {ks : List PyData} {R : Addr → Hp → Prop} (hb : SqL K H ba (bs.map V.int) ∨ SqT K H ba (bs.map V.int)) (h01 : ∀ b ∈ bs, b = 0 ∨ b = 1) (lb : bs.length ≤ 60) (hc : SqL K H ca ws ∨ SqT K H ca ws) (hk : PzL K H ws ks) (lk : ks.length ≤ 600)
    (kb : Bad ks → ∀ H', Ex H H' → E (.ref (ga K "TooGreat")) none H') (k : ¬ Bad ks → ∀ a H', H a = none → Ex H H' → Pz K H' a (nd (short isZ bs) (short isN ks)) → R a H') : ∀ x dx, H x = none → H dx = none → dx ≠ x → spInitG K [.ref x, .ref ba, .ref ca] (upd (upd H dx (.own x)) x (.ins (ga K "Puzzle") dx [])) (fun v H2 => v = .non ∧ R x H2) E := fun x dx hx hdx hne => by
  have hx2 : upd H dx (.own x) x = none := (upd_ne (Ne.symm hne)).trans hx
  have e3 : Ex H (upd (upd H dx (.own x)) x (.ins (ga K "Puzzle") dx [])) := (Ex.new hdx).trans (Ex.new hx2)
  exact ⟨x, ba, ca, dx, bs, ws, ks, rfl, upd_same, hb.imp (ex_l e3) (ex_t e3), h01, lb, hc.imp (ex_l e3) (ex_t e3), hk.kp (Kp.of e3), lk, fun hbad H5 x5 => kb hbad H5 (Xa.new e3 hx x5), fun hgood H5 x5 p5 => ⟨rfl, k hgood x H5 hx (Xa.new e3 hx x5) p5⟩⟩
theorem PzL.rev {K : PySem.W.Frag} {H : Hp} : ∀ {ws : List V} {ks : List PyData}, PzL K H ws ks → PzL K H ws.reverse ks.reverse
  | _, _, .nil => .nil
  | _, _, .non r => by
    rw [List.reverse_cons, List.reverse_cons]
    exact PzL.app (PzL.rev r) (.non .nil)
  | _, _, .one h r => by
    rw [List.reverse_cons, List.reverse_cons]
    exact PzL.app (PzL.rev r) (.one h .nil)
/-! ### the families while it reads -/
abbrev Fy := Addr × List V × List PyData
structure Fm (K : PySem.W.Frag) (H0 H : Hp) (F C R : Addr) (rw : List V) (L : List Fy) (ch : List PyData) (n : Nat) : Prop where
  ex : Ex H0 H
  hF : H F = some (.lst (L.map fun t => V.ref t.1))
  nF : H0 F = none
  hR : H R = some (.lst rw)
  RF : R ≠ F
  hC : ∃ ws, H C = some (.lst ws) ∧ PzL K H ws ch
  CF : C ≠ F
  fam : ∀ t ∈ L, H t.1 = some (.lst t.2.1) ∧ PzL K H t.2.1 t.2.2 ∧ H0 t.1 = none ∧ t.1 ≠ F ∧ t.1 ≠ C ∧ t.1 ≠ R
  nd : (L.map (·.1)).Nodup
  bL : L.length ≤ n + 1
  bf : ∀ t ∈ L, t.2.2.length ≤ n
  bc : ch.length ≤ n
section
variable {K : PySem.W.Frag} {H0 H : Hp} {F C R : Addr} {rw : List V} {L : List Fy} {ch : List PyData} {n : Nat}
theorem Fm.mono {H' : Hp} (m : Fm K H0 H F C R rw L ch n) (e : Ex H H') : Fm K H0 H' F C R rw L ch n := by
  obtain ⟨ws, h1, h2⟩ := m.hC
  exact { ex := m.ex.trans e, hF := e _ _ m.hF, nF := m.nF, hR := e _ _ m.hR, RF := m.RF, hC := ⟨ws, e _ _ h1, h2.kp (Kp.of e)⟩, CF := m.CF, fam := fun t ht => by
            obtain ⟨a, b, c⟩ := m.fam t ht
            exact ⟨e _ _ a, b.kp (Kp.of e), c⟩, nd := m.nd, bL := m.bL, bf := m.bf, bc := m.bc }
theorem Fm.up (m : Fm K H0 H F C R rw L ch n) : Fm K H0 H F C R rw L ch (n + 1) := { m with bL := Nat.le_succ_of_le m.bL, bf := fun t ht => Nat.le_succ_of_le (m.bf t ht), bc := Nat.le_succ_of_le m.bc }
/-- a new family -/
theorem Fm.push {p : Addr} (m : Fm K H0 H F C R rw L ch n) (hp : H p = none) : Fm K H0 (upd (upd H p (.lst [])) F (.lst (L.map (fun t => V.ref t.1) ++ [V.ref p]))) F C R rw (L ++ [(p, [], [])]) ch (n + 1) := by
  have e := Ex.new (o := .lst []) hp
  have pF : p ≠ F := fun z => by rw [z, m.hF] at hp; cases hp
  have pC : p ≠ C := fun z => by obtain ⟨ws, h1, _⟩ := m.hC; rw [z, h1] at hp; cases hp
  have pR : p ≠ R := fun z => by rw [z, m.hR] at hp; cases hp
  have m1 := m.mono e
  have kp : Kp (upd H p (.lst [])) (upd (upd H p (.lst [])) F (.lst (L.map (fun t => V.ref t.1) ++ [V.ref p]))) := Kp.lst m1.hF
  obtain ⟨ws, h1, h2⟩ := m1.hC
  refine { ex := m1.ex.mut m.nF, hF := ?_, nF := m.nF, hR := (upd_ne m.RF).trans m1.hR, RF := m.RF, hC := ⟨ws, (upd_ne m.CF).trans h1, h2.kp kp⟩, CF := m.CF, fam := fun t ht => ?_, nd := ?_, bL := ?_, bf := fun t ht => ?_, bc := Nat.le_succ_of_le m.bc }
  · rw [upd_same, List.map_append]
    rfl
  · rcases List.mem_append.mp ht with q | q
    · obtain ⟨a, b, c, d, r⟩ := m1.fam t q
      exact ⟨(upd_ne d).trans a, b.kp kp, c, d, r⟩
    · rw [List.mem_singleton.mp q]
      exact ⟨(upd_ne pF).trans upd_same, .nil, fresh_back m.ex hp, pF, pC, pR⟩
  · rw [List.map_append, List.nodup_append]
    refine ⟨m.nd, by simp, fun a ha b hb => ?_⟩
    obtain ⟨t, ht, rfl⟩ := List.mem_map.mp ha
    have hb2 : b = p := List.mem_singleton.mp hb
    rw [hb2]
    intro z
    rw [← z, (m.fam t ht).1] at hp
    cases hp
  · rw [List.length_append]
    have := m.bL
    show L.length + 1 ≤ _
    omega
  · rcases List.mem_append.mp ht with q | q
    · exact Nat.le_succ_of_le (m.bf t q)
    · rw [List.mem_singleton.mp q]
      exact Nat.zero_le _
/-- the last family taken off, turned round -/
theorem Fm.pop {t : Fy} {q : Addr} (m : Fm K H0 H F C R rw (L ++ [t]) ch n) (hq : upd H F (.lst (((L ++ [t]).map fun t => V.ref t.1).dropLast)) q = none) :
    Fm K H0 (upd (upd H F (.lst (((L ++ [t]).map fun t => V.ref t.1).dropLast))) q (.lst t.2.1.reverse)) F q R rw L t.2.2.reverse (n + 1) := by
  have hdl : ((L ++ [t]).map fun t => V.ref t.1).dropLast = L.map fun t => V.ref t.1 := by rw [List.map_append]; simp
  rw [hdl] at hq ⊢
  have kp : Kp H (upd H F (.lst (L.map fun t => V.ref t.1))) := Kp.lst m.hF
  have qF : q ≠ F := fun z => by rw [z, upd_same] at hq; cases hq
  have hq0 : H q = none := by rw [upd_ne qF] at hq; exact hq
  have e := Ex.new (o := .lst t.2.1.reverse) hq
  have tt := m.fam t (List.mem_append_right _ List.mem_cons_self)
  have Fe : (upd (upd H F (.lst (L.map fun t => V.ref t.1))) q (.lst t.2.1.reverse)) F = some (.lst (L.map fun t => V.ref t.1)) := e _ _ upd_same
  refine { ex := (m.ex.mut m.nF).trans e, hF := Fe, nF := m.nF, hR := e _ _ ((upd_ne m.RF).trans m.hR), RF := m.RF, hC := ⟨_, upd_same, (PzL.rev tt.2.1).kp (kp.trans (Kp.of e))⟩, CF := qF, fam := fun u hu => ?_, nd := ?_, bL := ?_, bf := fun u hu => Nat.le_succ_of_le (m.bf u (List.mem_append_left _ hu)), bc := ?_ }
  · obtain ⟨a, b, c, d, _, r⟩ := m.fam u (List.mem_append_left _ hu)
    have a2 := e _ _ ((upd_ne d).trans a)
    refine ⟨a2, b.kp (kp.trans (Kp.of e)), c, d, fun z => ?_, r⟩
    rw [z, hq0] at a
    cases a
  · have := m.nd
    rw [List.map_append, List.nodup_append] at this
    exact this.1
  · have := m.bL
    rw [List.length_append] at this
    have h1 : [t].length = 1 := rfl
    omega
  · rw [List.length_reverse]
    exact Nat.le_succ_of_le (m.bf t (List.mem_append_right _ List.mem_cons_self))
/-- one more child in the last family -/
theorem Fm.add {t : Fy} {x : V} {d : PyData} (m : Fm K H0 H F C R rw (L ++ [t]) ch n) (hx : PzL K H [x] [d]) : Fm K H0 (upd H t.1 (.lst (t.2.1 ++ [x]))) F C R rw (L ++ [(t.1, t.2.1 ++ [x], t.2.2 ++ [d])]) ch (n + 1) := by
  obtain ⟨t1, t2, t3, t4, t5, t6⟩ := m.fam t (List.mem_append_right _ List.mem_cons_self)
  have kp : Kp H (upd H t.1 (.lst (t.2.1 ++ [x]))) := Kp.lst t1
  obtain ⟨ws, h1, h2⟩ := m.hC
  have nd0 := m.nd
  rw [List.map_append, List.nodup_append] at nd0
  refine { ex := m.ex.mut t3, hF := ?_, nF := m.nF, hR := (upd_ne (Ne.symm t6)).trans m.hR, RF := m.RF, hC := ⟨ws, (upd_ne (Ne.symm t5)).trans h1, h2.kp kp⟩, CF := m.CF, fam := fun u hu => ?_, nd := ?_, bL := ?_, bf := fun u hu => ?_, bc := Nat.le_succ_of_le m.bc }
  · rw [upd_ne (Ne.symm t4), m.hF, List.map_append, List.map_append]
    rfl
  · rcases List.mem_append.mp hu with q | q
    · obtain ⟨a, b, c⟩ := m.fam u (List.mem_append_left _ q)
      have hne : u.1 ≠ t.1 := nd0.2.2 _ (List.mem_map_of_mem q) _ (List.mem_singleton.mpr rfl)
      exact ⟨(upd_ne hne).trans a, b.kp kp, c⟩
    · rw [List.mem_singleton.mp q]
      exact ⟨upd_same, (t2.kp kp).app (hx.kp kp), t3, t4, t5, t6⟩
  · have := m.nd
    rw [List.map_append] at this ⊢
    exact this
  · have := m.bL
    rw [List.length_append] at this ⊢
    exact Nat.le_succ_of_le this
  · rcases List.mem_append.mp hu with q | q
    · exact Nat.le_succ_of_le (m.bf u (List.mem_append_left _ q))
    · rw [List.mem_singleton.mp q]
      have := m.bf t (List.mem_append_right _ List.mem_cons_self)
      rw [List.length_append]
      show _ + 1 ≤ _
      omega
/-- no children ahead of the next one -/
theorem Fm.fresh {q : Addr} (m : Fm K H0 H F C R rw L ch n) (hq : H q = none) : Fm K H0 (upd H q (.lst [])) F q R rw L [] n := by
  have e := Ex.new (o := .lst []) hq
  have m1 := m.mono e
  have qF : q ≠ F := fun z => by
    rw [z, m.hF] at hq
    cases hq
  refine { ex := m1.ex, hF := m1.hF, nF := m1.nF, hR := m1.hR, RF := m1.RF, hC := ⟨[], upd_same, .nil⟩, CF := qF, fam := fun t ht => ?_, nd := m1.nd, bL := m1.bL, bf := m1.bf, bc := Nat.zero_le _ }
  obtain ⟨a, b, c, d, _, r⟩ := m1.fam t ht
  refine ⟨a, b, c, d, fun z => ?_, r⟩
  rw [← z, (m.fam t ht).1] at hq
  cases hq
theorem Fm.last {fs S : List (List PyData)} {f : List PyData} (h : L.map (·.2.2) = fs) (e : fs = S ++ [f]) : ∃ L' t, L = L' ++ [t] ∧ L'.map (·.2.2) = S ∧ t.2.2 = f := by
  rw [e] at h
  rcases List.eq_nil_or_concat L with z | ⟨L', t, z⟩
  · rw [z] at h
    simp at h
  · have z2 : L = L' ++ [t] := by rw [z]; simp
    rw [z2, List.map_append] at h
    have h2 := List.append_inj' h rfl
    refine ⟨L', t, z2, h2.1, ?_⟩
    simpa using h2.2
end

section
variable {P : Program} {w : World} {K : PySem.W.Frag} {mg : Str → Option Value} {base : Heap}

theorem ok_initG {fd : FuncData} {f : Addr} {dvs : List V} (F : FunD K "__init__" "Puzzle.__init__" (defArgs s_Puzzle_init) (defBody s_Puzzle_init) (defScope s_Puzzle_init) dvs [] f fd) (T : T9 K w mg) (c_check_entries : Cl P w K mg base CX0 2 (ga K "check_entries") ["bits", "children"] (spChk K)) (c_trimmed : Cl P w K mg base CX0 2 (ga K "trimmed") ["entries", "empty"] (spTrim K)) (c_spelled : Cl P w K mg base CX0 1 (ga K "spelled") ["bits", "children"] (spSpell K)) : FnOk P w K mg base (L2.CX P w) (2 + 1) f fd ["self", "bits", "children"] (spInitG K) := by
  obtain ⟨fd_check_entries, G_check_entries, b_check_entries, kp_check_entries⟩ := c_check_entries
  obtain ⟨fd_trimmed, G_trimmed, b_trimmed, kp_trimmed⟩ := c_trimmed
  obtain ⟨fd_spelled, G_spelled, b_spelled, kp_spelled⟩ := c_spelled
  refine FunD.ok F sc_Puzzle_init (fun vs H Q E h => ?_) (fun cdv A outer s H vs Q E hr h => ?_)
  · obtain ⟨a, ba, ca, dx, bs, ws, ks, rfl, _⟩ := h
    rfl
  · obtain ⟨a, ba, ca, dx, bs, ws, ks, rfl, ha, hb, h01, lb, hc, hk, lk, kgr, kk⟩ := h
    have n_tuple := T.fr "tuple" (by decide +kernel)
    have g_check_entries := T.gl "check_entries" (by decide +kernel)
    have g_trimmed := T.gl "trimmed" (by decide +kernel)
    have n_sum := T.fr "sum" (by decide +kernel)
    have n_max := T.fr "max" (by decide +kernel)
    obtain ⟨tk_MOST_NODES, g_MOST_NODES⟩ := T.c_MOST_NODES
    obtain ⟨tk_GREATEST_DEPTH, g_GREATEST_DEPTH⟩ := T.c_GREATEST_DEPTH
    have g_TooGreat := T.gl "TooGreat" (by decide +kernel)
    have g_spelled := T.gl "spelled" (by decide +kernel)
    refine ⟨_, (pss_cons (ps_set (i := 3) sc_Puzzle_init.nd rfl (Or.inl rfl) (pe_callTy call_tuple_of (by rfl) n_tuple (by decide +kernel) (pa_cons (pv 1) pa_nil)))
      (pss_cons (ps_set (i := 4) sc_Puzzle_init.nd rfl (Or.inl rfl) (pe_callTy call_tuple_of (by rfl) n_tuple (by decide +kernel) (pa_cons (pv 2) pa_nil)))
      (pss_cons (ps_expr (pe_call G_check_entries (hr.mono (by decide)) (by rfl) g_check_entries kp_check_entries b_check_entries .nil pass0 (pa_cons (pv 3) (pa_cons (pv 4) pa_nil))))
      (pss_cons (ps_fld (pv 0) (pe_call G_trimmed (hr.mono (by decide)) (by rfl) g_trimmed kp_trimmed b_trimmed .nil pass0 (pa_cons (pv 3) (pa_cons pe_int pa_nil))) rfl)
      (pss_cons (ps_fld (pv 0) (pe_call G_trimmed (hr.mono (by decide)) (by rfl) g_trimmed kp_trimmed b_trimmed .nil pass0 (pa_cons (pv 4) (pa_cons pe_non pa_nil))) rfl)
      (pss_cons (ps_setLc (i := 5) (own := [("child", 6)]) (g := gName 6) (by rfl) sc_Puzzle_init.nd rfl rfl (sw_true rfl rfl rfl (by decide +kernel)) (pi_tup (pe_fldc (K := K) rfl (pv 0) rfl)) (blkOk_by (own := [("child", 6)]) (N := ["self", "bits", "children", "all_bits", "all_children", "nodes", "child", "node"]) (sc := defScope s_Puzzle_init) (by decide +kernel)) (fun _ _ _ _ _ => (pg_name (i := 6) sc_Puzzle_init.nd rfl (Or.inl rfl))) (fun _ _ _ _ _ => (pts_one (pt_cmpR op_notN (pv 6) pe_non (nomark _)))) (fun _ _ _ _ _ => (pv 6)))
      (pss_cons (ps_fld (pv 0) (pe_op op_add pe_int (pe_callB (cr_sum rfl) (by rfl) n_sum (by decide +kernel) (pa_cons (pe_lc (own := [("node", 7)]) (g := gName 7) (by rfl) sc_Puzzle_init.nd (pi_list (pv 5)) (blkOk_by (own := [("node", 7)]) (N := ["self", "bits", "children", "all_bits", "all_children", "nodes", "child", "node"]) (sc := defScope s_Puzzle_init) (by decide +kernel)) (fun _ _ _ _ _ => (pg_name (i := 7) sc_Puzzle_init.nd rfl (Or.inl rfl))) (fun _ _ _ _ _ => pts_nil) (fun _ _ _ _ _ => (pe_fldc (K := K) rfl (pv 7) rfl))) pa_nil))) rfl)
      (pss_cons (ps_fld (pv 0) (pe_op op_add pe_int (pe_callBK (cr_maxDef rfl (units65 hr)) (by rfl) n_max (by decide +kernel) (pa_cons (pe_lc (own := [("node", 7)]) (g := gName 7) (by rfl) sc_Puzzle_init.nd (pi_list (pv 5)) (blkOk_by (own := [("node", 7)]) (N := ["self", "bits", "children", "all_bits", "all_children", "nodes", "child", "node"]) (sc := defScope s_Puzzle_init) (by decide +kernel)) (fun _ _ _ _ _ => (pg_name (i := 7) sc_Puzzle_init.nd rfl (Or.inl rfl))) (fun _ _ _ _ _ => pts_nil) (fun _ _ _ _ _ => (pe_fldc (K := K) rfl (pv 7) rfl))) pa_nil) (pk_cons pe_int pk_nil))) rfl)
      (pss_cons (ps_if (PW.pt (pw_or (pt_cmpR op_gt (pe_fldc (K := K) rfl (pv 0) rfl) (pe_glob (v := .int _) (by rfl) g_MOST_NODES ⟨_, rfl⟩) (nomark _)) (pw_or1 (pt_cmpR op_gt (pe_fldc (K := K) rfl (pv 0) rfl) (pe_glob (v := .int _) (by rfl) g_GREATEST_DEPTH ⟨_, rfl⟩) (nomark _)))))
      (pss_one (ps_raise rfl (takes_of rfl rfl rfl rfl) (pmk0 PySem.F.excBase_ValueError T.tg.ex g_TooGreat T.tg.kC (raises_own T.tg.ec.hs T.ty) (by rfl))))
      pss_nil)
      (pss_one (ps_fld (pv 0) (pe_call G_spelled (hr.mono (by decide)) (by rfl) g_spelled kp_spelled b_spelled .nil pass0 (pa_cons (pe_fldc (K := K) rfl (pv 0) rfl) (pa_cons (pe_fldc (K := K) rfl (pv 0) rfl) pa_nil))) rfl))))))))))), ?_⟩
    have lw := hk.len
    refine q_tup (K := K) (ev_var rfl) hb fun r3 H1 e1 g3 => ?_
    try dsimp only [gName, List.set]
    refine q_tup (K := K) (ev_var rfl) (hc.imp (ex_l e1) (ex_t e1)) fun r4 H2 e2 g4 => ?_
    try dsimp only [gName, List.set]
    have e12 := e1.trans e2
    refine ⟨.ref r3, rfl, .ref r4, rfl, r3, r4, bs, ws, ks, rfl, ex_t e2 g3, h01, by omega, g4, hk.kp (Kp.of e12), by omega, fun H3 e3 => ?_⟩
    have e13 := e12.trans e3
    -- the bits
    refine ⟨.ref r3, rfl, r3, .int 0, bs.map V.int, (fun v => decide (v = .int 0)), rfl, ex_t (e2.trans e3) g3, by rw [List.length_map]; omega, fun x hx => ?_, fun r5 H4 e4 g5 => ?_⟩
    · obtain ⟨b, _, rfl⟩ := List.mem_map.mp hx
      exact fun H5 e5 Q5 q5 => .inl ⟨rfl, q5 H5 (Ex.refl _)⟩
    rw [keep_bits, ← List.map_take] at g5
    have e14 := e13.trans e4
    refine ⟨.ref a, rfl, a, _, dx, [], rfl, e14 _ _ ha, T.cp, T.np "bits" (by decide +kernel), by decide, ?_⟩
    have a5 : upd H4 a (.ins (ga K "Puzzle") dx (putF "bits" (.ref r5) [])) a = some (.ins (ga K "Puzzle") dx [("bits", .ref r5)]) := upd_same
    generalize hH5 : upd H4 a (.ins (ga K "Puzzle") dx (putF "bits" (.ref r5) [])) = H5 at a5
    have x45 : Xa a H4 H5 := by rw [← hH5]; exact Xa.upd
    have x5 : Xa a H H5 := (Xa.of e14).trans x45
    have k5 := Kp.xa ha x5
    have k45 := Kp.xa (e14 _ _ ha) x45
    have p5 := hk.kp k5
    have g4' := k45.t (ex_t (e3.trans e4) g4)
    have g5' := k45.t g5
    -- the children
    refine ⟨.ref r4, rfl, r4, .non, ws, (fun v => decide (v = .non)), rfl, g4', by omega, fun x hx => ?_, fun r6 H6 e6 g6 => ?_⟩
    · obtain ⟨i, hi⟩ := List.mem_iff_getElem?.mp hx
      obtain ⟨d, hd, cas⟩ := p5.at hi
      rcases cas with ⟨rfl, rfl⟩ | ⟨c, rfl, hp⟩
      · exact fun H7 e7 Q7 q7 => .inl ⟨rfl, q7 H7 (Ex.refl _)⟩
      · intro H7 e7 Q7 q7
        have hp7 := hp.kp (Kp.of e7)
        have hp8 := hp7
        cases hp7 with
        | mk e' b h' hb' hc' hk' => exact .inr ⟨c, _, _, .type "NoneType", rfl, h', .base .non, T.nf "NoneType" (by simp), c, .non, d, rfl, hp8, .inr ⟨"NoneType", .base .non, T.kn "NoneType" (by simp), fun H9 e9 => ⟨⟨_, rfl⟩, q7 H9 e9⟩⟩⟩
    rw [keep_kids p5] at g6
    refine ⟨.ref a, rfl, a, _, dx, _, rfl, e6 _ _ a5, T.cp, T.np "children" (by decide +kernel), (show 1 < 1000 by decide), ?_⟩
    rw [putF_tail (by decide +kernel)]
    have a7 : upd H6 a (.ins (ga K "Puzzle") dx (("bits", .ref r5) :: putF "children" (.ref r6) [])) a = some (.ins (ga K "Puzzle") dx [("bits", .ref r5), ("children", .ref r6)]) := upd_same
    generalize hH7 : upd H6 a (.ins (ga K "Puzzle") dx (("bits", .ref r5) :: putF "children" (.ref r6) [])) = H7 at a7
    have x67 : Xa a H6 H7 := by rw [← hH7]; exact Xa.upd
    have x7 : Xa a H H7 := (x5.trans (Xa.of e6)).trans x67
    have tupx : ∀ {HA HB : Hp} {fs : List (Str × V)}, HA a = some (.ins (ga K "Puzzle") dx fs) → Xa a HA HB → ∀ {c : Addr} {xs : List V}, SqT K HA c xs → SqT K HB c xs := by
      intro HA HB fs hA hX c xs h
      rcases h with (h | ⟨o, h⟩) | h
      · exact .inl (.inl (hX c _ (fun e => by rw [e, hA] at h; cases h) h))
      · exact .inl (.inr ⟨o, hX c _ (fun e => by rw [e, hA] at h; cases h) h⟩)
      · exact .inr h
    have g5'' := tupx (e6 _ _ a5) x67 (ex_t e6 g5')
    have g6'' := tupx (e6 _ _ a5) x67 g6
    have k7 := Kp.xa ha x7
    have p7 : PzL K H7 (ws.take (keepN isN ks)) (ks.take (keepN isN ks)) := (hk.kp k7).take _
    have lks : (ks.take (keepN isN ks)).length ≤ 600 := by rw [List.length_take]; omega
    have szk := sizeL_take ks (keepN isN ks)
    have dpk := deepL_take ks (keepN isN ks)
    have lw7 := p7.len
    have pn := p7.nodes
    have lwn := pn.len
    have lwn2 : ((ws.take (keepN isN ks)).filter fun v => !decide (v = .non)).length ≤ 600 := Nat.le_trans (List.length_filter_le ..) (by omega)
    have nn : ∀ k ∈ (ks.take (keepN isN ks)).filter (fun k => !isN k), isN k = false := fun k hk => by simpa using (List.mem_filter.mp hk).2
    have snd := size_nodes (ks.take (keepN isN ks))
    have dnd := deep_nodes (ks.take (keepN isN ks))
    -- the nodes
    refine ⟨.ref a, rfl, a, _, dx, _, .ref r6, rfl, a7, T.cp, T.np "children" (by decide +kernel), rfl, r6, rfl, ⟨_, g6''⟩, fun N hN => ?_⟩
    refine lc_tup (xs := ws.take (keepN isN ks)) (fun i H' => Ex H7 H' ∧ H' N = some (.lst (((ws.take (keepN isN ks)).take i).filter fun v => !decide (v = .non)))) ⟨Ex.new hN, upd_same⟩ (fun i H' _ hI => ex_t hI.1 g6'') (fun i x H' hx hI => ?_) (fun H8 hI => ?_)
    · obtain ⟨k1, k2⟩ := hI
      have hi := (List.getElem?_eq_some_iff.mp hx).1
      refine ⟨rfl, go_test (b := !decide (x = .non)) (et_test (ev_op (ev_var rfl) ev_c (fun H9 e9 Q9 q9 => ⟨rfl, q9 H9 (Ex.refl _)⟩))) fun H9 e9 => ?_⟩
      rw [take_more hx, List.filter_append]
      refine ite2 (fun hq => ?_) (fun hq => ?_)
      · refine ⟨x, rfl, _, e9 _ _ k2, ?_, (k1.trans e9).mut hN, ?_⟩
        · have l1 := List.length_filter_le (fun v : V => !decide (v = .non)) ((ws.take (keepN isN ks)).take i)
          rw [List.length_take] at l1
          exact small1000 (by omega)
        · rw [upd_same, List.filter_cons, if_pos hq]
          rfl
      · refine ⟨k1.trans e9, ?_⟩
        rw [List.filter_cons, if_neg hq]
        show _ = some (HO.lst (_ ++ []))
        rw [List.append_nil]
        exact e9 _ _ k2
    obtain ⟨e8, h8⟩ := hI
    rw [List.take_length] at h8
    try dsimp only [gName, List.set]
    generalize hWN : (ws.take (keepN isN ks)).filter (fun v => !decide (v = .non)) = wn at *
    generalize hKN : (ks.take (keepN isN ks)).filter (fun k => !isN k) = kn at *
    have pn8 := pn.kp (Kp.of e8)
    -- size
    refine ⟨.ref N, rfl, N, rfl, ⟨_, sq_of h8⟩, fun D hD => ?_⟩
    refine lc_list (xs := wn) (fun i H' => Ex H8 H' ∧ H' D = some (.lst ((((kn.take i).map size).map fun n : Nat => (n : Int)).map V.int))) ⟨Ex.new hD, upd_same⟩ (fun i H' _ hI => sq_of (hI.1 _ _ h8)) (fun i x H' hx hI => ?_) (fun H9 hI => ?_)
    · obtain ⟨k1, k2⟩ := hI
      have hi := (List.getElem?_eq_some_iff.mp hx).1
      obtain ⟨c, k, rfl, hkn, hp⟩ := (pn8.kp (Kp.of k1)).ref nn hx
      cases hp with
      | mk e' b h' hb' hc' hk' =>
        refine ⟨rfl, yes_go ⟨.ref c, rfl, c, _, _, _, _, rfl, h', T.cp, T.np "size" (by decide +kernel), rfl, _, k2, ?_, k1.mut hD, ?_⟩⟩
        · rw [List.length_map, List.length_map, List.length_map, List.length_take]
          exact small1000 (by omega)
        · rw [upd_same, take_more hkn, List.map_append, List.map_append, List.map_append]
          rfl
    obtain ⟨e9, h9⟩ := hI
    rw [take_all (show kn.length ≤ wn.length by omega)] at h9
    refine ⟨D, _, rfl, sq_of h9, 1, _, rfl, rfl, .ref a, rfl, a, _, dx, _, rfl, e9 _ _ (e8 _ _ a7), T.cp, T.np "size" (by decide +kernel), (show 2 < 1000 by decide), ?_⟩
    have sumE : (1 : Int) + (((kn.map size).map fun n : Nat => (n : Int))).sum = (size (nd (short isZ bs) (short isN ks)) : Nat) := by
      have z : ∀ l : List Nat, (l.map fun n : Nat => (n : Int)).sum = ((l.sum : Nat) : Int) := fun l => by
        induction l with
        | nil => rfl
        | cons n r ih =>
          rw [List.map_cons, List.sum_cons, ih, List.sum_cons]
          omega
      rw [z, snd, size_nd]
      show _ = ((1 + sizeL (ks.take (keepN isN ks)) : Nat) : Int)
      omega
    dsimp only
    rw [putF_tail (by decide +kernel), putF_tail (by decide +kernel), sumE]
    have a10 : upd H9 a (.ins (ga K "Puzzle") dx (("bits", .ref r5) :: ("children", .ref r6) :: putF "size" (.int (size (nd (short isZ bs) (short isN ks)) : Nat)) [])) a = some (.ins (ga K "Puzzle") dx [("bits", .ref r5), ("children", .ref r6), ("size", .int (size (nd (short isZ bs) (short isN ks)) : Nat))]) := upd_same
    generalize hH10 : upd H9 a (.ins (ga K "Puzzle") dx (("bits", .ref r5) :: ("children", .ref r6) :: putF "size" (.int (size (nd (short isZ bs) (short isN ks)) : Nat)) [])) = H10 at a10
    have x910 : Xa a H9 H10 := by rw [← hH10]; exact Xa.upd
    have x10 : Xa a H H10 := (x7.trans (Xa.of (e8.trans e9))).trans x910
    have h8' := x910 N _ (fun e => by rw [e] at h8; rw [e8 _ _ a7] at h8; cases h8) (e9 _ _ h8)
    have pn10 : PzL K H10 wn kn := by
      have := (hk.kp (Kp.xa ha x10)).take (keepN isN ks)
      rw [← hWN, ← hKN]
      exact this.nodes
    -- depth
    refine ⟨.ref N, rfl, N, rfl, ⟨_, sq_of h8'⟩, fun D2 hD2 => ?_⟩
    refine lc_list (xs := wn) (fun i H' => Ex H10 H' ∧ H' D2 = some (.lst ((((kn.take i).map deep).map fun n : Nat => (n : Int)).map V.int))) ⟨Ex.new hD2, upd_same⟩ (fun i H' _ hI => sq_of (hI.1 _ _ h8')) (fun i x H' hx hI => ?_) (fun H11 hI => ?_)
    · obtain ⟨k1, k2⟩ := hI
      have hi := (List.getElem?_eq_some_iff.mp hx).1
      obtain ⟨c, k, rfl, hkn, hp⟩ := (pn10.kp (Kp.of k1)).ref nn hx
      cases hp with
      | mk e' b h' hb' hc' hk' =>
        refine ⟨rfl, yes_go ⟨.ref c, rfl, c, _, _, _, _, rfl, h', T.cp, T.np "depth" (by decide +kernel), rfl, _, k2, ?_, k1.mut hD2, ?_⟩⟩
        · rw [List.length_map, List.length_map, List.length_map, List.length_take]
          exact small1000 (by omega)
        · rw [upd_same, take_more hkn, List.map_append, List.map_append, List.map_append]
          rfl
    obtain ⟨e11, h11⟩ := hI
    rw [take_all (show kn.length ≤ wn.length by omega)] at h11
    refine ⟨D2, _, 0, rfl, rfl, sq_of h11, 1, _, rfl, rfl, .ref a, rfl, a, _, dx, _, rfl, e11 _ _ a10, T.cp, T.np "depth" (by decide +kernel), (show 3 < 1000 by decide), ?_⟩
    have depE : (1 : Int) + mxD 0 ((kn.map deep).map fun n : Nat => (n : Int)) = (deep (nd (short isZ bs) (short isN ks)) : Nat) := by
      rw [dnd, deep_nd]
      show _ = ((1 + deepL (ks.take (keepN isN ks)) : Nat) : Int)
      omega
    dsimp only
    rw [putF_tail (by decide +kernel), putF_tail (by decide +kernel), putF_tail (by decide +kernel), depE]
    have a12 : upd H11 a (.ins (ga K "Puzzle") dx (("bits", .ref r5) :: ("children", .ref r6) :: ("size", .int (size (nd (short isZ bs) (short isN ks)) : Nat)) :: putF "depth" (.int (deep (nd (short isZ bs) (short isN ks)) : Nat)) [])) a = some (.ins (ga K "Puzzle") dx [("bits", .ref r5), ("children", .ref r6), ("size", .int (size (nd (short isZ bs) (short isN ks)) : Nat)), ("depth", .int (deep (nd (short isZ bs) (short isN ks)) : Nat))]) := upd_same
    generalize hH12 : upd H11 a (.ins (ga K "Puzzle") dx (("bits", .ref r5) :: ("children", .ref r6) :: ("size", .int (size (nd (short isZ bs) (short isN ks)) : Nat)) :: putF "depth" (.int (deep (nd (short isZ bs) (short isN ks)) : Nat)) [])) = H12 at a12
    have x1112 : Xa a H11 H12 := by rw [← hH12]; exact Xa.upd
    have x12 : Xa a H H12 := (x10.trans (Xa.of e11)).trans x1112
    have g5a := tupx (e11 _ _ a10) x1112 (ex_t e11 (tupx (e9 _ _ (e8 _ _ a7)) x910 (ex_t (e8.trans e9) g5'')))
    have g6a := tupx (e11 _ _ a10) x1112 (ex_t e11 (tupx (e9 _ _ (e8 _ _ a7)) x910 (ex_t (e8.trans e9) g6'')))
    have p12 : PzL K H12 (ws.take (keepN isN ks)) (ks.take (keepN isN ks)) := (hk.kp (Kp.xa ha x12)).take _
    -- not too great
    have sn : size (nd (short isZ bs) (short isN ks)) = 1 + sizeL (ks.take (keepN isN ks)) := size_nd _ _
    have dn : deep (nd (short isZ bs) (short isN ks)) = 1 + deepL (ks.take (keepN isN ks)) := deep_nd _ _
    have hsh : short isN ks = ks.take (keepN isN ks) := rfl
    by_cases hgr : 500 < 1 + sizeL (short isN ks) ∨ 30 < 1 + deepL (short isN ks)
    · refine q_when (b := true) (et_is (et_or (a := decide ((500 : Int) < (size (nd (short isZ bs) (short isN ks)) : Nat))) (b := decide ((30 : Int) < (deep (nd (short isZ bs) (short isN ks)) : Nat))) (et_test (ev_op (ev_fld (ev_var rfl) a12 T.cp (T.np "size" (by decide +kernel)) rfl) ev_c rv_I0)) (fun _ => et_test (ev_op (ev_fld (ev_var rfl) a12 T.cp (T.np "depth" (by decide +kernel)) rfl) ev_c rv_I0))) ?_) (fun _ H13 e13b => kgr hgr H13 (x12.trans (Xa.of e13b))) (fun hb => nomatch hb)
      rw [Bool.or_eq_true, decide_eq_true_eq, decide_eq_true_eq, sn, dn, ← hsh]
      omega
    replace kk := kk hgr
    have zs : 1 + sizeL (ks.take (keepN isN ks)) ≤ 500 := by rw [← hsh]; omega
    have zd : 1 + deepL (ks.take (keepN isN ks)) ≤ 30 := by rw [← hsh]; omega
    refine q_when (b := false) (et_is (et_or (a := false) (b := false) (et_is (a := decide ((500 : Int) < (size (nd (short isZ bs) (short isN ks)) : Nat))) (et_test (ev_op (ev_fld (ev_var rfl) a12 T.cp (T.np "size" (by decide +kernel)) rfl) ev_c rv_I0)) (decide_eq_false (by omega))) (fun _ => et_is (a := decide ((30 : Int) < (deep (nd (short isZ bs) (short isN ks)) : Nat))) (et_test (ev_op (ev_fld (ev_var rfl) a12 T.cp (T.np "depth" (by decide +kernel)) rfl) ev_c rv_I0)) (decide_eq_false (by omega)))) rfl) (fun hb => nomatch hb) (fun _ H13 e13b => ?_)
    -- the spelling
    have a13 := e13b _ _ a12
    have sb : ∀ b ∈ short isZ bs, b = 0 ∨ b = 1 := fun b hb => h01 b (List.mem_of_mem_take hb)
    have lsb : (short isZ bs).length ≤ 60 := by
      unfold short
      rw [List.length_take]
      omega
    refine ⟨.ref a, rfl, a, _, dx, _, .ref r5, rfl, a13, T.cp, T.np "bits" (by decide +kernel), rfl, .ref a, rfl, a, _, dx, _, .ref r6, rfl, a13, T.cp, T.np "children" (by decide +kernel), rfl, r5, r6, short isZ bs, ws.take (keepN isN ks), short isN ks, rfl, ex_t e13b g5a, sb, lsb, ex_t e13b g6a, p12.kp (Kp.of e13b), lks, (by show sizeL (ks.take (keepN isN ks)) ≤ 500; omega), fun H14 e14b => ?_⟩
    refine ⟨.ref a, rfl, a, _, dx, _, rfl, e14b _ _ a13, T.cp, T.np "spelling" (by decide +kernel), (show 4 < 1000 by decide), ?_⟩
    rw [putF_tail (by decide +kernel), putF_tail (by decide +kernel), putF_tail (by decide +kernel), putF_tail (by decide +kernel)]
    have x1415 : Xa a H14 (upd H14 a (.ins (ga K "Puzzle") dx (("bits", .ref r5) :: ("children", .ref r6) :: ("size", .int (size (nd (short isZ bs) (short isN ks)) : Nat)) :: ("depth", .int (deep (nd (short isZ bs) (short isN ks)) : Nat)) :: putF "spelling" (.str (spell (nd (short isZ bs) (short isN ks)))) []))) := Xa.upd
    have x15 := (x12.trans (Xa.of (e13b.trans e14b))).trans x1415
    have bdk : Bd 60 600 (nd (short isZ bs) (short isN ks)) := .mk rfl lsb sb lks (hk.bd.take _)
    exact kk _ x15 (.mk rfl bdk upd_same (tupx (e14b _ _ a13) x1415 (ex_t (e13b.trans e14b) g5a)) (tupx (e14b _ _ a13) x1415 (ex_t (e13b.trans e14b) g6a)) ((hk.kp (Kp.xa ha x15)).take _))

end
end K10
set_option Elab.async false
set_option linter.all false
set_option maxRecDepth 100000
set_option maxHeartbeats 8000000
namespace K10
open PySem PySem.Spec PyProof.Rows L2 He XH XV XR PEN TR XQ PZ Evl

open XO RP

def decs (cs : List Nat) : List Int := (cs.filter fun c => !decide (c = 46)).map fun c => ((c : Nat) : Int) - 48
theorem decs_dgc {bs : List Int} (h : ∀ b ∈ bs, b = 0 ∨ b = 1) : decs (dgc bs) = bs := by
  unfold dgc
  by_cases e : bs = []
  · rw [if_pos e, e]
    rfl
  · rw [if_neg e]
    clear e
    induction bs with
    | nil => rfl
    | cons b r ih =>
      have hr := ih fun x hx => h x (List.mem_cons_of_mem _ hx)
      rcases h b List.mem_cons_self with rfl | rfl
      · show (0 : Int) :: decs (r.map dg) = _
        rw [hr]
      · show (1 : Int) :: decs (r.map dg) = _
        rw [hr]
theorem decs_more {cs : List Nat} {i c : Nat} (h : cs[i]? = some c) : decs (cs.take (i + 1)) = decs (cs.take i) ++ (if c = 46 then [] else [((c : Nat) : Int) - 48]) := by
  unfold decs
  rw [take_more h, List.filter_append, List.map_append]
  by_cases e : c = 46
  · rw [if_pos e]
    simp [e]
  · rw [if_neg e]
    simp [e]
theorem dot_dec (c : Nat) : decide (V.str (sgn c) = V.str ".") = decide (c = 46) := by
  by_cases e : c = 46
  · subst e
    decide +kernel
  · rw [decide_eq_false e]
    refine decide_eq_false fun q => e ?_
    injection q with q
    have q2 : cd (sgn c) = cd "." := by rw [q]
    have q3 : cd "." = [46] := by decide +kernel
    rw [q3] at q2
    injection q2
theorem str_is (s t : Str) : decide (V.str s = V.str t) = decide (cd s = cd t) := by
  by_cases e : s = t
  · rw [e, decide_eq_true rfl, decide_eq_true rfl]
  · rw [decide_eq_false (fun q => e (by injection q)), decide_eq_false (fun q => e (str_ext q))]
theorem mark_cd : cd ")" = [41] ∧ cd "(" = [40] ∧ cd "-" = [45] := by decide +kernel
theorem q_cutE {te : TE} {σ : L2.St} {H : Hp} {v : V} {Q : VK} (h : Ev te σ H v) (k : ∀ H1, Ex H H1 → Q v H1) : te σ H Q := h H (Ex.refl H) Q k
theorem dgc_marks (bs : List Int) : dgc bs ≠ [41] ∧ dgc bs ≠ [40] ∧ dgc bs ≠ [45] := by
  refine ⟨fun e => ?_, fun e => ?_, fun e => ?_⟩
  · have := dgc_plain bs 41 (by rw [e]; exact List.mem_cons_self)
    omega
  · have := dgc_plain bs 40 (by rw [e]; exact List.mem_cons_self)
    omega
  · have := dgc_plain bs 45 (by rw [e]; exact List.mem_cons_self)
    omega

section
variable {P : Program} {w : World} {K : PySem.W.Frag} {mg : Str → Option Value} {base : Heap}

theorem ok_read_puzzle {fd : FuncData} (F : FnP K "read_puzzle" "read_puzzle" s_read_puzzle (ga K "read_puzzle") fd) (T : T9 K w mg) (c_check_spelling : Cl P w K mg base (L2.CX P w) 3 (ga K "check_spelling") ["text"] (spCheck K)) (c_init : Cl P w K mg base (L2.CX P w) 3 (ma K (ga K "Puzzle") "__init__") ["self", "bits", "children"] (spInitG K)) : FnOk P w K mg base (L2.CX P w) (5 + 1) (ga K "read_puzzle") fd ["text"] (spRead K) := by
  obtain ⟨fd_check_spelling, G_check_spelling, b_check_spelling, kp_check_spelling⟩ := c_check_spelling
  obtain ⟨fd_init, G_init, b_init, kp_init⟩ := c_init
  refine RP.FunD.okT F sc_read_puzzle (by decide +kernel) (by decide) (fun vs H Q E h => ?_) (fun cdv A outer s H vs Q E hr h => ?_)
  · obtain ⟨z, rfl, _⟩ := h
    rfl
  · obtain ⟨z, rfl, lz, kb, kg⟩ := h
    have g_check_spelling := T.gl "check_spelling" (by decide +kernel)
    have g_Puzzle := T.gl "Puzzle" (by decide +kernel)
    have n_int := T.fr "int" (by decide +kernel)
    refine ⟨_, (psst_cons (PST.of (ps_expr (pe_call G_check_spelling (hr.mono (by decide)) (by rfl) g_check_spelling kp_check_spelling b_check_spelling .nil (passes_call (takes_of rfl rfl rfl rfl) (fun _ _ _ _ h => h)) (pa_cons (pv 0) pa_nil)))) (psst_cons (RP.pst_set (i := 1) sc_read_puzzle.nd rfl (Or.inl rfl) (RP.pet_words (CwR.pet_replT (CwR.pet_replT (CwR.pet_replC (pv 0))))))
      (PSsT.of (pss_cons (ps_set (i := 2) sc_read_puzzle.nd rfl (Or.inl rfl) (pe_lst (pa_cons (pe_lst pa_nil) pa_nil)))
      (pss_cons (ps_set (i := 3) sc_read_puzzle.nd rfl (Or.inl rfl) (pe_lst pa_nil))
      (pss_cons (ps_for (passes_of rfl) rfl (pi_list (pe_revL (pv 1))) (pg_name (i := 4) sc_read_puzzle.nd rfl (Or.inl rfl))
      (pss_one (ps_if (pt_cmpR op_eq (pv 4) pe_str (nomark _))
      (pss_one (ps_expr (pe_bm PySem.F.plainAttrs_list PySem.F.slot_list_append PySem.F.type_list_append mt_append (pv 2) (pa_cons (pe_lst pa_nil) pa_nil))))
      (pss_one (ps_if (pt_cmpR op_eq (pv 4) pe_str (nomark _))
      (pss_one (ps_set (i := 3) sc_read_puzzle.nd rfl (Or.inl rfl) (pe_revL (pe_bm0 PySem.F.plainAttrs_list PySem.F.slot_list_pop PySem.F.type_list_pop mt_pop (pv 2)))))
      (pss_one (ps_if (pt_cmpR op_eq (pv 4) pe_str (nomark _))
      (pss_one (ps_expr (pe_bm PySem.F.plainAttrs_list PySem.F.slot_list_append PySem.F.type_list_append mt_append (pe_ix ix_list (pv 2) (pe_un un_neg pe_int) (fun _ _ => rfl)) (pa_cons pe_non pa_nil))))
      (pss_cons (ps_expr (pe_bm PySem.F.plainAttrs_list PySem.F.slot_list_append PySem.F.type_list_append mt_append (pe_ix ix_list (pv 2) (pe_un un_neg pe_int) (fun _ _ => rfl)) (pa_cons (pe_make T.mp G_init (hr.mono (by decide)) (by rfl) g_Puzzle b_init .nil (passes_call (takes_of rfl rfl rfl rfl) (fun _ _ _ _ h => h)) (pa_cons (pe_lc (own := [("digit", 5)]) (g := gName 5) (by rfl) sc_read_puzzle.nd (pi_str (pv 4)) (blkOk_by (own := [("digit", 5)]) (N := ["text", "words", "families", "children", "word", "digit"]) (sc := defScope s_read_puzzle) (by decide +kernel)) (fun _ _ _ _ _ => (pg_name (i := 5) sc_read_puzzle.nd rfl (Or.inl rfl))) (fun _ _ _ _ _ => (pts_one (pt_cmpR op_ne (pv 5) pe_str (nomark _)))) (fun _ _ _ _ _ => (pe_callTy call_int_str (by rfl) n_int (by decide +kernel) (pa_cons (pv 5) pa_nil)))) (pa_cons (pv 3) pa_nil))) pa_nil)))
      (pss_one (ps_set (i := 3) sc_read_puzzle.nd rfl (Or.inl rfl) (pe_lst pa_nil)))))))))))
      (pss_one (ps_ret (pe_ix ix_list (pe_ix ix_list (pv 2) pe_int (fun _ _ => rfl)) pe_int (fun _ _ => rfl)))))))))), ?_⟩
    refine ⟨.str z, rfl, z, rfl, by omega, fun hacc H1 e1 => ?_, fun hacc d H1 e1 hd => kb hacc d H1 e1 hd⟩
    obtain ⟨d, hz, hbd, kq, ke⟩ := kg hacc
    have b1 := TK.replace_len z "(" " ( "
    have b2 := TK.replace_len (Txt.replace z "(" " ( ") ")" " ) "
    have b3 := TK.replace_len (Txt.replace (Txt.replace z "(" " ( ") ")" " ) ") "," " "
    have l1 : (" ( " : Str).length = 3 ∧ (" ) " : Str).length = 3 ∧ (" " : Str).length = 1 := by decide +kernel
    rw [l1.1] at b1
    rw [l1.2.1] at b2
    rw [l1.2.2] at b3
    refine ⟨.str z, rfl, z, rfl, by rw [l1.1]; omega, _, rfl, by rw [l1.2.1]; omega, _, rfl, by rw [l1.2.2]; omega, ⟨_, rfl⟩, _, rfl, rfl, (by rw [sizeLine_eq]; omega), fun Wd hWd => ?_⟩
    have hwd := words_spell hbd
    rw [← hz] at hwd
    have lws : (Txt.words (subT z)).length ≤ 90000 := by
      have f1 := fact_words (subT z)
      have f2 := sub_len (cd z)
      rw [← subT_cd, ← len_cd, ← len_cd] at f2
      omega
    generalize hww : Txt.words (subT z) = ws at hwd lws
    rw [show Txt.words (Txt.replace (Txt.replace (Txt.replace z "(" " ( ") ")" " ) ") "," " ") = ws from hww]
    clear b1 b2 b3 hww
    refine ⟨(show 0 ≤ sizeLine by decide), fun l1 hl1 => ⟨(show 1 ≤ sizeLine by decide), fun F hF => ⟨(show 0 ≤ sizeLine by decide), fun C hC => ?_⟩⟩⟩
    try dsimp only [gName, List.set]
    have x1 := Ex.new (o := .lst (ws.map V.str)) hWd
    have x2 := Ex.new (o := .lst []) hl1
    have x3 := Ex.new (o := .lst [.ref l1]) hF
    have x4 := Ex.new (o := .lst []) hC
    refine ⟨.ref Wd, rfl, Wd, ws.map V.str, rfl, sq_of (x4 _ _ (x3 _ _ (x2 _ _ upd_same))), fun R hR => ?_⟩
    have x5 := Ex.new (o := .lst (ws.map V.str).reverse) hR
    have x13 := (x1.trans x2).trans x3
    have gF : upd (upd (upd H1 Wd (.lst (ws.map V.str))) l1 (.lst [])) F (.lst [.ref l1]) F = some (.lst [.ref l1]) := upd_same
    have gl : upd (upd (upd H1 Wd (.lst (ws.map V.str))) l1 (.lst [])) F (.lst [.ref l1]) l1 = some (.lst []) := x3 _ _ upd_same
    have gC : upd (upd (upd (upd H1 Wd (.lst (ws.map V.str))) l1 (.lst [])) F (.lst [.ref l1])) C (.lst []) C = some (.lst []) := upd_same
    have nl1 : H1 l1 = none := fresh_back x1 hl1
    have nF : H1 F = none := fresh_back (x1.trans x2) hF
    have lF : l1 ≠ F := fun q => by
      rw [← q, upd_same] at hF
      cases hF
    have lC : l1 ≠ C := ne_of_none gl hC
    have CF : C ≠ F := (ne_of_none gF hC).symm
    have lR : l1 ≠ R := ne_of_none (x4 _ _ gl) hR
    have RF : R ≠ F := (ne_of_none (x4 _ _ gF) hR).symm
    have m0 : Fm K H1 (upd (upd (upd (upd (upd H1 Wd (.lst (ws.map V.str))) l1 (.lst [])) F (.lst [.ref l1])) C (.lst [])) R (.lst (ws.map V.str).reverse)) F C R (ws.map V.str).reverse [(l1, [], [])] [] 0 :=
      { ex := (x13.trans x4).trans x5, hF := x5 _ _ (x4 _ _ gF), nF := nF, hR := upd_same, RF := RF, hC := ⟨[], x5 _ _ gC, .nil⟩, CF := CF
        fam := fun t ht => by
          rw [List.mem_singleton.mp ht]
          exact ⟨x5 _ _ (x4 _ _ gl), .nil, nl1, lF, lC, lR⟩
        nd := by simp
        bL := Nat.le_refl _
        bf := fun t ht => by
          rw [List.mem_singleton.mp ht]
          exact Nat.zero_le _
        bc := Nat.zero_le _ }
    generalize (upd (upd (upd (upd (upd H1 Wd (.lst (ws.map V.str))) l1 (.lst [])) F (.lst [.ref l1])) C (.lst [])) R (.lst (ws.map V.str).reverse)) = H5 at m0
    clear x1 x2 x3 x4 x5 x13 gF gl gC nl1 lF lC CF lR RF hR hC hF hl1 hWd
    -- what is to come out
    obtain ⟨tg, hgood, htg⟩ : ∃ tg, Good tg [[]] [] (toks d).reverse ∧ ((tg = some (trim d) ∧ Ok d) ∨ (tg = none ∧ ¬ Ok d)) := by
      by_cases ho : Ok d
      · exact ⟨_, good_ok (by decide) hbd ho, .inl ⟨rfl, ho⟩⟩
      · exact ⟨_, good_no (by decide) hbd ho, .inr ⟨rfl, ho⟩⟩
    have lrev : (ws.map V.str).reverse.length = ws.length := by rw [List.length_reverse, List.length_map]
    refine ⟨R, rfl, ⟨_, sq_of m0.hR⟩, ?_⟩
    refine for_list (xs := (ws.map V.str).reverse) (fun i σ' H' => ∃ (C : Addr) (L : List Fy) (ch : List PyData) (v4 v5 : Option V), σ' = [some (.str z), some (.ref Wd), some (.ref F), some (.ref C), v4, v5] ∧ Fm K H1 H' F C R (ws.map V.str).reverse L ch i ∧ i ≤ ws.length ∧ Good tg (L.map (fun t : Fy => t.2.2)) ch ((toks d).reverse.drop i)) ⟨C, _, _, _, _, rfl, m0, Nat.zero_le _, hgood⟩ (fun i σ' H' _ hI => ?_) (fun i x σ' H3 hx hI => ?_) (fun σ' H' hI => ?_)
    · obtain ⟨_, _, _, _, _, _, m, _⟩ := hI
      exact sq_of m.hR
    · clear m0 hgood
      obtain ⟨C, L, ch, v4, v5, rfl, m, hi, hgd⟩ := hI
      have hlt := (List.getElem?_eq_some_iff.mp hx).1
      rw [lrev] at hlt
      rw [← List.map_reverse, List.getElem?_map] at hx
      cases hs : ws.reverse[i]? with
      | none =>
        rw [hs] at hx
        cases hx
      | some s' =>
      rw [hs] at hx
      cases hx
      have htok : (toks d).reverse[i]? = some (cd s') := by
        rw [← hwd, ← List.map_reverse, List.getElem?_map, hs]
        rfl
      have hdrop : (toks d).reverse.drop i = cd s' :: (toks d).reverse.drop (i + 1) := by
        obtain ⟨h1, h2⟩ := List.getElem?_eq_some_iff.mp htok
        rw [List.drop_eq_getElem_cons h1, h2]
      rw [hdrop] at hgd
      generalize (toks d).reverse.drop (i + 1) = rst at hgd
      clear hdrop htok hs
      try dsimp only [gName, List.set]
      have tst : ∀ {H4 : Hp} (k : Str) (c : Nat), cd k = [c] → EvT (tTest (tOp rEq (tVar 4) (tC (.str k)))) [some (.str z), some (.ref Wd), some (.ref F), some (.ref C), some (.str s'), v5] H4 (decide (cd s' = [c])) := fun k c hk => et_is (et_test (ev_op (ev_var rfl) ev_c (rv_eq rfl))) (by rw [str_is, hk])
      generalize hw : cd s' = w at hgd tst
      cases hgd with
      | close hg =>
        refine s_if (b := true) (et_is (tst ")" 41 mark_cd.1) (by decide)) (fun _ H4 e4 => ?_) (fun q => nomatch q)
        have m4 := m.mono e4
        refine ⟨.ref F, rfl, .inl ⟨rfl, _, sq_of m4.hF⟩, (show 0 ≤ sizeLine by decide), fun p hp => ⟨F, _, .ref p, rfl, rfl, Ex.new hp _ _ m4.hF, ?_, C, L ++ [(p, [], [])], ch, _, _, rfl, m4.push hp, hlt, ?_⟩⟩
        · rw [List.length_map]
          have := m.bL
          rw [sizeLine_eq]
          omega
        · rw [List.map_append]
          exact hg
      | @opens _ S f _ _ hfs hg =>
        obtain ⟨L', t, rfl, hS, hf⟩ := Fm.last rfl hfs
        refine s_if (b := false) (et_is (tst ")" 41 mark_cd.1) (by decide)) (fun q => nomatch q) (fun _ H4 e4 => ?_)
        refine s_if (b := true) (et_is (tst "(" 40 mark_cd.2.1) (by decide)) (fun _ H5 e5 => ?_) (fun q => nomatch q)
        have m4 := m.mono (e4.trans e5)
        have tt := m4.fam t (List.mem_append_right _ List.mem_cons_self)
        refine ⟨.ref F, rfl, .inl ⟨rfl, _, sq_of m4.hF⟩, F, _, .ref t.1, rfl, rfl, m4.hF, ?_, t.1, t.2.1, rfl, sq_of ((upd_ne tt.2.2.2.1).trans tt.1), fun q hq => ⟨q, L', _, _, _, rfl, m4.pop hq, hlt, ?_⟩⟩
        · rw [List.map_append, List.length_append]
          simp
        · rw [hS, hf]
          exact hg
      | @dash _ S f _ _ hfs hg =>
        obtain ⟨L', t, rfl, hS, hf⟩ := Fm.last rfl hfs
        refine s_if (b := false) (et_is (tst ")" 41 mark_cd.1) (by decide)) (fun q => nomatch q) (fun _ H4 e4 => ?_)
        refine s_if (b := false) (et_is (tst "(" 40 mark_cd.2.1) (by decide)) (fun q => nomatch q) (fun _ H5 e5 => ?_)
        refine s_if (b := true) (et_is (tst "-" 45 mark_cd.2.2) (by decide)) (fun _ H6 e6 => ?_) (fun q => nomatch q)
        have m4 := m.mono ((e4.trans e5).trans e6)
        have tt := m4.fam t (List.mem_append_right _ List.mem_cons_self)
        have bft := m4.bf t (List.mem_append_right _ List.mem_cons_self)
        have lt2 := tt.2.1.len
        have atl : atI ((L' ++ [t]).map fun t => V.ref t.1) (-1) = some (.ref t.1) := by
          rw [List.map_append]
          exact atI_last _ _
        refine s_app (K := K) (l := t.1) (xs := t.2.1) tt.1 (ev_op (ev_var rfl) (ev_un ev_c (fun H7 e7 Q7 q7 => ⟨1, rfl, q7 H7 (Ex.refl _)⟩)) (rv_ixL (sq_of m4.hF) atl)) ev_c (by omega) fun H7 e7 => ⟨C, L' ++ [(t.1, t.2.1 ++ [.non], t.2.2 ++ [.none])], ch, _, _, rfl, (m4.mono e7).add (.non .nil), hlt, ?_⟩
        rw [List.map_append, hS]
        show Good tg (S ++ [t.2.2 ++ [.none]]) ch rst
        rw [hf]
        exact hg
      | @node _ S f _ _ bs hfs h1 h2 h3 hnb hg =>
        obtain ⟨L', t, rfl, hS, hf⟩ := Fm.last rfl hfs
        obtain ⟨d1, d2, d3⟩ := dgc_marks bs
        refine s_if (b := false) (et_is (tst ")" 41 mark_cd.1) (decide_eq_false d1)) (fun q => nomatch q) (fun _ H4 e4 => ?_)
        refine s_if (b := false) (et_is (tst "(" 40 mark_cd.2.1) (decide_eq_false d2)) (fun q => nomatch q) (fun _ H5 e5 => ?_)
        refine s_if (b := false) (et_is (tst "-" 45 mark_cd.2.2) (decide_eq_false d3)) (fun q => nomatch q) (fun _ H6 e6 => ?_)
        have m6 := m.mono ((e4.trans e5).trans e6)
        have tt := m6.fam t (List.mem_append_right _ List.mem_cons_self)
        have bft := m6.bf t (List.mem_append_right _ List.mem_cons_self)
        have lt2 := tt.2.1.len
        have atl : atI ((L' ++ [t]).map fun t => V.ref t.1) (-1) = some (.ref t.1) := by
          rw [List.map_append]
          exact atI_last _ _
        refine q_cutE (ev_op (r := rIxL K) (ev_var rfl) (ev_un (r := rU fun i => .int (-i)) ev_c (fun H7 e7 Q7 q7 => ⟨1, rfl, q7 H7 (Ex.refl _)⟩)) (rv_ixL (sq_of m6.hF) atl)) fun H7 e7 => ?_
        have m7 := m6.mono e7
        have tt7 := m7.fam t (List.mem_append_right _ List.mem_cons_self)
        refine ⟨.inl ⟨rfl, _, sq_of tt7.1⟩, .str s', rfl, s', rfl, fun B hB => ?_⟩
        have hdec := decs_dgc h2
        have hsz : (cd s').length = s'.cps.size := by simp [cd]
        refine lc_it (walk_str (z := s')) (fun j H' => Ex H7 H' ∧ H' B = some (.lst ((decs ((dgc bs).take j)).map V.int))) ⟨Ex.new hB, upd_same⟩ (fun j H' _ hI => trivial) (fun j x H' H'' hj hI hy => ?_) (fun H8 hI => ?_)
        · obtain ⟨k1, k2⟩ := hI
          obtain ⟨rfl, c, hc, rfl⟩ := hy
          have hc2 : (dgc bs)[j]? = some c := by
            rw [← hw]
            show s'.cps.toList[j]? = some c
            rw [Array.getElem?_toList]
            exact hc
          have hl := (List.getElem?_eq_some_iff.mp hc2).1
          have hcp := dgc_plain bs c (List.mem_of_getElem? hc2)
          have more := decs_more hc2
          have ll : (decs ((dgc bs).take j)).length ≤ 90000 := by
            have a1 : (decs ((dgc bs).take j)).length ≤ ((dgc bs).take j).length := by
              unfold decs
              rw [List.length_map]
              exact List.length_filter_le _ _
            have a2 : (dgc bs).length ≤ 61 := by
              unfold dgc
              by_cases q : bs = []
              · rw [if_pos q]
                decide
              · rw [if_neg q, List.length_map]
                omega
            rw [List.length_take] at a1
            omega
          refine ⟨rfl, go_test (b := !decide (c = 46)) (et_is (et_test (ev_op (ev_var rfl) ev_c (rv_ne rfl))) (by rw [← dot_dec]; rfl)) fun H9 e9 => ?_⟩
          refine ite2 (fun hq => ?_) (fun hq => ?_)
          · have hc3 : ¬ c = 46 := by simpa using hq
            have hn : PySem.intText? (sgn c) = some (((c : Nat) : Int) - 48) := by
              rcases hcp with z | z | z
              · exact absurd z hc3
              · rw [z]
                decide +kernel
              · rw [z]
                decide +kernel
            refine ⟨.str (sgn c), rfl, sgn c, _, rfl, hn, (show 1 ≤ 640 by decide), _, e9 _ _ k2, ?_, (k1.trans e9).mut hB, ?_⟩
            · rw [List.length_map, sizeLine_eq]
              omega
            · rw [upd_same, more, if_neg hc3, List.map_append]
              rfl
          · have hc3 : c = 46 := by simpa using hq
            refine ⟨k1.trans e9, ?_⟩
            rw [e9 _ _ k2, more, if_pos hc3, List.append_nil]
        obtain ⟨k8, g8⟩ := hI
        rw [← hsz, hw, List.take_of_length_le (Nat.le_refl _), hdec] at g8
        have m8 := m7.mono k8
        obtain ⟨wc, hC8, pC8⟩ := m8.hC
        refine ⟨.ref C, rfl, ?_⟩
        refine make_goG (K := K) (.inl (sq_of g8)) h2 h1 (.inl (sq_of hC8)) pC8 h3 (fun hb => absurd hb hnb) fun _ b H9 _ e9 pb => ?_
        have m9 := m8.mono e9
        have tt9 := m9.fam t (List.mem_append_right _ List.mem_cons_self)
        refine ⟨t.1, t.2.1, .ref b, rfl, rfl, tt9.1, (by rw [sizeLine_eq]; omega), (show 0 ≤ sizeLine by decide), fun C2 hC2 => ?_⟩
        refine ⟨C2, _, [], _, _, rfl, (m9.add (.one pb .nil)).fresh hC2, hlt, ?_⟩
        rw [List.map_append, hS]
        show Good tg (S ++ [t.2.2 ++ [_]]) [] rst
        rw [hf]
        exact hg
      | @great _ S f _ _ bs hfs h1 h2 h3 hb ht =>
        obtain ⟨L', t, rfl, hS, hf⟩ := Fm.last rfl hfs
        obtain ⟨d1, d2, d3⟩ := dgc_marks bs
        refine s_if (b := false) (et_is (tst ")" 41 mark_cd.1) (decide_eq_false d1)) (fun q => nomatch q) (fun _ H4 e4 => ?_)
        refine s_if (b := false) (et_is (tst "(" 40 mark_cd.2.1) (decide_eq_false d2)) (fun q => nomatch q) (fun _ H5 e5 => ?_)
        refine s_if (b := false) (et_is (tst "-" 45 mark_cd.2.2) (decide_eq_false d3)) (fun q => nomatch q) (fun _ H6 e6 => ?_)
        have m6 := m.mono ((e4.trans e5).trans e6)
        have tt := m6.fam t (List.mem_append_right _ List.mem_cons_self)
        have bft := m6.bf t (List.mem_append_right _ List.mem_cons_self)
        have lt2 := tt.2.1.len
        have atl : atI ((L' ++ [t]).map fun t => V.ref t.1) (-1) = some (.ref t.1) := by
          rw [List.map_append]
          exact atI_last _ _
        refine q_cutE (ev_op (r := rIxL K) (ev_var rfl) (ev_un (r := rU fun i => .int (-i)) ev_c (fun H7 e7 Q7 q7 => ⟨1, rfl, q7 H7 (Ex.refl _)⟩)) (rv_ixL (sq_of m6.hF) atl)) fun H7 e7 => ?_
        have m7 := m6.mono e7
        have tt7 := m7.fam t (List.mem_append_right _ List.mem_cons_self)
        refine ⟨.inl ⟨rfl, _, sq_of tt7.1⟩, .str s', rfl, s', rfl, fun B hB => ?_⟩
        have hdec := decs_dgc h2
        have hsz : (cd s').length = s'.cps.size := by simp [cd]
        refine lc_it (walk_str (z := s')) (fun j H' => Ex H7 H' ∧ H' B = some (.lst ((decs ((dgc bs).take j)).map V.int))) ⟨Ex.new hB, upd_same⟩ (fun j H' _ hI => trivial) (fun j x H' H'' hj hI hy => ?_) (fun H8 hI => ?_)
        · obtain ⟨k1, k2⟩ := hI
          obtain ⟨rfl, c, hc, rfl⟩ := hy
          have hc2 : (dgc bs)[j]? = some c := by
            rw [← hw]
            show s'.cps.toList[j]? = some c
            rw [Array.getElem?_toList]
            exact hc
          have hl := (List.getElem?_eq_some_iff.mp hc2).1
          have hcp := dgc_plain bs c (List.mem_of_getElem? hc2)
          have more := decs_more hc2
          have ll : (decs ((dgc bs).take j)).length ≤ 90000 := by
            have a1 : (decs ((dgc bs).take j)).length ≤ ((dgc bs).take j).length := by
              unfold decs
              rw [List.length_map]
              exact List.length_filter_le _ _
            have a2 : (dgc bs).length ≤ 61 := by
              unfold dgc
              by_cases q : bs = []
              · rw [if_pos q]
                decide
              · rw [if_neg q, List.length_map]
                omega
            rw [List.length_take] at a1
            omega
          refine ⟨rfl, go_test (b := !decide (c = 46)) (et_is (et_test (ev_op (ev_var rfl) ev_c (rv_ne rfl))) (by rw [← dot_dec]; rfl)) fun H9 e9 => ?_⟩
          refine ite2 (fun hq => ?_) (fun hq => ?_)
          · have hc3 : ¬ c = 46 := by simpa using hq
            have hn : PySem.intText? (sgn c) = some (((c : Nat) : Int) - 48) := by
              rcases hcp with z | z | z
              · exact absurd z hc3
              · rw [z]
                decide +kernel
              · rw [z]
                decide +kernel
            refine ⟨.str (sgn c), rfl, sgn c, _, rfl, hn, (show 1 ≤ 640 by decide), _, e9 _ _ k2, ?_, (k1.trans e9).mut hB, ?_⟩
            · rw [List.length_map, sizeLine_eq]
              omega
            · rw [upd_same, more, if_neg hc3, List.map_append]
              rfl
          · have hc3 : c = 46 := by simpa using hq
            refine ⟨k1.trans e9, ?_⟩
            rw [e9 _ _ k2, more, if_pos hc3, List.append_nil]
        obtain ⟨k8, g8⟩ := hI
        rw [← hsz, hw, List.take_of_length_le (Nat.le_refl _), hdec] at g8
        have m8 := m7.mono k8
        obtain ⟨wc, hC8, pC8⟩ := m8.hC
        refine ⟨.ref C, rfl, ?_⟩
        refine make_goG (K := K) (.inl (sq_of g8)) h2 h1 (.inl (sq_of hC8)) pC8 h3 (fun _ H9 e9 => ?_) (fun hn => absurd hb hn)
        rcases htg with ⟨e1', _⟩ | ⟨_, hno⟩
        · rw [e1'] at ht
          cases ht
        · exact ke hno H9 ((e1.trans m8.ex).trans e9)
    · obtain ⟨C, L, ch, v4, v5, rfl, m, hi, hgd⟩ := hI
      rw [lrev] at m hgd
      have ll : (toks d).reverse.length = ws.length := by rw [List.length_reverse, ← hwd, List.length_map]
      rw [List.drop_of_length_le (by omega)] at hgd
      generalize hnil : ([] : List (List Nat)) = nl at hgd
      cases hgd with
      | @nil _ _ t ht hfs =>
        rcases htg with ⟨e1', ho⟩ | ⟨e1', _⟩
        · rw [e1'] at ht
          cases ht
          obtain ⟨L', t, rfl, hS, hf⟩ := Fm.last (S := []) rfl hfs
          have tt := m.fam t (List.mem_append_right _ List.mem_cons_self)
          have hl0 : L' = [] := List.map_eq_nil_iff.mp hS
          subst hl0
          rw [hf] at tt
          obtain ⟨h1, h2, _⟩ := tt
          have hF := m.hF
          rw [List.nil_append] at hF
          cases hw2 : t.2.1 with
          | nil =>
            rw [hw2] at h2
            cases h2
          | cons y r =>
          rw [hw2] at h1 h2
          have nt := (bd_trim hbd).ne
          have kq2 := kq ho
          generalize trim d = td at h2 nt kq2
          cases h2 with
          | non => exact absurd rfl nt
          | @one c _ _ _ hp hr =>
            dsimp only
            refine s_ret (v := .ref c) (ev_op (ev_op (ev_var rfl) ev_c (rv_ixL (sq_of hF) (atI_nat (j := 0) rfl))) ev_c (rv_ixL (sq_of h1) (atI_nat (j := 0) rfl))) fun H6 e6 => kq2 c H6 ((e1.trans m.ex).trans e6) (hp.kp (Kp.of e6))
        · rw [e1'] at ht
          cases ht
      | close => cases hnil
      | opens => cases hnil
      | dash => cases hnil
      | node => cases hnil
      | great => cases hnil

end
end K10
set_option Elab.async false
set_option linter.all false
set_option maxRecDepth 100000
set_option maxHeartbeats 8000000
namespace K10
open PySem PySem.Spec PyProof.Rows L2 He XH XV XR PEN TR XQ PZ Evl

open XO RP

theorem sIx_cut (z : Str) (i j : Nat) : cd (cutS z (some ((i : Nat) : Int)) (some ((j : Nat) : Int))) = ((cd z).drop i).take (j - i) := by
  show ((z.cps.toList.drop (HT.sIx z.length 0 (some (i : Int)))).take (HT.sIx z.length z.length (some (j : Int)) - HT.sIx z.length 0 (some (i : Int)))) = _
  rw [HT.sIx_nat, HT.sIx_nat]
  show ((cd z).drop (min i z.length)).take (min j z.length - min i z.length) = _
  have hl := len_cd z
  rcases Nat.le_total i z.length with h | h
  · rw [Nat.min_eq_left h]
    rcases Nat.le_total j z.length with h2 | h2
    · rw [Nat.min_eq_left h2]
    · rw [Nat.min_eq_right h2, List.take_of_length_le (by rw [List.length_drop]; omega), List.take_of_length_le (by rw [List.length_drop]; omega)]
  · rw [Nat.min_eq_right h, List.drop_eq_nil_of_le (by omega), List.drop_eq_nil_of_le (by omega)]
    simp
theorem sIx_take (z : Str) (i : Nat) : cd (cutS z none (some ((i : Nat) : Int))) = (cd z).take i := by
  show ((z.cps.toList.drop (HT.sIx z.length 0 none)).take (HT.sIx z.length z.length (some (i : Int)) - HT.sIx z.length 0 none)) = _
  rw [HT.sIx_none, HT.sIx_nat, List.drop_zero, Nat.sub_zero]
  show (cd z).take (min i z.length) = _
  have hl := len_cd z
  rcases Nat.le_total i z.length with h | h
  · rw [Nat.min_eq_left h]
  · rw [Nat.min_eq_right h, List.take_of_length_le (by omega), List.take_of_length_le (by omega)]
theorem sIx_drop (z : Str) (i : Nat) : cd (cutS z (some ((i : Nat) : Int)) none) = (cd z).drop i := by
  show ((z.cps.toList.drop (HT.sIx z.length 0 (some (i : Int)))).take (HT.sIx z.length z.length none - HT.sIx z.length 0 (some (i : Int)))) = _
  rw [HT.sIx_none, HT.sIx_nat]
  show ((cd z).drop (min i z.length)).take (z.length - min i z.length) = _
  have hl := len_cd z
  rcases Nat.le_total i z.length with h | h
  · rw [Nat.min_eq_left h, List.take_of_length_le (by rw [List.length_drop]; omega)]
  · rw [Nat.min_eq_right h, List.drop_eq_nil_of_le (by omega), List.drop_eq_nil_of_le (by omega)]
    simp
theorem one_at (cs : List Nat) (i c : Nat) : (cs.drop i).take (i + 1 - i) = [c] ↔ cs[i]? = some c := by
  rw [show i + 1 - i = 1 by omega]
  constructor
  · intro h
    cases q : cs.drop i with
    | nil =>
      rw [q] at h
      cases h
    | cons a r =>
      rw [q] at h
      injection h with h1 _
      rw [at_drop q, h1]
  · intro h
    rw [drop_at h]
    rfl
/-- text[i:i + 1] -/
def sl1 (z : Str) (i : Nat) : Str := cutS z (some ((i : Nat) : Int)) (some (((i + 1 : Nat)) : Int))
theorem sl1_is (z k : Str) (i c : Nat) (hk : cd k = [c]) : decide (V.str (sl1 z i) = V.str k) = decide ((cd z)[i]? = some c) := by
  rw [str_is, hk]
  have e : cd (sl1 z i) = ((cd z).drop i).take (i + 1 - i) := sIx_cut z i (i + 1)
  rw [e]
  exact decide_eq_decide.mpr (one_at _ _ _)
theorem sl1_digit (z : Str) (i : Nat) : inV (V.str (sl1 z i)) [V.str "0", V.str "1"] = (match (cd z)[i]? with | some c => isD c | none => false) := by
  have h0 := sl1_is z "0" i 48 (by decide +kernel)
  have h1 := sl1_is z "1" i 49 (by decide +kernel)
  have bq : ∀ a b : Str, (a == b) = decide (b = a) := fun a b => by
    by_cases q : b = a
    · rw [q, decide_eq_true rfl, beq_self_eq_true]
    · rw [decide_eq_false q, beq_eq_false_iff_ne]
      exact fun z => q z.symm
  have e : inV (V.str (sl1 z i)) [V.str "0", V.str "1"] = (decide (V.str (sl1 z i) = V.str "0") || decide (V.str (sl1 z i) = V.str "1")) := by
    simp [inV, eqV, bq]
  rw [e, h0, h1]
  cases (cd z)[i]? with
  | none => rfl
  | some c =>
    unfold isD
    simp
section
variable {σ : L2.St} {H : Hp} {te ti tj : TE} {K : PySem.W.Frag}
theorem ev_sl1 {z : Str} {i : Nat} (h1 : Ev te σ H (.str z)) (h2 : Ev ti σ H (.int (i : Nat))) (h3 : Ev tj σ H (.int ((i + 1 : Nat)))) (hz : z.length ≤ 1000) : Ev (tSl rSlS te (tPart ti) (tPart tj)) σ H (.str (sl1 z i)) := fun H1 e Q q =>
  h1 H1 e _ fun H2 e2 => h2 H2 (e.trans e2) _ fun H3 e3 => ⟨_, rfl, h3 H3 ((e.trans e2).trans e3) _ fun H4 e4 => ⟨_, rfl, z, rfl, fits hz, q H4 ((e2.trans e3).trans e4)⟩⟩
end
def spBeh : Sp := fun vs H Q _ => ∃ (z : Str) (i : Nat), vs = [.str z, .int (i : Nat)] ∧ z.length ≤ 1000 ∧ i ≤ z.length ∧ ∀ H', Ex H H' → Q (.int (behV (cd z) i : Nat)) H'
def resI : Option Nat → Int
  | none => -1
  | some b => (b : Nat)
def spNode (n : Nat) : Sp := fun vs H Q _ => ∃ (z : Str) (i d : Nat), vs = [.str z, .int (i : Nat), .int (d : Nat)] ∧ d + n = 41 ∧ z.length ≤ 1000 ∧ i ≤ z.length ∧ ∀ H', Ex H H' → Q (.int (resI (nodeV (cd z) n i))) H'
theorem beh_le (cs : List Nat) (i : Nat) (h : i ≤ cs.length) : behV cs i ≤ cs.length ∧ i ≤ behV cs i := by
  unfold behV
  by_cases e : cs[i]? = some 46
  · rw [if_pos e]
    have := (List.getElem?_eq_some_iff.mp e).1
    omega
  · rw [if_neg e]
    have a : ((cs.drop i).takeWhile isD).length ≤ (cs.drop i).length := (List.takeWhile_sublist _).length_le
    rw [List.length_drop] at a
    omega
/-- the digits that are passed, sign by sign -/
def runD (cs : List Nat) (i : Nat) : Nat := i + ((cs.drop i).takeWhile isD).length
theorem runD_go {cs : List Nat} {i c : Nat} (h : cs[i]? = some c) (hc : isD c = true) : runD cs i = runD cs (i + 1) := by
  unfold runD
  rw [drop_at h, List.takeWhile_cons, if_pos hc, List.length_cons]
  omega
theorem runD_end {cs : List Nat} {i : Nat} (h : (match cs[i]? with | some c => isD c | none => false) = false) : runD cs i = i := by
  unfold runD
  cases q : cs[i]? with
  | none =>
    have : cs.drop i = [] := List.drop_eq_nil_of_le (List.getElem?_eq_none_iff.mp q)
    rw [this]
    rfl
  | some c =>
    rw [q] at h
    rw [drop_at q, List.takeWhile_cons, if_neg (by rw [show isD c = false from h]; exact Bool.false_ne_true)]
    rfl

section
variable {P : Program} {w : World} {K : PySem.W.Frag} {mg : Str → Option Value} {base : Heap}

theorem ok_law_behind {fd : FuncData} (F : FnP K "_law_behind" "_law_behind" s_law_behind (ga K "_law_behind") fd) (T : Tx K w mg) : FnOk P w K mg base CX0 (0 + 1) (ga K "_law_behind") fd ["_law_text", "_law_at"] spBeh := by
  refine FunD.ok F sc_law_behind (fun vs H Q E h => ?_) (fun cdv A outer s H vs Q E hr h => ?_)
  · obtain ⟨z, i, rfl, _⟩ := h
    rfl
  · obtain ⟨z, i, rfl, hz, hi, kk⟩ := h
    have n_range := T.fr "range" (by decide +kernel)
    have n_len := T.fr "len" (by decide +kernel)
    refine ⟨_, PSs.nox (pss_cons (ps_if (pt_cmpR op_eq (pe_slice sl_str (pv 0) (po_some (pv 1)) (po_some (pe_op op_add (pv 1) pe_int))) pe_str (nomark _))
      (pss_one (ps_ret (pe_op op_add (pv 1) pe_int)))
      pss_nil)
      (pss_cons (ps_for PassesOwn.never rfl (pi_range1 (by rfl) n_range (pa_cons (pe_callB call_len_str (by rfl) n_len (by decide +kernel) (pa_cons (pv 0) pa_nil)) pa_nil)) (pg_name (i := 2) sc_law_behind.nd rfl (Or.inl rfl))
      (pss_cons (ps_if (pt_cmpR op_notIn_seq (pe_slice sl_str (pv 0) (po_some (pv 1)) (po_some (pe_op op_add (pv 1) pe_int))) (pe_tup (pa_cons pe_str (pa_cons pe_str pa_nil))) (by rfl))
      (pss_one (ps_ret (pv 1)))
      pss_nil)
      (pss_one (ps_set (i := 1) sc_law_behind.nd rfl (Or.inl rfl) (pe_op op_add (pv 1) pe_int)))))
      (pss_one (ps_ret (pv 1))))), ?_⟩
    have lc := len_cd z
    refine q_when (b := decide ((cd z)[i]? = some 46)) (et_is (et_test (ev_op (ev_sl1 (i := i) (ev_var rfl) (ev_var rfl) (ev_op (ev_var rfl) (ev_c (v := .int 1)) rv_I0) hz) (ev_c (v := .str ".")) (rv_eq rfl))) (sl1_is z "." i 46 (by decide +kernel))) (fun h46 H1 e1 => ?_) (fun h46 H1 e1 => ?_)
    · have h46 := of_decide_eq_true h46
      have hv : behV (cd z) i = i + 1 := by
        unfold behV
        rw [if_pos h46]
      exact s_ret (v := .int (behV (cd z) i : Nat)) (ev_is (ev_op (ev_var rfl) (ev_c (v := .int 1)) rv_I0) (by rw [hv]; rfl)) fun H2 e2 => kk H2 (e1.trans e2)
    have h46 := of_decide_eq_false h46
    have hv : behV (cd z) i = runD (cd z) i := by
      unfold behV runD
      rw [if_neg h46]
    refine q_forR1 (n := (z.length : Nat)) (ea_cons (ev_cb (ea_cons (ev_var rfl) ea_nil) (fun H5 e5 Q5 q5 => ⟨z, rfl, fits hz, q5 H5 (Ex.refl _)⟩)) ea_nil) ⟨by omega, by omega⟩ (fun k σ' H' => ∃ j v3, σ' = [some (.str z), some (.int ((j : Nat) : Int)), v3] ∧ Ex H H' ∧ runD (cd z) j = runD (cd z) i ∧ j = i + k ∧ (k = 0 ∨ j ≤ z.length)) (fun H2 e2 => ⟨i, _, rfl, e1.trans e2, rfl, rfl, .inl rfl⟩) (fun k σ' H2 hk hI => ?_) (fun σ' H2 hI => ?_)
    · obtain ⟨j, v3, rfl, e2, hr, hj, _⟩ := hI
      try dsimp only [gName, List.set]
      refine q_when (b := !inV (V.str (sl1 z j)) [V.str "0", V.str "1"]) (et_test (ev_niU (ev_sl1 (i := j) (ev_var rfl) (ev_var rfl) (ev_op (ev_var rfl) (ev_c (v := .int 1)) rv_I0) hz) (eu_tup (ea_cons ev_c (ea_cons ev_c ea_nil)) (by decide)) rfl rfl)) (fun hd H3 e3 => ?_) (fun hd H3 e3 => ?_)
      · rw [sl1_digit] at hd
        have hd2 : (match (cd z)[j]? with | some c => isD c | none => false) = false := by simpa using hd
        have hj2 := runD_end hd2
        refine s_ret (v := .int (behV (cd z) i : Nat)) (ev_is (ev_var rfl) (by rw [hv, ← hr, hj2])) fun H4 e4 => kk H4 ((e2.trans e3).trans e4)
      · rw [sl1_digit] at hd
        cases q : (cd z)[j]? with
        | none =>
          rw [q] at hd
          cases hd
        | some c =>
          rw [q] at hd
          have hc : isD c = true := by simpa using hd
          have hl := (List.getElem?_eq_some_iff.mp q).1
          refine s_asg (ev_op (ev_var rfl) (ev_c (v := .int 1)) rv_I0) fun H4 e4 => ⟨j + 1, _, rfl, (e2.trans e3).trans e4, by rw [← hr, runD_go q hc], by omega, .inr (by omega)⟩
    · obtain ⟨j, v3, rfl, e2, hr, hj, hb⟩ := hI
      have hn : (((z.length : Nat) : Int)).toNat = z.length := by omega
      rw [hn] at hj hb
      have hj2 : runD (cd z) j = j := runD_end (by rw [List.getElem?_eq_none (by omega)])
      refine s_ret (v := .int (behV (cd z) i : Nat)) (ev_is (ev_var rfl) (by rw [hv, ← hr, hj2])) fun H4 e4 => kk H4 (e2.trans e4)

theorem ok_law_node0 {fd : FuncData} (F : FnP K "_law_node" "_law_node" s_law_node (ga K "_law_node") fd) (T : Tx K w mg) (c_law_behind : Cl P w K mg base CX0 1 (ga K "_law_behind") ["_law_text", "_law_at"] spBeh) : FnOk P w K mg base CX0 (1 + 1) (ga K "_law_node") fd ["_law_text", "_law_at", "_law_deep_here"] (spNode 0) := by
  obtain ⟨fd_law_behind, G_law_behind, b_law_behind, kp_law_behind⟩ := c_law_behind
  refine FunD.ok F sc_law_node (fun vs H Q E h => ?_) (fun cdv A outer s H vs Q E hr h => ?_)
  · obtain ⟨z, i, d, rfl, _⟩ := h
    rfl
  · obtain ⟨z, i, d, rfl, hd, hz, hi, kk⟩ := h
    have g_law_behind := T.gl "_law_behind" (by decide +kernel)
    refine ⟨_, PSs.nox (pss_cons (ps_set (i := 3) sc_law_node.nd rfl (Or.inl rfl) (pe_call G_law_behind (hr.mono (by decide)) (by rfl) g_law_behind kp_law_behind b_law_behind .nil pass0 (pa_cons (pv 0) (pa_cons (pv 1) pa_nil))))
      (pss_cons (ps_if (PW.pt (pw_or (pt_cmpR op_eq (pv 3) (pv 1) (nomark _)) (pw_or1 (pt_cmpR op_gt (pv 2) pe_int (nomark _)))))
      (pss_one (ps_ret (pe_un un_neg pe_int)))
      pss_nil)
      (pss_cons (ps_if (pt_cmpR op_ne (pe_slice sl_str (pv 0) (po_some (pv 3)) (po_some (pe_op op_add (pv 3) pe_int))) pe_str (nomark _))
      (pss_one (ps_ret (pv 3)))
      pss_nil)
      (pss_cons ps_never
      (pss_one (ps_ret (pe_un un_neg pe_int))))))), ?_⟩
    have lc := len_cd z
    have hbl := beh_le (cd z) i (by omega)
    refine q_asg (v := .int (behV (cd z) i : Nat)) (ev_call (ea_cons (ev_var rfl) (ea_cons (ev_var rfl) ea_nil)) fun H1 e1 Q1 q1 => ⟨z, i, rfl, hz, hi, q1⟩) fun H1 e1 => ?_
    try dsimp only [gName, List.set]
    refine q_when (b := true) (et_is (et_or (a := decide (V.int ((behV (cd z) i : Nat) : Int) = V.int (i : Nat))) (b := true) (et_test (ev_op (ev_var rfl) (ev_var rfl) (rv_eq rfl))) fun _ => et_is (et_test (ev_op (ev_var rfl) (ev_c (v := .int 40)) rv_I0)) (decide_eq_true (by omega))) (by simp)) (fun _ H2 e2 => ?_) (fun z => nomatch z)
    exact s_ret (v := .int (-1)) (ev_un ev_c (fun H7 e7 Q7 q7 => ⟨1, rfl, q7 H7 (Ex.refl _)⟩)) fun H3 e3 => kk H3 ((e1.trans e2).trans e3)

theorem ok_law_nodeS {fd : FuncData} {n k : Nat} (F : FnP K "_law_node" "_law_node" s_law_node (ga K "_law_node") fd) (T : Tx K w mg) (c_law_behind : Cl P w K mg base CX0 k (ga K "_law_behind") ["_law_text", "_law_at"] spBeh) (c_law_node : Cl P w K mg base CX0 k (ga K "_law_node") ["_law_text", "_law_at", "_law_deep_here"] (spNode n)) : FnOk P w K mg base CX0 (k + 1) (ga K "_law_node") fd ["_law_text", "_law_at", "_law_deep_here"] (spNode (n + 1)) := by
  obtain ⟨fd_law_behind, G_law_behind, b_law_behind, kp_law_behind⟩ := c_law_behind
  obtain ⟨fd_law_node, G_law_node, b_law_node, kp_law_node⟩ := c_law_node
  refine FunD.ok F sc_law_node (fun vs H Q E h => ?_) (fun cdv A outer s H vs Q E hr h => ?_)
  · obtain ⟨z, i, d, rfl, _⟩ := h
    rfl
  · obtain ⟨z, i, d, rfl, hd, hz, hi, kk⟩ := h
    have g_law_behind := T.gl "_law_behind" (by decide +kernel)
    have n_range := T.fr "range" (by decide +kernel)
    have n_len := T.fr "len" (by decide +kernel)
    have g_law_node := T.gl "_law_node" (by decide +kernel)
    refine ⟨_, PSs.nox (pss_cons (ps_set (i := 3) sc_law_node.nd rfl (Or.inl rfl) (pe_call G_law_behind (hr.mono (by omega)) (by rfl) g_law_behind kp_law_behind b_law_behind .nil pass0 (pa_cons (pv 0) (pa_cons (pv 1) pa_nil))))
      (pss_cons (ps_if (PW.pt (pw_or (pt_cmpR op_eq (pv 3) (pv 1) (nomark _)) (pw_or1 (pt_cmpR op_gt (pv 2) pe_int (nomark _)))))
      (pss_one (ps_ret (pe_un un_neg pe_int)))
      pss_nil)
      (pss_cons (ps_if (pt_cmpR op_ne (pe_slice sl_str (pv 0) (po_some (pv 3)) (po_some (pe_op op_add (pv 3) pe_int))) pe_str (nomark _))
      (pss_one (ps_ret (pv 3)))
      pss_nil)
      (pss_cons (ps_for PassesOwn.never rfl (pi_range1 (by rfl) n_range (pa_cons (pe_callB call_len_str (by rfl) n_len (by decide +kernel) (pa_cons (pv 0) pa_nil)) pa_nil)) (pg_name (i := 4) sc_law_node.nd rfl (Or.inl rfl))
      (pss_cons (ps_set (i := 1) sc_law_node.nd rfl (Or.inl rfl) (pe_op op_add (pv 3) pe_int))
      (pss_cons (ps_set (i := 3) sc_law_node.nd rfl (Or.inl rfl) (pe_ifExp (pt_cmpR op_eq (pe_slice sl_str (pv 0) (po_some (pv 1)) (po_some (pe_op op_add (pv 1) pe_int))) pe_str (nomark _)) (pe_op op_add (pv 1) pe_int) (pe_call G_law_node (hr.mono (by omega)) (by rfl) g_law_node kp_law_node b_law_node .nil pass0 (pa_cons (pv 0) (pa_cons (pv 1) (pa_cons (pe_op op_add (pv 2) pe_int) pa_nil))))))
      (pss_cons (ps_if (pt_cmpR op_lt (pv 3) pe_int (nomark _))
      (pss_one (ps_ret (pe_un un_neg pe_int)))
      pss_nil)
      (pss_cons (ps_if (pt_cmpR op_eq (pe_slice sl_str (pv 0) (po_some (pv 3)) (po_some (pe_op op_add (pv 3) pe_int))) pe_str (nomark _))
      (pss_one (ps_ret (pe_op op_add (pv 3) pe_int)))
      pss_nil)
      (pss_one (ps_if (pt_cmpR op_ne (pe_slice sl_str (pv 0) (po_some (pv 3)) (po_some (pe_op op_add (pv 3) pe_int))) pe_str (nomark _))
      (pss_one (ps_ret (pe_un un_neg pe_int)))
      pss_nil)))))))
      (pss_one (ps_ret (pe_un un_neg pe_int))))))), ?_⟩
    have lc := len_cd z
    have hbl := beh_le (cd z) i (by omega)
    refine q_asg (v := .int (behV (cd z) i : Nat)) (ev_call (ea_cons (ev_var rfl) (ea_cons (ev_var rfl) ea_nil)) fun H1 e1 Q1 q1 => ⟨z, i, rfl, hz, hi, q1⟩) fun H1 e1 => ?_
    try dsimp only [gName, List.set]
    have m1 : ∀ {σ : L2.St} {H9 : Hp}, Ev (tUn (rU fun i => .int (-i)) (tC (.int 1))) σ H9 (.int (-1)) := ev_un ev_c (fun H7 e7 Q7 q7 => ⟨1, rfl, q7 H7 (Ex.refl _)⟩)
    refine q_when (b := decide (behV (cd z) i = i)) (et_is (et_or (a := decide (behV (cd z) i = i)) (b := false) (et_is (et_test (ev_op (ev_var rfl) (ev_var rfl) (rv_eq rfl))) (by rw [dec_int]; exact decide_eq_decide.mpr (by omega))) fun _ => et_is (et_test (ev_op (ev_var rfl) (ev_c (v := .int 40)) rv_I0)) (decide_eq_false (by omega))) (by simp)) (fun h0 H2 e2 => ?_) (fun h0 H2 e2 => ?_)
    · have h0 := of_decide_eq_true h0
      have hv : resI (nodeV (cd z) (n + 1) i) = -1 := by
        show resI (if behV (cd z) i = i then none else _) = -1
        rw [if_pos h0]
        rfl
      refine s_ret (v := .int (-1)) m1 fun H3 e3 => ?_
      rw [← hv]
      exact kk H3 ((e1.trans e2).trans e3)
    have h0 := of_decide_eq_false h0
    have e12 := e1.trans e2
    refine q_when (b := !decide ((cd z)[behV (cd z) i]? = some 40)) (et_is (et_test (ev_op (ev_sl1 (i := behV (cd z) i) (ev_var rfl) (ev_var rfl) (ev_op (ev_var rfl) (ev_c (v := .int 1)) rv_I0) hz) (ev_c (v := .str "(")) (rv_ne rfl))) (by rw [sl1_is z "(" _ 40 (by decide +kernel)])) (fun h40 H3 e3 => ?_) (fun h40 H3 e3 => ?_)
    · have h40 : ¬ (cd z)[behV (cd z) i]? = some 40 := by simpa using h40
      have hv : resI (nodeV (cd z) (n + 1) i) = (behV (cd z) i : Nat) := by
        show resI (if behV (cd z) i = i then none else if (cd z)[behV (cd z) i]? = some 40 then _ else some (behV (cd z) i)) = _
        rw [if_neg h0, if_neg h40]
        rfl
      refine s_ret (v := .int (behV (cd z) i : Nat)) (ev_var rfl) fun H4 e4 => ?_
      rw [← hv]
      exact kk H4 ((e12.trans e3).trans e4)
    have h40 : (cd z)[behV (cd z) i]? = some 40 := by simpa using h40
    have hv : nodeV (cd z) (n + 1) i = kidsV (cd z) (nodeV (cd z) n) (cd z).length (behV (cd z) i) := by
      show (if behV (cd z) i = i then none else if (cd z)[behV (cd z) i]? = some 40 then kidsV (cd z) (nodeV (cd z) n) (cd z).length (behV (cd z) i) else some (behV (cd z) i)) = _
      rw [if_neg h0, if_pos h40]
    rw [hv] at kk
    have hb0 := (List.getElem?_eq_some_iff.mp h40).1
    have e13 := e12.trans e3
    refine q_forR1 (n := (z.length : Nat)) (ea_cons (ev_cb (ea_cons (ev_var rfl) ea_nil) (fun H5 e5 Q5 q5 => ⟨z, rfl, fits hz, q5 H5 (Ex.refl _)⟩)) ea_nil) ⟨by omega, by omega⟩ (fun k σ' H' => ∃ b v1 v4, σ' = [some (.str z), v1, some (.int ((d : Nat) : Int)), some (.int ((b : Nat) : Int)), v4] ∧ Ex H H' ∧ b < z.length ∧ kidsV (cd z) (nodeV (cd z) n) (z.length - k) b = kidsV (cd z) (nodeV (cd z) n) (cd z).length (behV (cd z) i)) (fun H4 e4 => ⟨_, _, _, rfl, e13.trans e4, by omega, by rw [Nat.sub_zero, lc]⟩) (fun k σ' H4 hk hI => ?_) (fun σ' H4 hI => ?_)
    · obtain ⟨b, v1, v4, rfl, e4, hb, hr⟩ := hI
      have hk2 : z.length - k = (z.length - (k + 1)) + 1 := by omega
      rw [hk2] at hr
      simp only [kidsV] at hr
      try dsimp only [gName, List.set]
      refine q_asg (v := .int ((b + 1 : Nat) : Int)) (ev_op (ev_var rfl) (ev_c (v := .int 1)) rv_I0) fun H5 e5 => ?_
      try dsimp only [gName, List.set]
      have e45 := e4.trans e5
      -- the child
      refine q_asg (v := .int (resI (if (cd z)[b + 1]? = some 45 then some (b + 2) else nodeV (cd z) n (b + 1)))) (ev_if (b := decide ((cd z)[b + 1]? = some 45)) (et_is (et_test (ev_op (ev_sl1 (i := b + 1) (ev_var rfl) (ev_var rfl) (ev_op (ev_var rfl) (ev_c (v := .int 1)) rv_I0) hz) (ev_c (v := .str "-")) (rv_eq rfl))) (sl1_is z "-" _ 45 (by decide +kernel))) (fun h45 => ?_) (fun h45 => ?_)) fun H6 e6 => ?_
      · rw [if_pos (of_decide_eq_true h45)]
        exact ev_op (ev_var rfl) (ev_c (v := .int 1)) rv_I0
      · rw [if_neg (of_decide_eq_false h45)]
        exact ev_call (ea_cons (ev_var rfl) (ea_cons (ev_var rfl) (ea_cons (ev_op (ev_var rfl) (ev_c (v := .int 1)) rv_I0) ea_nil))) fun H7 e7 Q7 q7 => ⟨z, b + 1, d + 1, rfl, by omega, hz, by omega, q7⟩
      try dsimp only [gName, List.set]
      have e46 := e45.trans e6
      generalize hch : (if (cd z)[b + 1]? = some 45 then some (b + 2) else nodeV (cd z) n (b + 1)) = ch at hr
      cases ch with
      | none =>
        refine q_when (b := true) (et_is (et_test (ev_op (ev_var rfl) (ev_c (v := .int 0)) rv_I0)) (by decide)) (fun _ H7 e7 => ?_) (fun z => nomatch z)
        refine s_ret (v := .int (-1)) m1 fun H8 e8 => ?_
        have := kk H8 ((e46.trans e7).trans e8)
        rw [← hr] at this
        exact this
      | some b2 =>
        refine q_when (b := false) (et_is (et_test (ev_op (ev_var rfl) (ev_c (v := .int 0)) rv_I0)) (decide_eq_false (by show ¬ ((b2 : Nat) : Int) < 0; omega))) (fun z => nomatch z) (fun _ H7 e7 => ?_)
        have e47 := e46.trans e7
        simp only at hr
        refine q_when (b := decide ((cd z)[b2]? = some 41)) (et_is (et_test (ev_op (ev_sl1 (i := b2) (ev_var rfl) (ev_var rfl) (ev_op (ev_var rfl) (ev_c (v := .int 1)) rv_I0) hz) (ev_c (v := .str ")")) (rv_eq rfl))) (sl1_is z ")" _ 41 (by decide +kernel))) (fun h41 H8 e8 => ?_) (fun h41 H8 e8 => ?_)
        · rw [if_pos (of_decide_eq_true h41)] at hr
          refine s_ret (v := .int ((b2 + 1 : Nat) : Int)) (ev_op (ev_var rfl) (ev_c (v := .int 1)) rv_I0) fun H9 e9 => ?_
          have := kk H9 ((e47.trans e8).trans e9)
          rw [← hr] at this
          exact this
        rw [if_neg (of_decide_eq_false h41)] at hr
        have e48 := e47.trans e8
        refine s_when (b := !decide ((cd z)[b2]? = some 44)) (et_is (et_test (ev_op (ev_sl1 (i := b2) (ev_var rfl) (ev_var rfl) (ev_op (ev_var rfl) (ev_c (v := .int 1)) rv_I0) hz) (ev_c (v := .str ",")) (rv_ne rfl))) (by rw [sl1_is z "," _ 44 (by decide +kernel)])) (fun h44 H9 e9 => ?_) (fun h44 H9 e9 => ?_)
        · have h44 : ¬ (cd z)[b2]? = some 44 := by simpa using h44
          rw [if_neg h44] at hr
          refine s_ret (v := .int (-1)) m1 fun H10 e10 => ?_
          have := kk H10 ((e48.trans e9).trans e10)
          rw [← hr] at this
          exact this
        · have h44 : (cd z)[b2]? = some 44 := by simpa using h44
          rw [if_pos h44] at hr
          have := (List.getElem?_eq_some_iff.mp h44).1
          exact ⟨b2, _, _, rfl, e48.trans e9, by omega, hr⟩
    · obtain ⟨b, v1, v4, rfl, e4, hb, hr⟩ := hI
      have hn : (((z.length : Nat) : Int)).toNat = z.length := by omega
      rw [hn, Nat.sub_self] at hr
      refine s_ret (v := .int (-1)) m1 fun H8 e8 => ?_
      have := kk H8 (e4.trans e8)
      rw [← hr] at this
      exact this

end
end K10
set_option Elab.async false
set_option linter.all false
set_option maxRecDepth 100000
set_option maxHeartbeats 8000000
namespace K10
open PySem PySem.Spec PyProof.Rows L2 He XH XV XR PEN TR XQ PZ Evl

open XO RP
theorem op_mulS0 {X : Cx} : OpR X (binaryOp .Mult) (fun x y H Q => ∃ (z : Str) (n : Nat), x = .str z ∧ y = .int (n : Int) ∧ n ≤ 1000 ∧ (1 ≤ z.length ∧ z.length ≤ 1000) ∧ Q (.str (repS z n)) H) := by
  intro pins s σ H x y v u Q I rx ry h
  obtain ⟨z, n, rfl, rfl, hn, hz, q⟩ := h
  cases n with
  | zero =>
    obtain ⟨t, rfl⟩ := id rx
    obtain ⟨t', rfl⟩ := id ry
    refine PySem.P.mul_str_none (by decide) (by decide) ⟨.str (repS z 0), H, I.tok _, ⟨s.toks, rfl⟩, q⟩
  | succ n => exact op_mulS pins s σ H _ _ v u Q I rx ry ⟨z, n + 1, rfl, rfl, ⟨by omega, hn⟩, hz, q⟩

structure T10 (K : PySem.W.Frag) (w : World) (mg : Str → Option Value) : Prop extends T9 K w mg where
  mb1 : PySem.W.exmOne K (.ref (ga K "BadText")) (.ref (ga K "BadText")) = some true
  mb2 : PySem.W.exmOne K (.ref (ga K "TooGreat")) (.ref (ga K "BadText")) = some false
  ib1 : PySem.W.kitOne K (.ref (ga K "BadText")) (.ref (ga K "TryError")) = some true
  ib2 : PySem.W.kitOne K (.ref (ga K "BadText")) (.ref (ga K "TooGreat")) = some false
  ib4 : PySem.W.kitOne K (.ref (ga K "TooGreat")) (.ref (ga K "BadText")) = some false
def dBad : PyData := .tuple [.str "bad", .int 1, .bool true, .bool false]
def dGreat : PyData := .tuple [.str "great", .bool true, .bool false]
def dRead (s d : Nat) : PyData := .tuple [.str "read", .int (s : Nat), .int (d : Nat)]
def dOut (d : PyData) : PyData := if size d ≤ 500 ∧ deep d ≤ 30 then dRead (size d) (deep d) else dGreat
def spTold (K : PySem.W.Frag) : Sp := fun vs H Q _ => ∃ z : Str, vs = [.str z] ∧ z.length ≤ 50000 ∧ (acc (cd z) = false → ∀ q H', Ex H H' → Dp K H' (.ref q) dBad → Q (.ref q) H') ∧
  (acc (cd z) = true → ∃ d, z = spell d ∧ Bd 60 600 d ∧ ∀ q H', Ex H H' → Dp K H' (.ref q) (dOut d) → Q (.ref q) H')
/-! ### a text bent -/
def Near (n : Nat) (z z' : Str) : Prop := dcnt (cd z') ≤ dcnt (cd z) + n ∧ pcnt (cd z') ≤ pcnt (cd z) + n ∧ z'.length ≤ z.length + 2 * n
theorem Near.zero (z : Str) : Near 0 z z := ⟨Nat.le_refl _, Nat.le_refl _, Nat.le_refl _⟩
def SIGNS : List Str := ["0", "1", ".", "-", ",", "(", ")", " ", "2", "x", "()", ",-", ".,"]
theorem signs_small : ∀ s ∈ SIGNS, dcnt (cd s) ≤ 1 ∧ pcnt (cd s) ≤ 1 ∧ s.length ≤ 2 := by decide +kernel
theorem dcnt_take (l : List Nat) (i j : Nat) (h : i ≤ j) : dcnt (l.take i) + dcnt (l.drop j) ≤ dcnt l := by
  have e : l = l.take i ++ l.drop i := (List.take_append_drop i l).symm
  have e2 : dcnt l = dcnt (l.take i) + dcnt (l.drop i) := by
    rw [← dcnt_app, ← e]
  have e3 : l.drop i = (l.drop i).take (j - i) ++ l.drop j := by
    have := (List.take_append_drop (j - i) (l.drop i)).symm
    rw [List.drop_drop, show i + (j - i) = j by omega] at this
    exact this
  rw [e2, e3, dcnt_app]
  omega
theorem pcnt_take (l : List Nat) (i j : Nat) (h : i ≤ j) : pcnt (l.take i) + pcnt (l.drop j) ≤ pcnt l := by
  have e : l = l.take i ++ l.drop i := (List.take_append_drop i l).symm
  have e2 : pcnt l = pcnt (l.take i) + pcnt (l.drop i) := by
    rw [← pcnt_app, ← e]
  have e3 : l.drop i = (l.drop i).take (j - i) ++ l.drop j := by
    have := (List.take_append_drop (j - i) (l.drop i)).symm
    rw [List.drop_drop, show i + (j - i) = j by omega] at this
    exact this
  rw [e2, e3, pcnt_app]
  omega
theorem bend {z z' s y : Str} {n i j : Nat} (h : Near n z z') (hs : (s ∈ SIGNS) ∨ s = "") (hij : i ≤ j) (hy : y = cutS z' none (some ((i : Nat) : Int)) ++ s ++ cutS z' (some ((j : Nat) : Int)) none) : Near (n + 1) z y := by
  have hsm : dcnt (cd s) ≤ 1 ∧ pcnt (cd s) ≤ 1 ∧ (cd s).length ≤ 2 := by
    rcases hs with q | q
    · obtain ⟨a, b, c⟩ := signs_small s q
      rw [len_cd] at c
      exact ⟨a, b, c⟩
    · rw [q]
      decide +kernel
  have hc : cd y = (cd z').take i ++ cd s ++ (cd z').drop j := by rw [hy, app_cd, app_cd, sIx_take, sIx_drop]
  obtain ⟨h1, h2, h3⟩ := h
  have a := dcnt_take (cd z') i j hij
  have b := pcnt_take (cd z') i j hij
  refine ⟨?_, ?_, ?_⟩
  · rw [hc, dcnt_app, dcnt_app]
    omega
  · rw [hc, pcnt_app, pcnt_app]
    omega
  · rw [len_cd y, hc, List.length_append, List.length_append, List.length_take, List.length_drop]
    rw [len_cd z'] at h3
    omega
def spBent : Sp := fun vs H Q _ => ∃ (p l : Addr) (z : Str) (b : Nat), vs = [.ref p, .str z] ∧ z.length ≤ 500 ∧ Pen p l (b + 20) H ∧ ∀ z' H', Px p l H H' → Pen p l b H' → Near 3 z z' → Q (.str z') H'
/-! ### a tower of nodes -/
def tower : List Bool → PyData → PyData
  | [], e => e
  | true :: r, e => nd [1] [tower r e]
  | false :: r, e => nd [] [.none, tower r e]
def pre : Bool → Str
  | true => "1("
  | false => ".(-,"
theorem tower_bd {B C : Nat} (hB : 1 ≤ B) (hC : 2 ≤ C) {e : PyData} (he : e = .none ∨ Bd B C e) : ∀ l : List Bool, (l ≠ [] → Bd B C (tower l e)) ∧ (tower l e = .none ∨ Bd B C (tower l e))
  | [] => ⟨fun h => absurd rfl h, he⟩
  | true :: r => by
    have ih := (tower_bd hB hC he r).2
    have k : Bd B C (nd [1] [tower r e]) := .mk rfl hB (fun b hb => .inr (List.mem_singleton.mp hb)) (show 1 ≤ C by omega) (by
      rcases ih with q | q
      · rw [q]
        exact .non .nil
      · exact .one q .nil)
    exact ⟨fun _ => k, .inr k⟩
  | false :: r => by
    have ih := (tower_bd hB hC he r).2
    have k : Bd B C (nd [] [.none, tower r e]) := .mk rfl (Nat.zero_le _) (fun b hb => nomatch hb) hC (.non (by
      rcases ih with q | q
      · rw [q]
        exact .non .nil
      · exact .one q .nil))
    exact ⟨fun _ => k, .inr k⟩
theorem tower_size {e : PyData} : ∀ l : List Bool, size (tower l e) = l.length + size e ∧ deep (tower l e) = l.length + deep e
  | [] => by simp [tower]
  | true :: r => by
    obtain ⟨h1, h2⟩ := tower_size (e := e) r
    simp only [tower, size_nd, deep_nd, sizeL, deepL, h1, h2, List.length_cons]
    omega
  | false :: r => by
    obtain ⟨h1, h2⟩ := tower_size (e := e) r
    simp only [tower, size_nd, deep_nd, sizeL, deepL, size_non, deep_non, h1, h2, List.length_cons]
    omega
theorem tower_cd {e : PyData} (he : e = .none ∨ Bd 60 600 e) : ∀ l : List Bool, cd (spell (tower l e)) = (l.flatMap fun b => cd (pre b)) ++ cd (spell e) ++ List.replicate l.length 41
  | [] => by simp [tower]
  | true :: r => by
    have ih := tower_cd he r
    have hb := (tower_bd (B := 60) (C := 600) (by decide) (by decide) he (true :: r)).1 (by simp)
    have c := cd_node (bs := [1]) (ks := [tower r e]) hb
    have p1 : cd (pre true) = [49, 40] := by decide +kernel
    show cd (spell (nd [1] [tower r e])) = _
    rw [c, if_neg (by simp), spL_one, ih, List.flatMap_cons, p1, List.length_cons, List.replicate_succ']
    simp [dgc, dg]
  | false :: r => by
    have ih := tower_cd he r
    have hb := (tower_bd (B := 60) (C := 600) (by decide) (by decide) he (false :: r)).1 (by simp)
    have c := cd_node (bs := []) (ks := [.none, tower r e]) hb
    have p1 : cd (pre false) = [46, 40, 45, 44] := by decide +kernel
    show cd (spell (nd [] [.none, tower r e])) = _
    rw [c, if_neg (by simp), spL_cons, spL_one, none_cd, ih, List.flatMap_cons, p1, List.length_cons, List.replicate_succ']
    simp [dgc]
theorem joinL_flat : ∀ ls : List (List Nat), TL.joinL [] ls = ls.flatten
  | [] => rfl
  | [a] => by simp [TL.joinL]
  | a :: b :: r => by
    show a ++ ([] ++ TL.joinL [] (b :: r)) = _
    rw [joinL_flat (b :: r)]
    simp
theorem tower_spell {e : PyData} (he : e = .none ∨ Bd 60 600 e) (l : List Bool) (hl : l.length ≤ 200) : Txt.join ("" : Str) (l.map pre) ++ spell e ++ repS ")" l.length = spell (tower l e) := by
  refine str_ext ?_
  have e0 : cd ("" : Str) = [] := by decide +kernel
  have e1 : (")" : Str).cps.toList = [41] := by decide +kernel
  rw [tower_cd he, app_cd, app_cd, join_cd, e0, joinL_flat, List.map_map]
  have e2 : cd (repS ")" l.length) = List.replicate l.length 41 := by
    show (repS ")" l.length).cps.toList = _
    rw [repS_codes, e1]
    generalize l.length = n
    induction n with
    | zero => rfl
    | succ n ih => rw [List.replicate_succ, List.flatten_cons, ih, List.replicate_succ]; rfl
  rw [e2, List.flatMap_def]
  rfl
theorem pre_len (b : Bool) : (pre b).length ≤ 4 := by cases b <;> decide +kernel
theorem pres_sum (l : List Bool) : ((l.map pre).map (·.length)).sum ≤ 4 * l.length := by
  induction l with
  | nil => exact Nat.le_refl _
  | cons a r ih =>
    have := pre_len a
    rw [List.map_cons, List.map_cons, List.sum_cons, List.length_cons]
    omega
def spLev : Sp := fun vs H Q _ => ∃ (p l : Addr) (m b : Nat) (z : Str) (e : PyData), vs = [.ref p, .int (m : Nat), .str z] ∧ m ≤ 100 ∧ z = spell e ∧ z.length ≤ 10 ∧ (e = .none ∨ Bd 60 600 e) ∧ Pen p l (b + m) H ∧ ∀ bs H', bs.length = m → Px p l H H' → Pen p l b H' → (spell (tower bs e)).length ≤ 600 → Q (.str (spell (tower bs e))) H'
section
variable {σ : L2.St} {H : Hp} {te ti tj : TE} {K : PySem.W.Frag}
theorem ev_slT {z : Str} {i : Nat} (h1 : Ev te σ H (.str z)) (h2 : Ev ti σ H (.int (i : Nat))) (hz : z.length ≤ 1000) : Ev (tSl rSlS te tNoPart (tPart ti)) σ H (.str (cutS z none (some ((i : Nat) : Int)))) := fun H1 e Q q =>
  h1 H1 e _ fun H2 e2 => h2 H2 (e.trans e2) _ fun H3 e3 => ⟨_, rfl, z, rfl, fits hz, q H3 (e2.trans e3)⟩
theorem ev_slD {z : Str} {i : Nat} (h1 : Ev te σ H (.str z)) (h2 : Ev ti σ H (.int (i : Nat))) (hz : z.length ≤ 1000) : Ev (tSl rSlS te (tPart ti) tNoPart) σ H (.str (cutS z (some ((i : Nat) : Int)) none)) := fun H1 e Q q =>
  h1 H1 e _ fun H2 e2 => h2 H2 (e.trans e2) _ fun H3 e3 => ⟨_, rfl, z, rfl, fits hz, q H3 (e2.trans e3)⟩
end

section
variable {P : Program} {w : World} {K : PySem.W.Frag} {mg : Str → Option Value} {base : Heap}

theorem ok_law_told {fd : FuncData} (F : FnP K "_law_told" "_law_told" s_law_told (ga K "_law_told") fd) (T : T10 K w mg) (c_read_puzzle : Cl P w K mg base (L2.CX P w) 6 (ga K "read_puzzle") ["text"] (spRead K)) : FnOk P w K mg base CX0 (7 + 1) (ga K "_law_told") fd ["_law_text"] (spTold K) := by
  obtain ⟨fd_read_puzzle, G_read_puzzle, b_read_puzzle, kp_read_puzzle⟩ := c_read_puzzle
  refine FunD.ok F sc_law_told (fun vs H Q E h => ?_) (fun cdv A outer s H vs Q E hr h => ?_)
  · obtain ⟨z, rfl, _⟩ := h
    rfl
  · obtain ⟨z, rfl, hz, kb, kg⟩ := h
    have g_read_puzzle := T.gl "read_puzzle" (by decide +kernel)
    have g_BadText := T.gl "BadText" (by decide +kernel)
    have n_isinstance := T.fr "isinstance" (by decide +kernel)
    have g_TryError := T.gl "TryError" (by decide +kernel)
    have g_TooGreat := T.gl "TooGreat" (by decide +kernel)
    refine ⟨_, PSs.nox (pss_cons (ps_try_mas (l := [(.ref (ga K "BadText"), 3, _), (.ref (ga K "TooGreat"), 3, _)]) rfl rfl sc_law_told.nd takes_none5 (fun W pn xe tk _ => (pss_cons (ps_set (i := 1) sc_law_told.nd rfl (Or.inl rfl) (pe_callS G_read_puzzle (hr.mono (by decide)) (by rfl) g_read_puzzle kp_read_puzzle b_read_puzzle (fun σ => passAt tk σ) (pa_cons (pv 0) pa_nil))) (pss_one (ps_set (i := 2) sc_law_told.nd rfl (Or.inl rfl) (pe_tup (pa_cons pe_str (pa_cons (pe_fldc (K := K) rfl (pv 1) rfl) (pa_cons (pe_fldc (K := K) rfl (pv 1) rfl) pa_nil))))))))
      (HdsA.cons ⟨by rfl, by decide, .inl g_BadText⟩ rfl rfl (fun a oe cls d pn hz hf => (pss_one (ps_set (i := 2) sc_law_told.nd rfl (Or.inl rfl) (pe_tup (pa_cons pe_str (pa_cons (pe_xf T.bt.xf (T.bt.no _ (by decide +kernel)) hz hf (pv 3)) (pa_cons (pe_callB (call_isS hz hf) (by rfl) n_isinstance (by decide +kernel) (pa_cons (pv 3) (pa_cons (pe_glob (v := .ref _) (by rfl) g_TryError rfl) pa_nil))) (pa_cons (pe_callB (call_isS hz hf) (by rfl) n_isinstance (by decide +kernel) (pa_cons (pv 3) (pa_cons (pe_glob (v := .ref _) (by rfl) g_TooGreat rfl) pa_nil))) pa_nil)))))))) (HdsA.cons ⟨by rfl, by decide, .inl g_TooGreat⟩ rfl rfl (fun a oe cls d pn hz hf => (pss_one (ps_set (i := 2) sc_law_told.nd rfl (Or.inl rfl) (pe_tup (pa_cons pe_str (pa_cons (pe_callB (call_isS hz hf) (by rfl) n_isinstance (by decide +kernel) (pa_cons (pv 3) (pa_cons (pe_glob (v := .ref _) (by rfl) g_TryError rfl) pa_nil))) (pa_cons (pe_callB (call_isS hz hf) (by rfl) n_isinstance (by decide +kernel) (pa_cons (pv 3) (pa_cons (pe_glob (v := .ref _) (by rfl) g_BadText rfl) pa_nil))) pa_nil))))))) HdsA.nil)))
      (pss_one (ps_ret (pv 2)))), ?_⟩
    refine ⟨.str z, rfl, z, rfl, hz, fun hacc dd H1 e1 hd => ?_, fun hacc => ?_⟩
    · refine ⟨true, T.mb1, fun _ a ha => ?_, (fun z => nomatch z)⟩
      refine ⟨.ref a, rfl, rfl, rfl, dd, _, .int 1, rfl, hd, rfl, ?_⟩
      refine ⟨.ref a, rfl, _, .ref (ga K "TryError"), .ref (ga K "TryError"), true, rfl, rfl, T.bt.ec, (fun d2 z => ?_), .own _, T.ib1, ?_⟩
      · cases z
        exact ⟨_, hd⟩
      refine ⟨.ref a, rfl, _, .ref (ga K "TooGreat"), .ref (ga K "TooGreat"), false, rfl, rfl, T.bt.ec, (fun d2 z => ?_), .own _, T.ib2, (show 4 ≤ sizeLine by decide), fun q hq => ⟨.ref q, rfl, kb hacc q _ (e1.trans (Ex.new hq)) (.tup (st_of upd_same) (.cons (.str _) (.cons (.int _) (.cons (.bl _) (.cons (.bl _) .nil)))))⟩⟩
      cases z
      exact ⟨_, hd⟩
    · obtain ⟨d, hzd, hb, kk⟩ := kg hacc
      refine ⟨d, hzd, hb, fun hok b H1 e1 pb => ?_, fun hno H1 e1 => ?_⟩
      · obtain ⟨s1, s2⟩ := trim_eq hb
        have pb0 := pb
        generalize hu : trim d = u at pb0 s1 s2
        cases pb0 with
        | @mk _ dx2 _ _ _ _ _ _ ed _ h _ _ _ =>
        refine ⟨.ref b, rfl, b, _, dx2, _, _, rfl, h, T.cp, T.np "size" (by decide +kernel), rfl, .ref b, rfl, b, _, dx2, _, _, rfl, h, T.cp, T.np "depth" (by decide +kernel), rfl, (show 3 ≤ sizeLine by decide), fun q hq => ⟨.ref q, rfl, kk q _ (e1.trans (Ex.new hq)) ?_⟩⟩
        unfold dOut
        rw [if_pos (show size d ≤ 500 ∧ deep d ≤ 30 from hok)]
        refine .tup (st_of upd_same) (.cons (.str _) (.cons ?_ (.cons ?_ .nil)))
        · rw [s1]
          exact .int _
        · rw [s2]
          exact .int _
      · refine ⟨false, T.mb2, (fun z => nomatch z), fun _ => ⟨true, T.m3, fun _ a ha => ?_, (fun z => nomatch z)⟩⟩
        refine ⟨.ref a, rfl, _, .ref (ga K "TryError"), .ref (ga K "TryError"), true, rfl, rfl, T.tg.ec, (fun dd z => nomatch z), .own _, T.i3, ?_⟩
        refine ⟨.ref a, rfl, _, .ref (ga K "BadText"), .ref (ga K "BadText"), false, rfl, rfl, T.tg.ec, (fun dd z => nomatch z), .own _, T.ib4, (show 3 ≤ sizeLine by decide), fun q hq => ⟨.ref q, rfl, kk q _ (e1.trans (Ex.new hq)) ?_⟩⟩
        unfold dOut
        rw [if_neg (show ¬ (size d ≤ 500 ∧ deep d ≤ 30) from hno)]
        exact .tup (st_of upd_same) (.cons (.str _) (.cons (.bl _) (.cons (.bl _) .nil)))

theorem ok_law_bent {fd : FuncData} (F : FnP K "_law_bent" "_law_bent" s_law_bent (ga K "_law_bent") fd) (T : Tx K w mg) (c_law_draw : Cl P w K mg base CX0 2 (ga K "_law_draw") ["_law_pen", "_law_many"] spDraw) (c_law_pick : Cl P w K mg base CX0 2 (ga K "_law_pick") ["_law_pen", "_law_row"] (spPick K)) : FnOk P w K mg base CX0 (2 + 1) (ga K "_law_bent") fd ["_law_pen", "_law_text"] spBent := by
  obtain ⟨fd_law_draw, G_law_draw, b_law_draw, kp_law_draw⟩ := c_law_draw
  obtain ⟨fd_law_pick, G_law_pick, b_law_pick, kp_law_pick⟩ := c_law_pick
  refine FunD.ok F sc_law_bent (fun vs H Q E h => ?_) (fun cdv A outer s H vs Q E hr h => ?_)
  · obtain ⟨p, l, z, b, rfl, _⟩ := h
    rfl
  · obtain ⟨p, l, z, b, rfl, hz, pen, kk⟩ := h
    have n_range := T.fr "range" (by decide +kernel)
    have g_law_draw := T.gl "_law_draw" (by decide +kernel)
    have n_len := T.fr "len" (by decide +kernel)
    have g_law_pick := T.gl "_law_pick" (by decide +kernel)
    refine ⟨_, PSs.nox (pss_cons (ps_set (i := 2) sc_law_bent.nd rfl (Or.inl rfl) (pe_lst (pa_cons pe_str (pa_cons pe_str (pa_cons pe_str (pa_cons pe_str (pa_cons pe_str (pa_cons pe_str (pa_cons pe_str (pa_cons pe_str (pa_cons pe_str (pa_cons pe_str (pa_cons pe_str (pa_cons pe_str (pa_cons pe_str pa_nil)))))))))))))))
      (pss_cons (ps_for PassesOwn.never rfl (pi_range1 (by rfl) n_range (pa_cons (pe_call G_law_draw (hr.mono (by decide)) (by rfl) g_law_draw kp_law_draw b_law_draw .nil pass0 (pa_cons (pv 0) (pa_cons pe_int pa_nil))) pa_nil)) (pg_name (i := 3) sc_law_bent.nd rfl (Or.inl rfl))
      (pss_cons (ps_set (i := 4) sc_law_bent.nd rfl (Or.inl rfl) (pe_call G_law_draw (hr.mono (by decide)) (by rfl) g_law_draw kp_law_draw b_law_draw .nil pass0 (pa_cons (pv 0) (pa_cons (pe_op op_add (pe_callB call_len_str (by rfl) n_len (by decide +kernel) (pa_cons (pv 1) pa_nil)) pe_int) pa_nil))))
      (pss_cons (ps_set (i := 5) sc_law_bent.nd rfl (Or.inl rfl) (pe_call G_law_pick (hr.mono (by decide)) (by rfl) g_law_pick kp_law_pick b_law_pick .nil pass0 (pa_cons (pv 0) (pa_cons (pv 2) pa_nil))))
      (pss_cons (ps_set (i := 6) sc_law_bent.nd rfl (Or.inl rfl) (pe_call G_law_draw (hr.mono (by decide)) (by rfl) g_law_draw kp_law_draw b_law_draw .nil pass0 (pa_cons (pv 0) (pa_cons pe_int pa_nil))))
      (pss_one (ps_set (i := 1) sc_law_bent.nd rfl (Or.inl rfl) (pe_op op_add_str (pe_op op_add_str (pe_slice sl_str (pv 1) po_none (po_some (pv 4))) (pe_ifExp (pt_cmpR op_gt (pv 6) pe_int (nomark _)) (pv 5) pe_str)) (pe_slice sl_str (pv 1) (po_some (pe_op op_add (pv 4) (pe_ifExp (pt_cmpR op_lt (pv 6) pe_int (nomark _)) pe_int pe_int))) po_none))))))))
      (pss_one (ps_ret (pv 1))))), ?_⟩
    refine ⟨(show 13 ≤ sizeLine by decide), fun S hS => ?_⟩
    have nS := pen.new hS
    have e0 := Ex.new (o := .lst [V.str "0", V.str "1", V.str ".", V.str "-", V.str ",", V.str "(", V.str ")", V.str " ", V.str "2", V.str "x", V.str "()", V.str ",-", V.str ".,"]) hS
    have gS : upd H S (.lst [V.str "0", V.str "1", V.str ".", V.str "-", V.str ",", V.str "(", V.str ")", V.str " ", V.str "2", V.str "x", V.str "()", V.str ",-", V.str ".,"]) S = some (.lst (SIGNS.map V.str)) := upd_same
    have pen0 := pen.ex e0
    have px0 : Px p l H (upd H S (.lst [V.str "0", V.str "1", V.str ".", V.str "-", V.str ",", V.str "(", V.str ")", V.str " ", V.str "2", V.str "x", V.str "()", V.str ",-", V.str ".,"])) := Px.of e0
    generalize upd H S (.lst [V.str "0", V.str "1", V.str ".", V.str "-", V.str ",", V.str "(", V.str ")", V.str " ", V.str "2", V.str "x", V.str "()", V.str ",-", V.str ".,"]) = H0 at gS pen0 px0
    clear e0 hS pen
    try dsimp only [gName, List.set]
    refine ⟨.ref p, rfl, p, l, 4, b + 15, rfl, ⟨by decide, by decide⟩, pen0.less (by omega), fun r H1 hr px1 pen1 => ⟨r, rfl, by omega, by omega, ?_⟩⟩
    obtain ⟨rn, rfl, lrn⟩ := nat_of hr
    refine for_range (lo := 0) (n := ((rn : Nat) : Int).toNat) (fun i σ' H' => ∃ z' v3 v4 v5 v6, σ' = [some (.ref p), some (.str z'), some (.ref S), v3, v4, v5, v6] ∧ Px p l H H' ∧ Pen p l (b + 15 - 4 * i) H' ∧ H' S = some (.lst (SIGNS.map V.str)) ∧ Near i z z') ⟨z, _, _, _, _, rfl, px0.trans px1, pen1.less (by omega), px1.get nS.1 nS.2 gS, Near.zero z⟩ (fun i σ' H2 hi hI => ?_) (fun σ' H2 hI => ?_)
    · obtain ⟨z', v3, v4, v5, v6, rfl, px2, pen2, gS2, nr⟩ := hI
      have hi3 : i < 3 := by omega
      have lz := nr.2.2
      try dsimp only [gName, List.set]
      refine ⟨.ref p, rfl, .str z', rfl, z', rfl, fits (by omega), ((z'.length : Nat) : Int), 1, rfl, rfl, p, l, ((z'.length : Nat) : Int) + 1, b + 15 - 4 * i - 1, rfl, ⟨by omega, by omega⟩, pen2.less (by omega), fun r3 H3 hr3 px3 pen3 => ?_⟩
      obtain ⟨ra, rfl, lra⟩ := nat_of hr3
      try dsimp only [gName, List.set]
      have gS3 := px3.get nS.1 nS.2 gS2
      refine ⟨.ref p, rfl, .ref S, rfl, p, l, S, SIGNS.map V.str, b + 15 - 4 * i - 2, rfl, sq_of ((cut_at nS.1 nS.2).trans gS3), ⟨(fun z => nomatch z), show 13 ≤ 1000000 by decide⟩, pen3.less (by omega), fun v4 H4 hv4 px4 pen4 => ?_⟩
      obtain ⟨sg, hsg, rfl⟩ := List.mem_map.mp hv4
      try dsimp only [gName, List.set]
      refine ⟨.ref p, rfl, p, l, 3, b + 15 - 4 * i - 3, rfl, ⟨by decide, by decide⟩, pen4.less (by omega), fun r5 H5 hr5 px5 pen5 => ?_⟩
      try dsimp only [gName, List.set]
      have gS5 := px5.get nS.1 nS.2 (px4.get nS.1 nS.2 gS3)
      have px25 := ((px2.trans px3).trans px4).trans px5
      have lsg := (signs_small sg hsg).2.2
      have j1 : (if decide (r5 < 2) = true then (1 : Int) else 0) = (((if decide (r5 < 2) = true then 1 else 0 : Nat)) : Int) := by split <;> rfl
      have hs1 : (if decide (0 < r5) = true then sg else ("" : Str)) ∈ SIGNS ∨ (if decide (0 < r5) = true then sg else ("" : Str)) = "" := by
        split
        · exact .inl hsg
        · exact .inr rfl
      have ls1 : (if decide (0 < r5) = true then sg else ("" : Str)).length ≤ 2 := by
        split
        · exact lsg
        · decide +kernel
      have lc1 := cutS_length z' none (some ((ra : Nat) : Int))
      have lc2 := cutS_length z' (some ((ra + (if decide (r5 < 2) = true then 1 else 0) : Nat) : Int)) none
      have lap := PZ.app_len (cutS z' none (some ((ra : Nat) : Int))) (if decide (0 < r5) = true then sg else ("" : Str))
      refine s_asg (v := .str (cutS z' none (some ((ra : Nat) : Int)) ++ (if decide (0 < r5) = true then sg else ("" : Str)) ++ cutS z' (some ((ra + (if decide (r5 < 2) = true then 1 else 0) : Nat) : Int)) none)) (ev_op (ev_op (ev_slT (ev_var rfl) (ev_var rfl) (by omega)) (y := .str (if decide (0 < r5) = true then sg else ("" : Str))) (ev_if (b := decide (0 < r5)) (et_test (ev_op (ev_var rfl) (ev_c (v := .int 0)) rv_I0)) (fun hb => ev_is (ev_var rfl) (by rw [if_pos hb])) (fun hb => ev_is (ev_c (v := .str "")) (by rw [if_neg (by rw [hb]; exact Bool.false_ne_true)]))) (rv_adds (by rw [sizeLine_eq]; omega))) (ev_slD (i := ra + (if decide (r5 < 2) = true then 1 else 0)) (ev_var rfl) (ev_is (ev_op (ev_var rfl) (y := .int (if decide (r5 < 2) = true then 1 else 0)) (ev_if (b := decide (r5 < 2)) (et_test (ev_op (ev_var rfl) (ev_c (v := .int 2)) rv_I0)) (fun hb => ev_is (ev_c (v := .int 1)) (by rw [if_pos hb])) (fun hb => ev_is (ev_c (v := .int 0)) (by rw [if_neg (by rw [hb]; exact Bool.false_ne_true)]))) rv_I0) (by rw [j1]; rfl)) (by omega)) (rv_adds (by rw [sizeLine_eq]; omega))) fun H6 e6 => ?_
      exact ⟨_, _, _, _, _, rfl, px25.trans (Px.of e6), (pen5.ex e6).less (by omega), e6 _ _ gS5, bend nr hs1 (Nat.le_add_right _ _) rfl⟩
    · obtain ⟨z', v3, v4, v5, v6, rfl, px2, pen2, gS2, nr⟩ := hI
      have h3 : ((rn : Nat) : Int).toNat ≤ 3 := by omega
      refine s_ret (ev_var rfl) fun H3 e3 => kk z' H3 (px2.trans (Px.of e3)) ((pen2.ex e3).less (by omega)) ?_
      obtain ⟨a1, a2, a3⟩ := nr
      exact ⟨by omega, by omega, by omega⟩

theorem ok_law_levels {fd : FuncData} (F : FnP K "_law_levels" "_law_levels" s_law_levels (ga K "_law_levels") fd) (T : Tx K w mg) (c_law_draw : Cl P w K mg base CX0 1 (ga K "_law_draw") ["_law_pen", "_law_many"] spDraw) : FnOk P w K mg base CX0 (1 + 1) (ga K "_law_levels") fd ["_law_pen", "_law_many", "_law_inner"] spLev := by
  obtain ⟨fd_law_draw, G_law_draw, b_law_draw, kp_law_draw⟩ := c_law_draw
  refine FunD.ok F sc_law_levels (fun vs H Q E h => ?_) (fun cdv A outer s H vs Q E hr h => ?_)
  · obtain ⟨p, l, m, b, z, e, rfl, _⟩ := h
    rfl
  · obtain ⟨p, l, m, b, z, e, rfl, hm, hz, lz, he, pen, kk⟩ := h
    have n_range := T.fr "range" (by decide +kernel)
    have g_law_draw := T.gl "_law_draw" (by decide +kernel)
    refine ⟨_, PSs.nox (pss_one (ps_ret (pe_op op_add_str (pe_op op_add_str (pe_join pe_str (pe_lc (own := [("_law_k", 3)]) (g := gName 3) (by rfl) sc_law_levels.nd (pi_range1 (by rfl) n_range (pa_cons (pv 1) pa_nil)) (blkOk_by (own := [("_law_k", 3)]) (N := ["_law_pen", "_law_many", "_law_inner", "_law_k"]) (sc := defScope s_law_levels) (by decide +kernel)) (fun _ _ _ _ _ => (pg_name (i := 3) sc_law_levels.nd rfl (Or.inl rfl))) (fun _ _ _ _ _ => pts_nil) (fun _ _ _ _ _ => (pe_ifExp (pt_cmpR op_eq (pe_call G_law_draw (hr.mono (by decide)) (by rfl) g_law_draw kp_law_draw b_law_draw .nil pass0 (pa_cons (pv 0) (pa_cons pe_int pa_nil))) pe_int (nomark _)) pe_str pe_str)))) (pv 2)) (pe_op op_mulS0 pe_str (pv 1))))), ?_⟩
    refine ⟨⟨_, rfl⟩, .int ((m : Nat) : Int), rfl, (m : Nat), rfl, by omega, by omega, fun D hD => ?_⟩
    have nD := pen.new hD
    refine lc_range (lo := 0) (n := ((m : Nat) : Int).toNat) (fun i H' => ∃ bs : List Bool, bs.length = i ∧ H' D = some (.lst ((bs.map pre).map V.str)) ∧ Px p l H H' ∧ Pen p l (b + m - i) H')
      ⟨[], rfl, upd_same, Px.of (Ex.new hD), (pen.ex (Ex.new hD)).less (by omega)⟩ (fun i H' hi hI => ?_) (fun H1 hI => ?_)
    · obtain ⟨bs, lb, gD, px, pen1⟩ := hI
      refine ⟨rfl, yes_go ?_⟩
      refine ⟨.ref p, rfl, p, l, 2, b + m - (i + 1), rfl, ⟨by decide, by decide⟩, pen1.less (by omega), fun r2 H2 hr2 px2 pen2 => ?_⟩
      have fin : ∀ (c : Bool), ∃ acc, H2 D = some (.lst acc) ∧ acc.length < sizeLine ∧ ∃ bs' : List Bool, bs'.length = i + 1 ∧ upd H2 D (.lst (acc ++ [V.str (pre c)])) D = some (.lst ((bs'.map pre).map V.str)) ∧ Px p l H (upd H2 D (.lst (acc ++ [V.str (pre c)]))) ∧ Pen p l (b + m - (i + 1)) (upd H2 D (.lst (acc ++ [V.str (pre c)]))) := fun c => by
        refine ⟨_, px2.get nD.1 nD.2 gD, ?_, bs ++ [c], ?_, ?_, (px.trans px2).upd (.inr (.inr hD)), pen2.upd nD.1 nD.2⟩
        · rw [List.length_map, List.length_map]
          exact small1000 (by omega)
        · rw [List.length_append, lb]
          rfl
        · rw [upd_same, List.map_append, List.map_append]
          rfl
      refine ⟨rfl, _, rfl, ite2 (fun _ => fin true) (fun _ => fin false)⟩
    · obtain ⟨bs, lb, gD, px, pen1⟩ := hI
      have hn : ((m : Nat) : Int).toNat = m := by omega
      rw [hn] at lb pen1
      have ps := pres_sum bs
      have z0 : ("" : Str).length = 0 := by decide +kernel
      have jl := join_len ("" : Str) (bs.map pre)
      have lbm : (bs.map pre).length = m := by rw [List.length_map, lb]
      have l1 := repS_len (")" : Str) m
      have l0 : (")" : Str).length = 1 := by decide +kernel
      rw [z0] at jl
      rw [l0] at l1
      have al := PZ.app_len (Txt.join ("" : Str) (bs.map pre)) z
      have al2 := PZ.app_len (Txt.join ("" : Str) (bs.map pre) ++ z) (repS ")" m)
      have ts := tower_spell he bs (by omega)
      rw [← hz, lb] at ts
      refine ⟨("" : Str), D, bs.map pre, rfl, rfl, .inl (sq_of gD), by rw [z0]; omega, .str z, rfl, _, _, rfl, rfl, (by rw [sizeLine_eq]; omega), .int ((m : Nat) : Int), rfl, ")", m, rfl, rfl, by omega, ⟨by decide +kernel, by decide +kernel⟩, _, _, rfl, rfl, (by rw [sizeLine_eq]; omega), ?_⟩
      rw [ts] at al2 ⊢
      exact kk bs H1 lb px (pen1.less (by omega)) (by omega)

end
end K10
set_option Elab.async false
set_option linter.all false
set_option maxRecDepth 100000
set_option maxHeartbeats 8000000
namespace K10
open PySem PySem.Spec PyProof.Rows L2 He XH XV XR PEN TR XQ PZ Evl

open XO RP
theorem spellL_app (a b : List PyData) : spellL (a ++ b) = spellL a ++ spellL b := by rw [spellL_map, spellL_map, spellL_map, List.map_append]

def leaf : PyData := nd [] []
theorem leaf_spell : ("." : Str) = spell leaf := by
  unfold leaf
  rw [spell_nd, if_pos rfl]
  unfold digS
  decide +kernel
theorem leaf_bd {B C : Nat} : Bd B C leaf := .mk rfl (Nat.zero_le _) (fun b hb => nomatch hb) (Nat.zero_le _) .nil
theorem leaf_size : size leaf = 1 ∧ deep leaf = 1 := by
  unfold leaf
  rw [size_nd, deep_nd]
  exact ⟨rfl, rfl⟩
theorem acc_extra {B C : Nat} {d : PyData} (h : Bd B C d) : acc (cd (spell d) ++ [41]) = false := by
  obtain ⟨e, he, k⟩ := run_tree h 0 (by omega) [41]
  unfold acc
  rw [k]
  have st : stepA (e, 0) 41 = none := by
    unfold stepA
    rw [if_neg (by simp [inside])]
  simp only [runA, st]
theorem res_is {x : Option Nat} {n : Nat} : decide (V.int (resI x) = V.int (n : Nat)) = decide (x = some n) := by
  refine decide_eq_decide.mpr ⟨fun h => ?_, fun h => by rw [h]; rfl⟩
  injection h with h
  cases x with
  | none =>
    have h : (-1 : Int) = (n : Nat) := h
    omega
  | some b =>
    have h : ((b : Nat) : Int) = (n : Nat) := h
    rw [show b = n by omega]
theorem good_val {z : Str} (hp : pcnt (cd z) ≤ 40) : decide (V.int (resI (nodeV (cd z) 41 0)) = V.int (z.length : Nat)) = acc (cd z) := by
  rw [res_is, len_cd]
  cases h : acc (cd z) with
  | true => exact decide_eq_true ((good_iff hp).mpr h)
  | false =>
    refine decide_eq_false fun q => ?_
    rw [(good_iff hp).mp q] at h
    cases h
theorem dp_head {K : PySem.W.Frag} {H : Hp} {q : Addr} {z : Str} {r : List PyData} (h : Dp K H (.ref q) (.tuple (.str z :: r))) : ∃ xs, SqT K H q (.str z :: xs) := by
  cases h with
  | tup h1 h2 =>
    cases h2 with
    | cons a b =>
      cases a
      exact ⟨_, h1⟩
theorem told_go {K : PySem.W.Frag} {H : Hp} {z : Str} {d : PyData} {Q : VK} (hz : z = spell d) (hb : Bd 60 600 d) (hl : z.length ≤ 50000) (k : ∀ q H', Ex H H' → Dp K H' (.ref q) (dOut d) → Q (.ref q) H') : spTold K [.str z] H Q E0 := by
  have ac : acc (cd z) = true := by rw [hz]; exact acc_spell hb
  exact ⟨z, rfl, hl, fun hf => (by rw [ac] at hf; cases hf), fun _ => ⟨d, hz, hb, k⟩⟩
theorem told_no {K : PySem.W.Frag} {H : Hp} {z : Str} {Q : VK} (ha : acc (cd z) = false) (hl : z.length ≤ 50000) (k : ∀ q H', Ex H H' → Dp K H' (.ref q) dBad → Q (.ref q) H') : spTold K [.str z] H Q E0 :=
  ⟨z, rfl, hl, fun _ => k, fun hf => (by rw [ha] at hf; cases hf)⟩
theorem told_ev {K : PySem.W.Frag} {H : Hp} {σ : L2.St} {ta : TE} {z : Str} {d : PyData} {Q : VK} (h : Ev ta σ H (.str z)) (hz : z = spell d) (hb : Bd 60 600 d) (hl : z.length ≤ 50000) (k : ∀ q H', Ex H H' → Dp K H' (.ref q) (dOut d) → Q (.ref q) H') : tCall (spTold K) [] E0 (tCons ta tNil) σ H Q :=
  h H (Ex.refl _) _ fun H1 e1 => told_go hz hb hl fun q H2 e2 => k q H2 (e1.trans e2)
theorem told_evn {K : PySem.W.Frag} {H : Hp} {σ : L2.St} {ta : TE} {z : Str} {Q : VK} (h : Ev ta σ H (.str z)) (ha : acc (cd z) = false) (hl : z.length ≤ 50000) (k : ∀ q H', Ex H H' → Dp K H' (.ref q) dBad → Q (.ref q) H') : tCall (spTold K) [] E0 (tCons ta tNil) σ H Q :=
  h H (Ex.refl _) _ fun H1 e1 => told_no ha hl fun q H2 e2 => k q H2 (e1.trans e2)
theorem shp_bad : SeqAt.shaped dBad = true := by decide +kernel
theorem shp_out (d : PyData) : SeqAt.shaped (dOut d) = true := by
  unfold dOut
  split
  · unfold dRead
    simp [SeqAt.shaped, PyData.canLay, PyData.canLay0, PyData.canLayAll0, PyData.depth, PyData.depthAll]
    decide +kernel
  · decide +kernel
theorem ne_go {K : PySem.W.Frag} {H : Hp} {x y : V} {d : PyData} {Q : VK} (h1 : Dp K H x d) (h2 : Dp K H y d) (hs : SeqAt.shaped d = true) (k : Q (.bl false) H) : rNeD K x y H Q :=
  ⟨d, d, h1, h2, hs, hs, by rw [eqv_same hs]; exact k⟩
theorem joinL_snoc : ∀ (ls : List (List Nat)) (x : List Nat), ls ≠ [] → TL.joinL [44] (ls ++ [x]) = TL.joinL [44] ls ++ (44 :: x)
  | [], _, h => absurd rfl h
  | [a], x, _ => by simp [TL.joinL]
  | a :: b :: r, x, _ => by
    have ih := joinL_snoc (b :: r) x (by simp)
    rw [List.cons_append, joinL_cons, joinL_cons, if_neg (by simp), if_neg (by simp), ih]
    simp
def flat (n : Nat) : PyData := nd [0, 1] (List.replicate n leaf ++ [.none])
theorem flat_kids {B C : Nat} (n : Nat) : BdL B C (List.replicate n leaf ++ [.none]) := by
  induction n with
  | zero => exact .non .nil
  | succ n ih => exact .one leaf_bd ih
theorem flat_bd {n : Nat} (hn : n ≤ 599) : Bd 60 600 (flat n) := .mk rfl (by decide) (fun b hb => by
    rcases List.mem_cons.mp hb with q | q
    · exact .inl q
    · exact .inr (List.mem_singleton.mp q)) (by rw [List.length_append, List.length_replicate]; exact Nat.succ_le_succ hn) (flat_kids n)
theorem flat_size (n : Nat) (hn : 1 ≤ n) : size (flat n) = n + 1 ∧ deep (flat n) = 2 := by
  have h : sizeL (List.replicate n leaf) = n ∧ (1 ≤ n → deepL (List.replicate n leaf) = 1) ∧ deepL (List.replicate n leaf) ≤ 1 := by
    clear hn
    induction n with
    | zero => simp [sizeL, deepL]
    | succ n ih =>
      obtain ⟨h1, h2, h3⟩ := ih
      rw [List.replicate_succ]
      simp only [sizeL, deepL, leaf_size.1, leaf_size.2, h1]
      omega
  unfold flat
  rw [size_nd, deep_nd, sizeL_app, deepL_app, h.1, h.2.1 hn]
  simp [sizeL, deepL, size_non, deep_non]
  omega
theorem flat_spell {n : Nat} (h1 : 1 ≤ n) (hn : n ≤ 599) : ("01(" : Str) ++ Txt.join ("," : Str) (List.replicate n ("." : Str)) ++ (",-)" : Str) = spell (flat n) := by
  refine str_ext ?_
  have c1 : cd ("01(" : Str) = [48, 49, 40] ∧ cd (",-)" : Str) = [44, 45, 41] ∧ cd ("," : Str) = [44] := by decide +kernel
  have c2 := cd_node (flat_bd hn)
  rw [app_cd, app_cd, join_cd, c1.1, c1.2.1, c1.2.2]
  show _ = cd (spell (nd _ _))
  rw [c2, if_neg (by simp)]
  unfold spL
  rw [spellL_app, List.map_append]
  have e1 : (spellL (List.replicate n leaf)).map cd = (List.replicate n ("." : Str)).map cd := by
    rw [spellL_map, List.map_replicate, ← leaf_spell]
  have e2 : (spellL [PyData.none]).map cd = [[45]] := by
    simp [spellL, none_cd]
  rw [e1, e2, joinL_snoc _ _ (by
    cases n with
    | zero => omega
    | succ n => simp [List.replicate_succ])]
  simp [dgc, dg]
theorem dcnt_near {z z' : Str} {d : PyData} (hz : z = spell d) (hb : Bd 6 3 d) (hs : size d ≤ 9) (h : Near 3 z z') : dcnt (cd z') ≤ 60 ∧ pcnt (cd z') ≤ 20 ∧ z'.length ≤ 300 := by
  obtain ⟨c1, c2, c3⟩ := cnts hb
  obtain ⟨h1, h2, h3⟩ := h
  rw [hz] at h1 h2 h3
  rw [len_cd (spell d)] at h3
  omega

section
variable {P : Program} {w : World} {K : PySem.W.Frag} {mg : Str → Option Value} {base : Heap}

theorem ok_law {fd : FuncData} (F : FnP K "law" "law" s_law (ga K "law") fd) (T : T10 K w mg) (c_law_draw : Cl P w K mg base CX0 50 (ga K "_law_draw") ["_law_pen", "_law_many"] spDraw) (c_law_tree : Cl P w K mg base CX0 50 (ga K "_law_tree") ["_law_pen", "_law_room", "_law_deep_here"] (spTree K 4)) (c_law_spelled : Cl P w K mg base CX0 50 (ga K "_law_spelled") ["_law_tree_here"] (spLS K 5)) (c_law_node : Cl P w K mg base CX0 50 (ga K "_law_node") ["_law_text", "_law_at", "_law_deep_here"] (spNode 41)) (c_law_told : Cl P w K mg base CX0 50 (ga K "_law_told") ["_law_text"] (spTold K)) (c_law_bent : Cl P w K mg base CX0 50 (ga K "_law_bent") ["_law_pen", "_law_text"] spBent) (c_law_levels : Cl P w K mg base CX0 50 (ga K "_law_levels") ["_law_pen", "_law_many", "_law_inner"] spLev) : FnOk P w K mg base CX0 (50 + 1) (ga K "law") fd ["_law_script"] (spLaw K) := by
  obtain ⟨fd_law_draw, G_law_draw, b_law_draw, kp_law_draw⟩ := c_law_draw
  obtain ⟨fd_law_tree, G_law_tree, b_law_tree, kp_law_tree⟩ := c_law_tree
  obtain ⟨fd_law_spelled, G_law_spelled, b_law_spelled, kp_law_spelled⟩ := c_law_spelled
  obtain ⟨fd_law_node, G_law_node, b_law_node, kp_law_node⟩ := c_law_node
  obtain ⟨fd_law_told, G_law_told, b_law_told, kp_law_told⟩ := c_law_told
  obtain ⟨fd_law_bent, G_law_bent, b_law_bent, kp_law_bent⟩ := c_law_bent
  obtain ⟨fd_law_levels, G_law_levels, b_law_levels, kp_law_levels⟩ := c_law_levels
  refine FunD.ok F sc_law (fun vs H Q E h => ?_) (fun cdv A outer s H vs Q E hr h => ?_)
  · obtain ⟨a, ns, rfl, _⟩ := h
    rfl
  · obtain ⟨a, ns, rfl, hS, hl, kk⟩ := h
    have n_list := T.fr "list" (by decide +kernel)
    have n_range := T.fr "range" (by decide +kernel)
    have g_law_bent := T.gl "_law_bent" (by decide +kernel)
    have g_law_spelled := T.gl "_law_spelled" (by decide +kernel)
    have g_law_tree := T.gl "_law_tree" (by decide +kernel)
    have g_law_draw := T.gl "_law_draw" (by decide +kernel)
    have g_law_node := T.gl "_law_node" (by decide +kernel)
    have n_len := T.fr "len" (by decide +kernel)
    have g_law_told := T.gl "_law_told" (by decide +kernel)
    have g_law_levels := T.gl "_law_levels" (by decide +kernel)
    refine ⟨_, PSs.nox (pss_cut (ps_set (i := 1) sc_law.nd rfl (Or.inl rfl) (pe_lst (pa_cons (pe_orT (pe_callTy call_list_of (by rfl) n_list (by decide +kernel) (pa_cons (pv 0) pa_nil)) (pe_one (pe_lst (pa_cons pe_int pa_nil)))) (pa_cons pe_int pa_nil))))
      (pss_cons (ps_for PassesOwn.never rfl (pi_range1 (by rfl) n_range (pa_cons pe_int pa_nil)) (pg_name (i := 2) sc_law.nd rfl (Or.inl rfl))
      (pss_cons (ps_set (i := 3) sc_law.nd rfl (Or.inl rfl) (pe_call G_law_bent (hr.mono (by decide)) (by rfl) g_law_bent kp_law_bent b_law_bent .nil pass0 (pa_cons (pv 1) (pa_cons (pe_call G_law_spelled (hr.mono (by decide)) (by rfl) g_law_spelled kp_law_spelled b_law_spelled .nil pass0 (pa_cons (pe_call G_law_tree (hr.mono (by decide)) (by rfl) g_law_tree kp_law_tree b_law_tree .nil pass0 (pa_cons (pv 1) (pa_cons (pe_op op_add pe_int (pe_call G_law_draw (hr.mono (by decide)) (by rfl) g_law_draw kp_law_draw b_law_draw .nil pass0 (pa_cons (pv 1) (pa_cons pe_int pa_nil)))) (pa_cons pe_int pa_nil)))) pa_nil)) pa_nil))))
      (pss_cons (ps_set (i := 4) sc_law.nd rfl (Or.inl rfl) (pe_cmpR op_eq (pe_call G_law_node (hr.mono (by decide)) (by rfl) g_law_node kp_law_node b_law_node .nil pass0 (pa_cons (pv 3) (pa_cons pe_int (pa_cons pe_int pa_nil)))) (pe_callB call_len_str (by rfl) n_len (by decide +kernel) (pa_cons (pv 3) pa_nil)) (nomark _)))
      (pss_cons (ps_set (i := 5) sc_law.nd rfl (Or.inl rfl) (pe_call G_law_told (hr.mono (by decide)) (by rfl) g_law_told kp_law_told b_law_told .nil pass0 (pa_cons (pv 3) pa_nil)))
      (pss_one (ps_if (PW.pt (pw_or (pt_cmpR op_ne (pv 4) (pe_cmpR op_eq (pe_ix ix_tup (pv 5) pe_int (fun _ _ => rfl)) pe_str (nomark _)) (nomark _)) (pw_or1 (PW.pt (pw_and (pt_not (pt_val (pv 4))) (pw_and1 (pt_cmpR (op_neD hr.units) (pv 5) (pe_tup (pa_cons pe_str (pa_cons pe_int (pa_cons pe_bl (pa_cons pe_bl pa_nil))))) (nomark _))))))))
      (pss_one (ps_ret pe_bl))
      pss_nil))))))
      (pss_cons (ps_set (i := 6) sc_law.nd rfl (Or.inl rfl) (pe_op op_add pe_int (pe_call G_law_draw (hr.mono (by decide)) (by rfl) g_law_draw kp_law_draw b_law_draw .nil pass0 (pa_cons (pv 1) (pa_cons pe_int pa_nil)))))
      (pss_cons (ps_if (pt_cmpR (op_neD hr.units) (pe_call G_law_told (hr.mono (by decide)) (by rfl) g_law_told kp_law_told b_law_told .nil pass0 (pa_cons (pe_call G_law_levels (hr.mono (by decide)) (by rfl) g_law_levels kp_law_levels b_law_levels .nil pass0 (pa_cons (pv 1) (pa_cons (pv 6) (pa_cons pe_str pa_nil)))) pa_nil)) (pe_ifExp (pt_cmpR op_lt (pv 6) pe_int (nomark _)) (pe_tup (pa_cons pe_str (pa_cons (pe_op op_add (pv 6) pe_int) (pa_cons (pe_op op_add (pv 6) pe_int) pa_nil)))) (pe_tup (pa_cons pe_str (pa_cons pe_bl (pa_cons pe_bl pa_nil))))) (nomark _))
      (pss_one (ps_ret pe_bl))
      pss_nil)
      (pss_cons (ps_if (pt_cmpR (op_neD hr.units) (pe_call G_law_told (hr.mono (by decide)) (by rfl) g_law_told kp_law_told b_law_told .nil pass0 (pa_cons (pe_call G_law_levels (hr.mono (by decide)) (by rfl) g_law_levels kp_law_levels b_law_levels .nil pass0 (pa_cons (pv 1) (pa_cons (pv 6) (pa_cons pe_str pa_nil)))) pa_nil)) (pe_ifExp (pt_cmpR op_lt (pv 6) pe_int (nomark _)) (pe_tup (pa_cons pe_str (pa_cons (pv 6) (pa_cons (pv 6) pa_nil)))) (pe_tup (pa_cons pe_str (pa_cons pe_bl (pa_cons pe_bl pa_nil))))) (nomark _))
      (pss_one (ps_ret pe_bl))
      pss_nil)
      (pss_cons (ps_if (pt_cmpR (op_neD hr.units) (pe_call G_law_told (hr.mono (by decide)) (by rfl) g_law_told kp_law_told b_law_told .nil pass0 (pa_cons (pe_op op_add_str (pe_call G_law_levels (hr.mono (by decide)) (by rfl) g_law_levels kp_law_levels b_law_levels .nil pass0 (pa_cons (pv 1) (pa_cons (pe_op op_add pe_int (pv 6)) (pa_cons pe_str pa_nil)))) pe_str) pa_nil)) (pe_tup (pa_cons pe_str (pa_cons pe_int (pa_cons pe_bl (pa_cons pe_bl pa_nil))))) (nomark _))
      (pss_one (ps_ret pe_bl))
      pss_nil)
      (pss_cons (ps_set (i := 7) sc_law.nd rfl (Or.inl rfl) (pe_op op_add pe_int (pe_call G_law_draw (hr.mono (by decide)) (by rfl) g_law_draw kp_law_draw b_law_draw .nil pass0 (pa_cons (pv 1) (pa_cons pe_int pa_nil)))))
      (pss_cons (ps_set (i := 8) sc_law.nd rfl (Or.inl rfl) (pe_ifExp (pt_cmpR op_lt (pv 7) pe_int (nomark _)) (pe_tup (pa_cons pe_str (pa_cons (pe_op op_add (pv 7) pe_int) (pa_cons pe_int pa_nil)))) (pe_tup (pa_cons pe_str (pa_cons pe_bl (pa_cons pe_bl pa_nil))))))
      (pss_one (ps_ret (pe_cmpR (op_eqD hr.units) (pe_call G_law_told (hr.mono (by decide)) (by rfl) g_law_told kp_law_told b_law_told .nil pass0 (pa_cons (pe_op op_add_str (pe_op op_add_str pe_str (pe_join pe_str (pe_op op_rep (pe_lst (pa_cons pe_str pa_nil)) (pv 7)))) pe_str) pa_nil)) (pv 8) (nomark _)))))))))))), ?_⟩
    refine q_cut (M := fun σ' H' => ∃ p l, σ' = [some (.ref a), some (.ref p), none, none, none, none, none, none, none] ∧ Pen p l 90000 H') ?_ fun σ1 H1 hM => ?_
    · refine ⟨.ref a, rfl, a, _, rfl, .inl hS, fun l0 hl0 => ⟨!ns.isEmpty, (show TruV K (.ref l0) _ _ from Or.inl ⟨ns.map V.int, sq_of upd_same, by cases ns <;> rfl⟩), ite2 (fun hn => ?_) (fun hn => ?_)⟩⟩
      · refine ⟨fits (show 2 ≤ 1000 by decide), fun p hp => ⟨p, l0, rfl, 0, ns, upd_same, Ex.new hp _ _ upd_same, ?_, by decide, by decide⟩⟩
        rintro rfl
        cases hn
      · refine ⟨fits (show 1 ≤ 1000 by decide), fun l1 hl1 => ⟨fits (show 2 ≤ 1000 by decide), fun p hp => ⟨p, l1, rfl, 0, [0], upd_same, Ex.new hp _ _ upd_same, by simp, by decide, by decide⟩⟩⟩
    obtain ⟨p, l, rfl, pen0⟩ := hM
    have hT4 : Tn 4 = 1450 := by decide
    refine q_forR1 (n := 4) (ea_cons ev_c ea_nil) ⟨by decide, by decide⟩ (fun i σ' H' => ∃ w2 w3 w4 w5, σ' = [some (.ref a), some (.ref p), w2, w3, w4, w5, none, none, none] ∧ Pen p l (90000 - i * 2000) H') (fun H7 e7 => ⟨_, _, _, _, rfl, (pen0.ex e7).less (by omega)⟩) (fun i σ' H0 hi hI => ?_) (fun σ' H0 hI => ?_)
    · clear pen0
      obtain ⟨w2, w3, w4, w5, rfl, pen⟩ := hI
      have hi4 : i < 4 := by omega
      try dsimp only [gName, List.set]
      -- the text
      refine ⟨.ref p, rfl, .ref p, rfl, .ref p, rfl, p, l, 9, 90000 - i * 2000 - 1, rfl, ⟨by decide, by decide⟩, pen.less (by omega), fun r1 H1 hr1 px1 pen1 => ⟨1, r1, rfl, rfl, ?_⟩⟩
      obtain ⟨rn, rfl, lrn⟩ := nat_of hr1
      refine ⟨p, l, 1 + rn, 90000 - (i + 1) * 2000 + 100, ?_, ⟨by omega, by omega⟩, pen1.less (by rw [hT4]; omega), fun vt d0 H2 px2 pen2 dv bd sd dd => ?_⟩
      · show [V.ref p, V.int (1 + (rn : Int)), V.int 4] = [V.ref p, V.int ((1 + rn : Nat) : Int), V.int ((4 : Nat) : Int)]
        rw [show (1 : Int) + (rn : Int) = ((1 + rn : Nat) : Int) by omega]
        rfl
      have bd6 : Bd 60 600 d0 := bd.mono (by decide) (by decide)
      have lsp := (cnts bd).2.2
      rw [← len_cd] at lsp
      refine ⟨vt, d0, rfl, dv, bd6, ⟨by omega, by omega, by omega⟩, fun H3 e3 => ?_⟩
      refine ⟨p, l, spell d0, 90000 - (i + 1) * 2000, rfl, by omega, (pen2.ex e3).less (by omega), fun z H4 px4 pen4 nr => ?_⟩
      obtain ⟨n1, n2, n3⟩ := dcnt_near rfl bd (by omega) nr
      try dsimp only [gName, List.set]
      -- whether it is a spelling
      refine q_asg (v := .bl (acc (cd z))) (ev_is (ev_op (ev_call (v := .int (resI (nodeV (cd z) 41 0))) (ea_cons (ev_var rfl) (ea_cons ev_c (ea_cons ev_c ea_nil))) fun H5 e5 Q5 q5 => ⟨z, 0, 0, rfl, rfl, by omega, Nat.zero_le _, q5⟩) (ev_cb (ea_cons (ev_var rfl) ea_nil) (fun H5 e5 Q5 q5 => ⟨z, rfl, fits (by omega), q5 H5 (Ex.refl _)⟩)) (rv_eq rfl)) (congrArg V.bl (good_val (by omega)))) fun H5 e5 => ?_
      try dsimp only [gName, List.set]
      have pen5 := pen4.ex e5
      clear dv pen pen1 pen2 pen4 px1 px2 px4 nr e3
      cases hac : acc (cd z) with
      | true =>
        obtain ⟨d, hbd, hd⟩ := acc_tree (B := 60) (C := 600) n1 (by rw [← len_cd]; omega) hac
        obtain ⟨k1, k2⟩ := deep_cnt hbd
        rw [← hd, ← len_cd] at k2
        rw [← hd] at k1
        have ok : size d ≤ 500 ∧ deep d ≤ 30 := ⟨by omega, by omega⟩
        refine told_ev (K := K) (ev_var rfl) (str_ext hd) hbd (by omega) fun q H6 e6 dq => ?_
        try dsimp only [gName, List.set]
        have dq2 := dq
        unfold dOut at dq2
        rw [if_pos ok] at dq2
        obtain ⟨xs, hq⟩ := dp_head dq2
        refine s_when (b := false) (et_is (et_or (a := false) (b := false) (et_is (et_test (ev_op (ev_var rfl) (ev_op (ev_ixT (i := ((0 : Nat) : Int)) (ev_var rfl) ev_c hq (atI_nat (j := 0) rfl)) (ev_c (v := .str "read")) (rv_eq rfl)) (rv_ne rfl))) (by decide)) fun _ => et_is (et_and (a := false) (b := false) (et_is (et_not (a := true) (et_test (ev_var rfl))) rfl) (fun z => nomatch z)) rfl) rfl) (fun z => nomatch z) (fun _ H7 e7 => ⟨_, _, _, _, rfl, pen5.ex (e6.trans e7)⟩)
      | false =>
        refine told_evn (K := K) (ev_var rfl) hac (by omega) fun q H6 e6 dq => ?_
        try dsimp only [gName, List.set]
        obtain ⟨xs, hq⟩ := dp_head dq
        refine s_when (b := false) (et_is (et_or (a := false) (b := false) (et_is (et_test (ev_op (ev_var rfl) (ev_op (ev_ixT (i := ((0 : Nat) : Int)) (ev_var rfl) ev_c hq (atI_nat (j := 0) rfl)) (ev_c (v := .str "read")) (rv_eq rfl)) (rv_ne rfl))) (by decide +kernel)) fun _ => et_is (et_and (a := true) (b := false) (et_is (et_not (a := false) (et_test (ev_var rfl))) rfl) (fun _ => et_is (et_test (ev_neD (ed_var rfl dq) (ed_tup (eds_cons ed_str (eds_cons ed_int (eds_cons (ed_of ev_c (.bl true)) (eds_cons (ed_of ev_c (.bl false)) eds_nil)))) (show 4 ≤ 1000 by decide)) shp_bad shp_bad)) (by decide +kernel))) rfl) rfl) (fun z => nomatch z) (fun _ H7 e7 => ⟨_, _, _, _, rfl, pen5.ex (e6.trans e7)⟩)
    · clear pen0
      obtain ⟨w2, w3, w4, w5, rfl, pen⟩ := hI
      dsimp only
      have lf := leaf_size
      -- how many levels
      refine ⟨.ref p, rfl, p, l, 4, 70000, rfl, ⟨by decide, by decide⟩, pen.less (by decide), fun r1 H1 hr1 px1 pen1 => ⟨28, r1, rfl, rfl, ?_⟩⟩
      obtain ⟨rn, rfl, lrn⟩ := nat_of hr1
      try dsimp only [gName, List.set]
      rw [show (28 : Int) + (rn : Int) = ((28 + rn : Nat) : Int) by omega]
      generalize hm : 28 + rn = m
      have hm1 : 28 ≤ m ∧ m ≤ 31 := by omega
      clear pen px1
      refine ⟨.ref p, rfl, .int ((m : Nat) : Int), rfl, p, l, m, 60000, ".", leaf, rfl, by omega, leaf_spell, by decide +kernel, .inr leaf_bd, pen1.less (by omega), fun bs H2 lb px2 pen2 lt => ?_⟩
      have tb : Bd 60 600 (tower bs leaf) := (tower_bd (by decide) (by decide) (.inr leaf_bd) bs).1 (fun q => by rw [q] at lb; simp at lb; omega)
      obtain ⟨ts, td⟩ := tower_size (e := leaf) bs
      try unfold tNil
      try dsimp only
      refine told_go (K := K) rfl tb (by omega) fun q H3 e3 dq => ?_
      have od : dOut (tower bs leaf) = if m < 30 then dRead (m + 1) (m + 1) else dGreat := by
        unfold dOut
        rw [ts, td, lb, lf.1, lf.2]
        by_cases h : m < 30
        · rw [if_pos h, if_pos (by omega)]
        · rw [if_neg h, if_neg (by omega)]
      refine (ed_if (K := K) (d := dOut (tower bs leaf)) (b := decide (((m : Nat) : Int) < 30)) (et_test (ev_op (ev_var rfl) (ev_c (v := .int 30)) rv_I0)) (fun hb => ?_) (fun hb => ?_)) H3 (Ex.refl _) _ fun v H4 e4 dv => ?_
      · rw [od, if_pos (by have := of_decide_eq_true hb; omega)]
        exact (ed_tup (eds_cons ed_str (eds_cons (ed_of (ev_op (ev_var rfl) (ev_c (v := .int 1)) rv_I0) (.int _)) (eds_cons (ed_of (ev_op (ev_var rfl) (ev_c (v := .int 1)) rv_I0) (.int _)) eds_nil))) (show 3 ≤ 1000 by decide))
      · rw [od, if_neg (by have := of_decide_eq_false hb; omega)]
        exact (ed_tup (eds_cons ed_str (eds_cons (ed_of ev_c (.bl true)) (eds_cons (ed_of ev_c (.bl false)) eds_nil))) (show 3 ≤ 1000 by decide))
      refine ne_go (dpM e4 _ _ dq) dv (shp_out _) ⟨_, rfl, iteF ?_⟩
      have pen4 := pen2.ex (e3.trans e4)
      clear dq dv pen1 pen2 px2 e3 e4 od ts td tb lt lb
      -- a dash within
      refine ⟨.ref p, rfl, .int ((m : Nat) : Int), rfl, p, l, m, 50000, "-", .none, rfl, by omega, spell_non.symm, by decide +kernel, .inl rfl, pen4.less (by omega), fun bs H5 lb px5 pen5 lt => ?_⟩
      have tb : Bd 60 600 (tower bs .none) := (tower_bd (by decide) (by decide) (.inl rfl) bs).1 (fun q => by rw [q] at lb; simp at lb; omega)
      obtain ⟨ts, td⟩ := tower_size (e := .none) bs
      try unfold tNil
      try dsimp only
      refine told_go (K := K) rfl tb (by omega) fun q H6 e6 dq => ?_
      have od : dOut (tower bs .none) = if m < 31 then dRead m m else dGreat := by
        unfold dOut
        rw [ts, td, lb, size_non, deep_non]
        by_cases h : m < 31
        · rw [if_pos h, if_pos (by omega)]
          rfl
        · rw [if_neg h, if_neg (by omega)]
      refine (ed_if (K := K) (d := dOut (tower bs .none)) (b := decide (((m : Nat) : Int) < 31)) (et_test (ev_op (ev_var rfl) (ev_c (v := .int 31)) rv_I0)) (fun hb => ?_) (fun hb => ?_)) H6 (Ex.refl _) _ fun v H7 e7 dv => ?_
      · rw [od, if_pos (by have := of_decide_eq_true hb; omega)]
        exact (ed_tup (eds_cons ed_str (eds_cons (ed_of (ev_var rfl) (.int _)) (eds_cons (ed_of (ev_var rfl) (.int _)) eds_nil))) (show 3 ≤ 1000 by decide))
      · rw [od, if_neg (by have := of_decide_eq_false hb; omega)]
        exact (ed_tup (eds_cons ed_str (eds_cons (ed_of ev_c (.bl true)) (eds_cons (ed_of ev_c (.bl false)) eds_nil))) (show 3 ≤ 1000 by decide))
      refine ne_go (dpM e7 _ _ dq) dv (shp_out _) ⟨_, rfl, iteF ?_⟩
      have pen7 := pen5.ex (e6.trans e7)
      clear dq dv pen4 pen5 px5 e6 e7 od ts td tb lt lb
      -- one sign more
      refine ⟨.ref p, rfl, .int ((m : Nat) : Int), rfl, 40, ((m : Nat) : Int), rfl, rfl, p, l, 40 + m, 40000, ".", leaf, ?_, by omega, leaf_spell, by decide +kernel, .inr leaf_bd, pen7.less (by omega), fun bs H8 lb px8 pen8 lt => ?_⟩
      · show [V.ref p, V.int (40 + ((m : Nat) : Int)), V.str "."] = [V.ref p, V.int ((40 + m : Nat) : Int), V.str "."]
        rw [show (40 : Int) + ((m : Nat) : Int) = ((40 + m : Nat) : Int) by omega]
      have tb : Bd 60 600 (tower bs leaf) := (tower_bd (by decide) (by decide) (.inr leaf_bd) bs).1 (fun q => by rw [q] at lb; simp at lb; omega)
      have l1 : (")" : Str).length = 1 := by decide +kernel
      have al := PZ.app_len (spell (tower bs leaf)) (")" : Str)
      refine ⟨_, _, rfl, rfl, (by rw [sizeLine_eq, l1]; omega), ?_⟩
      try unfold tNil
      try dsimp only
      refine told_no (K := K) (by rw [app_cd, mark_cd.1]; exact acc_extra tb) (by omega) fun q H9 e9 dq => ?_
      refine (ed_tup (K := K) (eds_cons ed_str (eds_cons ed_int (eds_cons (ed_of ev_c (.bl true)) (eds_cons (ed_of ev_c (.bl false)) eds_nil)))) (show 4 ≤ 1000 by decide)) H9 (Ex.refl _) _ fun v H10 e10 dv => ?_
      refine ne_go (dpM e10 _ _ dq) dv shp_bad ⟨_, rfl, iteF ?_⟩
      have pen10 := pen8.ex (e9.trans e10)
      clear dq dv pen7 pen8 px8 e9 e10 tb lt lb al
      -- many beside
      refine ⟨.ref p, rfl, p, l, 3, 30000, rfl, ⟨by decide, by decide⟩, pen10.less (by decide), fun r2 H11 hr2 px11 pen11 => ⟨498, r2, rfl, rfl, ?_⟩⟩
      obtain ⟨rf, rfl, lrf⟩ := nat_of hr2
      try dsimp only [gName, List.set]
      rw [show (498 : Int) + (rf : Int) = ((498 + rf : Nat) : Int) by omega]
      generalize hf : 498 + rf = n
      have hn1 : 498 ≤ n ∧ n ≤ 500 := by omega
      obtain ⟨fs, fd⟩ := flat_size n (by omega)
      have od : dOut (flat n) = if n < 500 then dRead (n + 1) 2 else dGreat := by
        unfold dOut
        rw [fs, fd]
        by_cases h : n < 500
        · rw [if_pos h, if_pos (by omega)]
        · rw [if_neg h, if_neg (by omega)]
      refine q_asgED (d := dOut (flat n)) (ed_if (K := K) (d := dOut (flat n)) (b := decide (((n : Nat) : Int) < 500)) (et_test (ev_op (ev_var rfl) (ev_c (v := .int 500)) rv_I0)) (fun hb => ?_) (fun hb => ?_)) fun v H12 e12 dv => ?_
      · rw [od, if_pos (by have := of_decide_eq_true hb; omega)]
        exact (ed_tup (eds_cons ed_str (eds_cons (ed_of (ev_op (ev_var rfl) (ev_c (v := .int 1)) rv_I0) (.int _)) (eds_cons ed_int eds_nil))) (show 3 ≤ 1000 by decide))
      · rw [od, if_neg (by have := of_decide_eq_false hb; omega)]
        exact (ed_tup (eds_cons ed_str (eds_cons (ed_of ev_c (.bl true)) (eds_cons (ed_of ev_c (.bl false)) eds_nil))) (show 3 ≤ 1000 by decide))
      try dsimp only [gName, List.set]
      have z1 : ("." : Str).length = 1 ∧ ("," : Str).length = 1 ∧ ("01(" : Str).length = 3 ∧ (",-)" : Str).length = 3 := by decide +kernel
      have jl := join_len ("," : Str) (List.replicate n ("." : Str))
      have sr : ((List.replicate n ("." : Str)).map (·.length)).sum = n := by rw [List.map_replicate, z1.1, List.sum_replicate_nat, Nat.mul_one]
      have jl' : (Txt.join ("," : Str) (List.replicate n ("." : Str))).length ≤ 1000 := by
        rw [sr, z1.2.1, List.length_replicate] at jl
        omega
      have a1 := PZ.app_len ("01(" : Str) (Txt.join ("," : Str) (List.replicate n ("." : Str)))
      have a2 := PZ.app_len (("01(" : Str) ++ Txt.join ("," : Str) (List.replicate n ("." : Str))) (",-)" : Str)
      rw [z1.2.2.1] at a1
      rw [z1.2.2.2] at a2
      have sp := flat_spell (n := n) (by omega) (by omega)
      refine ⟨⟨_, rfl⟩, (show 1 ≤ sizeLine by decide), fun S hS => ⟨.int ((n : Nat) : Int), rfl, S, (n : Nat), [.str "."], rfl, rfl, upd_same, by omega, by omega, by show 1 * ((n : Nat) : Int).toNat ≤ sizeLine; exact szL _ (by omega), fun rp hrp => ?_⟩⟩
      rw [rep_flat]
      have e13 := (Ex.new (o := .lst [.str "."]) hS).trans (Ex.new (o := .lst (List.replicate ((n : Nat) : Int).toNat (V.str "."))) hrp)
      have grp : upd (upd H12 S (.lst [.str "."])) rp (.lst (List.replicate ((n : Nat) : Int).toNat (V.str "."))) rp = some (.lst ((List.replicate n ("." : Str)).map V.str)) := by
        rw [upd_same, List.map_replicate]
        rfl
      generalize upd (upd H12 S (.lst [.str "."])) rp (.lst (List.replicate ((n : Nat) : Int).toNat (V.str "."))) = H13 at e13 grp
      refine ⟨("," : Str), rp, List.replicate n ("." : Str), rfl, rfl, .inl (sq_of grp), (by rw [sr, z1.2.1, List.length_replicate]; omega), _, _, rfl, rfl, (by rw [sizeLine_eq, z1.2.2.1]; omega), _, _, rfl, rfl, (by rw [sizeLine_eq, z1.2.2.2, a1]; omega), ?_⟩
      try unfold tNil
      try dsimp only
      refine told_go (K := K) sp (flat_bd (by omega)) (by omega) fun q H14 e14 dq => ?_
      refine ⟨v, rfl, dOut (flat n), dOut (flat n), dq, dpM (e13.trans e14) _ _ dv, shp_out _, shp_out _, ?_⟩
      rw [eqv_same (shp_out _)]
      exact kk H14

end
end K10
set_option Elab.async false
set_option linter.all false
set_option maxRecDepth 100000
set_option maxHeartbeats 8000000

namespace K10
open PySem PySem.Spec PyProof.Rows L2 He XH XV XR PEN TR XQ PZ Evl XT RP
def steps : Nat := 60000
def kinds : List String := ["NoneType", "tuple", "str", "int", "list"]

/-! ### the head -/
def fn : List He.DefD := [⟨("is_bit", none), "is_bit", "is_bit", defArgs s_is_bit, defBody s_is_bit, defScope s_is_bit, [], []⟩,
  ⟨("check_entries", none), "check_entries", "check_entries", defArgs s_check_entries, defBody s_check_entries, defScope s_check_entries, [], []⟩,
  ⟨("Puzzle", some "__eq__"), "__eq__", "Puzzle.__eq__", defArgs s_Puzzle___eq__, defBody s_Puzzle___eq__, defScope s_Puzzle___eq__, [], []⟩,
  ⟨("trimmed", none), "trimmed", "trimmed", defArgs s_trimmed, defBody s_trimmed, defScope s_trimmed, [], []⟩,
  ⟨("spelled", none), "spelled", "spelled", defArgs s_spelled, defBody s_spelled, defScope s_spelled, [], []⟩,
  ⟨("Puzzle", some "__init__"), "__init__", "Puzzle.__init__", defArgs s_Puzzle_init, defBody s_Puzzle_init, defScope s_Puzzle_init, [.adr (dflAt ("Puzzle", some "__init__") 0), .adr (dflAt ("Puzzle", some "__init__") 1)], []⟩,
  ⟨("BadText", some "__init__"), "__init__", "BadText.__init__", defArgs s_BadText_init, defBody s_BadText_init, defScope s_BadText_init, [], []⟩,
  ⟨("check_spelling", none), "check_spelling", "check_spelling", defArgs s_check_spelling, defBody s_check_spelling, defScope s_check_spelling, [], []⟩,
  ⟨("read_puzzle", none), "read_puzzle", "read_puzzle", defArgs s_read_puzzle, defBody s_read_puzzle, defScope s_read_puzzle, [], []⟩,
  ⟨("_law_draw", none), "_law_draw", "_law_draw", defArgs s_law_draw, defBody s_law_draw, defScope s_law_draw, [], []⟩,
  ⟨("_law_pick", none), "_law_pick", "_law_pick", defArgs s_law_pick, defBody s_law_pick, defScope s_law_pick, [], []⟩,
  ⟨("_law_tree", none), "_law_tree", "_law_tree", defArgs s_law_tree, defBody s_law_tree, defScope s_law_tree, [], []⟩,
  ⟨("_law_size", none), "_law_size", "_law_size", defArgs s_law_size, defBody s_law_size, defScope s_law_size, [], []⟩,
  ⟨("_law_spelled", none), "_law_spelled", "_law_spelled", defArgs s_law_spelled, defBody s_law_spelled, defScope s_law_spelled, [], []⟩,
  ⟨("_law_behind", none), "_law_behind", "_law_behind", defArgs s_law_behind, defBody s_law_behind, defScope s_law_behind, [], []⟩,
  ⟨("_law_node", none), "_law_node", "_law_node", defArgs s_law_node, defBody s_law_node, defScope s_law_node, [], []⟩,
  ⟨("_law_told", none), "_law_told", "_law_told", defArgs s_law_told, defBody s_law_told, defScope s_law_told, [], []⟩,
  ⟨("_law_bent", none), "_law_bent", "_law_bent", defArgs s_law_bent, defBody s_law_bent, defScope s_law_bent, [], []⟩,
  ⟨("_law_levels", none), "_law_levels", "_law_levels", defArgs s_law_levels, defBody s_law_levels, defScope s_law_levels, [], []⟩,
  ⟨("law", none), "law", "law", defArgs s_law, defBody s_law, defScope s_law, [], []⟩]
def fa : List Fc := [glosB globs, freesB frees, fun K => (Fa.int "MOST_NODES" 500).ok K, fun K => (Fa.int "GREATEST_DEPTH" 30).ok K, fun K => (Fa.str "ONLY_INSIDE" "-,)").ok K, fun K => (Fa.cls "Puzzle").ok K, fun K => pF.all fun x => (Fa.noat "Puzzle" x).ok K, fun K => (Fa.mkr "Puzzle").ok K, fun K => eqO (PySem.W.findIn K (.ref (ga K "Puzzle")) "__eq__") (some (some (.ref (ma K (ga K "Puzzle") "__eq__")))), fun K => PySem.W.isFn K (.ref (ma K (ga K "Puzzle") "__eq__")), fun K => eqO (PySem.W.findIn K (.ref (ga K "Puzzle")) "__class__") (some (some (.builtin "object.__class__"))), fun K => eqO (PySem.W.specialIn K (.builtin "object.__class__") "__get__") (some (some (.builtin "getset_descriptor.__get__"))), fun K => decide (PySem.W.takesIn K (.builtin "object.__class__") = some true), fun K => decide (PySem.W.mroIn K (ga K "Puzzle") (.type "object") = some true), fun K => kinds.all fun t => PySem.W.notFirst K (ga K "Puzzle") (.type t), fun K => decide (PySem.W.kitOne K (.ref (ga K "Puzzle")) (.ref (ga K "Puzzle")) = some true), fun K => kinds.all fun t => decide (PySem.W.kitOne K (.type t) (.ref (ga K "Puzzle")) = some false), fun K => XT.emptyAtB K (dflAt ("Puzzle", some "__init__") 0 K), fun K => XT.emptyAtB K (dflAt ("Puzzle", some "__init__") 1 K), fun K => bareB K "TooGreat", fun K => (Fa.exc "TooGreat").ok K, fun K => bareB K "BadPuzzle", fun K => (Fa.exc "BadPuzzle").ok K, fun K => (Fa.exm "BadPuzzle" "BadPuzzle" true).ok K, fun K => (Fa.exm "TooGreat" "BadPuzzle" false).ok K, fun K => (Fa.exm "TooGreat" "TooGreat" true).ok K, fun K => decide (PySem.W.kitOne K (.ref (ga K "BadPuzzle")) (.ref (ga K "TryError")) = some true), fun K => decide (PySem.W.kitOne K (.ref (ga K "BadPuzzle")) (.ref (ga K "TooGreat")) = some false), fun K => decide (PySem.W.kitOne K (.ref (ga K "TooGreat")) (.ref (ga K "TryError")) = some true), fun K => decide (PySem.W.kitOne K (.ref (ga K "TooGreat")) (.ref (ga K "BadPuzzle")) = some false), fun K => valsB K (ga K "MAY_FOLLOW") [(enS 0, .str (folT 0)), (enS 1, .str (folT 1)), (enS 2, .str (folT 2)), (enS 3, .str (folT 3))], fun K => valsB K (ga K "ENDS_WITH") (signs.map fun c => (sgn c, .str (enS (ends c)))), fun K => valsB K (ga K "LEVELS") [(sgn 40, .int 1), (sgn 41, .int (-1))], fun K => [48, 49, 46, 45, 44].all fun c => eqO (PySem.W.nsIn K (ga K "LEVELS") (sgn c)) (some none), fun K => ownB K "BadText" ["line"], fun K => (Fa.exm "BadText" "BadText" true).ok K, fun K => (Fa.exm "TooGreat" "BadText" false).ok K, fun K => decide (PySem.W.kitOne K (.ref (ga K "BadText")) (.ref (ga K "TryError")) = some true), fun K => decide (PySem.W.kitOne K (.ref (ga K "BadText")) (.ref (ga K "TooGreat")) = some false), fun K => decide (PySem.W.kitOne K (.ref (ga K "TooGreat")) (.ref (ga K "BadText")) = some false)]
abbrev R : PySem.W.OpenRow := PySem.W.OpenLaw.row PySem.Challenge.rw_tryback_k10_spellings_refused
def tb : List Tab := [(fun K => ga K "MAY_FOLLOW", ["opening", "digits", "dot", "child"]),
  (fun K => ga K "ENDS_WITH", ["0", "1", ".", "-", ")", "(", ","]),
  (fun K => ga K "LEVELS", ["(", ")"])]
abbrev hk : PySem.W.Hook := hookU 5 fa fn tb
def ob (s : PySem.W.SharedT) : AlU := obsUG 5 fa fn tb (HandSHeadRun.getT s)
theorem ob_eq (s : PySem.W.SharedT) : ob s = hk.obs s.abs := obsUG_eq (HandSHeadRun.getT_eq s)
def loose : List Str := [("BadPuzzle" : Str), ("BadText" : Str), ("ENDS_WITH" : Str), ("GREATEST_DEPTH" : Str), ("LEVELS" : Str), ("MAY_FOLLOW" : Str), ("MOST_NODES" : Str), ("NoSuch" : Str), ("ONLY_INSIDE" : Str), ("Puzzle" : Str), ("TooGreat" : Str), ("TryError" : Str), ("__name__" : Str), ("_law_behind" : Str), ("_law_bent" : Str), ("_law_deep" : Str), ("_law_draw" : Str), ("_law_levels" : Str), ("_law_node" : Str), ("_law_pick" : Str), ("_law_puzzle" : Str), ("_law_same" : Str), ("_law_short" : Str), ("_law_size" : Str), ("_law_spelled" : Str), ("_law_told" : Str), ("_law_tree" : Str), ("_law_trimmed" : Str), ("_wall" : Str), ("check_entries" : Str), ("check_spelling" : Str), ("is_bit" : Str), ("read_puzzle" : Str), ("spelled" : Str), ("trimmed" : Str)]
/-- the world with its one freedom that the top asks for set -/
def fix (w : World) (b : Bool) : World := { w with params := { w.params with followText := fun s => bif s == "special-get-raises" then b else w.params.followText s } }
theorem fix_eq (w : World) : fix w (w.params.followText "special-get-raises") = w := by
  have e : (fun s => bif s == "special-get-raises" then w.params.followText "special-get-raises" else w.params.followText s) = w.params.followText := by
    funext s
    cases h : s == "special-get-raises" with
    | true => rw [beq_iff_eq.mp h]; rfl
    | false => rfl
  unfold fix
  rw [e]
theorem run_t (w : World) : HandSHeadRun.RunEq R (PySem.W.view R.prog [37]) hk ob 60000 loose (fix w true) := by
  intro os
  kernel_rfl
theorem run_f (w : World) : HandSHeadRun.RunEq R (PySem.W.view R.prog [37]) hk ob 60000 loose (fix w false) := by
  intro os
  kernel_rfl
theorem run (w : World) : HandSHeadRun.RunEq R (PySem.W.view R.prog [37]) hk ob 60000 loose w := by
  rw [← fix_eq w]
  cases w.params.followText "special-get-raises" with
  | true => exact run_t w
  | false => exact run_f w
theorem facts {P : Program} {w : World} {K : PySem.W.Frag} {h : Heap} {mg : Str → Option Value} {f : Addr} (X : K.In h) (G : h.Ns mainGlobals mg) (hfa : mg ("law" : Str) = some (.ref f)) (cu : SaysU fa fn tb w K) :
    ∃ fd : FuncData, (∀ (s : Shared) (v : Value), BindsTo s fd ⟨[v], []⟩ [("_law_script", v)]) ∧ ∀ base : Heap, K.In base → base.Ns mainGlobals mg → FnOk P w K mg base CX0 51 f fd ["_law_script"] (spLaw K) := by
  have c := cu.b
  obtain ⟨es1, n1, D1⟩ := cu.at 0 rfl
  obtain ⟨es2, n2, D2⟩ := cu.at 1 rfl
  obtain ⟨es3, n3, D3⟩ := cu.at 2 rfl
  have T0 : Txt K w mg := {
    gl := fun x hx => glos_ok X G (c.fact 0 rfl) x hx
    fr := fun x hx => frees_ok X G (c.fact 1 rfl) x hx
    c_MOST_NODES := int_ok X G (c.fact 2 rfl)
    c_GREATEST_DEPTH := int_ok X G (c.fact 3 rfl)
    c_ONLY_INSIDE := str_ok X G (c.fact 4 rfl) }
  have T1 : Tx K w mg := { T0 with
    cp := cls_ok (c.fact 5 rfl)
    np := fun x hx => noat_ok (List.all_eq_true.mp (c.fact 6 rfl) x hx)
    mp := mkr_ok (c.fact 7 rfl)
    ef := eqO_ok (c.fact 8 rfl)
    en := c.fact 9 rfl
    ia := eqO_ok (c.fact 10 rfl)
    ig := eqO_ok (c.fact 11 rfl)
    it := of_decide_eq_true (c.fact 12 rfl)
    im := of_decide_eq_true (c.fact 13 rfl)
    nf := fun t ht => List.all_eq_true.mp (c.fact 14 rfl) t ht
    ki := of_decide_eq_true (c.fact 15 rfl)
    kn := fun t ht => of_decide_eq_true (List.all_eq_true.mp (c.fact 16 rfl) t ht) }
  have T2 : T08 K w mg := { T1 with
    tg := bare_ok (c.fact 19 rfl)
    ty := (exc_ok (c.fact 20 rfl)).2.2.2
    bp := bare_ok (c.fact 21 rfl)
    by' := (exc_ok (c.fact 22 rfl)).2.2.2
    m1 := exm_ok (c.fact 23 rfl)
    m2 := exm_ok (c.fact 24 rfl)
    m3 := exm_ok (c.fact 25 rfl)
    i1 := of_decide_eq_true (c.fact 26 rfl)
    i2 := of_decide_eq_true (c.fact 27 rfl)
    i3 := of_decide_eq_true (c.fact 28 rfl)
    i4 := of_decide_eq_true (c.fact 29 rfl) }
  have T3 : T9 K w mg := { T2 with
    mf := fun e he => by
      have h : (enS e, Dv.str (folT e)) ∈ [(enS 0, Dv.str (folT 0)), (enS 1, Dv.str (folT 1)), (enS 2, Dv.str (folT 2)), (enS 3, Dv.str (folT 3))] := by
        have : e = 0 ∨ e = 1 ∨ e = 2 ∨ e = 3 := by omega
        rcases this with rfl | rfl | rfl | rfl <;> simp
      obtain ⟨u, hu, ru⟩ := valsB_ok (c.fact 30 rfl) h
      exact ⟨_, _, u, D1.at_, D1.lit, hu, ru⟩
    ew := fun q hq => by
      obtain ⟨u, hu, ru⟩ := valsB_ok (c.fact 31 rfl) (List.mem_map_of_mem hq)
      exact ⟨_, _, u, D2.at_, D2.lit, hu, ru⟩
    lk := ⟨_, _, D3⟩
    lv := fun q hq => by
      by_cases h1 : q = 40
      · rw [h1]
        obtain ⟨u, hu, ru⟩ := valsB_ok (c.fact 32 rfl) (q := (sgn 40, Dv.int 1)) (by simp)
        exact .inr ⟨u, hu, ru⟩
      · by_cases h2 : q = 41
        · rw [h2]
          obtain ⟨u, hu, ru⟩ := valsB_ok (c.fact 32 rfl) (q := (sgn 41, Dv.int (-1))) (by simp)
          exact .inr ⟨u, hu, ru⟩
        · have h3 : q ∈ [48, 49, 46, 45, 44] := by
            simp [signs] at hq
            simp
            omega
          refine .inl ⟨eqO_ok (List.all_eq_true.mp (c.fact 33 rfl) q h3), ?_⟩
          unfold lev
          rw [if_neg h1, if_neg h2]
    bt := own_ok (c.fact 34 rfl) }
  have T4 : T10 K w mg := { T3 with
    mb1 := exm_ok (c.fact 35 rfl)
    mb2 := exm_ok (c.fact 36 rfl)
    ib1 := of_decide_eq_true (c.fact 37 rfl)
    ib2 := of_decide_eq_true (c.fact 38 rfl)
    ib4 := of_decide_eq_true (c.fact 39 rfl) }
  obtain ⟨d0, F0⟩ := c.def_ 0 rfl
  obtain ⟨d1, F1⟩ := c.def_ 1 rfl
  obtain ⟨d2, F2⟩ := c.def_ 2 rfl
  obtain ⟨d3, F3⟩ := c.def_ 3 rfl
  obtain ⟨d4, F4⟩ := c.def_ 4 rfl
  obtain ⟨d5, F5⟩ := c.def_ 5 rfl
  obtain ⟨d6, F6⟩ := c.def_ 6 rfl
  obtain ⟨d7, F7⟩ := c.def_ 7 rfl
  obtain ⟨d8, F8⟩ := c.def_ 8 rfl
  obtain ⟨d9, F9⟩ := c.def_ 9 rfl
  obtain ⟨d10, F10⟩ := c.def_ 10 rfl
  obtain ⟨d11, F11⟩ := c.def_ 11 rfl
  obtain ⟨d12, F12⟩ := c.def_ 12 rfl
  obtain ⟨d13, F13⟩ := c.def_ 13 rfl
  obtain ⟨d14, F14⟩ := c.def_ 14 rfl
  obtain ⟨d15, F15⟩ := c.def_ 15 rfl
  obtain ⟨d16, F16⟩ := c.def_ 16 rfl
  obtain ⟨d17, F17⟩ := c.def_ 17 rfl
  obtain ⟨d18, F18⟩ := c.def_ 18 rfl
  obtain ⟨d19, F19⟩ := c.def_ 19 rfl
  have e := hfa.symm.trans (T0.gl "law" (by decide +kernel))
  cases e
  have b := FunD.bindsA (ps := ["_law_script"]) F19 fun _ _ _ _ _ _ us hl => match us, hl with | [_], _ => rfl
  refine ⟨d19, fun s v => b s [v] rfl, fun base _ _ => ?_⟩
  have bi : L2.Binds K d5 ["self", "bits", "children"] [] := by
    obtain ⟨ds, hv, hb⟩ := FunD.binds1 (ps := ["self", "bits", "children"]) F5 3 2 (fun z => nomatch z) rfl (fun T kV doc pm an cdv ct us its h1 h2 => match us, its, h1, h2 with | [_, _, _], [_, _], _, _ => ⟨_, rfl, rfl⟩)
    cases hv
    exact hb
  have bd : ∃ ds, Vals [V.ref (dflAt ("Puzzle", some "__init__") 0 K), V.ref (dflAt ("Puzzle", some "__init__") 1 K)] ds ∧ L2.Binds K d5 ["self", "bits", "children"] ds :=
    FunD.binds1 (ps := ["self", "bits", "children"]) F5 1 0 (fun z => nomatch z) rfl (fun T kV doc pm an cdv ct us its h1 h2 => match us, its, h1, h2 with | [_], [_, _], _, _ => ⟨_, rfl, rfl⟩)
  have c_bit : Cl P w K mg base CX0 1 (ga K "is_bit") ["bit"] spBit := ⟨d0, (ok_is_bit F0 T1).mono (by decide), FunD.bindsN (ps := ["bit"]) F0 fun _ _ _ _ _ _ us hl => match us, hl with | [_], _ => rfl, F0.kp⟩
  have c_chk : Cl P w K mg base CX0 2 (ga K "check_entries") ["bits", "children"] (spChk K) := ⟨d1, (ok_check_entries F1 T1 c_bit).mono (by decide), FunD.bindsN (ps := ["bits", "children"]) F1 fun _ _ _ _ _ _ us hl => match us, hl with | [_, _], _ => rfl, F1.kp⟩
  have c_eq : Cl P w K mg base CX0 1 (ma K (ga K "Puzzle") "__eq__") ["self", "other"] (spEq K) := ⟨d2, (ok_Puzzle___eq__ F2 T1).mono (by decide), FunD.bindsN (ps := ["self", "other"]) F2 fun _ _ _ _ _ _ us hl => match us, hl with | [_, _], _ => rfl, F2.kp⟩
  have c_trm : Cl P w K mg base CX0 2 (ga K "trimmed") ["entries", "empty"] (spTrim K) := ⟨d3, (ok_trimmed F3 T1 c_eq).mono (by decide), FunD.bindsN (ps := ["entries", "empty"]) F3 fun _ _ _ _ _ _ us hl => match us, hl with | [_, _], _ => rfl, F3.kp⟩
  have c_spl : Cl P w K mg base CX0 1 (ga K "spelled") ["bits", "children"] (spSpell K) := ⟨d4, (ok_spelled F4 T1).mono (by decide), FunD.bindsN (ps := ["bits", "children"]) F4 fun _ _ _ _ _ _ us hl => match us, hl with | [_, _], _ => rfl, F4.kp⟩
  have c_init : Cl P w K mg base CX0 3 (ma K (ga K "Puzzle") "__init__") ["self", "bits", "children"] (spInit K) := ⟨d5, (ok_Puzzle_init F5 T1 c_chk c_trm c_spl).mono (by decide), bi, F5.kp⟩
  have hdef : ∃ (fd0 : FuncData) (e0 e1 : Addr) (ds : List Value), FnOk P w K mg base CX0 3 (ma K (ga K "Puzzle") "__init__") fd0 ["self", "bits", "children"] (spInit K) ∧ L2.Binds K fd0 ["self", "bits", "children"] ds ∧ Vals [V.ref e0, V.ref e1] ds ∧ (∀ H, SqT K H e0 []) ∧ ∀ H, SqT K H e1 [] := by
    obtain ⟨ds, hv, hb⟩ := bd
    obtain ⟨fd', G', _, _⟩ := c_init
    exact ⟨_, _, _, ds, ok_Puzzle_init F5 T1 c_chk c_trm c_spl, hb, hv, fun H => XT.emptyAtB_ok (c.fact 17 rfl) H, fun H => XT.emptyAtB_ok (c.fact 18 rfl) H⟩
  have c_bt : Cl P w K mg base CX0 1 (ma K (ga K "BadText") "__init__") ["self", "line"] (spI1 K (ga K "BadText") "line") := ⟨d6, ok_badtext_init F6, FunD.bindsN (ps := ["self", "line"]) F6 fun _ _ _ _ _ _ us hl => match us, hl with | [_, _], _ => rfl, F6.kp⟩
  have c_chs : Cl P w K mg base (L2.CX P w) 3 (ga K "check_spelling") ["text"] (spCheck K) := ⟨d7, ok_check_spelling F7 T3 c_bt, FunD.bindsN (ps := ["text"]) F7 fun _ _ _ _ _ _ us hl => match us, hl with | [_], _ => rfl, F7.kp⟩
  have c_initG : Cl P w K mg base (L2.CX P w) 3 (ma K (ga K "Puzzle") "__init__") ["self", "bits", "children"] (spInitG K) := ⟨d5, ok_initG F5 T3 c_chk c_trm c_spl, bi, F5.kp⟩
  have c_read : Cl P w K mg base (L2.CX P w) 6 (ga K "read_puzzle") ["text"] (spRead K) := ⟨d8, ok_read_puzzle F8 T3 c_chs c_initG, FunD.bindsN (ps := ["text"]) F8 fun _ _ _ _ _ _ us hl => match us, hl with | [_], _ => rfl, F8.kp⟩
  have c_draw : Cl P w K mg base CX0 1 (ga K "_law_draw") ["_law_pen", "_law_many"] spDraw := ⟨d9, (ok_law_draw F9 T0).mono (by decide), FunD.bindsN (ps := ["_law_pen", "_law_many"]) F9 fun _ _ _ _ _ _ us hl => match us, hl with | [_, _], _ => rfl, F9.kp⟩
  have c_drawB : Cl P w K mg base CX0 2 (ga K "_law_draw") ["_law_pen", "_law_many"] spDraw := ⟨d9, (ok_law_draw F9 T0).mono (by decide), FunD.bindsN (ps := ["_law_pen", "_law_many"]) F9 fun _ _ _ _ _ _ us hl => match us, hl with | [_, _], _ => rfl, F9.kp⟩
  have c_drawL : Cl P w K mg base CX0 50 (ga K "_law_draw") ["_law_pen", "_law_many"] spDraw := ⟨d9, (ok_law_draw F9 T0).mono (by decide), FunD.bindsN (ps := ["_law_pen", "_law_many"]) F9 fun _ _ _ _ _ _ us hl => match us, hl with | [_, _], _ => rfl, F9.kp⟩
  have c_pick : Cl P w K mg base CX0 2 (ga K "_law_pick") ["_law_pen", "_law_row"] (spPick K) := ⟨d10, (ok_law_pick F10 T0 c_draw).mono (by decide), FunD.bindsN (ps := ["_law_pen", "_law_row"]) F10 fun _ _ _ _ _ _ us hl => match us, hl with | [_, _], _ => rfl, F10.kp⟩
  have c_sz0 : Cl P w K mg base CX0 1 (ga K "_law_size") ["_law_tree_here"] (spSize K 0) := ⟨d12, (ok_law_size0 F12 T1).mono (by decide), FunD.bindsN (ps := ["_law_tree_here"]) F12 fun _ _ _ _ _ _ us hl => match us, hl with | [_], _ => rfl, F12.kp⟩
  have c_sz1 : Cl P w K mg base CX0 2 (ga K "_law_size") ["_law_tree_here"] (spSize K 1) := ⟨d12, (ok_law_sizeS (n := 0) F12 T1 c_sz0).mono (by decide), FunD.bindsN (ps := ["_law_tree_here"]) F12 fun _ _ _ _ _ _ us hl => match us, hl with | [_], _ => rfl, F12.kp⟩
  have c_sz2 : Cl P w K mg base CX0 3 (ga K "_law_size") ["_law_tree_here"] (spSize K 2) := ⟨d12, (ok_law_sizeS (n := 1) F12 T1 c_sz1).mono (by decide), FunD.bindsN (ps := ["_law_tree_here"]) F12 fun _ _ _ _ _ _ us hl => match us, hl with | [_], _ => rfl, F12.kp⟩
  have c_sz3 : Cl P w K mg base CX0 4 (ga K "_law_size") ["_law_tree_here"] (spSize K 3) := ⟨d12, (ok_law_sizeS (n := 2) F12 T1 c_sz2).mono (by decide), FunD.bindsN (ps := ["_law_tree_here"]) F12 fun _ _ _ _ _ _ us hl => match us, hl with | [_], _ => rfl, F12.kp⟩
  have c_sz4 : Cl P w K mg base CX0 5 (ga K "_law_size") ["_law_tree_here"] (spSize K 4) := ⟨d12, (ok_law_sizeS (n := 3) F12 T1 c_sz3).mono (by decide), FunD.bindsN (ps := ["_law_tree_here"]) F12 fun _ _ _ _ _ _ us hl => match us, hl with | [_], _ => rfl, F12.kp⟩
  have c_sz5 : Cl P w K mg base CX0 6 (ga K "_law_size") ["_law_tree_here"] (spSize K 5) := ⟨d12, (ok_law_sizeS (n := 4) F12 T1 c_sz4).mono (by decide), FunD.bindsN (ps := ["_law_tree_here"]) F12 fun _ _ _ _ _ _ us hl => match us, hl with | [_], _ => rfl, F12.kp⟩
  have c_sz6 : Cl P w K mg base CX0 7 (ga K "_law_size") ["_law_tree_here"] (spSize K 6) := ⟨d12, (ok_law_sizeS (n := 5) F12 T1 c_sz5).mono (by decide), FunD.bindsN (ps := ["_law_tree_here"]) F12 fun _ _ _ _ _ _ us hl => match us, hl with | [_], _ => rfl, F12.kp⟩
  have c_sz7 : Cl P w K mg base CX0 8 (ga K "_law_size") ["_law_tree_here"] (spSize K 7) := ⟨d12, (ok_law_sizeS (n := 6) F12 T1 c_sz6).mono (by decide), FunD.bindsN (ps := ["_law_tree_here"]) F12 fun _ _ _ _ _ _ us hl => match us, hl with | [_], _ => rfl, F12.kp⟩
  have c_sz8 : Cl P w K mg base CX0 9 (ga K "_law_size") ["_law_tree_here"] (spSize K 8) := ⟨d12, (ok_law_sizeS (n := 7) F12 T1 c_sz7).mono (by decide), FunD.bindsN (ps := ["_law_tree_here"]) F12 fun _ _ _ _ _ _ us hl => match us, hl with | [_], _ => rfl, F12.kp⟩
  have c_tr0 : Cl P w K mg base CX0 2 (ga K "_law_tree") ["_law_pen", "_law_room", "_law_deep_here"] (spTree K 0) := ⟨d11, (ok_law_tree0 (k := 1) (by decide) F11 T1 c_draw).mono (by decide), FunD.bindsN (ps := ["_law_pen", "_law_room", "_law_deep_here"]) F11 fun _ _ _ _ _ _ us hl => match us, hl with | [_, _, _], _ => rfl, F11.kp⟩
  have c_szt0 : Cl P w K mg base CX0 2 (ga K "_law_size") ["_law_tree_here"] (spSize K 1) := ⟨d12, (ok_law_sizeS (n := 0) F12 T1 c_sz0).mono (by decide), FunD.bindsN (ps := ["_law_tree_here"]) F12 fun _ _ _ _ _ _ us hl => match us, hl with | [_], _ => rfl, F12.kp⟩
  have c_tr1 : Cl P w K mg base CX0 3 (ga K "_law_tree") ["_law_pen", "_law_room", "_law_deep_here"] (spTree K 1) := ⟨d11, (ok_law_treeS (n := 0) (k := 2) (by decide) F11 T1 c_draw c_tr0 c_szt0).mono (by decide), FunD.bindsN (ps := ["_law_pen", "_law_room", "_law_deep_here"]) F11 fun _ _ _ _ _ _ us hl => match us, hl with | [_, _, _], _ => rfl, F11.kp⟩
  have c_szt1 : Cl P w K mg base CX0 3 (ga K "_law_size") ["_law_tree_here"] (spSize K 2) := ⟨d12, (ok_law_sizeS (n := 1) F12 T1 c_sz1).mono (by decide), FunD.bindsN (ps := ["_law_tree_here"]) F12 fun _ _ _ _ _ _ us hl => match us, hl with | [_], _ => rfl, F12.kp⟩
  have c_tr2 : Cl P w K mg base CX0 4 (ga K "_law_tree") ["_law_pen", "_law_room", "_law_deep_here"] (spTree K 2) := ⟨d11, (ok_law_treeS (n := 1) (k := 3) (by decide) F11 T1 c_draw c_tr1 c_szt1).mono (by decide), FunD.bindsN (ps := ["_law_pen", "_law_room", "_law_deep_here"]) F11 fun _ _ _ _ _ _ us hl => match us, hl with | [_, _, _], _ => rfl, F11.kp⟩
  have c_szt2 : Cl P w K mg base CX0 4 (ga K "_law_size") ["_law_tree_here"] (spSize K 3) := ⟨d12, (ok_law_sizeS (n := 2) F12 T1 c_sz2).mono (by decide), FunD.bindsN (ps := ["_law_tree_here"]) F12 fun _ _ _ _ _ _ us hl => match us, hl with | [_], _ => rfl, F12.kp⟩
  have c_tr3 : Cl P w K mg base CX0 5 (ga K "_law_tree") ["_law_pen", "_law_room", "_law_deep_here"] (spTree K 3) := ⟨d11, (ok_law_treeS (n := 2) (k := 4) (by decide) F11 T1 c_draw c_tr2 c_szt2).mono (by decide), FunD.bindsN (ps := ["_law_pen", "_law_room", "_law_deep_here"]) F11 fun _ _ _ _ _ _ us hl => match us, hl with | [_, _, _], _ => rfl, F11.kp⟩
  have c_szt3 : Cl P w K mg base CX0 5 (ga K "_law_size") ["_law_tree_here"] (spSize K 4) := ⟨d12, (ok_law_sizeS (n := 3) F12 T1 c_sz3).mono (by decide), FunD.bindsN (ps := ["_law_tree_here"]) F12 fun _ _ _ _ _ _ us hl => match us, hl with | [_], _ => rfl, F12.kp⟩
  have c_tr4 : Cl P w K mg base CX0 50 (ga K "_law_tree") ["_law_pen", "_law_room", "_law_deep_here"] (spTree K 4) := ⟨d11, (ok_law_treeS (n := 3) (k := 5) (by decide) F11 T1 c_draw c_tr3 c_szt3).mono (by decide), FunD.bindsN (ps := ["_law_pen", "_law_room", "_law_deep_here"]) F11 fun _ _ _ _ _ _ us hl => match us, hl with | [_, _, _], _ => rfl, F11.kp⟩
  have c_spelled_0 : Cl P w K mg base CX0 1 (ga K "_law_spelled") ["_law_tree_here"] (spLS K 0) := ⟨d13, (ok_law_spelled0 F13 T1).mono (by decide), FunD.bindsN (ps := ["_law_tree_here"]) F13 fun _ _ _ _ _ _ us hl => match us, hl with | [_], _ => rfl, F13.kp⟩
  have c_spelled_1 : Cl P w K mg base CX0 2 (ga K "_law_spelled") ["_law_tree_here"] (spLS K 1) := ⟨d13, (ok_law_spelledS (n := 0) (k := 1) F13 T1 c_spelled_0).mono (by decide), FunD.bindsN (ps := ["_law_tree_here"]) F13 fun _ _ _ _ _ _ us hl => match us, hl with | [_], _ => rfl, F13.kp⟩
  have c_spelled_2 : Cl P w K mg base CX0 3 (ga K "_law_spelled") ["_law_tree_here"] (spLS K 2) := ⟨d13, (ok_law_spelledS (n := 1) (k := 2) F13 T1 c_spelled_1).mono (by decide), FunD.bindsN (ps := ["_law_tree_here"]) F13 fun _ _ _ _ _ _ us hl => match us, hl with | [_], _ => rfl, F13.kp⟩
  have c_spelled_3 : Cl P w K mg base CX0 4 (ga K "_law_spelled") ["_law_tree_here"] (spLS K 3) := ⟨d13, (ok_law_spelledS (n := 2) (k := 3) F13 T1 c_spelled_2).mono (by decide), FunD.bindsN (ps := ["_law_tree_here"]) F13 fun _ _ _ _ _ _ us hl => match us, hl with | [_], _ => rfl, F13.kp⟩
  have c_spelled_4 : Cl P w K mg base CX0 5 (ga K "_law_spelled") ["_law_tree_here"] (spLS K 4) := ⟨d13, (ok_law_spelledS (n := 3) (k := 4) F13 T1 c_spelled_3).mono (by decide), FunD.bindsN (ps := ["_law_tree_here"]) F13 fun _ _ _ _ _ _ us hl => match us, hl with | [_], _ => rfl, F13.kp⟩
  have c_spelled_5 : Cl P w K mg base CX0 50 (ga K "_law_spelled") ["_law_tree_here"] (spLS K 5) := ⟨d13, (ok_law_spelledS (n := 4) (k := 5) F13 T1 c_spelled_4).mono (by decide), FunD.bindsN (ps := ["_law_tree_here"]) F13 fun _ _ _ _ _ _ us hl => match us, hl with | [_], _ => rfl, F13.kp⟩
  have c_beh : Cl P w K mg base CX0 1 (ga K "_law_behind") ["_law_text", "_law_at"] spBeh := ⟨d14, (ok_law_behind F14 T1).mono (by decide), FunD.bindsN (ps := ["_law_text", "_law_at"]) F14 fun _ _ _ _ _ _ us hl => match us, hl with | [_, _], _ => rfl, F14.kp⟩
  have c_node_0 : Cl P w K mg base CX0 2 (ga K "_law_node") ["_law_text", "_law_at", "_law_deep_here"] (spNode 0) := ⟨d15, (ok_law_node0 F15 T1 c_beh).mono (by decide), FunD.bindsN (ps := ["_law_text", "_law_at", "_law_deep_here"]) F15 fun _ _ _ _ _ _ us hl => match us, hl with | [_, _, _], _ => rfl, F15.kp⟩
  have c_beh0 : Cl P w K mg base CX0 2 (ga K "_law_behind") ["_law_text", "_law_at"] spBeh := ⟨d14, (ok_law_behind F14 T1).mono (by decide), FunD.bindsN (ps := ["_law_text", "_law_at"]) F14 fun _ _ _ _ _ _ us hl => match us, hl with | [_, _], _ => rfl, F14.kp⟩
  have c_node_1 : Cl P w K mg base CX0 3 (ga K "_law_node") ["_law_text", "_law_at", "_law_deep_here"] (spNode 1) := ⟨d15, (ok_law_nodeS (n := 0) (k := 2) F15 T1 c_beh0 c_node_0).mono (by decide), FunD.bindsN (ps := ["_law_text", "_law_at", "_law_deep_here"]) F15 fun _ _ _ _ _ _ us hl => match us, hl with | [_, _, _], _ => rfl, F15.kp⟩
  have c_beh1 : Cl P w K mg base CX0 3 (ga K "_law_behind") ["_law_text", "_law_at"] spBeh := ⟨d14, (ok_law_behind F14 T1).mono (by decide), FunD.bindsN (ps := ["_law_text", "_law_at"]) F14 fun _ _ _ _ _ _ us hl => match us, hl with | [_, _], _ => rfl, F14.kp⟩
  have c_node_2 : Cl P w K mg base CX0 4 (ga K "_law_node") ["_law_text", "_law_at", "_law_deep_here"] (spNode 2) := ⟨d15, (ok_law_nodeS (n := 1) (k := 3) F15 T1 c_beh1 c_node_1).mono (by decide), FunD.bindsN (ps := ["_law_text", "_law_at", "_law_deep_here"]) F15 fun _ _ _ _ _ _ us hl => match us, hl with | [_, _, _], _ => rfl, F15.kp⟩
  have c_beh2 : Cl P w K mg base CX0 4 (ga K "_law_behind") ["_law_text", "_law_at"] spBeh := ⟨d14, (ok_law_behind F14 T1).mono (by decide), FunD.bindsN (ps := ["_law_text", "_law_at"]) F14 fun _ _ _ _ _ _ us hl => match us, hl with | [_, _], _ => rfl, F14.kp⟩
  have c_node_3 : Cl P w K mg base CX0 5 (ga K "_law_node") ["_law_text", "_law_at", "_law_deep_here"] (spNode 3) := ⟨d15, (ok_law_nodeS (n := 2) (k := 4) F15 T1 c_beh2 c_node_2).mono (by decide), FunD.bindsN (ps := ["_law_text", "_law_at", "_law_deep_here"]) F15 fun _ _ _ _ _ _ us hl => match us, hl with | [_, _, _], _ => rfl, F15.kp⟩
  have c_beh3 : Cl P w K mg base CX0 5 (ga K "_law_behind") ["_law_text", "_law_at"] spBeh := ⟨d14, (ok_law_behind F14 T1).mono (by decide), FunD.bindsN (ps := ["_law_text", "_law_at"]) F14 fun _ _ _ _ _ _ us hl => match us, hl with | [_, _], _ => rfl, F14.kp⟩
  have c_node_4 : Cl P w K mg base CX0 6 (ga K "_law_node") ["_law_text", "_law_at", "_law_deep_here"] (spNode 4) := ⟨d15, (ok_law_nodeS (n := 3) (k := 5) F15 T1 c_beh3 c_node_3).mono (by decide), FunD.bindsN (ps := ["_law_text", "_law_at", "_law_deep_here"]) F15 fun _ _ _ _ _ _ us hl => match us, hl with | [_, _, _], _ => rfl, F15.kp⟩
  have c_beh4 : Cl P w K mg base CX0 6 (ga K "_law_behind") ["_law_text", "_law_at"] spBeh := ⟨d14, (ok_law_behind F14 T1).mono (by decide), FunD.bindsN (ps := ["_law_text", "_law_at"]) F14 fun _ _ _ _ _ _ us hl => match us, hl with | [_, _], _ => rfl, F14.kp⟩
  have c_node_5 : Cl P w K mg base CX0 7 (ga K "_law_node") ["_law_text", "_law_at", "_law_deep_here"] (spNode 5) := ⟨d15, (ok_law_nodeS (n := 4) (k := 6) F15 T1 c_beh4 c_node_4).mono (by decide), FunD.bindsN (ps := ["_law_text", "_law_at", "_law_deep_here"]) F15 fun _ _ _ _ _ _ us hl => match us, hl with | [_, _, _], _ => rfl, F15.kp⟩
  have c_beh5 : Cl P w K mg base CX0 7 (ga K "_law_behind") ["_law_text", "_law_at"] spBeh := ⟨d14, (ok_law_behind F14 T1).mono (by decide), FunD.bindsN (ps := ["_law_text", "_law_at"]) F14 fun _ _ _ _ _ _ us hl => match us, hl with | [_, _], _ => rfl, F14.kp⟩
  have c_node_6 : Cl P w K mg base CX0 8 (ga K "_law_node") ["_law_text", "_law_at", "_law_deep_here"] (spNode 6) := ⟨d15, (ok_law_nodeS (n := 5) (k := 7) F15 T1 c_beh5 c_node_5).mono (by decide), FunD.bindsN (ps := ["_law_text", "_law_at", "_law_deep_here"]) F15 fun _ _ _ _ _ _ us hl => match us, hl with | [_, _, _], _ => rfl, F15.kp⟩
  have c_beh6 : Cl P w K mg base CX0 8 (ga K "_law_behind") ["_law_text", "_law_at"] spBeh := ⟨d14, (ok_law_behind F14 T1).mono (by decide), FunD.bindsN (ps := ["_law_text", "_law_at"]) F14 fun _ _ _ _ _ _ us hl => match us, hl with | [_, _], _ => rfl, F14.kp⟩
  have c_node_7 : Cl P w K mg base CX0 9 (ga K "_law_node") ["_law_text", "_law_at", "_law_deep_here"] (spNode 7) := ⟨d15, (ok_law_nodeS (n := 6) (k := 8) F15 T1 c_beh6 c_node_6).mono (by decide), FunD.bindsN (ps := ["_law_text", "_law_at", "_law_deep_here"]) F15 fun _ _ _ _ _ _ us hl => match us, hl with | [_, _, _], _ => rfl, F15.kp⟩
  have c_beh7 : Cl P w K mg base CX0 9 (ga K "_law_behind") ["_law_text", "_law_at"] spBeh := ⟨d14, (ok_law_behind F14 T1).mono (by decide), FunD.bindsN (ps := ["_law_text", "_law_at"]) F14 fun _ _ _ _ _ _ us hl => match us, hl with | [_, _], _ => rfl, F14.kp⟩
  have c_node_8 : Cl P w K mg base CX0 10 (ga K "_law_node") ["_law_text", "_law_at", "_law_deep_here"] (spNode 8) := ⟨d15, (ok_law_nodeS (n := 7) (k := 9) F15 T1 c_beh7 c_node_7).mono (by decide), FunD.bindsN (ps := ["_law_text", "_law_at", "_law_deep_here"]) F15 fun _ _ _ _ _ _ us hl => match us, hl with | [_, _, _], _ => rfl, F15.kp⟩
  have c_beh8 : Cl P w K mg base CX0 10 (ga K "_law_behind") ["_law_text", "_law_at"] spBeh := ⟨d14, (ok_law_behind F14 T1).mono (by decide), FunD.bindsN (ps := ["_law_text", "_law_at"]) F14 fun _ _ _ _ _ _ us hl => match us, hl with | [_, _], _ => rfl, F14.kp⟩
  have c_node_9 : Cl P w K mg base CX0 11 (ga K "_law_node") ["_law_text", "_law_at", "_law_deep_here"] (spNode 9) := ⟨d15, (ok_law_nodeS (n := 8) (k := 10) F15 T1 c_beh8 c_node_8).mono (by decide), FunD.bindsN (ps := ["_law_text", "_law_at", "_law_deep_here"]) F15 fun _ _ _ _ _ _ us hl => match us, hl with | [_, _, _], _ => rfl, F15.kp⟩
  have c_beh9 : Cl P w K mg base CX0 11 (ga K "_law_behind") ["_law_text", "_law_at"] spBeh := ⟨d14, (ok_law_behind F14 T1).mono (by decide), FunD.bindsN (ps := ["_law_text", "_law_at"]) F14 fun _ _ _ _ _ _ us hl => match us, hl with | [_, _], _ => rfl, F14.kp⟩
  have c_node_10 : Cl P w K mg base CX0 12 (ga K "_law_node") ["_law_text", "_law_at", "_law_deep_here"] (spNode 10) := ⟨d15, (ok_law_nodeS (n := 9) (k := 11) F15 T1 c_beh9 c_node_9).mono (by decide), FunD.bindsN (ps := ["_law_text", "_law_at", "_law_deep_here"]) F15 fun _ _ _ _ _ _ us hl => match us, hl with | [_, _, _], _ => rfl, F15.kp⟩
  have c_beh10 : Cl P w K mg base CX0 12 (ga K "_law_behind") ["_law_text", "_law_at"] spBeh := ⟨d14, (ok_law_behind F14 T1).mono (by decide), FunD.bindsN (ps := ["_law_text", "_law_at"]) F14 fun _ _ _ _ _ _ us hl => match us, hl with | [_, _], _ => rfl, F14.kp⟩
  have c_node_11 : Cl P w K mg base CX0 13 (ga K "_law_node") ["_law_text", "_law_at", "_law_deep_here"] (spNode 11) := ⟨d15, (ok_law_nodeS (n := 10) (k := 12) F15 T1 c_beh10 c_node_10).mono (by decide), FunD.bindsN (ps := ["_law_text", "_law_at", "_law_deep_here"]) F15 fun _ _ _ _ _ _ us hl => match us, hl with | [_, _, _], _ => rfl, F15.kp⟩
  have c_beh11 : Cl P w K mg base CX0 13 (ga K "_law_behind") ["_law_text", "_law_at"] spBeh := ⟨d14, (ok_law_behind F14 T1).mono (by decide), FunD.bindsN (ps := ["_law_text", "_law_at"]) F14 fun _ _ _ _ _ _ us hl => match us, hl with | [_, _], _ => rfl, F14.kp⟩
  have c_node_12 : Cl P w K mg base CX0 14 (ga K "_law_node") ["_law_text", "_law_at", "_law_deep_here"] (spNode 12) := ⟨d15, (ok_law_nodeS (n := 11) (k := 13) F15 T1 c_beh11 c_node_11).mono (by decide), FunD.bindsN (ps := ["_law_text", "_law_at", "_law_deep_here"]) F15 fun _ _ _ _ _ _ us hl => match us, hl with | [_, _, _], _ => rfl, F15.kp⟩
  have c_beh12 : Cl P w K mg base CX0 14 (ga K "_law_behind") ["_law_text", "_law_at"] spBeh := ⟨d14, (ok_law_behind F14 T1).mono (by decide), FunD.bindsN (ps := ["_law_text", "_law_at"]) F14 fun _ _ _ _ _ _ us hl => match us, hl with | [_, _], _ => rfl, F14.kp⟩
  have c_node_13 : Cl P w K mg base CX0 15 (ga K "_law_node") ["_law_text", "_law_at", "_law_deep_here"] (spNode 13) := ⟨d15, (ok_law_nodeS (n := 12) (k := 14) F15 T1 c_beh12 c_node_12).mono (by decide), FunD.bindsN (ps := ["_law_text", "_law_at", "_law_deep_here"]) F15 fun _ _ _ _ _ _ us hl => match us, hl with | [_, _, _], _ => rfl, F15.kp⟩
  have c_beh13 : Cl P w K mg base CX0 15 (ga K "_law_behind") ["_law_text", "_law_at"] spBeh := ⟨d14, (ok_law_behind F14 T1).mono (by decide), FunD.bindsN (ps := ["_law_text", "_law_at"]) F14 fun _ _ _ _ _ _ us hl => match us, hl with | [_, _], _ => rfl, F14.kp⟩
  have c_node_14 : Cl P w K mg base CX0 16 (ga K "_law_node") ["_law_text", "_law_at", "_law_deep_here"] (spNode 14) := ⟨d15, (ok_law_nodeS (n := 13) (k := 15) F15 T1 c_beh13 c_node_13).mono (by decide), FunD.bindsN (ps := ["_law_text", "_law_at", "_law_deep_here"]) F15 fun _ _ _ _ _ _ us hl => match us, hl with | [_, _, _], _ => rfl, F15.kp⟩
  have c_beh14 : Cl P w K mg base CX0 16 (ga K "_law_behind") ["_law_text", "_law_at"] spBeh := ⟨d14, (ok_law_behind F14 T1).mono (by decide), FunD.bindsN (ps := ["_law_text", "_law_at"]) F14 fun _ _ _ _ _ _ us hl => match us, hl with | [_, _], _ => rfl, F14.kp⟩
  have c_node_15 : Cl P w K mg base CX0 17 (ga K "_law_node") ["_law_text", "_law_at", "_law_deep_here"] (spNode 15) := ⟨d15, (ok_law_nodeS (n := 14) (k := 16) F15 T1 c_beh14 c_node_14).mono (by decide), FunD.bindsN (ps := ["_law_text", "_law_at", "_law_deep_here"]) F15 fun _ _ _ _ _ _ us hl => match us, hl with | [_, _, _], _ => rfl, F15.kp⟩
  have c_beh15 : Cl P w K mg base CX0 17 (ga K "_law_behind") ["_law_text", "_law_at"] spBeh := ⟨d14, (ok_law_behind F14 T1).mono (by decide), FunD.bindsN (ps := ["_law_text", "_law_at"]) F14 fun _ _ _ _ _ _ us hl => match us, hl with | [_, _], _ => rfl, F14.kp⟩
  have c_node_16 : Cl P w K mg base CX0 18 (ga K "_law_node") ["_law_text", "_law_at", "_law_deep_here"] (spNode 16) := ⟨d15, (ok_law_nodeS (n := 15) (k := 17) F15 T1 c_beh15 c_node_15).mono (by decide), FunD.bindsN (ps := ["_law_text", "_law_at", "_law_deep_here"]) F15 fun _ _ _ _ _ _ us hl => match us, hl with | [_, _, _], _ => rfl, F15.kp⟩
  have c_beh16 : Cl P w K mg base CX0 18 (ga K "_law_behind") ["_law_text", "_law_at"] spBeh := ⟨d14, (ok_law_behind F14 T1).mono (by decide), FunD.bindsN (ps := ["_law_text", "_law_at"]) F14 fun _ _ _ _ _ _ us hl => match us, hl with | [_, _], _ => rfl, F14.kp⟩
  have c_node_17 : Cl P w K mg base CX0 19 (ga K "_law_node") ["_law_text", "_law_at", "_law_deep_here"] (spNode 17) := ⟨d15, (ok_law_nodeS (n := 16) (k := 18) F15 T1 c_beh16 c_node_16).mono (by decide), FunD.bindsN (ps := ["_law_text", "_law_at", "_law_deep_here"]) F15 fun _ _ _ _ _ _ us hl => match us, hl with | [_, _, _], _ => rfl, F15.kp⟩
  have c_beh17 : Cl P w K mg base CX0 19 (ga K "_law_behind") ["_law_text", "_law_at"] spBeh := ⟨d14, (ok_law_behind F14 T1).mono (by decide), FunD.bindsN (ps := ["_law_text", "_law_at"]) F14 fun _ _ _ _ _ _ us hl => match us, hl with | [_, _], _ => rfl, F14.kp⟩
  have c_node_18 : Cl P w K mg base CX0 20 (ga K "_law_node") ["_law_text", "_law_at", "_law_deep_here"] (spNode 18) := ⟨d15, (ok_law_nodeS (n := 17) (k := 19) F15 T1 c_beh17 c_node_17).mono (by decide), FunD.bindsN (ps := ["_law_text", "_law_at", "_law_deep_here"]) F15 fun _ _ _ _ _ _ us hl => match us, hl with | [_, _, _], _ => rfl, F15.kp⟩
  have c_beh18 : Cl P w K mg base CX0 20 (ga K "_law_behind") ["_law_text", "_law_at"] spBeh := ⟨d14, (ok_law_behind F14 T1).mono (by decide), FunD.bindsN (ps := ["_law_text", "_law_at"]) F14 fun _ _ _ _ _ _ us hl => match us, hl with | [_, _], _ => rfl, F14.kp⟩
  have c_node_19 : Cl P w K mg base CX0 21 (ga K "_law_node") ["_law_text", "_law_at", "_law_deep_here"] (spNode 19) := ⟨d15, (ok_law_nodeS (n := 18) (k := 20) F15 T1 c_beh18 c_node_18).mono (by decide), FunD.bindsN (ps := ["_law_text", "_law_at", "_law_deep_here"]) F15 fun _ _ _ _ _ _ us hl => match us, hl with | [_, _, _], _ => rfl, F15.kp⟩
  have c_beh19 : Cl P w K mg base CX0 21 (ga K "_law_behind") ["_law_text", "_law_at"] spBeh := ⟨d14, (ok_law_behind F14 T1).mono (by decide), FunD.bindsN (ps := ["_law_text", "_law_at"]) F14 fun _ _ _ _ _ _ us hl => match us, hl with | [_, _], _ => rfl, F14.kp⟩
  have c_node_20 : Cl P w K mg base CX0 22 (ga K "_law_node") ["_law_text", "_law_at", "_law_deep_here"] (spNode 20) := ⟨d15, (ok_law_nodeS (n := 19) (k := 21) F15 T1 c_beh19 c_node_19).mono (by decide), FunD.bindsN (ps := ["_law_text", "_law_at", "_law_deep_here"]) F15 fun _ _ _ _ _ _ us hl => match us, hl with | [_, _, _], _ => rfl, F15.kp⟩
  have c_beh20 : Cl P w K mg base CX0 22 (ga K "_law_behind") ["_law_text", "_law_at"] spBeh := ⟨d14, (ok_law_behind F14 T1).mono (by decide), FunD.bindsN (ps := ["_law_text", "_law_at"]) F14 fun _ _ _ _ _ _ us hl => match us, hl with | [_, _], _ => rfl, F14.kp⟩
  have c_node_21 : Cl P w K mg base CX0 23 (ga K "_law_node") ["_law_text", "_law_at", "_law_deep_here"] (spNode 21) := ⟨d15, (ok_law_nodeS (n := 20) (k := 22) F15 T1 c_beh20 c_node_20).mono (by decide), FunD.bindsN (ps := ["_law_text", "_law_at", "_law_deep_here"]) F15 fun _ _ _ _ _ _ us hl => match us, hl with | [_, _, _], _ => rfl, F15.kp⟩
  have c_beh21 : Cl P w K mg base CX0 23 (ga K "_law_behind") ["_law_text", "_law_at"] spBeh := ⟨d14, (ok_law_behind F14 T1).mono (by decide), FunD.bindsN (ps := ["_law_text", "_law_at"]) F14 fun _ _ _ _ _ _ us hl => match us, hl with | [_, _], _ => rfl, F14.kp⟩
  have c_node_22 : Cl P w K mg base CX0 24 (ga K "_law_node") ["_law_text", "_law_at", "_law_deep_here"] (spNode 22) := ⟨d15, (ok_law_nodeS (n := 21) (k := 23) F15 T1 c_beh21 c_node_21).mono (by decide), FunD.bindsN (ps := ["_law_text", "_law_at", "_law_deep_here"]) F15 fun _ _ _ _ _ _ us hl => match us, hl with | [_, _, _], _ => rfl, F15.kp⟩
  have c_beh22 : Cl P w K mg base CX0 24 (ga K "_law_behind") ["_law_text", "_law_at"] spBeh := ⟨d14, (ok_law_behind F14 T1).mono (by decide), FunD.bindsN (ps := ["_law_text", "_law_at"]) F14 fun _ _ _ _ _ _ us hl => match us, hl with | [_, _], _ => rfl, F14.kp⟩
  have c_node_23 : Cl P w K mg base CX0 25 (ga K "_law_node") ["_law_text", "_law_at", "_law_deep_here"] (spNode 23) := ⟨d15, (ok_law_nodeS (n := 22) (k := 24) F15 T1 c_beh22 c_node_22).mono (by decide), FunD.bindsN (ps := ["_law_text", "_law_at", "_law_deep_here"]) F15 fun _ _ _ _ _ _ us hl => match us, hl with | [_, _, _], _ => rfl, F15.kp⟩
  have c_beh23 : Cl P w K mg base CX0 25 (ga K "_law_behind") ["_law_text", "_law_at"] spBeh := ⟨d14, (ok_law_behind F14 T1).mono (by decide), FunD.bindsN (ps := ["_law_text", "_law_at"]) F14 fun _ _ _ _ _ _ us hl => match us, hl with | [_, _], _ => rfl, F14.kp⟩
  have c_node_24 : Cl P w K mg base CX0 26 (ga K "_law_node") ["_law_text", "_law_at", "_law_deep_here"] (spNode 24) := ⟨d15, (ok_law_nodeS (n := 23) (k := 25) F15 T1 c_beh23 c_node_23).mono (by decide), FunD.bindsN (ps := ["_law_text", "_law_at", "_law_deep_here"]) F15 fun _ _ _ _ _ _ us hl => match us, hl with | [_, _, _], _ => rfl, F15.kp⟩
  have c_beh24 : Cl P w K mg base CX0 26 (ga K "_law_behind") ["_law_text", "_law_at"] spBeh := ⟨d14, (ok_law_behind F14 T1).mono (by decide), FunD.bindsN (ps := ["_law_text", "_law_at"]) F14 fun _ _ _ _ _ _ us hl => match us, hl with | [_, _], _ => rfl, F14.kp⟩
  have c_node_25 : Cl P w K mg base CX0 27 (ga K "_law_node") ["_law_text", "_law_at", "_law_deep_here"] (spNode 25) := ⟨d15, (ok_law_nodeS (n := 24) (k := 26) F15 T1 c_beh24 c_node_24).mono (by decide), FunD.bindsN (ps := ["_law_text", "_law_at", "_law_deep_here"]) F15 fun _ _ _ _ _ _ us hl => match us, hl with | [_, _, _], _ => rfl, F15.kp⟩
  have c_beh25 : Cl P w K mg base CX0 27 (ga K "_law_behind") ["_law_text", "_law_at"] spBeh := ⟨d14, (ok_law_behind F14 T1).mono (by decide), FunD.bindsN (ps := ["_law_text", "_law_at"]) F14 fun _ _ _ _ _ _ us hl => match us, hl with | [_, _], _ => rfl, F14.kp⟩
  have c_node_26 : Cl P w K mg base CX0 28 (ga K "_law_node") ["_law_text", "_law_at", "_law_deep_here"] (spNode 26) := ⟨d15, (ok_law_nodeS (n := 25) (k := 27) F15 T1 c_beh25 c_node_25).mono (by decide), FunD.bindsN (ps := ["_law_text", "_law_at", "_law_deep_here"]) F15 fun _ _ _ _ _ _ us hl => match us, hl with | [_, _, _], _ => rfl, F15.kp⟩
  have c_beh26 : Cl P w K mg base CX0 28 (ga K "_law_behind") ["_law_text", "_law_at"] spBeh := ⟨d14, (ok_law_behind F14 T1).mono (by decide), FunD.bindsN (ps := ["_law_text", "_law_at"]) F14 fun _ _ _ _ _ _ us hl => match us, hl with | [_, _], _ => rfl, F14.kp⟩
  have c_node_27 : Cl P w K mg base CX0 29 (ga K "_law_node") ["_law_text", "_law_at", "_law_deep_here"] (spNode 27) := ⟨d15, (ok_law_nodeS (n := 26) (k := 28) F15 T1 c_beh26 c_node_26).mono (by decide), FunD.bindsN (ps := ["_law_text", "_law_at", "_law_deep_here"]) F15 fun _ _ _ _ _ _ us hl => match us, hl with | [_, _, _], _ => rfl, F15.kp⟩
  have c_beh27 : Cl P w K mg base CX0 29 (ga K "_law_behind") ["_law_text", "_law_at"] spBeh := ⟨d14, (ok_law_behind F14 T1).mono (by decide), FunD.bindsN (ps := ["_law_text", "_law_at"]) F14 fun _ _ _ _ _ _ us hl => match us, hl with | [_, _], _ => rfl, F14.kp⟩
  have c_node_28 : Cl P w K mg base CX0 30 (ga K "_law_node") ["_law_text", "_law_at", "_law_deep_here"] (spNode 28) := ⟨d15, (ok_law_nodeS (n := 27) (k := 29) F15 T1 c_beh27 c_node_27).mono (by decide), FunD.bindsN (ps := ["_law_text", "_law_at", "_law_deep_here"]) F15 fun _ _ _ _ _ _ us hl => match us, hl with | [_, _, _], _ => rfl, F15.kp⟩
  have c_beh28 : Cl P w K mg base CX0 30 (ga K "_law_behind") ["_law_text", "_law_at"] spBeh := ⟨d14, (ok_law_behind F14 T1).mono (by decide), FunD.bindsN (ps := ["_law_text", "_law_at"]) F14 fun _ _ _ _ _ _ us hl => match us, hl with | [_, _], _ => rfl, F14.kp⟩
  have c_node_29 : Cl P w K mg base CX0 31 (ga K "_law_node") ["_law_text", "_law_at", "_law_deep_here"] (spNode 29) := ⟨d15, (ok_law_nodeS (n := 28) (k := 30) F15 T1 c_beh28 c_node_28).mono (by decide), FunD.bindsN (ps := ["_law_text", "_law_at", "_law_deep_here"]) F15 fun _ _ _ _ _ _ us hl => match us, hl with | [_, _, _], _ => rfl, F15.kp⟩
  have c_beh29 : Cl P w K mg base CX0 31 (ga K "_law_behind") ["_law_text", "_law_at"] spBeh := ⟨d14, (ok_law_behind F14 T1).mono (by decide), FunD.bindsN (ps := ["_law_text", "_law_at"]) F14 fun _ _ _ _ _ _ us hl => match us, hl with | [_, _], _ => rfl, F14.kp⟩
  have c_node_30 : Cl P w K mg base CX0 32 (ga K "_law_node") ["_law_text", "_law_at", "_law_deep_here"] (spNode 30) := ⟨d15, (ok_law_nodeS (n := 29) (k := 31) F15 T1 c_beh29 c_node_29).mono (by decide), FunD.bindsN (ps := ["_law_text", "_law_at", "_law_deep_here"]) F15 fun _ _ _ _ _ _ us hl => match us, hl with | [_, _, _], _ => rfl, F15.kp⟩
  have c_beh30 : Cl P w K mg base CX0 32 (ga K "_law_behind") ["_law_text", "_law_at"] spBeh := ⟨d14, (ok_law_behind F14 T1).mono (by decide), FunD.bindsN (ps := ["_law_text", "_law_at"]) F14 fun _ _ _ _ _ _ us hl => match us, hl with | [_, _], _ => rfl, F14.kp⟩
  have c_node_31 : Cl P w K mg base CX0 33 (ga K "_law_node") ["_law_text", "_law_at", "_law_deep_here"] (spNode 31) := ⟨d15, (ok_law_nodeS (n := 30) (k := 32) F15 T1 c_beh30 c_node_30).mono (by decide), FunD.bindsN (ps := ["_law_text", "_law_at", "_law_deep_here"]) F15 fun _ _ _ _ _ _ us hl => match us, hl with | [_, _, _], _ => rfl, F15.kp⟩
  have c_beh31 : Cl P w K mg base CX0 33 (ga K "_law_behind") ["_law_text", "_law_at"] spBeh := ⟨d14, (ok_law_behind F14 T1).mono (by decide), FunD.bindsN (ps := ["_law_text", "_law_at"]) F14 fun _ _ _ _ _ _ us hl => match us, hl with | [_, _], _ => rfl, F14.kp⟩
  have c_node_32 : Cl P w K mg base CX0 34 (ga K "_law_node") ["_law_text", "_law_at", "_law_deep_here"] (spNode 32) := ⟨d15, (ok_law_nodeS (n := 31) (k := 33) F15 T1 c_beh31 c_node_31).mono (by decide), FunD.bindsN (ps := ["_law_text", "_law_at", "_law_deep_here"]) F15 fun _ _ _ _ _ _ us hl => match us, hl with | [_, _, _], _ => rfl, F15.kp⟩
  have c_beh32 : Cl P w K mg base CX0 34 (ga K "_law_behind") ["_law_text", "_law_at"] spBeh := ⟨d14, (ok_law_behind F14 T1).mono (by decide), FunD.bindsN (ps := ["_law_text", "_law_at"]) F14 fun _ _ _ _ _ _ us hl => match us, hl with | [_, _], _ => rfl, F14.kp⟩
  have c_node_33 : Cl P w K mg base CX0 35 (ga K "_law_node") ["_law_text", "_law_at", "_law_deep_here"] (spNode 33) := ⟨d15, (ok_law_nodeS (n := 32) (k := 34) F15 T1 c_beh32 c_node_32).mono (by decide), FunD.bindsN (ps := ["_law_text", "_law_at", "_law_deep_here"]) F15 fun _ _ _ _ _ _ us hl => match us, hl with | [_, _, _], _ => rfl, F15.kp⟩
  have c_beh33 : Cl P w K mg base CX0 35 (ga K "_law_behind") ["_law_text", "_law_at"] spBeh := ⟨d14, (ok_law_behind F14 T1).mono (by decide), FunD.bindsN (ps := ["_law_text", "_law_at"]) F14 fun _ _ _ _ _ _ us hl => match us, hl with | [_, _], _ => rfl, F14.kp⟩
  have c_node_34 : Cl P w K mg base CX0 36 (ga K "_law_node") ["_law_text", "_law_at", "_law_deep_here"] (spNode 34) := ⟨d15, (ok_law_nodeS (n := 33) (k := 35) F15 T1 c_beh33 c_node_33).mono (by decide), FunD.bindsN (ps := ["_law_text", "_law_at", "_law_deep_here"]) F15 fun _ _ _ _ _ _ us hl => match us, hl with | [_, _, _], _ => rfl, F15.kp⟩
  have c_beh34 : Cl P w K mg base CX0 36 (ga K "_law_behind") ["_law_text", "_law_at"] spBeh := ⟨d14, (ok_law_behind F14 T1).mono (by decide), FunD.bindsN (ps := ["_law_text", "_law_at"]) F14 fun _ _ _ _ _ _ us hl => match us, hl with | [_, _], _ => rfl, F14.kp⟩
  have c_node_35 : Cl P w K mg base CX0 37 (ga K "_law_node") ["_law_text", "_law_at", "_law_deep_here"] (spNode 35) := ⟨d15, (ok_law_nodeS (n := 34) (k := 36) F15 T1 c_beh34 c_node_34).mono (by decide), FunD.bindsN (ps := ["_law_text", "_law_at", "_law_deep_here"]) F15 fun _ _ _ _ _ _ us hl => match us, hl with | [_, _, _], _ => rfl, F15.kp⟩
  have c_beh35 : Cl P w K mg base CX0 37 (ga K "_law_behind") ["_law_text", "_law_at"] spBeh := ⟨d14, (ok_law_behind F14 T1).mono (by decide), FunD.bindsN (ps := ["_law_text", "_law_at"]) F14 fun _ _ _ _ _ _ us hl => match us, hl with | [_, _], _ => rfl, F14.kp⟩
  have c_node_36 : Cl P w K mg base CX0 38 (ga K "_law_node") ["_law_text", "_law_at", "_law_deep_here"] (spNode 36) := ⟨d15, (ok_law_nodeS (n := 35) (k := 37) F15 T1 c_beh35 c_node_35).mono (by decide), FunD.bindsN (ps := ["_law_text", "_law_at", "_law_deep_here"]) F15 fun _ _ _ _ _ _ us hl => match us, hl with | [_, _, _], _ => rfl, F15.kp⟩
  have c_beh36 : Cl P w K mg base CX0 38 (ga K "_law_behind") ["_law_text", "_law_at"] spBeh := ⟨d14, (ok_law_behind F14 T1).mono (by decide), FunD.bindsN (ps := ["_law_text", "_law_at"]) F14 fun _ _ _ _ _ _ us hl => match us, hl with | [_, _], _ => rfl, F14.kp⟩
  have c_node_37 : Cl P w K mg base CX0 39 (ga K "_law_node") ["_law_text", "_law_at", "_law_deep_here"] (spNode 37) := ⟨d15, (ok_law_nodeS (n := 36) (k := 38) F15 T1 c_beh36 c_node_36).mono (by decide), FunD.bindsN (ps := ["_law_text", "_law_at", "_law_deep_here"]) F15 fun _ _ _ _ _ _ us hl => match us, hl with | [_, _, _], _ => rfl, F15.kp⟩
  have c_beh37 : Cl P w K mg base CX0 39 (ga K "_law_behind") ["_law_text", "_law_at"] spBeh := ⟨d14, (ok_law_behind F14 T1).mono (by decide), FunD.bindsN (ps := ["_law_text", "_law_at"]) F14 fun _ _ _ _ _ _ us hl => match us, hl with | [_, _], _ => rfl, F14.kp⟩
  have c_node_38 : Cl P w K mg base CX0 40 (ga K "_law_node") ["_law_text", "_law_at", "_law_deep_here"] (spNode 38) := ⟨d15, (ok_law_nodeS (n := 37) (k := 39) F15 T1 c_beh37 c_node_37).mono (by decide), FunD.bindsN (ps := ["_law_text", "_law_at", "_law_deep_here"]) F15 fun _ _ _ _ _ _ us hl => match us, hl with | [_, _, _], _ => rfl, F15.kp⟩
  have c_beh38 : Cl P w K mg base CX0 40 (ga K "_law_behind") ["_law_text", "_law_at"] spBeh := ⟨d14, (ok_law_behind F14 T1).mono (by decide), FunD.bindsN (ps := ["_law_text", "_law_at"]) F14 fun _ _ _ _ _ _ us hl => match us, hl with | [_, _], _ => rfl, F14.kp⟩
  have c_node_39 : Cl P w K mg base CX0 41 (ga K "_law_node") ["_law_text", "_law_at", "_law_deep_here"] (spNode 39) := ⟨d15, (ok_law_nodeS (n := 38) (k := 40) F15 T1 c_beh38 c_node_38).mono (by decide), FunD.bindsN (ps := ["_law_text", "_law_at", "_law_deep_here"]) F15 fun _ _ _ _ _ _ us hl => match us, hl with | [_, _, _], _ => rfl, F15.kp⟩
  have c_beh39 : Cl P w K mg base CX0 41 (ga K "_law_behind") ["_law_text", "_law_at"] spBeh := ⟨d14, (ok_law_behind F14 T1).mono (by decide), FunD.bindsN (ps := ["_law_text", "_law_at"]) F14 fun _ _ _ _ _ _ us hl => match us, hl with | [_, _], _ => rfl, F14.kp⟩
  have c_node_40 : Cl P w K mg base CX0 42 (ga K "_law_node") ["_law_text", "_law_at", "_law_deep_here"] (spNode 40) := ⟨d15, (ok_law_nodeS (n := 39) (k := 41) F15 T1 c_beh39 c_node_39).mono (by decide), FunD.bindsN (ps := ["_law_text", "_law_at", "_law_deep_here"]) F15 fun _ _ _ _ _ _ us hl => match us, hl with | [_, _, _], _ => rfl, F15.kp⟩
  have c_beh40 : Cl P w K mg base CX0 42 (ga K "_law_behind") ["_law_text", "_law_at"] spBeh := ⟨d14, (ok_law_behind F14 T1).mono (by decide), FunD.bindsN (ps := ["_law_text", "_law_at"]) F14 fun _ _ _ _ _ _ us hl => match us, hl with | [_, _], _ => rfl, F14.kp⟩
  have c_node_41 : Cl P w K mg base CX0 50 (ga K "_law_node") ["_law_text", "_law_at", "_law_deep_here"] (spNode 41) := ⟨d15, (ok_law_nodeS (n := 40) (k := 42) F15 T1 c_beh40 c_node_40).mono (by decide), FunD.bindsN (ps := ["_law_text", "_law_at", "_law_deep_here"]) F15 fun _ _ _ _ _ _ us hl => match us, hl with | [_, _, _], _ => rfl, F15.kp⟩
  have c_told : Cl P w K mg base CX0 50 (ga K "_law_told") ["_law_text"] (spTold K) := ⟨d16, (ok_law_told F16 T4 c_read).mono (by decide), FunD.bindsN (ps := ["_law_text"]) F16 fun _ _ _ _ _ _ us hl => match us, hl with | [_], _ => rfl, F16.kp⟩
  have c_bent : Cl P w K mg base CX0 50 (ga K "_law_bent") ["_law_pen", "_law_text"] spBent := ⟨d17, (ok_law_bent F17 T1 c_drawB c_pick).mono (by decide), FunD.bindsN (ps := ["_law_pen", "_law_text"]) F17 fun _ _ _ _ _ _ us hl => match us, hl with | [_, _], _ => rfl, F17.kp⟩
  have c_lev : Cl P w K mg base CX0 50 (ga K "_law_levels") ["_law_pen", "_law_many", "_law_inner"] spLev := ⟨d18, (ok_law_levels F18 T1 c_draw).mono (by decide), FunD.bindsN (ps := ["_law_pen", "_law_many", "_law_inner"]) F18 fun _ _ _ _ _ _ us hl => match us, hl with | [_, _, _], _ => rfl, F18.kp⟩
  exact ok_law F19 T4 c_drawL c_tr4 c_spelled_5 c_node_41 c_told c_bent c_lev
end K10

open PySem PySem.W PySem.Calls PyProof.Rows
theorem PySem.Challenge.cw_tryback_k10_spellings_refused_holds : PySem.Challenge.rw_tryback_k10_spellings_refused.Holds := by
  w_on; o_law
  refine HandSHeadRun.head_any (r := OpenLaw.row PySem.Challenge.rw_tryback_k10_spellings_refused) (q := view (OpenLaw.row PySem.Challenge.rw_tryback_k10_spellings_refused).prog [37]) (H := K10.hk) (ob := K10.ob) (M := K10.steps) (loose := K10.loose) (d := HandSHeadRun.topDef (OpenLaw.row PySem.Challenge.rw_tryback_k10_spellings_refused).prog 37) (kwd := []) K10.ob_eq
    (by kernel_rfl) (fun s => by kernel_rfl) K10.run (by kernel_rfl) (by kernel_rfl) (by kernel_rfl) (by rfl) (by first | assumption | decide +kernel) (by decide +kernel) ⟨rfl, rfl, rfl, rfl, rfl, by decide +kernel⟩ ?hw ?hc
  case hw => w_witness2
  case hc =>
    refine L2.walk_ofE (l := PySem.Challenge.rw_tryback_k10_spellings_refused) (n := 63) (k := 51) (x := "_law_script") (CX := L2.CX0) rfl (by decide) (by kernel_rfl) ⟨rfl, by decide, by decide⟩ ?F (fun _ _ _ _ z => z)
    intro w mg fa h Y G hmg0
    obtain ⟨K, KX, c⟩ := Y
    have hmg : mg ("law" : PySem.Str) = some (.ref fa) := by
      have e : (HandSHeadRun.topDef (OpenLaw.row PySem.Challenge.rw_tryback_k10_spellings_refused).prog 37).name = ("law" : PySem.Str) := by kernel_rfl
      rw [← e]
      exact hmg0
    obtain ⟨fd, hb, hF⟩ := K10.facts (P := (PySem.Challenge.rw_tryback_k10_spellings_refused).prog) (w := w) KX G hmg c
    exact ⟨K, fd, K10.spLaw K, KX, hb, fun H a ns hl _ hS => ⟨a, ns, rfl, hS, hl, fun _ => rfl⟩, hF⟩

