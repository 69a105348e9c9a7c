import PyProof.Rows.All
import Wide.All
import OpenK.AllK
import Wide.FinOn
import KE.KIsAll
import KE.KTryMore
import HandS.ForMost
import HandS.ForExc
import HandS.ExcInit
import HandS.ExcIs
import HandS.ExcValue
import HandS.ExcField
import HandS.IsInst
import HandS.Evl
import HandS.Defaults
import HandS.Head0
import HandS.Head1
import HandS.Head2
import HandS.HeadEnd
import HandS.HeadHook1
import HandS.HeadHook2
import HandS.Iter
import HandS.Dict
import HandS.More
import HandS.HeadHook3
import HandS.TryMany
import HandS.TupAny
import HandS.Star
import HandS.Zip
import HandS.Steps
import HandS.Walk
import HandS.Flow
import HandS.ExcOwn
import HandS.SortKw
import HandS.Style
import HandS.FStr
import HandS.Small
import KE.DataMinMax
import KE.DatumOrd
import PyProof.EqAt
import PyProof.MeetsIn
import PyProof.NeKinds
import KE.KUnpackStar
import KE.DataFind
import KE.DataEq
import PySem.Challenge.RW_tryback_k06_whole_texts_refused
import HandS.Deep
import HandS.StrMore
import HandS.ReplaceLit
import HandS.ReplaceList
import HandS.ReplaceDef
import HandS.Replace
import HandS.Text
set_option Elab.async false
set_option linter.all false
set_option maxRecDepth 100000
set_option maxHeartbeats 4000000
/-! Own exceptions as values: made, their fields read, asked for their class. -/
namespace XV
open PySem PySem.Spec PyProof.Rows L2

/-! ### the class of such a value -/
theorem dataFound {K : PySem.W.Frag} {C : Addr} {od : Option Obj} {n : Str} {a g : Value} (hc : (PySem.W.clsIn K C).isSome = true) (ha : PySem.W.findIn K (.ref C) n = some (some a))
    (hg : PySem.W.specialIn K a "__get__" = some (some g)) (ht : PySem.W.takesIn K a = some true) : PySem.W.findObj K C od n = some (.bind g a) := by
  cases od with
  | none => exact PySem.W.findObj_dataN hc ha hg ht
  | some o => exact PySem.W.findObj_data hc ha hg ht

section
variable {prog : Program} {w : World} {A : Around} {E : Value → Shared → Prop} {sh : Shared} {K : PySem.W.Frag} {e D : Addr} {oe : Obj} {od : Option Obj}
theorem askCls {R : Option Value → Shared → Prop} (T : ExcC K D) (KI : K.In sh.heap) (J : PySem.W.InstAt sh.heap e oe D od) (r : R (some (.ref D)) { sh with toks := sh.toks + 1 }) :
    wpAny (model prog w) A (getAttr? (.ref e) "__class__") R E sh := by
  obtain ⟨t1, t2, t3, t4, t5, t6, t7, t8⟩ := T
  have some' : (PySem.W.clsIn K D).isSome = true := by
    obtain ⟨cd, z, _⟩ := PySem.W.any_some t4
    rw [z]
    rfl
  have fd := dataFound (od := od) some' t5 t6 t7
  obtain ⟨hh, gs, dr, tk, os⟩ := sh
  have ty := J.type (M := model prog w)
  have l1 := PySem.W.looks_findIn (M := model prog w) KI t1
  have l2 := PySem.W.looks_findIn (M := model prog w) KI t2
  have l3 := PySem.W.looks_find (M := model prog w) KI J fd
  have isB : PySem.W.Looks (model prog w) hh (isInstance (.ref e) (.type "BaseException")) true := ty.andThen (PySem.W.looks_subIn KI t3)
  have z0 : (false && onTheHeap (Value.builtin "BaseException.__getattribute__")) = false := rfl
  have z2 : (Value.builtin "BaseException.__getattribute__" == Value.builtin "object.__getattribute__") = false := by decide +kernel
  have z1 : (onTheHeap (Value.ref D) && Value.builtin "BaseException.__getattribute__" == Value.builtin "object.__getattribute__") = false := by rw [z2]; rfl
  unfold getAttr?
  unfold getAttrBy?
  unfold getAttrBy
  refine wpAny_bind (wpAny_mkText (wpAny_bind (wpAny_attempt (wpAny_holding (wpAny_bind (ty.at (wpAny_bind (l1.at ?_))))))))
  show wpAny _ _ (if (onTheHeap (Value.ref D) && Value.builtin "BaseException.__getattribute__" == Value.builtin "object.__getattribute__") = true then _ else _) _ _ _
  rw [z1, if_neg Bool.false_ne_true]
  unfold getAttrByItsOwn
  unfold hookBefore
  refine wpAny_bind ?_
  rw [if_pos (show onTheHeap (Value.ref D) = true from rfl)]
  refine l2.at ?_
  refine wpAny_bind (wpAny_attempt (wpAny_holding ?_))
  unfold callGetattribute
  rw [z0, if_neg Bool.false_ne_true]
  unfold boundAndCalled
  rw [PySem.F.excAttr_ValueError.ga.bind (.ref e)]
  refine wpAny_bind (wpAny_pure ?_)
  show wpAny _ _ (call (.builtin "BaseException.__getattribute__") [.ref e, .str "__class__" tk]) _ _ _
  refine wpAny_call (codeAny_call_builtin PySem.F.excAttr_ValueError.ga.plain PySem.F.entry_bexc_ga ?_)
  refine @PySem.W.check_slot (model prog w) _ _ ⟨hh, gs, dr, tk + 1, os⟩ "BaseException.__getattribute__" "BaseException" "__getattribute__" (.ref e) [.str "__class__" tk] [] _ (by decide +kernel) (by decide +kernel) isB (PySem.F.args_bexc_ga (.ref e) (.str "__class__" tk)) ?_
  unfold Builtin.«object.__getattribute__»
  refine wpAny_bind (wpAny_of_eq (a := ((Value.ref e : Value), [Value.str "__class__" tk])) (by first | rfl | (simp only [Builtin.slotArgs]; rfl)) ?_)
  refine wpAny_bind (wpAny_pure (wpAny_bind (ty.at (wpAny_bind (l3.at ?_)))))
  show wpAny _ _ (holding [Value.builtin "object.__class__"] (call (.builtin "getset_descriptor.__get__") [.builtin "object.__class__", .ref e, .ref D]) >>= ret) _ _ _
  refine wpAny_bind (wpAny_holding (wpAny_call (PySem.W.class_get (s := ⟨hh, gs, dr, tk + 1, os⟩) (ox := oe) (od := od) KI J t8 ?_)))
  refine wpAny_pure ?_
  show wpAny _ _ (handedOut (.ref D)) _ _ _
  rw [PySem.W.handedOut_of (v := .ref D) rfl]
  first
    | exact wpAny_pure (wpAny_pure r)
    | exact wpAny_pure r
    | exact wpAny_pure (wpAny_bind (wpAny_pure (wpAny_pure r)))
theorem kitOf (T : ExcC K D) : PySem.W.KitX K (.ref e) (.ref D) (fun h => PySem.W.InstAt h e oe D od) := by
  obtain ⟨cd, hc, _⟩ := PySem.W.any_some T.hd
  unfold PySem.W.clsIn at hc
  split at hc
  · rename_i c' d' cd' sl' lk
    refine ⟨fun _ _ _ J => J.type, fun M h KI _ A' Q' E' s' k q => ?_, fun h tp dd its n sl KI htp => ?_, fun KI J r => askCls T KI J r⟩
    · unfold isType loadHead
      exact wpAny_bind (wpAny_loadPart (k _ _ (KI _ _ lk)) (wpAny_pure q))
    · refine Bool.eq_false_iff.mpr fun q => ?_
      have e1 : D = tp := Value.ref.inj (beq_iff_eq.mp q)
      rw [← e1] at htp
      have z := (KI _ _ lk).symm.trans htp
      cases z
  · cases hc
end

/-! ### what is tracked of an exception -/
/-- at a: an exception of the class at C that has the fields fs -/
def ExF (H : Hp) (a C : Addr) (fs : List (Str × V)) : Prop := ∃ d, H a = some (exo a C (some d)) ∧ H d = some (exd d fs)
/-- at a: an exception of the class at C -/
def ExAt (H : Hp) (a C : Addr) : Prop := (∃ fs, ExF H a C fs) ∨ H a = some (exo a C none)
theorem ExF.at {H : Hp} {a C : Addr} {fs : List (Str × V)} (h : ExF H a C fs) : ExAt H a C := .inl ⟨fs, h⟩
theorem ExF.mono {H H' : Hp} {a C : Addr} {fs : List (Str × V)} (k : Evl.Ex H H') (h : ExF H a C fs) : ExF H' a C fs := by
  obtain ⟨d, h1, h2⟩ := h
  exact ⟨d, k _ _ h1, k _ _ h2⟩
theorem ExAt.mono {H H' : Hp} {a C : Addr} (k : Evl.Ex H H') (h : ExAt H a C) : ExAt H' a C := by
  rcases h with ⟨fs, h⟩ | h
  · exact .inl ⟨fs, h.mono k⟩
  · exact .inr (k _ _ h)
theorem inst_of {X : Cx} {pins : List (Addr × Obj)} {σ : L2.St} {H : Hp} {s : Shared} {a C : Addr} (I : Inv X pins σ H s) (h : ExAt H a C) : ∃ oe od, PySem.W.InstAt s.heap a oe C od := by
  rcases h with ⟨fs, d, h1, h2⟩ | h
  · obtain ⟨t, ho⟩ := exo_at I.hok h1
    obtain ⟨mA, ⟨oD, es, ep, hD, _⟩, _⟩ := exd_at I.hok h2
    exact ⟨_, some oD, ho, rfl, rfl, hD⟩
  · obtain ⟨t, ho⟩ := exo_at I.hok h
    exact ⟨_, none, ho, rfl, rfl, True.intro⟩

/-! ### isinstance(e, c) -/
def rIsX (K : PySem.W.Frag) : List V → Hp → VK → Prop := fun xs H Q => ∃ (a C : Addr) (c : V) (cv : Value) (b : Bool), xs = [.ref a, c] ∧ ExAt H a C ∧ ExcC K C ∧ ClsV c cv ∧ PySem.W.kitOne K (.ref C) cv = some b ∧ Q (.bl b) H
theorem call_isX {X : Cx} : CallR X (.builtin "isinstance") (rIsX X.K) := by
  intro pins s σ H xs us Q I r h
  obtain ⟨a, C, c, cv, b, rfl, hx, T, kc, e, q⟩ := h
  obtain ⟨u1, u2, rfl, r1, r2⟩ := vals2 r
  cases (show u1 = Value.ref a from r1)
  have e2 := kc.eq r2
  subst e2
  obtain ⟨oe, od, J⟩ := inst_of I hx
  exact PySem.W.kia_one (kitOf T) I.kIn J e (fun z => nomatch z) fun tk => ⟨.bl b, H, I.tok tk, rfl, q⟩

/-! ### e.f -/
def tXv (K : PySem.W.Frag) (f : Str) (te : TE) : TE := fun σ H Q => te σ H fun x H1 => ∃ (a C d : Addr) (fs : List (Str × V)) (v : V), x = .ref a ∧ H1 a = some (exo a C (some d)) ∧ H1 d = some (exd d fs) ∧ XfC K C ∧ PySem.W.findIn K (.ref C) f = some none ∧ fs.lookup f = some v ∧ Q v H1
theorem pe_xv {X : Cx} {e : Expr} {te : TE} {pos : Pos} {f : Str} (he : PE X e te) (hb : attributeBase e f X.env (eval e X.env) = eval e X.env := by rfl) : PE X (.Attribute e f pos) (tXv X.K f te) := by
  refine ⟨fun pins s σ H Q I h => ?_⟩
  refine attr_of hb (thn (he.run pins s σ H _ I h) fun u s1 ⟨x, H1, I1, rx, a, C, d, fs, v, ex, ha, hd, T, hno, l, q⟩ => ?_)
  subst ex
  cases (show u = Value.ref a from rx)
  obtain ⟨t, ho⟩ := exo_at I1.hok ha
  obtain ⟨mA, hns, hr⟩ := exd_at I1.hok hd
  obtain ⟨oD, hoD, hl⟩ := lookIn_ns hns
  obtain ⟨u', hu, ru⟩ := RelO.some_of (v := v) (o := mA f) (by rw [← l]; exact hr f)
  have J : PySem.W.InstAt s1.heap a _ C (some oD) := ⟨ho, rfl, rfl, hoD⟩
  exact HandSPX.exc_get I1.kIn J T.ga T.gg T.exC (PySem.W.findObj_own T.hdC hno rfl (by rw [hl, hu])) (handed_of ru) ⟨v, H1, I1.tok _, ru, q⟩

/-! ### C(e, ..), C's own __init__ keeping sp; C() without one -/
def tMkV (C : Addr) (sp : Sp) (ta : TA) : TE := fun σ H Q => ta σ H fun vs H1 => vs.length ≤ 1000 ∧ ∀ a, H1 a = none → sp (.ref a :: vs) (upd H1 a (exo a C none)) (fun v H2 => v = .non ∧ Q (.ref a) H2) E0
section
variable {X : Cx} {e : Expr} {es : List Expr} {ta : TA} {p pos : Pos} {x : Str} {C fI : Addr} {k : Nat} {fd : FuncData} {ps : List Str} {sp : Sp}
theorem pe_mkv (T : OexC X.K C) (iC : PySem.W.findIn X.K (.ref C) "__init__" = some (some (.ref fI))) (tI : PySem.W.typeIn X.K (.ref fI) = some (.type "function")) (F1 : FnOk X.prog X.w X.K X.mg X.base CX0 k fI fd ps sp)
    (hr : Room (k + 1) X.A) (hb : Binds X.K fd ps []) (hg : Gl X x) (hm : X.mg x = some (.ref C)) (ha : PA X (e :: es) ta)
    (hdb : (x == ("__debug__" : Str)) = false := by decide) (he : starEach (e :: es) X.env = (false, eval e X.env) :: starEach es X.env := by rfl) (hpl : (backTo pos (starEach es X.env)).any (·.1) = false := by rfl) :
    PE X (.Call (.Name x p) (e :: es) [] pos) (tMkV C sp ta) := by
  refine ⟨fun pins s σ H Q I h => ?_⟩
  obtain ⟨nm, q, N, bs, bm, sn, sub, ab, col, dd, k0, k1, k2, k3, k5, lC, lB⟩ := T.cls
  refine wpAny_Call_Name_kw (ld_glob I hg hm ?_ hdb)
  refine PySem.W.callWith_K (h₀ := X.base) I.ok.mod.kin T.kC (thn (ha.run pos pins s σ H _ I h) fun us s1 ⟨vs, H1, I1, r1, hz, q1⟩ => ⟨I1.kIn, ?_⟩) he hpl
  show wpAny _ _ (call (.ref C) us) _ _ _
  obtain ⟨hh, g, dr, tk, os⟩ := s1
  have top : hh.objs.size ≤ hh.objs.size + 1 := Nat.le_succ _
  have w0 := q1 (hh.objs.size + 1) (I1.hok.fresh top)
  have old : ∀ b o, hh.get? b = some o → ((hh.push (PySem.W.kdv_tup us)).push (PySem.HandSPX.excO C hh.objs.size)).get? b = some o := fun b o z => Heap.get?_push_of_some _ (Heap.get?_push_of_some _ z)
  have made : ((hh.push (PySem.W.kdv_tup us)).push (PySem.HandSPX.excO C hh.objs.size)).get? (hh.objs.size + 1) = some (PySem.HandSPX.excO C hh.objs.size) := by heap_get
  have J : Inv X pins σ (upd H1 (hh.objs.size + 1) (exo (hh.objs.size + 1) C none)) ⟨(hh.push (PySem.W.kdv_tup us)).push (PySem.HandSPX.excO C hh.objs.size), g, dr, tk, os⟩ :=
    I1.laid (t' := tk) old top (exo_ok made)
  have rv : Vals (V.ref (hh.objs.size + 1) :: vs) (Value.ref (hh.objs.size + 1) :: us) := .cons rfl r1
  have hl : (Value.ref (hh.objs.size + 1) :: us ++ []).length = ps.length := by
    have z := rv.length
    rw [F1.len _ _ _ _ w0] at z
    rw [List.append_nil]
    exact z.symm
  have hus : us.length ≤ sizeLine := by
    rw [← Paired.length r1, sizeLine_eq]
    omega
  have bd := hb ⟨(hh.push (PySem.W.kdv_tup us)).push (PySem.HandSPX.excO C hh.objs.size), g, dr, tk, os⟩ (Value.ref (hh.objs.size + 1) :: us) J.kIn hl
  rw [List.append_nil] at bd
  have F1' := F1.run _ X.stack _ _ ⟨Value.ref (hh.objs.size + 1) :: us, []⟩ (Value.ref (hh.objs.size + 1) :: us) _ _ E0 (hr.make C us []) (J.env0.make C us []) bd rv w0
  refine wpAny_call (PySem.HandSPX.call_own F.excBase_ValueError (fun Y => PySem.HandSPX.refsVE_contains Y bm lB) (I1.kIn _ _ lC) (PySem.W.looks_findIn I1.kIn iC) (fun self => PySem.W.bind_fn I1.kIn self tI) hus
    (codeAny_mono F1' fun r s' hq => ?_))
  cases r with
  | error er => exact False.elim hq
  | ok fl =>
    cases fl with
    | ret u =>
      obtain ⟨v, H2, I2, r2, ev, q2⟩ := J.after hq
      subst ev
      exact ⟨r2, ⟨.ref (hh.objs.size + 1), H2, I2, rfl, q2⟩⟩
    | next => exact False.elim hq
    | brk => exact False.elim hq
    | cont => exact False.elim hq
def tMk0 (C : Addr) : TE := fun _ H Q => ∀ a, H a = none → Q (.ref a) (upd H a (exo a C none))
theorem pe_mk0 {bmB : List Value} {B newId initId : String} (F : ExcBaseFacts B newId initId bmB) (q : PySem.W.excIn X.K C bmB newId = true) (kC : PySem.W.keepIn X.K (.ref C) = true) (hg : Gl X x) (hm : X.mg x = some (.ref C))
    (hdb : (x == ("__debug__" : Str)) = false := by decide) : PE X (.Call (.Name x p) [] [] pos) (tMk0 C) := by
  refine ⟨fun pins s σ H Q I h => ?_⟩
  refine wpAny_Call_Name_kw (ld_glob I hg hm ?_ hdb)
  refine PySem.W.callWith_K0 I.kIn kC ?_
  show wpAny _ _ (call (.ref C) []) _ _ _
  obtain ⟨bm, N, nm, qn, bs, hdct, sn, sub, ab, col, dd, k0, k1, k2, k3, k5, mN, hC, hN, hni, T⟩ := exc_obj I.kIn q
  refine wpAny_call_exc_subT F T hC hN hni (fun h' a hm => ?_) (by show 0 ≤ sizeLine; exact Nat.zero_le _)
  have hn : H a = none := I.hok.gone hm.new
  obtain ⟨t, ht, _, _⟩ := hm.there
  exact ⟨.ref a, upd H a (exo a C none), I.laidN hm.keeps hm.new hn (exo_ok ht), rfl, h a hn⟩
end
end XV

set_option Elab.async false
set_option linter.all false
set_option maxRecDepth 100000
set_option maxHeartbeats 4000000
/-! A head's facts as any tests of the written part. -/
namespace XH
open PySem PySem.Spec PyProof.Rows L2 He
abbrev Fc : Type := PySem.W.Frag → Bool
def obsB (fa : List Fc) (fn : List DefD) (K : PySem.W.Frag) : AlD := ((fa.all fun f => f K) && fn.all fun d => d.ok K, fn.map fun d => fnW K d.at_)
def SaysB (fa : List Fc) (fn : List DefD) (K : PySem.W.Frag) : Prop := obsB fa fn K = valD fn
def obsBG (n : Nat) (fa : List Fc) (fn : List DefD) (g : Addr → Option Obj) : AlD := obsB fa fn (frG g (asD g n))
def hookB (n : Nat) (fa : List Fc) (fn : List DefD) : PySem.W.Hook where
  α := AlD
  obs := fun st => obsBG n fa fn st.heap.get?
  val := fun _ => valD fn
  says := fun _ hh => ∃ K : PySem.W.Frag, K.In hh ∧ SaysB fa fn K
  of := fun _ _ z => ⟨_, frG_in, z⟩
  keeps := fun _ _ _ ⟨K, inn, c⟩ kk => ⟨K, PySem.W.Frag.In.keeps inn kk, c⟩
theorem obsBG_eq {n : Nat} {fa : List Fc} {fn : List DefD} {g : Addr → Option Obj} {s : Shared} (h : ∀ a, g a = s.heap.get? a) : obsBG n fa fn g = (hookB n fa fn).obs s := by
  have z : g = s.heap.get? := funext h
  rw [z]
  rfl
section
variable {fa : List Fc} {fn : List DefD} {K : PySem.W.Frag}
theorem SaysB.fact (c : SaysB fa fn K) (i : Nat) {f : Fc} (h : fa[i]? = some f := by rfl) : f K = true := by
  have c1 : ((fa.all fun f => f K) && fn.all fun d => d.ok K) = true := congrArg (fun z : AlD => z.1) c
  exact List.all_eq_true.mp (ba c1).1 f (List.mem_of_getElem? h)
theorem SaysB.def_ (c : SaysB fa fn K) (i : Nat) {d : DefD} (h : fn[i]? = some d := by rfl) : ∃ fd, FunD K d.name d.qual d.params d.body d.scope (d.dvs K) (d.kws K) (fAd K d.at_) fd := by
  have c1 : ((fa.all fun f => f K) && fn.all fun d => d.ok K) = true := congrArg (fun z : AlD => z.1) c
  have c2 : fn.map (fun d => fnW K d.at_) = fn.map DefD.val := congrArg (fun z : AlD => z.2) c
  have c3 : (fn.map fun d => fnW K d.at_)[i]? = (fn.map DefD.val)[i]? := congrArg (fun l => l[i]?) c2
  rw [List.getElem?_map, List.getElem?_map, h] at c3
  exact DefD.funD (Option.some.inj c3) (List.all_eq_true.mp (ba c1).2 d (List.mem_of_getElem? h))
end
/-! ### names -/
def glosB (l : List Str) : Fc := fun K => l.all fun x => (Fa.glo x).ok K
def freesB (l : List Str) : Fc := fun K => l.all fun x => (Fa.free x).ok K
theorem glos_ok {K : PySem.W.Frag} {h : Heap} {mg : Str → Option Value} {l : List Str} (X : K.In h) (G : h.Ns mainGlobals mg) (c : glosB l K = true) (x : Str) (hx : x ∈ l) : mg x = some (.ref (ga K x)) := glo_ok X G (List.all_eq_true.mp c x hx)
theorem frees_ok {K : PySem.W.Frag} {h : Heap} {mg : Str → Option Value} {l : List Str} (X : K.In h) (G : h.Ns mainGlobals mg) (c : freesB l K = true) (x : Str) (hx : x ∈ l) : mg x = none := free_ok X G (List.all_eq_true.mp c x hx)
/-! ### own exception classes -/
def excCB (K : PySem.W.Frag) (C : Addr) : Bool :=
  eqO (PySem.W.findIn K (.ref C) "__getattribute__") (some (some (.builtin "BaseException.__getattribute__"))) && (eqO (PySem.W.findIn K (.ref C) "__getattr__") (some none) && (decide (PySem.W.subIn K (.ref C) (.type "BaseException") = some true) &&
  (PySem.W.hasDictIn K C && (eqO (PySem.W.findIn K (.ref C) "__class__") (some (some (.builtin "object.__class__"))) && (eqO (PySem.W.specialIn K (.builtin "object.__class__") "__get__") (some (some (.builtin "getset_descriptor.__get__"))) &&
  (decide (PySem.W.takesIn K (.builtin "object.__class__") = some true) && decide (PySem.W.mroIn K C (.type "object") = some true)))))))
theorem excC_ok {K : PySem.W.Frag} {C : Addr} (h : excCB K C = true) : ExcC K C := by
  obtain ⟨h1, h⟩ := ba h
  obtain ⟨h2, h⟩ := ba h
  obtain ⟨h3, h⟩ := ba h
  obtain ⟨h4, h⟩ := ba h
  obtain ⟨h5, h⟩ := ba h
  obtain ⟨h6, h⟩ := ba h
  obtain ⟨h7, h8⟩ := ba h
  exact ⟨eqO_ok h1, eqO_ok h2, of_decide_eq_true h3, h4, eqO_ok h5, eqO_ok h6, of_decide_eq_true h7, of_decide_eq_true h8⟩
def exB (K : PySem.W.Frag) (C : Addr) : Bool := match K.lookup C with
  | some ⟨.type "type", _, .cls cd, sl⟩ => (match cd.mro, sl.toList with
    | .ref C' :: bm, [_, _, _, _, some (.builtin n), _] => C' == C && (n == "ValueError.__new__" && (!cd.hasDel && (cd.hasDict && PySem.HandSPX.refsVE bm)))
    | _, _ => false)
  | _ => false
theorem exB_ok {K : PySem.W.Frag} {C : Addr} (q : exB K C = true) : ∃ nm qn N bs bm sn sub ab col dd k0 k1 k2 k3 k5, K.lookup C = some (excClassObj nm qn C N bs bm true sn sub ab col dd k0 k1 k2 k3 k5 "ValueError.__new__") ∧ PySem.HandSPX.refsVE bm = true := by
  unfold exB at q
  split at q
  · rename_i dd cd sl lk
    split at q
    · rename_i C' bm k0 k1 k2 k3 n k5 hm hs
      obtain ⟨q1, q⟩ := ba q
      obtain ⟨q2, q⟩ := ba q
      obtain ⟨q3, q⟩ := ba q
      obtain ⟨q4, q5⟩ := ba q
      have e1 := beq_iff_eq.mp q1
      have e2 := beq_iff_eq.mp q2
      subst e1 e2
      obtain ⟨nm, bs, mro, ns, qn, hd, sn, sub, ab, col, del⟩ := cd
      dsimp only at hm q3 q4
      have e3 : del = false := by simpa using q3
      subst hm e3 q4
      have hsl : sl = #[k0, k1, k2, k3, some (.builtin "ValueError.__new__"), k5] := by
        obtain ⟨l⟩ := sl
        have hs' : l = [k0, k1, k2, k3, some (.builtin "ValueError.__new__"), k5] := hs
        rw [hs']
      subst hsl
      exact ⟨nm, qn, ns, bs, bm, sn, sub, ab, col, dd, k0, k1, k2, k3, k5, lk, q5⟩
    · cases q
  · cases q
/-- an own class with an __init__ of its own that stores the fields fs -/
def ownB (K : PySem.W.Frag) (x : Str) (fs : List Str) : Bool :=
  exB K (ga K x) && (eqO (PySem.W.findIn K (.ref (ga K x)) "__setattr__") (some (some (.builtin "object.__setattr__"))) && (decide (PySem.W.typeIn K (.ref (ga K x)) = some (.type "type")) && (PySem.W.keepIn K (.ref (ga K x)) &&
  ((fs.all fun f => eqO (PySem.W.findIn K (.ref (ga K x)) f) (some none)) && (eqO (PySem.W.findIn K (.ref (ga K x)) "__init__") (some (some (.ref (ma K (ga K x) "__init__")))) &&
  (decide (PySem.W.typeIn K (.ref (ma K (ga K x) "__init__")) = some (.type "function")) && excCB K (ga K x)))))))
structure Own (K : PySem.W.Frag) (C fI : Addr) (fs : List Str) : Prop where
  ox : OexC K C
  no : ∀ f ∈ fs, PySem.W.findIn K (.ref C) f = some none
  iC : PySem.W.findIn K (.ref C) "__init__" = some (some (.ref fI))
  tI : PySem.W.typeIn K (.ref fI) = some (.type "function")
  ec : ExcC K C
theorem Own.xf {K : PySem.W.Frag} {C fI : Addr} {fs : List Str} (o : Own K C fI fs) : XfC K C := ⟨o.ec.hg, o.ec.hk, o.ec.hs, o.ec.hd⟩
theorem own_ok {K : PySem.W.Frag} {x : Str} {fs : List Str} (h : ownB K x fs = true) : Own K (ga K x) (ma K (ga K x) "__init__") fs := by
  obtain ⟨h1, h⟩ := ba h
  obtain ⟨h2, h⟩ := ba h
  obtain ⟨h3, h⟩ := ba h
  obtain ⟨h4, h⟩ := ba h
  obtain ⟨h5, h⟩ := ba h
  obtain ⟨h6, h⟩ := ba h
  obtain ⟨h7, h8⟩ := ba h
  have e := excC_ok h8
  exact ⟨⟨exB_ok h1, eqO_ok h2, e.hs, of_decide_eq_true h3, h4⟩, fun f hf => eqO_ok (List.all_eq_true.mp h5 f hf), eqO_ok h6, of_decide_eq_true h7, e⟩
/-- an own class without one -/
def bareB (K : PySem.W.Frag) (x : Str) : Bool := PySem.W.excIn K (ga K x) veBase "ValueError.__new__" && (PySem.W.keepIn K (.ref (ga K x)) && excCB K (ga K x))
structure Bare (K : PySem.W.Frag) (C : Addr) : Prop where
  ex : PySem.W.excIn K C veBase "ValueError.__new__" = true
  kC : PySem.W.keepIn K (.ref C) = true
  ec : ExcC K C
theorem bare_ok {K : PySem.W.Frag} {x : Str} (h : bareB K x = true) : Bare K (ga K x) := by
  obtain ⟨h1, h⟩ := ba h
  obtain ⟨h2, h3⟩ := ba h
  exact ⟨h1, h2, excC_ok h3⟩
/-! ### the promise of such an __init__ of one, of two fields -/
def spI1 (K : PySem.W.Frag) (C : Addr) (f : Str) : Sp := fun vs H Q _ => ∃ (a : Addr) (y : V), vs = [.ref a, y] ∧ OexC K C ∧ PySem.W.findIn K (.ref C) f = some none ∧ H a = some (exo a C none) ∧
  ∀ d, H d = none → d ≠ a → Q .non (upd (upd H d (exd d [(f, y)])) a (exo a C (some d)))
def spI2 (K : PySem.W.Frag) (C : Addr) (f g : Str) : Sp := fun vs H Q _ => ∃ (a : Addr) (y z : V), vs = [.ref a, y, z] ∧ OexC K C ∧ PySem.W.findIn K (.ref C) f = some none ∧ PySem.W.findIn K (.ref C) g = some none ∧ H a = some (exo a C none) ∧
  ∀ d, H d = none → d ≠ a → Q .non (upd (upd (upd H d (exd d [(f, y)])) a (exo a C (some d))) d (exd d [(g, z), (f, y)]))
end XH

set_option Elab.async false
set_option linter.all false
set_option maxRecDepth 100000
set_option maxHeartbeats 4000000
/-! Rules that were lacking: a text some times over, get of a table of the top, what is walked either way, an error without arguments, several clauses that each keep their error, isinstance of it. -/
namespace XR
open PySem PySem.Spec PyProof.Rows L2

/-! ### text * n -/
def repS (z : Str) (n : Nat) : Str := ⟨(List.replicate n z.cps).foldl (· ++ ·) #[]⟩
theorem rep_size (a : Array Nat) : ∀ (n : Nat) (acc : Array Nat), ((List.replicate n a).foldl (· ++ ·) acc).size = acc.size + n * a.size
  | 0, acc => by simp
  | n + 1, acc => by
    rw [List.replicate_succ, List.foldl_cons, rep_size a n, Array.size_append, Nat.succ_mul]
    omega
theorem repS_len (z : Str) (n : Nat) : (repS z n).length = n * z.length := by
  show ((List.replicate n z.cps).foldl (· ++ ·) #[]).size = n * z.cps.size
  rw [rep_size]
  simp
theorem op_mulS {X : Cx} : OpR X (binaryOp .Mult) (fun x y H Q => ∃ (z : Str) (n : Nat), x = .str z ∧ y = .int (n : Int) ∧ (1 ≤ n ∧ n ≤ 1000) ∧ (1 ≤ z.length ∧ z.length ≤ 1000) ∧ Q (.str (repS z n)) H) := by
  intro pins s σ H x y v u Q I rx ry h
  obtain ⟨z, n, rfl, rfl, ⟨n1, n2⟩, ⟨z1, z2⟩, q⟩ := h
  obtain ⟨t, rfl⟩ := rx
  obtain ⟨t', rfl⟩ := ry
  have c1 : decide ((n : Int) < -(2 ^ 63 : Int)) = false := decide_eq_false (by omega)
  have c2 : decide ((n : Int) ≥ 2 ^ 63) = false := decide_eq_false (by omega)
  refine PySem.P.mul_str (by rw [c1, c2]; rfl) (fun _ _ => ?_) (fun _ _ => ?_) ?_
  · have k : (1000000 : Int) ≤ (2 ^ 63 - 1) / (n : Int) := by
      refine Int.le_ediv_of_mul_le (by omega) ?_
      omega
    omega
  · have k : z.length * (n : Int).toNat ≤ 1000 * 1000 := Nat.mul_le_mul z2 (by omega)
    show decide (z.length * (n : Int).toNat > sizeLine) = false
    refine decide_eq_false ?_
    rw [sizeLine_eq]
    omega
  · rw [if_neg (by omega)]
    by_cases e : n = 1
    · subst e
      have e2 : repS z 1 = z := by
        unfold repS
        simp
      rw [if_pos (by rfl)]
      rw [e2] at q
      exact ⟨.str z, H, I, ⟨_, rfl⟩, q⟩
    · have b : ((n : Int) == 1 || z.length == 0) = false := by
        have b1 : ((n : Int) == 1) = false := by
          rw [beq_eq_false_iff_ne]
          omega
        have b2 : (z.length == 0) = false := by
          rw [beq_eq_false_iff_ne]
          omega
        rw [b1, b2]
        rfl
      rw [b, if_neg Bool.false_ne_true]
      have en : (n : Int).toNat = n := by omega
      rw [en]
      have lr : (repS z n).length ≤ sizeLine := by
        rw [repS_len, sizeLine_eq]
        have k : n * z.length ≤ 1000 * 1000 := Nat.mul_le_mul n2 z2
        omega
      exact ⟨lr, ⟨.str (repS z n), H, I.tok _, ⟨_, rfl⟩, q⟩⟩

/-! ### d.get(x), d a table of the top -/
def tKGet (K : PySem.W.Frag) (w : World) (td ty : TE) : TE := fun σ H Q => td σ H fun x H1 => ∃ (a : Addr) (es : Array DictEntry) (n : Nat), x = .ref a ∧ KDict K w a es n ∧ ty σ H1 fun y H2 => ∃ (z : Str) (r : Option Value) (v : V), y = .str z ∧ PySem.W.nsIn K a z = some r ∧ RelV v (r.getD .none) ∧ Q v H2
theorem pe_kget {X : Cx} {o e : Expr} {apos cpos : Pos} {td ty : TE} (ho : PE X o td) (he : PE X e ty) (m : M1 X o "get" apos e cpos) : PE X (.Call (.Attribute o "get" apos) [e] [] cpos) (tKGet X.K X.w td ty) := by
  refine ⟨fun pins s σ H Q I h => ?_⟩
  refine wpAny_Call_method m.base m.few m.line PySem.F.plainAttrs_dict PySem.F.slot_dict_get PySem.F.type_dict_get (thn (ho.run pins s σ H _ I h) fun u s1 ⟨x, H1, I1, rx, a, es, n, ex, D, q1⟩ => ?_)
  subst ex
  cases (show u = Value.ref a from rx)
  refine ⟨kd_type D I1, fun b q => ?_, ?_⟩
  · cases q
    exact ⟨_, I1.kIn _ _ D.at_, rfl⟩
  rw [m.trees]
  refine Calls.callWith_builtin rfl (Calls.evalArgs_plain (Calls.spliced_cons (thn (he.run pins s1 σ H1 _ I1 q1) fun iv s2 ⟨y, H2, I2, ry, z, r, v, ey, en, rv, q2⟩ => Calls.spliced_nil ?_)))
  subst ey
  obtain ⟨t, rfl⟩ := (show ∃ t, iv = Value.str z t from ry)
  have mp := PySem.W.mapOf_K (prog := X.prog) (w := X.w) I2.kIn D.at_ D.lit
  refine call_meetsIn PySem.F.slot_dict_get mp.typeIs PySem.F.entry_dict_get (PySem.F.args_dict_get_2 _ _) (meets_dict_get (strKind X.prog X.w) a (strKind_is X.prog X.w z t) D.low) ⟨_, mp, ?_⟩
  rw [PySem.W.find_K D.at_ en]
  exact ⟨v, H2, I2.tok _, rv, q2⟩

/-! ### what may be walked in two ways -/
theorem pi_or {X : Cx} {tg l : Expr} {w1 w2 : TI} (h1 : PI X tg l w1) (h2 : PI X tg l w2) : PI X tg l (fun σ H R => w1 σ H R ∨ w2 σ H R) := ⟨fun pins s σ H R I h => h.elim (fun k => h1.run pins s σ H R I k) (fun k => h2.run pins s σ H R I k)⟩

/-! ### raise C() -/
theorem pmk0 {X : Cx} {C : Addr} {bmB : List Value} {B newId initId : String} {x : Str} {p pos : Pos} (F : ExcBaseFacts B newId initId bmB) (q : PySem.W.excIn X.K C bmB newId = true) (gC : X.mg x = some (.ref C)) (kC : PySem.W.keepIn X.K (.ref C) = true) (r : Raises X (.ref C)) (hg : Gl X x)
    (hdb : (x == ("__debug__" : Str)) = false := by decide) : PMk X (.Call (.Name x p) [] [] pos) (fun _ H Q => Q (.ref C) none H) := by
  intro pins s σ H Q I h
  refine wpAny_Call_Name_kw (ld_glob I hg gC ?_ hdb)
  refine PySem.W.callWith_K0 I.kIn kC ?_
  show wpAny _ _ (call (.ref C) []) _ _ _
  obtain ⟨bm, N, nm, qn, bs, hdct, sn, sub, ab, col, dd, k0, k1, k2, k3, k5, mN, hC, hN, hni, T⟩ := exc_obj I.kIn q
  exact wpAny_call_exc_subT F T hC hN hni (fun h' a hm => mk_of I hm r h (I.hok.gone hm.new)) (by show 0 ≤ sizeLine; exact Nat.zero_le _)

/-! ### isinstance(e, c), e the error that the suite holds -/
def rIsS (K : PySem.W.Frag) (cls : Value) (d : Option Addr) (a : Addr) : List V → Hp → VK → Prop := fun xs H Q => ∃ (C : Addr) (c : V) (cv : Value) (b : Bool), xs = [.ref a, c] ∧ cls = .ref C ∧ ExcC K C ∧ (∀ dd, d = some dd → ∃ fs, H dd = some (.xd fs)) ∧ ClsV c cv ∧ PySem.W.kitOne K (.ref C) cv = some b ∧ Q (.bl b) H
theorem call_isS {X : Cx} {a : Addr} {oe : Obj} {cls : Value} {d : Option Addr} {pn : List (Addr × Obj)} (hz : Zc cls d oe) (hf : ∃ vs, oe.data = .fields vs) : CallR (X.suite a ((a, oe) :: pn)) (.builtin "isinstance") (rIsS X.K cls d a) := by
  intro pins s σ H xs us Q I r h
  obtain ⟨C, c, cv, b, rfl, rfl, T, hd, kc, e, q⟩ := h
  obtain ⟨u1, u2, rfl, r1, r2⟩ := vals2 r
  cases (show u1 = Value.ref a from r1)
  have e2 := kc.eq r2
  subst e2
  obtain ⟨there, _⟩ := I.pin (a, oe) (List.mem_append_left _ List.mem_cons_self)
  obtain ⟨vs, hv⟩ := hf
  obtain ⟨oc, od, dt, sl⟩ := oe
  obtain ⟨z1, z2⟩ := hz
  dsimp only at z1 z2 hv
  subst z1 z2 hv
  have J : ∃ oD, PySem.W.InstAt s.heap a ⟨.ref C, od, .fields vs, sl⟩ C oD := by
    cases od with
    | none => exact ⟨none, there, rfl, rfl, True.intro⟩
    | some dd =>
      obtain ⟨fs, hx⟩ := hd dd rfl
      have k : ObjOk X.prog X.w H s.heap dd (.xd fs) := I.hok dd _ hx
      obtain ⟨mA, ⟨oD, es, ep, hD, _⟩, _⟩ := k
      exact ⟨some oD, there, rfl, rfl, hD⟩
  obtain ⟨oD, J⟩ := J
  exact PySem.W.kia_one (XV.kitOf T) I.kIn J e (fun z => nomatch z) fun tk => ⟨.bl b, H, I.tok tk, rfl, q⟩

/-! ### try with several clauses, each «as» -/
def wMas (K : PySem.W.Frag) (Wout : WX) (D : Ends) : List (Value × Nat × (Addr → Value → Option Addr → TS)) → WX
  | [] => Wout
  | (c, i, ts) :: more => fun cls d σ H => ∃ b, PySem.W.exmOne K cls c = some b ∧ (b = true → ∀ a, H a = none → ts a cls d { nx := fun σ' H' => D.nx (σ'.set i none) H', rt := D.rt, bk := fun σ' H' => D.bk (σ'.set i none) H', ct := fun σ' H' => D.ct (σ'.set i none) H' } (σ.set i (some (.ref a))) H) ∧
    (b = false → wMas K Wout D more cls d σ H)
inductive HdsA (X : Cx) : List ExceptHandler → List (Value × Nat × (Addr → Value → Option Addr → TS)) → Prop
  | nil : HdsA X [] []
  | cons {x n : Str} {c : Value} {i : Nat} {ts : Addr → Value → Option Addr → TS} {st : Stmt} {suite : List Stmt} {np hp : Pos} {hds : List ExceptHandler} {l : List (Value × Nat × (Addr → Value → Option Addr → TS))} (hc : Names X x c) (hi : X.N[i]? = some n) (hln : X.env.kindOf n = some .local)
      (hsu : ∀ (a : Addr) (oe : Obj) (cls : Value) (d : Option Addr) (pn : List (Addr × Obj)), Zc cls d oe → (∃ vs, oe.data = .fields vs) → PSs (X.suite a ((a, oe) :: pn)) (st :: suite) (ts a cls d)) (more : HdsA X hds l) :
      HdsA X (.ExceptHandler (some (.Name x np)) (some n) (st :: suite) hp :: hds) ((c, i, ts) :: l)
section
variable {X : Cx} {body : List Stmt} {hd0 : ExceptHandler} {hds : List ExceptHandler} {l : List (Value × Nat × (Addr → Value → Option Addr → TS))} {pos : Pos} {tb : WX → TS} {Wout : WX}
theorem ps_try_mas (hst : X.stack = X.env :: X.outer) (hfr0 : X.env.frame = some X.env.locals) (nd : X.N.Nodup) (tk : Takes X Wout)
    (bod : ∀ (W : WX) (pn : List (Addr × Obj)) (xe : Value → Shared → Prop), Takes (X.tr pn xe) W → PassesOwn (model X.prog X.w) X.A X.env xe → PSs (X.tr pn xe) body (tb W))
    (all : HdsA X (hd0 :: hds) l) : PS X (.Try body (hd0 :: hds) [] [] pos) (fun D σ H => tb (wMas X.K Wout D l) D σ H) := by
  refine ⟨fun pins s σ H D I h => ?_⟩
  have okX := I.ok
  have frs0 : X.A.frames = some (X.env :: X.outer) := by rw [okX.frames, hst]
  refine wpAny_Try_except ?_
  refine wpAny_mono ((bod (wMas X.K Wout D l) (X.pn ++ pins) (fun e sa => wpAny (model X.prog X.w) X.A (noteFrame e X.env) (fun _ sb => wpAny (model X.prog X.w) X.A (setFlight e none) (fun _ sc =>
    wpAny (model X.prog X.w) X.A (handleBy e X.env (hd0 :: hds)) (SP X pins D) X.xe sc) X.xe sb) X.xe sa) (fun u st air => ?_) PassesOwn.looking).run [] s σ H D (I.toTry _) h) (fun f s1 fin0 => ?_) (fun _ _ z => z)
  · obtain ⟨a, B, sI, pins', σ1, H1, cls, d, rfl, J0, nb, up, sky, na, os, ag, wish⟩ := air
    have J : Inv X pins σ1 H1 sI := J0.ofTry okX
    have sky1 : Sky B (X.env :: X.outer) a (Zc cls d) X.env.locals st.heap := by rw [← hst]; exact sky
    show wpAny (model X.prog X.w) X.A (noteFrame (.ref a) X.env) _ _ _
    refine Sky.land Zc.steady frs0 hfr0 sky1 fun hA flA upA => ?_
    have JA : Inv X pins σ1 H1 { st with heap := hA } := J.landed nb flA.1 (up.trans upA) os ag
    obtain ⟨oeA, vsA, heA, hzA, hdA⟩ := flA.there
    have noFr : ∀ {hh : Heap} {o : Obj} {ws : Array Value}, hh.FunFrames B (X.env :: X.outer) → hh.get? a = some o → o.data = .fields ws → a ∉ frs (X.env :: X.outer) := fun {hh o ws} ff e dd hm => by
      obtain ⟨_, o2, e2, hnf⟩ := ff.mem hm
      rw [e] at e2
      cases e2
      exact hnf _ dd
    have nfA := noFr flA.2.2.1 heA hdA
    have neL : a ≠ X.env.locals := fun z => nfA (List.mem_filterMap.mpr ⟨X.env, List.mem_cons_self, by rw [hfr0, z]⟩)
    have neF : a ∉ X.fs := fun hm => by
      obtain ⟨e, he, q⟩ := List.mem_filterMap.mp hm
      exact nfA (List.mem_filterMap.mpr ⟨e, List.mem_cons_of_mem _ he, q⟩)
    have SA := JA.suite heA hdA na neL neF
    have walk : ∀ {hs' : List ExceptHandler} {l' : List (Value × Nat × (Addr → Value → Option Addr → TS))}, HdsA X hs' l' → wMas X.K Wout D l' cls d σ1 H1 →
        wpAny (model X.prog X.w) X.A (handleBy (.ref a) X.env hs') (SP X pins D) X.xe { st with heap := hA } := by
      intro hs' l' hk
      induction hk with
      | nil =>
        intro wn
        refine wpAny_handleBy_nil ?_
        obtain ⟨_, _, _, oe, vs, TT, oT, ts', he, hz, hdd, h1, _⟩ := id flA
        unfold PySem.passOn
        refine wpAny_bind (wpAny_field he hdd h1 ?_)
        rw [if_neg (show ¬ ((Value.ref TT == Value.none) = true) from by simp)]
        have on : wpAny (model X.prog X.w) X.A (setFlight (.ref a) X.env.frame) (fun _ sx => wpAny (model X.prog X.w) X.A (throw (.ref a) : Sem Flow) (SP X pins D) X.xe sx) X.xe { st with heap := hA } := by
          rw [hfr0]
          refine HandSPX.setFlight_upZ flA fun hB hhB upB => wpAny_throw (tk _ _ ?_)
          exact ⟨a, B, sI, pins, σ1, H1, cls, d, rfl, J, nb, (up.trans upA).trans upB, .inr (.inr (by rw [hst]; exact hhB)), na, os, ag, wn⟩
        first
          | exact wpAny_bind (wpAny_pure (wpAny_bind on))
          | exact wpAny_bind on
      | @cons x n c i ts st0 suite np hp hds2 l2 hc hi hln hsu more ih =>
        intro wn
        obtain ⟨b, hb1, yes, no⟩ := wn
        refine wpAny_handleBy_cons (codeAny_handlers_test ?_) (by intro q; cases q)
        have LT : PySem.W.Looks (model X.prog X.w) hA (typeOf (.ref a)) cls := fun A' Q' E' s' k q => wpAny_typeOf_ref (k _ _ heA) (by rw [hzA.1]; exact q)
        have LM := PySem.W.exm_one (M := model X.prog X.w) JA.kIn LT hb1
        have nameOf : ∀ {Q' : Value → Shared → Prop} {E' : Value → Shared → Prop}, Q' c { st with heap := hA } → wpAny (model X.prog X.w) (X.A.mark (some (.ref a))) (eval (.Name x np) X.env) Q' E' { st with heap := hA } := fun {Q' E'} q => by
          obtain ⟨hg, hdbg, hm | ⟨hm, hv, hnn⟩⟩ := hc
          · exact ld_glob (X := X.suite a ((a, oeA) :: (X.pn ++ pins))) SA hg hm q hdbg
          · exact ld_blt (X := X.suite a ((a, oeA) :: (X.pn ++ pins))) SA hg hm hv q hnn hdbg
        refine nameOf (LM.here ?_)
        cases b with
        | false =>
          show wpAny _ X.A (handleBy (.ref a) X.env hds2) _ _ _
          exact ih (no rfl)
        | true =>
          refine codeAny_handlers_suite_as ?_
          refine HandSPX.lands_againZ flA fun hB flB upB => ?_
          have JB : Inv X pins σ1 H1 { st with heap := hB } := J.landed nb flB.1 ((up.trans upA).trans upB) os ag
          obtain ⟨oeB, vsB, heB, hzB, hdB⟩ := flB.there
          have SB := JB.suite heB hdB na neL neF
          refine store_ok (X := X.suite a ((a, oeB) :: (X.pn ++ pins))) (v := .ref a) SB nd hi (.inl hln) rfl (fun s5 S5 => ?_) (.inr hln)
          refine wpAny_mono ((hsu a oeB cls d (X.pn ++ pins) hzB ⟨_, hdB⟩).run [] s5 _ H1 _ S5 (yes rfl a na)) (fun f s6 q0 => ?_) (fun _ _ z => False.elim z)
          have gone : ∀ {σ6 : L2.St} {H6 : Hp} {Q6 : Shared → Prop}, Inv (X.suite a ((a, oeB) :: (X.pn ++ pins))) [] σ6 H6 s6 → (∀ s7, Inv X pins (σ6.set i none) H6 s7 → Q6 s7) →
              wpAny (model X.prog X.w) X.A (do bindName X.env n .none; unbindBehindTheSuite X.env n hp) (fun _ s7 => Q6 s7) X.xe s6 := fun {σ6 H6 Q6} S6 hq => gone_ok (S6.unsuite okX) nd hi hln hq
          cases f with
          | next =>
            obtain ⟨_, _, S6, q6⟩ := q0
            exact gone S6 fun s7 J7 => ⟨_, _, J7, q6⟩
          | brk =>
            obtain ⟨_, _, S6, q6⟩ := q0
            exact gone S6 fun s7 J7 => ⟨_, _, J7, q6⟩
          | cont =>
            obtain ⟨_, _, S6, q6⟩ := q0
            exact gone S6 fun s7 J7 => ⟨_, _, J7, q6⟩
          | ret u =>
            obtain ⟨_, _, _, S6, r6, q6⟩ := q0
            exact gone S6 fun s7 J7 => ⟨_, _, _, J7, r6, q6⟩
    exact walk all wish
  · cases f with
    | next =>
      obtain ⟨_, _, J1, q⟩ := fin0
      exact wpAny_execs_nil ⟨_, _, J1.ofTry okX, q⟩
    | brk =>
      obtain ⟨_, _, J1, q⟩ := fin0
      exact ⟨_, _, J1.ofTry okX, q⟩
    | cont =>
      obtain ⟨_, _, J1, q⟩ := fin0
      exact ⟨_, _, J1.ofTry okX, q⟩
    | ret v =>
      obtain ⟨_, _, _, J1, r, q⟩ := fin0
      exact ⟨_, _, _, J1.ofTry okX, r, q⟩
end
end XR

set_option Elab.async false
set_option linter.all false
set_option maxRecDepth 100000
set_option maxHeartbeats 4000000
/-! A pen: a pair of a list of numbers and a count, changed by each draw; all else stands. -/
namespace PEN
open PySem PySem.Spec PyProof.Rows L2 Evl

def cut (p l : Addr) (H : Hp) : Hp := fun a => if a = p ∨ a = l then none else H a
theorem cut_at {p l a : Addr} {H : Hp} (h1 : a ≠ p) (h2 : a ≠ l) : cut p l H a = H a := by
  unfold cut
  rw [if_neg (by rintro (z | z) <;> contradiction)]
theorem cut_some {p l a : Addr} {H : Hp} {o : HO} (h : cut p l H a = some o) : a ≠ p ∧ a ≠ l ∧ H a = some o := by
  unfold cut at h
  by_cases z : a = p ∨ a = l
  · rw [if_pos z] at h
    cases h
  · rw [if_neg z] at h
    exact ⟨fun e => z (.inl e), fun e => z (.inr e), h⟩
theorem cut_ex {p l : Addr} {H : Hp} : Ex (cut p l H) H := fun a o h => (cut_some h).2.2
theorem cut_mono {p l : Addr} {H H' : Hp} (e : Ex H H') : Ex (cut p l H) (cut p l H') := fun a o h => by
  obtain ⟨h1, h2, h3⟩ := cut_some h
  rw [cut_at h1 h2]
  exact e _ _ h3
/-- all but the pen stands -/
def Px (p l : Addr) (H H' : Hp) : Prop := Ex (cut p l H) (cut p l H')
theorem Px.refl {p l : Addr} (H : Hp) : Px p l H H := Ex.refl _
theorem Px.trans {p l : Addr} {H H1 H2 : Hp} (a : Px p l H H1) (b : Px p l H1 H2) : Px p l H H2 := Ex.trans a b
theorem Px.of {p l : Addr} {H H' : Hp} (e : Ex H H') : Px p l H H' := cut_mono e
theorem Px.get {p l a : Addr} {H H' : Hp} {o : HO} (k : Px p l H H') (h1 : a ≠ p) (h2 : a ≠ l) (h : H a = some o) : H' a = some o := (cut_some (k a o ((cut_at h1 h2).trans h))).2.2
theorem Px.upd {p l : Addr} {H H' : Hp} {a : Addr} {o : HO} (k : Px p l H H') (h : a = p ∨ a = l ∨ H a = none) : Px p l H (upd H' a o) := fun b u hb => by
  obtain ⟨h1, h2, h3⟩ := cut_some hb
  have n : b ≠ a := by
    rintro rfl
    rcases h with z | z | z
    · exact h1 z
    · exact h2 z
    · rw [z] at h3
      cases h3
  rw [cut_at h1 h2, upd_ne n]
  exact k.get h1 h2 h3
theorem Px.fresh {p l a : Addr} {H H' : Hp} (k : Px p l H H') (h1 : a ≠ p) (h2 : a ≠ l) (h : H' a = none) : H a = none := by
  cases z : H a with
  | none => rfl
  | some o =>
    rw [k.get h1 h2 z] at h
    cases h
/-- a pen with b draws left to it -/
def Pen (p l : Addr) (b : Nat) (H : Hp) : Prop := ∃ (c : Int) (ns : List Int), H p = some (.lst [.ref l, .int c]) ∧ H l = some (.lst (ns.map V.int)) ∧ ns ≠ [] ∧ 0 ≤ c ∧ c + b ≤ 1000000000000
theorem Pen.ne {p l : Addr} {b : Nat} {H : Hp} (h : Pen p l b H) : p ≠ l := by
  obtain ⟨c, ns, h1, h2, _⟩ := h
  rintro rfl
  rw [h1] at h2
  have z := HO.lst.inj (Option.some.inj h2)
  cases ns with
  | nil => cases z
  | cons n r =>
    rw [List.map_cons] at z
    cases (List.cons.inj z).1
theorem Pen.ex {p l : Addr} {b : Nat} {H H' : Hp} (e : Ex H H') (h : Pen p l b H) : Pen p l b H' := by
  obtain ⟨c, ns, h1, h2, h3⟩ := h
  exact ⟨c, ns, e _ _ h1, e _ _ h2, h3⟩
theorem Pen.less {p l : Addr} {b b' : Nat} {H : Hp} (h : Pen p l b H) (k : b' ≤ b) : Pen p l b' H := by
  obtain ⟨c, ns, h1, h2, h3, h4, h5⟩ := h
  exact ⟨c, ns, h1, h2, h3, h4, by omega⟩
theorem Pen.upd {p l a : Addr} {b : Nat} {H : Hp} {o : HO} (h : Pen p l b H) (h1 : a ≠ p) (h2 : a ≠ l) : Pen p l b (upd H a o) := by
  obtain ⟨c, ns, e1, e2, h3⟩ := h
  exact ⟨c, ns, (upd_ne (Ne.symm h1)).trans e1, (upd_ne (Ne.symm h2)).trans e2, h3⟩
/-- a new thing is not the pen -/
theorem Pen.new {p l a : Addr} {b : Nat} {H : Hp} (h : Pen p l b H) (n : H a = none) : a ≠ p ∧ a ≠ l := by
  obtain ⟨c, ns, e1, e2, _⟩ := h
  exact ⟨(ne_of_none e1 n).symm, (ne_of_none e2 n).symm⟩
theorem cut_fresh {p l a : Addr} {H : Hp} (h : H a = none) : cut p l H a = none := by
  unfold cut
  split
  · rfl
  · exact h
/-- a comprehension without a test goes on with its element -/
theorem yes_go {te : TE} {σ : L2.St} {H : Hp} {R : VK} {B : Hp → Prop} (h : te σ H R) : tYes σ H (fun b H3 => if b = true then te σ H3 R else B H3) := by
  show (if true = true then te σ H R else B H)
  exact iteT h
theorem fits {n : Nat} (h : n ≤ 1000) : n ≤ sizeLine := Nat.le_of_lt (small1000 h)
/-! ### names -/
/-- the signs of a name -/
def Let (z : Str) : Prop := ∀ c ∈ z.cps.toList, 97 ≤ c ∧ c ≤ 122
/-! ### the promises -/
def spDraw : Sp := fun vs H Q _ => ∃ (p l : Addr) (m : Int) (b : Nat), vs = [.ref p, .int m] ∧ (0 < m ∧ m < 1073741824) ∧ Pen p l (b + 1) H ∧ ∀ r H', 0 ≤ r ∧ r < m → Px p l H H' → Pen p l b H' → Q (.int r) H'
def spPick (K : PySem.W.Frag) : Sp := fun vs H Q _ => ∃ (p l a : Addr) (xs : List V) (b : Nat), vs = [.ref p, .ref a] ∧ SqL K (cut p l H) a xs ∧ (xs ≠ [] ∧ xs.length ≤ 1000000) ∧ Pen p l (b + 1) H ∧ ∀ r H', r ∈ xs → Px p l H H' → Pen p l b H' → Q r H'
def spWord : Sp := fun vs H Q _ => ∃ (p l : Addr) (m b : Nat), vs = [.ref p, .int (m : Int)] ∧ (1 ≤ m ∧ m ≤ 12) ∧ Pen p l (b + 14) H ∧ ∀ (z : Str) H', (Let z ∧ 1 ≤ z.length ∧ z.length ≤ m) → Px p l H H' → Pen p l b H' → Q (.str z) H'
def NamesOk (ys : List Str) : Prop := ys.Nodup ∧ ∀ y ∈ ys, Let y ∧ 1 ≤ y.length ∧ y.length ≤ 12
def spNames (K : PySem.W.Frag) : Sp := fun vs H Q _ => ∃ (p l : Addr) (n b : Nat), vs = [.ref p, .int (n : Int)] ∧ n ≤ 11 ∧ Pen p l (b + n * 16) H ∧
  ∀ (q : Addr) (ys : List Str) H', H q = none → H' q = some (.lst (ys.map V.str)) → ys.length = n → NamesOk ys → Px p l H H' → Pen p l b H' → Q (.ref q) H'
end PEN

set_option Elab.async false
set_option linter.all false
set_option maxRecDepth 100000
set_option maxHeartbeats 4000000
/-! A head's facts as any tests of the written part, and tables with text keys beside them. -/
namespace XT
open PySem PySem.Spec PyProof.Rows L2 He XH
abbrev AlU : Type := AlD × List (Option (List (Option (Str × Int))))
def obsU (ff : List Fc) (dd : List DefD) (tt : List Tab) (K : PySem.W.Frag) : AlU := (obsB ff dd K, tt.map fun x => dicW K (x.1 K))
def valU (dd : List DefD) (tt : List Tab) (w : World) : AlU := (valD dd, tt.map fun x => some (keysIn w.params x.2))
def obsUG (n : Nat) (ff : List Fc) (dd : List DefD) (tt : List Tab) (h0 : Addr → Option Obj) : AlU := obsU ff dd tt (frG h0 (asD h0 n))
def SaysU (ff : List Fc) (dd : List DefD) (tt : List Tab) (w : World) (K : PySem.W.Frag) : Prop := obsU ff dd tt K = valU dd tt w
def hookU (n : Nat) (ff : List Fc) (dd : List DefD) (tt : List Tab) : PySem.W.Hook where
  α := AlU
  obs := fun st => obsUG n ff dd tt st.heap.get?
  val := fun ww => valU dd tt ww
  says := fun ww hh => ∃ K : PySem.W.Frag, K.In hh ∧ SaysU ff dd tt ww K
  of := fun _ _ z => ⟨_, frG_in, z⟩
  keeps := fun _ _ _ ⟨K, inn, c⟩ kk => ⟨K, PySem.W.Frag.In.keeps inn kk, c⟩
theorem obsUG_eq {n : Nat} {ff : List Fc} {dd : List DefD} {tt : List Tab} {h0 : Addr → Option Obj} {st : Shared} (h : ∀ a, h0 a = st.heap.get? a) : obsUG n ff dd tt h0 = (hookU n ff dd tt).obs st := by
  have z : h0 = st.heap.get? := funext h
  rw [z]
  rfl
section
variable {ff : List Fc} {dd : List DefD} {tt : List Tab} {w : World} {K : PySem.W.Frag}
theorem SaysU.b (c : SaysU ff dd tt w K) : SaysB ff dd K := congrArg (fun z : AlU => z.1) c
theorem SaysU.at (c : SaysU ff dd tt w K) (i : Nat) {x : Tab} (h : tt[i]? = some x := by rfl) : ∃ es n, KDict K w (x.1 K) es n := by
  have z : (tt.map fun x => dicW K (x.1 K)) = tt.map fun x => some (keysIn w.params x.2) := congrArg (fun z : AlU => z.2) c
  have z2 : (tt.map fun x => dicW K (x.1 K))[i]? = (tt.map fun x => some (keysIn w.params x.2))[i]? := congrArg (fun l => l[i]?) z
  rw [List.getElem?_map, List.getElem?_map, h] at z2
  exact dicW_ok (Option.some.inj z2)
end
/-- an entry of a table that is an empty tuple of the top; that is any object -/
def emptyB (K : PySem.W.Frag) (x k : Str) : Bool := match PySem.W.nsIn K (ga K x) k with
  | some (some (.ref a)) => (match K.lookup a with
    | some ⟨.type c, _, .seq its _, _⟩ => c == "tuple" && its.toList.isEmpty
    | _ => false)
  | _ => false
theorem emptyB_ok {K : PySem.W.Frag} {x k : Str} (q : emptyB K x k = true) : ∃ a, PySem.W.nsIn K (ga K x) k = some (some (.ref a)) ∧ ∀ H, SqT K H a [] := by
  unfold emptyB at q
  split at q
  · rename_i a e
    split at q
    · rename_i c dd its n sl e2
      obtain ⟨q1, q2⟩ := ba q
      have e3 := beq_iff_eq.mp q1
      subst e3
      have e4 : its.toList = [] := List.isEmpty_iff.mp q2
      refine ⟨a, e, fun H => .inr ⟨_, its, n, e2, rfl, rfl, ?_, ?_⟩⟩
      · rw [← Array.length_toList, e4]
        exact Nat.zero_le _
      · rw [e4]
        exact .nil
    · cases q
  · cases q
def refB (K : PySem.W.Frag) (x k : Str) : Bool := match PySem.W.nsIn K (ga K x) k with
  | some (some (.ref _)) => true
  | _ => false
theorem refB_ok {K : PySem.W.Frag} {x k : Str} (q : refB K x k = true) : ∃ a, PySem.W.nsIn K (ga K x) k = some (some (.ref a)) := by
  unfold refB at q
  split at q
  · rename_i a e
    exact ⟨a, e⟩
  · cases q
end XT

set_option Elab.async false
set_option linter.all false
set_option maxRecDepth 100000
set_option maxHeartbeats 4000000
/-! Tests of a head: entries of a table that are tuples of texts, or texts. -/
namespace XT
open PySem PySem.Spec PyProof.Rows L2 He XH
def strsB : List Value → List Str → Bool
  | [], [] => true
  | .str z _ :: r, y :: s => z == y && strsB r s
  | _, _ => false
theorem strsB_ok : ∀ {vs : List Value} {zs : List Str}, strsB vs zs = true → Vals (zs.map V.str) vs
  | [], [], _ => .nil
  | .str z t :: r, y :: s, h => by
    obtain ⟨h1, h2⟩ := ba (show (z == y && strsB r s) = true from h)
    rw [beq_iff_eq.mp h1]
    exact .cons ⟨t, rfl⟩ (strsB_ok h2)
def entB (K : PySem.W.Frag) (x k : Str) (zs : List Str) : Bool := match PySem.W.nsIn K (ga K x) k with
  | some (some (.ref a)) => (match K.lookup a with
    | some ⟨.type c, _, .seq its _, _⟩ => c == "tuple" && (decide (its.toList.length ≤ 1000) && strsB its.toList zs)
    | _ => false)
  | _ => false
theorem entB_ok {K : PySem.W.Frag} {x k : Str} {zs : List Str} (q : entB K x k zs = true) : ∃ a, PySem.W.nsIn K (ga K x) k = some (some (.ref a)) ∧ ∀ H, SqT K H a (zs.map V.str) := by
  unfold entB at q
  split at q
  · rename_i a e
    split at q
    · rename_i c dd its n sl e2
      obtain ⟨q1, q2⟩ := ba q
      obtain ⟨q2, q3⟩ := ba q2
      have e3 := beq_iff_eq.mp q1
      subst e3
      refine ⟨a, e, fun H => .inr ⟨_, its, n, e2, rfl, rfl, ?_, strsB_ok q3⟩⟩
      rw [← Array.length_toList]
      exact Nat.le_trans (of_decide_eq_true q2) (by decide)
    · cases q
  · cases q
def sndB (K : PySem.W.Frag) (x k z : Str) : Bool := match PySem.W.nsIn K (ga K x) k with
  | some (some (.str y _)) => y == z
  | _ => false
theorem sndB_ok {K : PySem.W.Frag} {x k z : Str} (q : sndB K x k z = true) : ∃ t, PySem.W.nsIn K (ga K x) k = some (some (.str z t)) := by
  unfold sndB at q
  split at q
  · rename_i y t e
    rw [← beq_iff_eq.mp q]
    exact ⟨t, e⟩
  · cases q
def emptyAtB (K : PySem.W.Frag) (a : Addr) : Bool := match K.lookup a with
  | some ⟨.type c, _, .seq its _, _⟩ => c == "tuple" && its.toList.isEmpty
  | _ => false
theorem emptyAtB_ok {K : PySem.W.Frag} {a : Addr} (q : emptyAtB K a = true) (H : Hp) : SqT K H a [] := by
  unfold emptyAtB at q
  split at q
  · rename_i c dd its n sl e2
    obtain ⟨q1, q2⟩ := ba q
    have e3 := beq_iff_eq.mp q1
    subst e3
    have e4 : its.toList = [] := List.isEmpty_iff.mp q2
    refine .inr ⟨_, its, n, e2, rfl, rfl, ?_, ?_⟩
    · rw [← Array.length_toList, e4]
      exact Nat.zero_le _
    · rw [e4]
      exact .nil
  · cases q
end XT

set_option Elab.async false
set_option linter.all false
set_option maxRecDepth 100000
set_option maxHeartbeats 8000000

/-! What the laws over drawn codes share. -/
namespace TR
open PySem PySem.Spec PyProof.Rows L2 He XH XV XR PEN Evl

def alphabet : Str := "abcdefghijklmnopqrstuvwxyz"
theorem alpha_at : ∀ j : Fin 26, alphabet.cps.toList[j.1]? = some (97 + j.1) := by decide +kernel
theorem alpha_pick {r : Int} (h : 0 ≤ r ∧ r < 26) : ∃ c : Nat, atI alphabet.cps.toList r = some c ∧ 97 ≤ c ∧ c ≤ 122 := by
  have e : ((r.toNat : Nat) : Int) = r := by omega
  have z := atI_nat (xs := alphabet.cps.toList) (j := r.toNat) (alpha_at ⟨r.toNat, by omega⟩)
  rw [e] at z
  exact ⟨97 + r.toNat, z, by omega, by omega⟩
def sign (c : Nat) : Str := ⟨#[c]⟩
theorem joinL_signs : ∀ cs : List Nat, TL.joinL [] (cs.map fun c => [c]) = cs
  | [] => rfl
  | [c] => rfl
  | c :: d :: r => by
    show [c] ++ ([] ++ TL.joinL [] ((d :: r).map fun c => [c])) = c :: d :: r
    rw [joinL_signs (d :: r)]
    rfl
theorem join_signs (cs : List Nat) : (Txt.join ("" : Str) (cs.map sign)).cps.toList = cs := by
  have z : TL.tl (Txt.join ("" : Str) (cs.map sign)) = TL.joinL (TL.tl ("" : Str)) ((cs.map sign).map TL.tl) := by
    rw [TL.join_eq, TL.tl_join]
  rw [List.map_map] at z
  have e : (TL.tl ∘ sign) = fun c => [c] := rfl
  rw [e] at z
  have e2 : TL.tl ("" : Str) = [] := by decide +kernel
  rw [e2, joinL_signs] at z
  exact z
theorem len_codes (z : Str) : z.length = z.cps.toList.length := by
  show z.cps.size = _
  simp
theorem sum_signs : ∀ cs : List Nat, ((cs.map sign).map (·.length)).sum = cs.length
  | [] => rfl
  | c :: r => by
    show 1 + ((r.map sign).map (·.length)).sum = r.length + 1
    rw [sum_signs r]
    omega


/-! ### comprehensions over a range from lo -/
theorem el_lcR2 {σ : L2.St} {H : Hp} {t : TT} {te : TE} {ta : TA} {j : Nat} {vs : List Nat} {lo n : Int} (f : Nat → Bool) (v : Nat → V) (h : EvA ta σ H [.int lo, .int n]) (hn : 0 ≤ lo ∧ lo ≤ 40000 ∧ lo ≤ n ∧ n ≤ 40000) (hw : ∀ x, wipe ((wipe σ vs).set j (some x)) vs = wipe σ vs)
    (ht : ∀ (i : Nat) H1, Ex H H1 → lo + (i : Int) < n → EvT t ((wipe σ vs).set j (some (.int (lo + (i : Int))))) H1 (f i)) (he : ∀ (i : Nat) H1, Ex H H1 → lo + (i : Int) < n → f i = true → Ev te ((wipe σ vs).set j (some (.int (lo + (i : Int))))) H1 (v i)) :
    EvL (tLc (iRng2 ta) (gName j) t te vs) σ H (given (n - lo).toNat f v) := fun H0 e Q q => h H0 e _ fun H1 e1 => ⟨lo, n, rfl, ⟨by omega, by omega, by omega, by omega⟩, fun Dl hD =>
  lc_range (lo := lo) (n := (n - lo).toNat) (Cw H1 f v Dl) ⟨hD, Ex.new hD, upd_same⟩ (fun i H' hi pw => ⟨hw _, cw_turn pw (by omega) (ht i H1 (e.trans e1) (by omega)) (fun hf => he i H1 (e.trans e1) (by omega) hf)⟩)
    (fun H' pw => q Dl H' (fresh_back e1 pw.1) (e1.trans pw.2.1) pw.2.2)⟩
/-! ### texts of one sign -/
theorem fold_codes (a : Array Nat) : ∀ (n : Nat) (acc : Array Nat), ((List.replicate n a).foldl (· ++ ·) acc).toList = acc.toList ++ (List.replicate n a.toList).flatten
  | 0, acc => by simp
  | n + 1, acc => by
    rw [List.replicate_succ, List.foldl_cons, fold_codes a n, Array.toList_append, List.replicate_succ, List.flatten_cons, List.append_assoc]
theorem repS_codes (z : Str) (n : Nat) : (repS z n).cps.toList = (List.replicate n z.cps.toList).flatten := by
  show ((List.replicate n z.cps).foldl (· ++ ·) #[]).toList = _
  rw [fold_codes]
  rfl
def aS (n : Nat) : Str := repS ("a" : Str) n
theorem aS_len (n : Nat) : (aS n).length = n := by
  have z := repS_len ("a" : Str) n
  have e : (("a" : Str)).length = 1 := by decide +kernel
  rw [e, Nat.mul_one] at z
  exact z
theorem aS_let (n : Nat) : Let (aS n) := by
  intro c hc
  have e : (("a" : Str)).cps.toList = [97] := by decide +kernel
  have z : c ∈ (List.replicate n [97]).flatten := by
    have k := repS_codes ("a" : Str) n
    rw [e] at k
    rw [← k]
    exact hc
  obtain ⟨l, hl, hc2⟩ := List.mem_flatten.mp z
  rw [(List.mem_replicate.mp hl).2] at hc2
  rw [List.mem_singleton.mp hc2]
  exact ⟨by decide, by decide⟩
theorem inV_strs (z : Str) : ∀ ys : List Str, inV (.str z) (ys.map V.str) = decide (z ∈ ys)
  | [] => by simp [inV]
  | y :: r => by
    have ih := inV_strs z r
    show (eqV (.str y) (.str z) || inV (.str z) (r.map V.str)) = decide (z ∈ y :: r)
    rw [ih]
    show ((y == z) || decide (z ∈ r)) = decide (z ∈ y :: r)
    by_cases h : z = y
    · subst h
      simp
    · have h' : ¬ y = z := fun e => h e.symm
      simp [h, h']
theorem flat_strs (ys : List Str) : (ys.map V.str).all flatV = true := by
  rw [List.all_map]
  exact List.all_eq_true.mpr fun _ _ => rfl
theorem crowd : ∀ {cs ys : List Str}, cs.Nodup → (∀ c ∈ cs, c ∈ ys) → cs.length ≤ ys.length
  | [], _, _, _ => Nat.zero_le _
  | c :: r, ys, nd, h => by
    obtain ⟨n1, n2⟩ := List.nodup_cons.mp nd
    have hc := h c (List.mem_cons_self ..)
    have k : r.length ≤ (ys.erase c).length := crowd n2 fun d hd => (List.mem_erase_of_ne (fun e => n1 (by rw [← e]; exact hd))).mpr (h d (List.mem_cons_of_mem _ hd))
    rw [List.length_erase_of_mem hc] at k
    have hl : 0 < ys.length := List.length_pos_of_mem hc
    rw [List.length_cons]
    omega
def cands : List Str := (List.range 12).map fun i => aS (1 + i)
theorem cands_nodup : cands.Nodup := by
  have z : ((List.range 12).map fun i => (aS (1 + i)).length).Nodup := by
    have e : ((List.range 12).map fun i => (aS (1 + i)).length) = (List.range 12).map fun i => 1 + i := List.map_congr_left fun i _ => aS_len _
    rw [e]
    decide
  have z2 : (cands.map (·.length)).Nodup := by
    unfold cands
    rw [List.map_map]
    exact z
  exact List.Pairwise.of_map (f := fun z : Str => z.length) (fun a b h e => h (by rw [e])) z2
theorem spare_first {ys : List Str} (hl : ys.length ≤ 10) : ∃ z, (given 12 (fun i => !decide (aS (1 + i) ∈ ys)) (fun i => V.str (aS (1 + i))))[0]? = some (.str z) ∧ z ∉ ys ∧ Let z ∧ 1 ≤ z.length ∧ z.length ≤ 12 := by
  have ne : ((List.range 12).filter fun i => !decide (aS (1 + i) ∈ ys)) ≠ [] := by
    intro e
    have all : ∀ c ∈ cands, c ∈ ys := by
      intro c hc
      obtain ⟨i, hi, rfl⟩ := List.mem_map.mp hc
      by_cases h : aS (1 + i) ∈ ys
      · exact h
      · have m : i ∈ (List.range 12).filter fun i => !decide (aS (1 + i) ∈ ys) := List.mem_filter.mpr ⟨hi, by simp [h]⟩
        rw [e] at m
        cases m
    have k := crowd cands_nodup all
    have k2 : cands.length = 12 := by
      unfold cands
      rw [List.length_map, List.length_range]
    omega
  unfold given
  cases hf : (List.range 12).filter fun i => !decide (aS (1 + i) ∈ ys) with
  | nil => exact absurd hf ne
  | cons i r =>
    have m : i ∈ (List.range 12).filter fun i => !decide (aS (1 + i) ∈ ys) := by
      rw [hf]
      exact List.mem_cons_self ..
    obtain ⟨m1, m2⟩ := List.mem_filter.mp m
    have m3 := List.mem_range.mp m1
    exact ⟨aS (1 + i), rfl, by simpa using m2, aS_let _, by rw [aS_len]; omega, by rw [aS_len]; omega⟩
theorem two_c {k : Bool} {u v : V} {σ : L2.St} {H : Hp} {Q : VK} (h : ∀ x, x = u ∨ x = v → Q x H) : if k = true then tC u σ H Q else tC v σ H Q := by
  cases k with
  | true => exact h u (.inl rfl)
  | false => exact h v (.inr rfl)

theorem given_all_at {j : Nat} {x : V} {v : Nat → V} {n : Nat} (h : (given n (fun _ => true) v)[j]? = some x) : x = v j := by
  unfold given at h
  rw [List.filter_eq_self.mpr (fun _ _ => rfl), List.getElem?_map] at h
  cases q : (List.range n)[j]? with
  | none =>
    rw [q] at h
    cases h
  | some k =>
    rw [q] at h
    obtain ⟨hk, ek⟩ := List.getElem?_eq_some_iff.mp q
    rw [List.getElem_range] at ek
    subst ek
    exact (Option.some.inj h).symm

theorem pe_nv {X : Cx} {e : Expr} : PE X e (fun _ _ _ => False) := ⟨fun _ _ _ _ _ _ h => h.elim⟩
theorem pt_nv {X : Cx} {e : Expr} : PT X e (fun _ _ _ => False) := ⟨fun _ _ _ _ _ _ h => h.elim⟩
theorem pg_nv {X : Cx} {e : Expr} : PG X e (fun _ _ _ _ => False) := ⟨fun _ _ _ _ _ _ _ _ _ h => h.elim⟩
theorem op_in_nil {X : Cx} : OpR X (compareOp .In) (fun x y H Q => ∃ p, y = .ref p ∧ SqT X.K H p [] ∧ Q (.bl false) H) := by
  intro pins s σ H x y v u Q I rx ry h
  obtain ⟨p, rfl, hq, q⟩ := h
  cases ry
  obtain ⟨its, r, pl, hz⟩ := I.tuple hq
  cases r
  refine SeqAt.in_tupleAt (fun _ => false) pl (fun w hw => by simp at hw) ?_
  have e : (([] : List Value).toArray.any fun x => false) = false := by simp
  rw [e]
  exact ⟨.bl false, H, I, rfl, q⟩

/-! ### names -/
def goodN (z : Str) : Bool := decide (1 ≤ z.length) && (decide (z.length ≤ 12) && z.cps.toList.all fun c => decide (c ∈ alphabet.cps.toList))
def spIsName : Sp := fun vs H Q _ => ∃ z : Str, vs = [.str z] ∧ z.length ≤ 1000 ∧ ∀ H', Ex H H' → Q (.bl (goodN z)) H'

theorem ev_chain {ta tb tc : TE} {σ : L2.St} {H : Hp} {a b c : Int} (ha : Ev ta σ H (.int a)) (hb : Ev tb σ H (.int b)) (hc : Ev tc σ H (.int c)) : Ev (tChain (rI0 fun i j => .bl (decide (i ≤ j))) (rI0 fun i j => .bl (decide (i ≤ j))) ta tb tc) σ H (.bl (decide (a ≤ b) && decide (b ≤ c))) := fun H1 e Q q =>
  ha H1 e _ fun H2 e2 => hb H2 (e.trans e2) _ fun H3 e3 => ⟨a, b, rfl, rfl, decide (a ≤ b), rfl, by
    cases h : decide (a ≤ b) with
    | false =>
      rw [h] at q
      exact ite_ff (q H3 (e2.trans e3))
    | true =>
      rw [h, Bool.true_and] at q
      exact ite_tt (hc H3 ((e.trans e2).trans e3) _ fun H4 e4 => ⟨b, c, rfl, rfl, q H4 ((e2.trans e3).trans e4)⟩)⟩
theorem isi_str {K : PySem.W.Frag} {H : Hp} {z : Str} : RC (rIsi K) [.str z, .ty "str"] H (.bl true) := fun H1 e Q q => ⟨.str z, .ty "str", .type "str", .type "str", true, rfl, .ty _, .base (.str z), kit_ty (by decide +kernel), q H1 (Ex.refl _)⟩
theorem ev_isiT {K : PySem.W.Frag} {ta : TE} {σ : L2.St} {H : Hp} {x : V} {t : Value} {b : Bool} (ha : Ev ta σ H x) (hT : ∀ H1, Ex H H1 → TyX K H1 x t) (hk : PySem.W.kitAny K t [.type "list", .type "tuple"] = some b) :
    Ev (tCB (rIsiT K) (tCons ta (tCons (tTup (tCons (tC (.ty "list")) (tCons (tC (.ty "tuple")) tNil))) tNil))) σ H (.bl b) := fun H1 e Q q =>
  ha H1 e _ fun H2 e2 => (eu_tup (ea_cons ev_c (ea_cons ev_c ea_nil)) (by decide)) H2 (e.trans e2) _ fun p H3 n e3 h3 => ⟨x, p, _, t, [.type "list", .type "tuple"], b, rfl, h3, .cons (.ty _) (.cons (.ty _) .nil), hT H3 ((e.trans e2).trans e3), hk, q H3 (e2.trans e3)⟩
theorem kit_no {K : PySem.W.Frag} : PySem.W.kitAny K (.type "str") [.type "list", .type "tuple"] = some false := kitAny_cons (b := false) (kit_ty (by decide +kernel)) (fun _ => kitAny_cons (b := false) (kit_ty (by decide +kernel)) (fun _ => kitAny_nil) (fun z => nomatch z)) (fun z => nomatch z)
theorem kit_l {K : PySem.W.Frag} : PySem.W.kitAny K (.type "list") [.type "list", .type "tuple"] = some true := kitAny_cons (b := true) (kit_ty (by decide +kernel)) (fun z => nomatch z) (fun _ => rfl)
theorem kit_t {K : PySem.W.Frag} : PySem.W.kitAny K (.type "tuple") [.type "list", .type "tuple"] = some true := kitAny_cons (b := false) (kit_ty (by decide +kernel)) (fun _ => kitAny_cons (b := true) (kit_ty (by decide +kernel)) (fun z => nomatch z) (fun _ => rfl)) (fun z => nomatch z)
theorem take_more {α : Type} {l : List α} {i : Nat} {c : α} (h : l[i]? = some c) : l.take (i + 1) = l.take i ++ [c] := by
  rw [List.take_add_one, h]
  rfl

mutual
theorem dpM {K : PySem.W.Frag} {H H' : Hp} (e : Ex H H') : ∀ (d : PyData) (v : V), Dp K H v d → Dp K H' v d
  | .none, _, h => by
    cases h
    exact .non
  | .bool b, _, h => by
    cases h
    exact .bl b
  | .int i, _, h => by
    cases h
    exact .int i
  | .str x, _, h => by
    cases h
    exact .str x
  | .list ds, _, h => by
    cases h with
    | lst h1 h2 => exact .lst (ex_l e h1) (dpMs e ds _ h2)
  | .tuple ds, _, h => by
    cases h with
    | tup h1 h2 => exact .tup (ex_t e h1) (dpMs e ds _ h2)
  | .dict _, _, h => by cases h
theorem dpMs {K : PySem.W.Frag} {H H' : Hp} (e : Ex H H') : ∀ (ds : List PyData) (vs : List V), DpAll K H vs ds → DpAll K H' vs ds
  | [], _, h => by
    cases h
    exact .nil
  | d :: ds, _, h => by
    cases h with
    | cons h1 h2 => exact .cons (dpM e d _ h1) (dpMs e ds _ h2)
end

def legal (zs : List Str) : Prop := ∀ z ∈ zs, PyData.strOk z = true
def Tn (z : Str) : Prop := z.length ≤ 1000 ∧ PyData.strOk z = true
theorem let_ok {z : Str} (h : Let z) : PyData.strOk z = true := by
  unfold PyData.strOk
  rw [Array.all_eq_true]
  intro i hi
  have k := h z.cps[i] (by simp)
  exact decide_eq_true (by omega)
theorem lay_strs : ∀ zs : List Str, legal zs → PyData.canLayAll0 (zs.map PyData.str) = true
  | [], _ => by simp [PyData.canLayAll0]
  | z :: r, h => by
    have k := lay_strs r fun y hy => h y (List.mem_cons_of_mem _ hy)
    have k2 := h z List.mem_cons_self
    simp [PyData.canLayAll0, PyData.canLay0, k, k2]
theorem dep_strs : ∀ zs : List Str, PyData.depthAll (zs.map PyData.str) ≤ 1
  | [] => by simp [PyData.depthAll]
  | z :: r => by
    have k := dep_strs r
    simp only [List.map_cons, PyData.depthAll, PyData.depth]
    omega
theorem dp_strs {K : PySem.W.Frag} {H : Hp} : ∀ zs : List Str, DpAll K H (zs.map V.str) (zs.map PyData.str)
  | [] => .nil
  | z :: r => .cons (.str z) (dp_strs r)
theorem shp_list (zs : List Str) (h : legal zs) : SeqAt.shaped (.list (zs.map PyData.str)) = true := by
  have k := dep_strs zs
  unfold SeqAt.shaped
  rw [Bool.and_eq_true]
  refine ⟨by simp [PyData.canLay0, lay_strs zs h], decide_eq_true ?_⟩
  simp only [PyData.depth]
  omega

theorem cut_take (xs : List V) (i : Nat) : cutV xs none (some (i : Int)) = xs.take i := by
  unfold cutV
  rw [HT.sIx_none, HT.sIx_nat, List.drop_zero, Nat.sub_zero]
  rcases Nat.le_total i xs.length with h | h
  · rw [Nat.min_eq_left h]
  · rw [Nat.min_eq_right h, List.take_of_length_le (Nat.le_refl _), List.take_of_length_le h]

theorem cut_drop (xs : List V) (i : Nat) : cutV xs (some (i : Int)) none = xs.drop i := by
  unfold cutV
  rw [HT.sIx_none, HT.sIx_nat]
  rcases Nat.le_total i xs.length with h | h
  · rw [Nat.min_eq_left h, List.take_of_length_le (by rw [List.length_drop]; exact Nat.le_refl _)]
  · rw [Nat.min_eq_right h, Nat.sub_self, List.take_zero, List.drop_eq_nil_of_le h]

theorem strs_off {p l b : Addr} {n : Nat} {H : Hp} {zs : List Str} (h : Pen p l n H) (k : H b = some (.lst (zs.map V.str))) : b ≠ p ∧ b ≠ l := by
  obtain ⟨c, ns, e1, e2, e3, _⟩ := h
  refine ⟨fun e => ?_, fun e => ?_⟩
  · rw [e, e1] at k
    cases zs with
    | nil => cases HO.lst.inj (Option.some.inj k)
    | cons z r =>
      have y := HO.lst.inj (Option.some.inj k)
      rw [List.map_cons] at y
      cases (List.cons.inj y).1
  · rw [e, e2] at k
    cases ns with
    | nil => exact e3 rfl
    | cons n r =>
      cases zs with
      | nil => cases HO.lst.inj (Option.some.inj k)
      | cons z r2 =>
        have y := HO.lst.inj (Option.some.inj k)
        rw [List.map_cons, List.map_cons] at y
        cases (List.cons.inj y).1
theorem tup_off {p l b : Addr} {n : Nat} {H : Hp} {xs : List V} (h : Pen p l n H) (k : H b = some (.tup xs)) : b ≠ p ∧ b ≠ l := by
  obtain ⟨c, ns, e1, e2, e3, _⟩ := h
  exact ⟨(fun e => by rw [e, e1] at k; cases k), (fun e => by rw [e, e2] at k; cases k)⟩

theorem nat_of {r m : Int} (h : 0 ≤ r ∧ r < m) : ∃ n : Nat, r = (n : Int) ∧ (n : Int) < m := ⟨r.toNat, by omega, by omega⟩

def Xa (a : Addr) (H H' : Hp) : Prop := ∀ c o, c ≠ a → H c = some o → H' c = some o
theorem Xa.of {a : Addr} {H H' : Hp} (e : Ex H H') : Xa a H H' := fun c o _ h => e c o h
theorem Xa.trans {a : Addr} {H H1 H2 : Hp} (p : Xa a H H1) (q : Xa a H1 H2) : Xa a H H2 := fun c o n h => q c o n (p c o n h)
theorem Xa.upd {a : Addr} {H : Hp} {o : HO} : Xa a H (upd H a o) := fun c u n h => (upd_ne n).trans h
theorem Xa.new {a : Addr} {H0 H H' : Hp} (e : Ex H0 H) (n : H0 a = none) (k : Xa a H H') : Ex H0 H' := fun c o h => k c o (ne_of_none h n) (e c o h)
theorem putF_tail {f g : Str} {v x : V} {r : List (Str × V)} (h : ¬ g = f) : putF f v ((g, x) :: r) = (g, x) :: putF f v r := if_neg h

theorem pe_fldc {X : Cx} {K : PySem.W.Frag} {e : Expr} {ta : TE} {f : Str} {pos : Pos} (hK : X.K = K) (he : PE X e ta) (hb : attributeBase e f X.env (eval e X.env) = eval e X.env) : PE X (.Attribute e f pos) (tFld K ta f) := hK ▸ pe_fld he hb
/-- a field of an instance, as it is read -/
theorem ev_fld {K : PySem.W.Frag} {ta : TE} {σ : L2.St} {H : Hp} {a C dx : Addr} {fs : List (Str × V)} {f : Str} {v : V} (h : Ev ta σ H (.ref a)) (ha : H a = some (.ins C dx fs)) (c : Cls K C) (n : NoAttr K C f) (l : fs.lookup f = some v) : Ev (tFld K ta f) σ H v := fun H1 e Q q =>
  h H1 e _ fun H2 e2 => ⟨a, C, dx, fs, v, rfl, e2 _ _ (e _ _ ha), c, n, l, q H2 e2⟩

theorem q_cb {te : TE} {r : List V → Hp → VK → Prop} {i : Nat} {tz : TS} {D : Ends} {σ : L2.St} {H : Hp} (h : te σ H fun x H1 => r [x] H1 fun v H2 => tz D (σ.set i (some v)) H2) : tSeq (tAsg (tCB r (tCons te tNil)) (gName i)) tz D σ H := h


/-! ### trees of texts -/
mutual
inductive Tt : Nat → PyData → Prop
  | str {n : Nat} {z : Str} (h : z.length ≤ 1000) : Tt n (.str z)
  | int {n : Nat} (i : Int) : Tt n (.int i)
  | tup {n : Nat} {ds : List PyData} (l : ds.length ≤ 100) (h : Tts n ds) : Tt (n + 1) (.tuple ds)
inductive Tts : Nat → List PyData → Prop
  | nil {n : Nat} : Tts n []
  | cons {n : Nat} {d : PyData} {ds : List PyData} (h : Tt n d) (r : Tts n ds) : Tts n (d :: ds)
end
theorem Tts.at {n : Nat} : ∀ {ds : List PyData}, Tts n ds → ∀ d ∈ ds, Tt n d
  | _, .cons h r, d, hd => by
    rcases List.mem_cons.mp hd with e | k
    · rw [e]; exact h
    · exact r.at d k
theorem Tts.of {n : Nat} : ∀ {ds : List PyData}, (∀ d ∈ ds, Tt n d) → Tts n ds
  | [], _ => .nil
  | d :: r, h => .cons (h d List.mem_cons_self) (Tts.of fun x hx => h x (List.mem_cons_of_mem _ hx))
mutual
theorem Tt.up : ∀ {n : Nat} {d : PyData}, Tt n d → Tt (n + 1) d
  | _, _, .str h => .str h
  | _, _, .int i => .int i
  | _, _, .tup l h => .tup l h.up
theorem Tts.up : ∀ {n : Nat} {ds : List PyData}, Tts n ds → Tts (n + 1) ds
  | _, _, .nil => .nil
  | _, _, .cons h r => .cons h.up r.up
end
theorem Tts.app {n : Nat} : ∀ {ds es : List PyData}, Tts n ds → Tts n es → Tts n (ds ++ es)
  | _, _, .nil, h => h
  | _, _, .cons h r, k => .cons h (r.app k)
theorem dpAll_len {K : PySem.W.Frag} {H : Hp} : ∀ {vs : List V} {ds : List PyData}, DpAll K H vs ds → vs.length = ds.length
  | _, _, .nil => rfl
  | _, _, .cons _ r => by rw [List.length_cons, List.length_cons, dpAll_len r]
theorem dpAll_at {K : PySem.W.Frag} {H : Hp} : ∀ {vs : List V} {ds : List PyData}, DpAll K H vs ds → ∀ {i : Nat} {v : V}, vs[i]? = some v → ∃ d, ds[i]? = some d ∧ Dp K H v d
  | _, _, .nil, i, v, h => by cases h
  | _, _, .cons (d := d) h r, 0, v, e => by
    cases e
    exact ⟨d, rfl, h⟩
  | _, _, .cons h r, i + 1, v, e => dpAll_at r (i := i) e
theorem dpAll_add {K : PySem.W.Frag} {H : Hp} {v : V} {d : PyData} : ∀ {vs : List V} {ds : List PyData}, DpAll K H vs ds → Dp K H v d → DpAll K H (vs ++ [v]) (ds ++ [d])
  | _, _, .nil, h => .cons h .nil
  | _, _, .cons a r, h => .cons a (dpAll_add r h)
theorem dpAll_app {K : PySem.W.Frag} {H : Hp} : ∀ {vs ws : List V} {ds es : List PyData}, DpAll K H vs ds → DpAll K H ws es → DpAll K H (vs ++ ws) (ds ++ es)
  | _, _, _, _, .nil, h => h
  | _, _, _, _, .cons a r, h => .cons a (dpAll_app r h)
/-- a write to a list leaves trees of texts as they are -/
theorem sqt_off {K : PySem.W.Frag} {H : Hp} {a D : Addr} {xs ys : List V} {o : HO} (h : SqT K H a xs) (hD : H D = some (.lst ys)) : SqT K (upd H D o) a xs := by
  rcases h with h | h
  · refine .inl ?_
    rcases h with h | ⟨ob, h⟩
    · exact .inl ((upd_ne (fun e => by rw [e, hD] at h; cases h)).trans h)
    · exact .inr ⟨ob, (upd_ne (fun e => by rw [e, hD] at h; cases h)).trans h⟩
  · exact .inr h
mutual
theorem dp_off {K : PySem.W.Frag} {H : Hp} {D : Addr} {ys : List V} {o : HO} (hD : H D = some (.lst ys)) : ∀ {n : Nat} {d : PyData} {v : V}, Tt n d → Dp K H v d → Dp K (upd H D o) v d
  | _, _, _, .str _, h => by
    cases h
    exact .str _
  | _, _, _, .int _, h => by
    cases h
    exact .int _
  | _, _, _, .tup _ hs, h => by
    cases h with
    | tup h1 h2 => exact .tup (sqt_off h1 hD) (dps_off hD hs h2)
theorem dps_off {K : PySem.W.Frag} {H : Hp} {D : Addr} {ys : List V} {o : HO} (hD : H D = some (.lst ys)) : ∀ {n : Nat} {ds : List PyData} {vs : List V}, Tts n ds → DpAll K H vs ds → DpAll K (upd H D o) vs ds
  | _, _, _, .nil, h => by
    cases h
    exact .nil
  | _, _, _, .cons h1 r1, h => by
    cases h with
    | cons h2 r2 => exact .cons (dp_off hD h1 h2) (dps_off hD r1 r2)
end
theorem tyx_t {K : PySem.W.Frag} {H : Hp} {a : Addr} {xs : List V} (h : SqT K H a xs) : TyX K H (.ref a) (.type "tuple") := by
  rcases h with h | ⟨o, its, n, hk, hc, _⟩
  · rcases h with h | ⟨ob, h⟩
    · exact .base (.tup h)
    · exact .fTuple h
  · exact .kTuple hk hc
theorem tyx_l {K : PySem.W.Frag} {H : Hp} {a : Addr} {xs : List V} (h : SqL K H a xs) : TyX K H (.ref a) (.type "list") := by
  rcases h with h | ⟨o, its, n, hk, hc, _⟩
  · rcases h with h | ⟨ob, h⟩
    · exact .base (.lst h)
    · exact .base (.frz h)
  · exact .kList hk hc
theorem op_catT0 {X : Cx} : OpR X (binaryOp .Add) (fun x y H Q => ∃ a b ys, x = .ref a ∧ y = .ref b ∧ SqT X.K H a [] ∧ SqT X.K H b ys ∧ Q (.ref b) H) := by
  intro pins s σ H x y v u Q I rx ry h
  obtain ⟨a, b, ys, rfl, rfl, ha, hb, q⟩ := h
  cases rx
  cases ry
  obtain ⟨its, r1, p1, _⟩ := I.tuple ha
  obtain ⟨its2, r2, p2, _⟩ := I.tuple hb
  cases r1
  obtain ⟨⟨cls, dd, data, sl⟩, ho, hc, n, hd⟩ := id p1
  obtain ⟨⟨cls2, dd2, data2, sl2⟩, ho2, hc2, n2, hd2⟩ := id p2
  simp only at hc hd hc2 hd2
  subst hc hd hc2 hd2
  exact concat_meets ⟨_, ho, rfl⟩ ⟨_, ho2, rfl⟩ noFill_tuple_add seq_tuple_add PySem.F.slot_tuple_add PySem.F.entry_tuple_add (PySem.F.args_tuple_add_2 _ _) (tuple_addW0 a b _ its2.toArray n n2 dd dd2 sl sl2 (by simp)) ⟨ho, ho2, ⟨.ref b, H, I, rfl, q⟩⟩
theorem units65 {k : Nat} {A : Around} (r : Room k A) : A.units + 65 < cLine := by
  have z := r.un
  omega
theorem go_test {t : TT} {σ : L2.St} {H : Hp} {b : Bool} {Q : Bool → Hp → Prop} (h : EvT t σ H b) (k : ∀ H2, Ex H H2 → Q b H2) : t σ H Q := h H (Ex.refl H) Q k
theorem pg_tupc {X : Cx} {K : PySem.W.Frag} {es : List Expr} {k : Nat} {t : TGs} {n : Nat} {pos : Pos} (hK : X.K = K) (hc : X.calm = true) (h : PGs X es t) (hn : (assignEach es X.env).length = n := by rfl) (hst : (assignEach es X.env).findIdx? (·.1) = none := by rfl) : PG X (.Tuple es k pos) (gTup K n t) := hK ▸ pg_tup hc h hn hst
theorem walk_zipT {K : PySem.W.Frag} {a b : Addr} {xs ys : List V} {n : Nat} (hn : n = min xs.length ys.length) : Walk (RZ.ItzT K a b) n (fun H => SqT K H a xs ∧ SqT K H b ys) (YPair (fun i => xs[i]?) (fun i => ys[i]?)) := by
  subst hn
  refine ⟨fun i _ hi q => ?_, fun _ q => ⟨xs, ys, q.1, q.2, by omega⟩, fun i H v H' _ q y => ?_⟩
  · have k1 : i < xs.length := by omega
    have k2 : i < ys.length := by omega
    exact ⟨xs, ys, xs[i], ys[i], q.1, q.2, List.getElem?_eq_getElem k1, List.getElem?_eq_getElem k2⟩
  · obtain ⟨T, x, z, e1, e2, e3, e4, e5⟩ := y
    exact ⟨T, x, z, e1, e2, e3, e4 xs q.1, e5 ys q.2⟩
/-! ### statements -/
def ENT : List (Str × List Str) := [("put", ["cell"]), ("blank", ["cell"]), ("give", ["cell"]), ("push", ["row"]), ("pop", ["row"]), ("cut", ["row"]), ("answer", ["how"]), ("deeper", ["function"]), ("stop", ["end"]), ("fault", []), ("may", []), ("again", []), ("out", []),
  ("either", ["part", "part"]), ("tries", ["part"]), ("told", ["part", "part"]), ("look", ["cell", "part", "part"]), ("guard", ["part", "part"]), ("lastly", ["part", "part"])]
def isP : PyData → Bool
  | .tuple _ => true
  | _ => false
def argsOf : PyData → List PyData
  | .tuple (_ :: r) => r
  | _ => []
def wordOf : PyData → PyData
  | .tuple (w :: _) => w
  | _ => .none
def bodyOf : PyData → List PyData
  | .tuple ds => ds
  | _ => []
def parts (d : PyData) : List PyData := (argsOf d).filter isP
/-- a statement by its shape: a known word, as many entries as it has, parts where it has parts -/
def Sh (d : PyData) : Prop := ∃ w ks args, d = .tuple (.str w :: args) ∧ (w, ks) ∈ ENT ∧ args.length = ks.length ∧ ∀ (i : Nat) (k : Str) (x : PyData), ks[i]? = some k → args[i]? = some x → isP x = decide (k = "part")
def nums : Nat → List PyData → List PyData → List (PyData × List PyData)
  | 0, _, _ => []
  | n + 1, ss, ar => ss.flatMap fun s => (s, ar) :: ((parts s).zipIdx.flatMap fun p => nums n (bodyOf p.1) (ar ++ [.tuple [wordOf s, .int (p.2 : Nat)]]))
/-- a body: short, of such statements, of such bodies -/
def Bod : Nat → List PyData → Prop
  | 0, ss => ss = []
  | n + 1, ss => ss.length ≤ 14 ∧ ∀ s ∈ ss, Sh s ∧ ∀ p ∈ parts s, ∃ ds, p = .tuple ds ∧ Bod n ds
/-! ### the walkers' promises over trees -/
def spKd (K : PySem.W.Frag) : Sp := fun vs H Q _ => ∃ t w rest ks, vs = [.ref t] ∧ SqT K H t (.str w :: rest) ∧ (w, ks) ∈ ENT ∧ ∀ a H', (∀ H, SqT K H a (ks.map V.str)) → Ex H H' → Q (.ref a) H'
def spPt (K : PySem.W.Frag) : Sp := fun vs H Q _ => ∃ v d n, vs = [v] ∧ Dp K H v d ∧ Tt n d ∧ Sh d ∧ ∀ q ys H', H q = none → Ex H H' → H' q = some (.lst ys) → DpAll K H' ys (parts d) → Q (.ref q) H'

def spFr (K : PySem.W.Frag) (n : Nat) : Sp := fun vs H Q _ => ∃ v d, vs = [v] ∧ Dp K H v d ∧ Tt n d ∧ ∀ v' H', Ex H H' → Dp K H' v' d → Q v' H'

end TR
set_option Elab.async false
set_option linter.all false
set_option maxRecDepth 100000
set_option maxHeartbeats 8000000
/-! max with default=, == by an own __eq__ of any outcome. -/
namespace XQ
open PySem PySem.Spec PyProof.Rows L2 He XH XV XR PEN TR Evl

/-! ### max(xs, default=d) -/
def mxD (d : Int) : List Int → Int
  | [] => d
  | n :: r => r.foldl max n
def rMaxDef (K : PySem.W.Frag) : List V → List V → Hp → VK → Prop := fun vs zs H Q => ∃ (a : Addr) (ns : List Int) (d : Int), vs = [V.ref a] ∧ zs = [V.int d] ∧ SqL K H a (ns.map V.int) ∧ Q (.int (mxD d ns)) H
theorem reads_nums {h : Heap} : ∀ {ns : List Int} {its : List Value}, Vals (ns.map V.int) its → ReadsAll h its (ns.map PyData.int) []
  | [], _, r => by
    cases r
    exact .nil
  | n :: ns, _, r => by
    cases r with
    | cons r1 r2 =>
      obtain ⟨t, rfl⟩ := r1
      exact ReadsAll.cons (.int n t) (reads_nums r2)
theorem depth_nums : ∀ ns : List Int, PyData.depthAll (ns.map PyData.int) ≤ 1
  | [] => by simp [PyData.depthAll]
  | n :: r => by
    have k := depth_nums r
    simp only [List.map_cons, PyData.depthAll, PyData.depth]
    omega
theorem alike_nums (ns : List Int) : PySem.W.AlikeAll (ns.map PyData.int) := PySem.W.alikeAll_datum ns
theorem cr_maxDef {X : Cx} (hc : X.calm = true) (hu : X.A.units + 65 < cLine) : CallRK X (.builtin "max") [Str.ofString "default"] (rMaxDef X.K) := by
  intro pins s σ H xs zs us ws Q I rx rz h
  obtain ⟨a, ns, d, rfl, rfl, hs, q⟩ := h
  obtain ⟨its, rv, hl, _⟩ := I.list hs
  rw [Vals.ref1 rx]
  cases rz with
  | @cons _ w0 _ _ r1 r2 =>
    cases r2
    have dn := depth_nums ns
    refine PySem.W.max_list_default (d := w0) (xs := ns.map PyData.int) (as := []) (I.ok.hd hc) hl.isList (by simpa using reads_nums rv) (alike_nums ns) (by omega) (fun e h' tk hk => ?_) (fun y ys i v h' tk bs e hi r hk => ?_)
    · have e2 : ns = [] := List.map_eq_nil_iff.mp e
      subst e2
      exact ⟨.int d, H, I.kept hk, r1, q⟩
    · cases ns with
      | nil => cases e
      | cons n rest =>
        rw [List.map_cons] at e
        injection e with e1 e2
        subst e1 e2
        rw [PySem.W.maxD_ints] at r
        obtain ⟨t, rfl, _⟩ := reads_int_inv r
        exact ⟨.int (rest.foldl max n), H, I.kept hk, ⟨_, rfl⟩, q⟩

/-! ### x == y by the own __eq__ of x's class -/
def rOwn (K : PySem.W.Frag) (C : Addr) (sp : Sp) : R2 := fun x y H Q => ∃ (a dx : Addr) (fs : List (Str × V)) (t : Value), x = .ref a ∧ H a = some (.ins C dx fs) ∧ TyX K H y t ∧ PySem.W.notFirst K C t = true ∧ sp [.ref a, y] H (fun v H' => (∃ b, v = .bl b) ∧ Q v H') E0
theorem op_own {X : Cx} {C f : Addr} {fd : FuncData} {ps : List Str} {sp : Sp} {n : Nat} (F : FnOk X.prog X.w X.K X.mg X.base CX0 n f fd ps sp)
    (hs : PySem.W.findIn X.K (.ref C) "__eq__" = some (some (.ref f))) (hf : PySem.W.isFn X.K (.ref f) = true) (hb : Binds X.K fd ps []) (hr : Room n X.A) : OpR X (compareOp .Eq) (rOwn X.K C sp) := by
  intro pins s σ H x y v u Q I rx ry h
  obtain ⟨a, dx, fs, t, rfl, ha, ty, nf, hsp⟩ := h
  cases (show v = Value.ref a from rx)
  obtain ⟨mA, J, _⟩ := ins_get I.hok ha
  obtain ⟨od, J, _⟩ := J.look
  obtain ⟨m, hF⟩ := I.fr
  obtain ⟨P, Z, hp, _⟩ := kit_of I ry ty
  show wpAny (model X.prog X.w) X.A (richCompare .Eq (.ref a) u) (EP X pins σ Q) X.xe s
  refine PySem.W.cmp_K (op := .Eq) (tb := t) hr.units0 hF I.ok.mod.kin J (Z.ty _ _ I.kIn hp) nf hs hf ?_
  have hl := F.len _ _ _ _ hsp
  have r2 : Vals [V.ref a, y] [Value.ref a, u] := .cons rfl (.cons ry .nil)
  refine wpAny_call (codeAny_mono (F.run X.A X.stack s H ⟨[.ref a, u], []⟩ [.ref a, u] [.ref a, y] _ E0 hr I.env0 (by
    have := hb s [.ref a, u] I.kIn (by simpa using hl)
    simpa using this) r2 hsp) fun r s' hq => ?_)
  cases r with
  | error e => exact False.elim hq
  | ok fl =>
    cases fl with
    | ret w =>
      obtain ⟨z, H', I', rz, ⟨b, ez⟩, qz⟩ := I.after hq
      subst ez
      cases (show w = Value.bool b from rz)
      exact ⟨.bl b, H', I', rfl, qz⟩
    | next => exact False.elim hq
    | brk => exact False.elim hq
    | cont => exact False.elim hq
theorem op_or {X : Cx} {f : Value → Value → Sem Value} {r r' : R2} (h : OpR X f r) (h' : OpR X f r') : OpR X f (fun x y H Q => r x y H Q ∨ r' x y H Q) := by
  intro pins s σ H x y v u Q I rx ry q
  rcases q with q | q
  · exact h pins s σ H x y v u Q I rx ry q
  · exact h' pins s σ H x y v u Q I rx ry q
def orR (r r' : R2) : R2 := fun x y H Q => r x y H Q ∨ r' x y H Q
theorem op_or2 {X : Cx} {f : Value → Value → Sem Value} {r r' : R2} (h : OpR X f r) (h' : OpR X f r') : OpR X f (orR r r') := op_or h h'
end XQ

set_option Elab.async false
set_option linter.all false
set_option maxRecDepth 100000
set_option maxHeartbeats 8000000
/-! == of tuples of objects of an own class, by its own __eq__, of any outcome. -/
namespace PySem.SeqAt
open AutoSeq1 (wpAny_loadPart')
open MeetsSeq MeetsSeq2 MeetsSeq3 SeqRoads2
theorem tuple_eqRun {prog : Program} {w : World} (l b : Addr) (items items2 : Array Value) (n n2 : Nat) (dd dd2 : Option Addr) (sl sl2 : Array (Option Value)) :
    MeetsIn prog w (Builtin.«tuple.__eq__» ⟨[.ref l, .ref b], []⟩)
      (fun A R s => s.heap.get? l = some { cls := .type "tuple", dict := dd, data := .seq items n, slots := sl } ∧ s.heap.get? b = some { cls := .type "tuple", dict := dd2, data := .seq items2 n2, slots := sl2 } ∧
        ∃ P : Nat → Shared → Prop, P 0 s ∧ (∀ j (h1 : j < items.size) (h2 : j < items2.size) s', P j s' → wpAny (model prog w) A.in1 (eqBool items[j] items2[j]) (fun b s'' => if b = true then P (j + 1) s'' else R (.ok (.ret (.bool false))) s'') (fun e s'' => R (.error e) s'') s') ∧
          ∀ s', P (min items.size items2.size) s' → R (.ok (.ret (.bool (items.size == items2.size)))) s') :=
  .of_wp fun A R s h => by
    obtain ⟨hp, g, d, tk, os⟩ := s; obtain ⟨hl, hb, P, h0, step, fin⟩ := h
    have f2 := AutoSeq1.sub_tuple_tuple
    have hZ : (items.toList.zip items2.toList).length = min items.size items2.size := by simp
    wp_walk using wpAny_loadPart' hl, wpAny_loadPart' hb, wpAny_forIn_list _ (fun rest b s' => b.1 = none ∧ ∃ i, i ≤ (items.toList.zip items2.toList).length ∧ rest = (items.toList.zip items2.toList).drop i ∧ P i s') _
    case turn =>
      rintro ⟨y, x⟩ rest b s' ⟨hb', i, hi0, hz, hP⟩
      have hlt : i < (items.toList.zip items2.toList).length := by
        rcases Nat.lt_or_ge i (items.toList.zip items2.toList).length with h' | h'
        · exact h'
        · rw [List.drop_of_length_le h'] at hz; cases hz
      have hm : i < min items.size items2.size := hZ ▸ hlt
      have h1 : i < items.size := Nat.lt_of_lt_of_le hm (Nat.min_le_left _ _)
      have h2 : i < items2.size := Nat.lt_of_lt_of_le hm (Nat.min_le_right _ _)
      rw [List.drop_eq_getElem_cons hlt] at hz
      injection hz with hyx hrest
      have hy : y = items[i] := by have := congrArg Prod.fst hyx; simpa using this
      have hx : x = items2[i] := by have := congrArg Prod.snd hyx; simpa using this
      subst hy hx
      refine wpAny_bind (wpAny_mono (step i h1 h2 s' hP) (fun v s'' hv => ?_) (fun e s'' he => he))
      cases v with
      | true =>
        rw [if_pos rfl] at hv
        wp_walk
        exact ⟨rfl, i + 1, hlt, hrest, hv⟩
      | false =>
        rw [if_neg Bool.false_ne_true] at hv
        wp_walk
        exact ⟨_, rfl, hv⟩
    case fin =>
      rintro ⟨b1, b2⟩ s' ⟨hb', i, hi0, hz, hP⟩
      simp only at hb'
      subst hb'
      have hge : i = min items.size items2.size := by
        rcases Nat.lt_or_ge i (items.toList.zip items2.toList).length with h' | h'
        · rw [List.drop_eq_getElem_cons h'] at hz; cases hz
        · omega
      subst hge
      have hR := fin s' hP
      wp_walk
      exact ⟨_, rfl, by simpa [Builtin.Tuple.tupleCompareSizes] using hR⟩
    case h =>
      exact ⟨rfl, 0, Nat.zero_le _, rfl, h0⟩
theorem eq_tupleRun {prog : Program} {w : World} {A : Around} {E : Value → Shared → Prop} {s : Shared} {l b : Addr} {items items2 : Array Value} {Q : Value → Shared → Prop} (hl : s.heap.IsTuple l items) (hb : s.heap.IsTuple b items2) (hu : A.units < cLine)
    (P : Nat → Shared → Prop) (h0 : P 0 s) (step : ∀ j (h1 : j < items.size) (h2 : j < items2.size) s', P j s' → wpAny (model prog w) A.in1 (eqBool items[j] items2[j]) (fun b s'' => if b = true then P (j + 1) s'' else Q (.bool false) s'') E s')
    (fin : ∀ s', P (min items.size items2.size) s' → Q (.bool (items.size == items2.size)) s') : wpAny (model prog w) A (richCompare .Eq (.ref l) (.ref b)) Q E s := by
  obtain ⟨⟨cls, dd, data, sl⟩, ho, hc, n, hd⟩ := id hl
  obtain ⟨⟨cls2, dd2, data2, sl2⟩, ho2, hc2, n2, hd2⟩ := id hb
  simp only at hc hd hc2 hd2
  subst hc hd hc2 hd2
  refine wpAny_richCompare_same_room ⟨_, ho, rfl⟩ ⟨_, ho2, rfl⟩ F.slot_tuple_eq (call_meetsIn F.slot_tuple_eq ⟨_, ho, rfl⟩ F.entry_tuple_eq (F.args_tuple_eq_2 _ _) (tuple_eqRun l b items items2 n n2 dd dd2 sl sl2) ⟨ho, ho2, P, h0, fun j h1 h2 s' hP => ?_, fun s' hP => ?_⟩) hu
  · refine wpAny_mono (step j h1 h2 s' hP) (fun v s'' hv => ?_) (fun e s'' he => he)
    cases v with
    | true => exact hv
    | false => exact ⟨(fun x => nomatch x), hv⟩
  · exact ⟨(fun x => nomatch x), fin s' hP⟩
end PySem.SeqAt
namespace OQ
open PySem PySem.Spec PyProof.Rows L2 He XH XV XR PEN TR Evl
theorem vals_ref {ps : List Addr} {its : List Value} (r : Vals (ps.map V.ref) its) : its = ps.map Value.ref := by
  induction ps generalizing its with
  | nil =>
    cases r
    rfl
  | cons p t ih =>
    cases r with
    | cons r1 r2 =>
      rw [ih r2, show _ = Value.ref p from r1]
      rfl
def rOwnT (K : PySem.W.Frag) (C : Addr) (sp : Sp) : R2 := fun x y H Q => ∃ (a b : Addr) (ps qs : List Addr) (e : Nat → Bool), x = .ref a ∧ y = .ref b ∧ SqT K H a (ps.map V.ref) ∧ SqT K H b (qs.map V.ref) ∧
  (∀ j p q, ps[j]? = some p → qs[j]? = some q → (p = q → e j = true) ∧ (p ≠ q → (∃ dx fs, H p = some (.ins C dx fs)) ∧ (∀ H1, Ex H H1 → TyX K H1 (.ref q) (.ref C)) ∧ ∀ H1, Ex H H1 → ∀ Q' : VK, (∀ H2, Ex H1 H2 → Q' (.bl (e j)) H2) → sp [.ref p, .ref q] H1 Q' E0)) ∧
  ∀ H', Ex H H' → Q (.bl ((List.range (min ps.length qs.length)).all e && ps.length == qs.length)) H'
theorem op_ownT {X : Cx} {C f : Addr} {fd : FuncData} {pn : List Str} {sp : Sp} {n : Nat} (F : FnOk X.prog X.w X.K X.mg X.base CX0 n f fd pn sp)
    (hs : PySem.W.findIn X.K (.ref C) "__eq__" = some (some (.ref f))) (hf : PySem.W.isFn X.K (.ref f) = true) (hb : Binds X.K fd pn []) (nf : PySem.W.notFirst X.K C (.ref C) = true) (hr : Room (n + 1) X.A) : OpR X (compareOp .Eq) (rOwnT X.K C sp) := by
  intro pins s σ H x y v u Q I rx ry h
  obtain ⟨a, b, ps, qs, e, rfl, rfl, ha, hb2, hpq, q⟩ := h
  cases (show v = Value.ref a from rx)
  cases (show u = Value.ref b from ry)
  obtain ⟨its, r1, p1, hz1⟩ := I.tuple ha
  obtain ⟨its2, r2, p2, hz2⟩ := I.tuple hb2
  have i1 := vals_ref r1
  have i2 := vals_ref r2
  subst i1 i2
  have s1 : (ps.map Value.ref).toArray.size = ps.length := by simp
  have s2 : (qs.map Value.ref).toArray.size = qs.length := by simp
  show wpAny (model X.prog X.w) X.A (richCompare .Eq (.ref a) (.ref b)) (EP X pins σ Q) X.xe s
  refine SeqAt.eq_tupleRun p1 p2 hr.units0 (fun j s' => (∀ i, i < j → e i = true) ∧ ∃ H', Ex H H' ∧ Inv X pins σ H' s') ⟨(fun i hi => absurd hi (Nat.not_lt_zero i)), H, Ex.refl H, I⟩ (fun j h1 h2 s' hP => ?_) (fun s' hP => ?_)
  · obtain ⟨he, H1, e1, I1⟩ := hP
    have j1 : j < ps.length := by omega
    have j2 : j < qs.length := by omega
    have g1 : (ps.map Value.ref).toArray[j] = .ref ps[j] := by simp
    have g2 : (qs.map Value.ref).toArray[j] = .ref qs[j] := by simp
    rw [g1, g2]
    obtain ⟨k1, k2⟩ := hpq j ps[j] qs[j] (List.getElem?_eq_getElem j1) (List.getElem?_eq_getElem j2)
    generalize ps[j] = p at k1 k2
    generalize qs[j] = r at k1 k2
    have more : e j = true → ∀ i, i < j + 1 → e i = true := fun hj i hi => by
      rcases Nat.lt_or_ge i j with c | c
      · exact he i c
      · rw [show i = j by omega]
        exact hj
    unfold eqBool
    refine wpAny_holding ?_
    by_cases hpr : p = r
    · subst hpr
      refine wpAny_ite_split (fun _ => ?_) (fun hab => absurd (beq_self_eq_true _) hab)
      refine wpAny_bind (wpAny_rule (wpAny_pure ?_))
      rw [if_pos rfl]
      exact ⟨more (k1 rfl), H1, e1, I1⟩
    refine wpAny_ite_split (fun hab => absurd (by have := eq_of_beq hab; injection this) hpr) (fun _ => ?_)
    obtain ⟨⟨dx, fs, hp⟩, hq, hsp⟩ := k2 hpr
    obtain ⟨mA, J, _⟩ := ins_get I1.hok (e1 _ _ hp)
    obtain ⟨od, J, _⟩ := J.look
    obtain ⟨m, hF⟩ := I1.fr
    obtain ⟨PP, Z, hpp, _⟩ := kit_of I1 (x := .ref r) (show RelV (.ref r) (.ref r) from rfl) (hq H1 e1)
    refine wpAny_bind ?_
    refine PySem.W.cmp_K (op := .Eq) (tb := .ref C) (Room.units0 hr.in1) hF I1.ok.mod.kin J (Z.ty _ _ I1.kIn hpp) nf hs hf ?_
    have hsp2 := hsp H1 e1 (fun v H' => v = .bl (e j) ∧ Ex H1 H') (fun H2 e2 => ⟨rfl, e2⟩)
    have hl := F.len _ _ _ _ hsp2
    have rr : Vals [V.ref p, V.ref r] [Value.ref p, Value.ref r] := .cons rfl (.cons rfl .nil)
    refine wpAny_call (codeAny_mono (F.run X.A.in1 X.stack s' H1 ⟨[.ref p, .ref r], []⟩ [.ref p, .ref r] [.ref p, .ref r] _ E0 hr.in1 I1.env0.in1 (by
      have := hb s' [.ref p, .ref r] I1.kIn (by simpa using hl)
      simpa using this) rr hsp2) fun rs s2 hq2 => ?_)
    cases rs with
    | error er => exact False.elim hq2
    | ok fl =>
      cases fl with
      | ret w =>
        obtain ⟨z, H', I', rz, ez, e2⟩ := I1.after hq2
        subst ez
        cases (show w = Value.bool (e j) from rz)
        refine wpAny_truthy_bool ?_
        cases hej : e j with
        | true =>
          rw [if_pos rfl]
          exact ⟨more hej, H', e1.trans e2, I'⟩
        | false =>
          rw [if_neg Bool.false_ne_true]
          refine ⟨.bl false, H', I', rfl, ?_⟩
          have z := q H' (e1.trans e2)
          have ef : ((List.range (min ps.length qs.length)).all e && ps.length == qs.length) = false := by
            have : (List.range (min ps.length qs.length)).all e = false := by
              rw [List.all_eq_false]
              exact ⟨j, List.mem_range.mpr (by omega), by rw [hej]; exact Bool.false_ne_true⟩
            rw [this, Bool.false_and]
          rw [ef] at z
          exact z
      | next => exact False.elim hq2
      | brk => exact False.elim hq2
      | cont => exact False.elim hq2
  · obtain ⟨he, H1, e1, I1⟩ := hP
    refine ⟨.bl (ps.length == qs.length), H1, I1, (by rw [s1, s2]; rfl), ?_⟩
    have z := q H1 e1
    have ef : (List.range (min ps.length qs.length)).all e = true := by
      rw [List.all_eq_true]
      intro i hi
      exact he i (by rw [s1, s2]; exact List.mem_range.mp hi)
    rw [ef, Bool.true_and] at z
    exact z
end OQ

set_option Elab.async false
set_option linter.all false
set_option maxRecDepth 100000
set_option maxHeartbeats 8000000
/-! a list == [] and != [], whatever it holds -/
namespace L2
open PySem PySem.Spec PyProof.Rows Evl
variable {X : Cx}
def rNil (K : PySem.W.Frag) (neg : Bool) : R2 := fun x y H Q => ∃ a b xs, x = .ref a ∧ y = .ref b ∧ SqL K H a xs ∧ SqL K H b [] ∧ Q (.bl (xor neg xs.isEmpty)) H
theorem op_eqNil (hu : X.A.units < cLine) : OpR X (compareOp .Eq) (rNil X.K false) := by
  intro pins s σ H x y v u Q I rx ry h
  obtain ⟨a, b, xs, rfl, rfl, ha, hb, q⟩ := h
  cases (show v = Value.ref a from rx)
  cases (show u = Value.ref b from ry)
  obtain ⟨us, r1, p1, _⟩ := I.list ha
  obtain ⟨ws, r2, p2, _⟩ := I.list hb
  cases r2
  show wpAny (model X.prog X.w) X.A (richCompare .Eq (.ref a) (.ref b)) _ _ s
  cases r1 with
  | nil => exact SeqAt.RcAt.lists (e := fun _ => true) p1.isList p2.isList rfl hu (fun j h1 h2 => absurd h1 (Nat.not_lt_zero j)) _ _ _ _ ⟨.bl true, H, I, rfl, q⟩
  | cons h t => exact SeqAt.RcAt.lists_lengths p1.isList p2.isList rfl hu _ _ _ _ ⟨.bl false, H, I, rfl, q⟩
theorem op_neNil (hu : X.A.units < cLine) : OpR X (compareOp .NotEq) (rNil X.K true) := by
  intro pins s σ H x y v u Q I rx ry h
  obtain ⟨a, b, xs, rfl, rfl, ha, hb, q⟩ := h
  cases (show v = Value.ref a from rx)
  cases (show u = Value.ref b from ry)
  obtain ⟨us, r1, p1, _⟩ := I.list ha
  obtain ⟨ws, r2, p2, _⟩ := I.list hb
  cases r2
  show wpAny (model X.prog X.w) X.A (richCompare .NotEq (.ref a) (.ref b)) _ _ s
  cases r1 with
  | nil => exact SeqAt.RcNeAt.lists (e := fun _ => true) p1.isList p2.isList rfl hu (fun j h1 h2 => absurd h1 (Nat.not_lt_zero j)) _ _ _ _ ⟨.bl false, H, I, rfl, q⟩
  | cons h t => exact SeqAt.RcNeAt.lists_lengths p1.isList p2.isList rfl hu _ _ _ _ ⟨.bl true, H, I, rfl, q⟩
section
variable {K : PySem.W.Frag} {σ : L2.St} {H : Hp} {ta tb : TE}
/-- an old list, against a new empty one -/
theorem ev_nil {neg : Bool} {a : Addr} {xs : List V} (h1 : Ev ta σ H (.ref a)) (ha : SqL K H a xs) : Ev (tOp (rNil K neg) ta (tLst tNil)) σ H (.bl (xor neg xs.isEmpty)) :=
  ev_opL h1 (el_lst ea_nil (by decide)) fun u H1 hu e H2 e2 R k => ⟨a, u, xs, rfl, rfl, ex_l (e.trans e2) ha, sq_of (e2 _ _ hu), k H2 (Ex.refl _)⟩
/-- a new list, against a new empty one -/
theorem ev_nilN {neg : Bool} {xs : List V} (h1 : EvL ta σ H xs) : Ev (tOp (rNil K neg) ta (tLst tNil)) σ H (.bl (xor neg xs.isEmpty)) := fun H1 e Q q =>
  h1 H1 e _ fun p H2 hp e2 hx => (el_lst ea_nil (by decide)) H2 (e.trans e2) _ fun u H3 hu e3 hy => ⟨p, u, xs, rfl, rfl, sq_of (e3 _ _ hx), sq_of hy, q H3 (e2.trans e3)⟩
end
end L2

set_option Elab.async false
set_option linter.all false
set_option maxRecDepth 100000
set_option maxHeartbeats 8000000
/-! first, *rest = a list -/
namespace SU
open PySem PySem.Spec PyProof.Rows L2 He XH XV XR PEN Evl

def gStar1 (K : PySem.W.Frag) (t : TGs) : TG := fun v σ H Q => ∃ a x xs, v = .ref a ∧ SqL K H a (x :: xs) ∧ xs.length ≤ 1000 ∧ ∀ D, H D = none → t [x, .ref D] σ (upd H D (.lst xs)) Q
section
variable {X : Cx}
theorem pgs_consS {e : Expr} {p : Pos} {es : List Expr} {t : TG} {u : TGs} (h1 : PG X e t) (h2 : PGs X es u)
    (hs : (assignEach (.Starred e p :: es) X.env).map (·.2) = assign e X.env :: (assignEach es X.env).map (·.2) := by rfl) : PGs X (.Starred e p :: es) (gCons t u) := by
  refine ⟨fun pins s σ H vs us Q I r h => ?_⟩
  obtain ⟨v, vr, e1, h⟩ := h
  subst e1
  cases r with
  | cons r rr =>
    rw [hs]
    refine assignInOrder_cons (thn (h1.run pins s σ H _ _ _ I r h) fun _ s1 ⟨σ1, H1, I1, q1⟩ => ?_)
    exact h2.run pins s1 σ1 H1 _ _ Q I1 rr q1
theorem pg_star1 {es : List Expr} {k : Nat} {pos : Pos} {t : TGs} (hc : X.calm = true) (h : PGs X es t)
    (hn : (assignEach es X.env).length = 2 := by rfl) (hst : (assignEach es X.env).findIdx? (·.1) = some 1 := by rfl) : PG X (.Tuple es k pos) (gStar1 X.K t) := by
  refine ⟨fun pins s σ H v u Q I r hw => ?_⟩
  obtain ⟨a, x, xs, e1, hq, hlx, hw⟩ := hw
  subst e1
  cases r
  obtain ⟨its, rv, hL, hz⟩ := I.list hq
  cases rv with
  | @cons _ u0 _ us r0 rr =>
    have hl : s.heap.IsList a (u0 :: us).toArray := hL.isList
    have hh : X.A.handled = none := I.ok.hd hc
    have lus := rr.length
    have hlt : a ≠ s.heap.objs.size := by obtain ⟨o, ho, _⟩ := hl; exact Nat.ne_of_lt (Heap.lt_size ho)
    rw [assign_Tuple]
    refine wpAny_bind (wpAny_standAt ?_)
    unfold unpack
    rw [hn, hst]
    refine wpAny_bind (wpAny_holding ?_)
    unfold unpackItems
    refine wpAny_bind ?_
    unfold notIterableAtAll
    refine wpAny_bind (wpAny_specialOf hl.typeIs slot_list_iter.lookup ?_)
    refine wpAny_pure ?_
    simp only [Bool.false_eq_true, if_false]
    refine wpAny_bind (wpAny_holding (wpAny_pyIter_list hl ?_))
    refine wpAny_bind (wpAny_holding (PySem.W.kun_draw hlt 1 0 _ _ ⟨_, Heap.get?_push_size _ rfl, rfl, rfl⟩ (hl.push _) (by simp) fun h₁ hit₁ hs₁ => ?_))
    have hl₁ : h₁.IsList a (u0 :: us).toArray := (hl.push _).extBut hs₁.extBut hlt
    rw [Nat.zero_add] at hit₁
    have hit₁' := hit₁
    obtain ⟨oi, hoi, _⟩ := hit₁'
    have hl₁' := hl₁
    obtain ⟨ol, hol, _⟩ := hl₁'
    rw [List.drop_zero]
    have hf : (u0 :: us).toArray.toList.take 1 = [u0] := rfl
    rw [hf]
    rw [if_neg (show ¬ (([u0] : List Value).length < 1) by simp)]
    refine wpAny_bind (wpAny_holding (PySem.W.kun_collect (s := { s with heap := h₁ }) (T := "list_iterator") (.inr (.inr (.inl rfl))) (Walks.list (A := X.A.in1) hh s.heap.objs.size a hlt (u0 :: us).toArray) (fun j u st => st.1.typeIs) (k := 1) (by simp) ⟨hit₁, hl₁⟩ (Heap.lt_size hoi) (Heap.lt_size hol) (fun h₂ tk hk => ?_) (by rw [sizeLine_eq]; simp; omega)))
    have hd : (u0 :: us).toArray.toList.drop 1 = us := rfl
    rw [hd]
    show wpAny _ _ (if us.length < 2 - 1 - 1 then _ else _) _ _ _
    rw [if_neg (by omega)]
    show wpAny _ _ (newList (us.take (us.length - (2 - 1 - 1))) >>= fun d => pure ([u0] ++ [d] ++ us.drop (us.length - (2 - 1 - 1)))) _ _ _
    have e0 : us.length - (2 - 1 - 1) = us.length := by omega
    rw [e0, List.take_length, List.drop_length]
    have he : Heap.ExtBut s.heap.objs.size s.heap h₂ := fun b o hb e => hk b o hb (hs₁.extBut b o hb (Heap.get?_push_of_some _ e))
    have I1 : Inv X pins σ H { s with heap := h₂, toks := tk } := I.kept fun b o e => he b o (Nat.ne_of_lt (Heap.lt_size e)) e
    refine wpAny_bind (wpAny_newObj_type ?_)
    refine wpAny_pure ?_
    have hfr : H h₂.objs.size = none := I1.hok.fresh (Nat.le_refl _)
    have I2 : Inv X pins σ (upd H h₂.objs.size (.lst xs)) { s with heap := h₂.push { cls := .type "list", data := .seq us.toArray }, toks := tk } :=
      I1.laid (t' := tk) (fun b u e => Heap.get?_push_of_some _ e) (Nat.le_refl _) ⟨fits hlx, us, 0, rr, Heap.get?_push_size _ rfl⟩
    exact h.run pins _ σ _ [x, .ref h₂.objs.size] _ Q I2 (.cons r0 (.cons rfl .nil)) (hw _ hfr)
end
/-! ### tuple.count of texts -/
def rCntT (K : PySem.W.Frag) : V → List V → Hp → VK → Prop := fun x xs H Q => ∃ (p : Addr) (zs : List Str) (z : Str), x = .ref p ∧ xs = [.str z] ∧ SqT K H p (zs.map V.str) ∧ Q (.int ((zs.countP fun y => decide (y = z) : Nat) : Int)) H
theorem reads_strs {h : Heap} : ∀ {zs : List Str} {us : List Value}, Vals (zs.map V.str) us → ReadsAll h us (zs.map PyData.str) []
  | [], _, r => by
    cases r
    exact .nil
  | z :: zs, _, r => by
    cases r with
    | cons r1 r2 =>
      obtain ⟨t, rfl⟩ := r1
      exact ReadsAll.cons (.str z t) (reads_strs r2)
theorem plain_strs : ∀ zs : List Str, PyData.plainAll (zs.map PyData.str) = true
  | [] => rfl
  | z :: r => by
    show (PyData.plain (.str z) && PyData.plainAll (r.map PyData.str)) = true
    rw [plain_strs r]
    rfl
theorem mt_tcount {X : Cx} (hu : X.A.units + 64 < cLine) : MtR X "tuple.count" (rCntT X.K) := by
  intro pins s σ H x xs v us Q I rx rxs h
  obtain ⟨p, zs, z, rfl, rfl, hs, q⟩ := h
  cases rx
  obtain ⟨u, rfl, ru⟩ := rxs.one
  obtain ⟨t, rfl⟩ := ru
  obtain ⟨its, rv, ht, _⟩ := I.tuple hs
  obtain ⟨o, ho, hc, n, hd⟩ := ht
  have e : (zs.map PyData.str).countP (fun y => PyData.eqv y (.str z)) = zs.countP fun y => decide (y = z) := by
    rw [List.countP_map]
    refine List.countP_congr fun y _ => ?_
    show ((y == z) = true) ↔ (decide (y = z) = true)
    simp
  refine PySem.SeqAt.count_tuple_data (vs := its.toArray) (xs := zs.map PyData.str) (d := .str z) (as := []) (bs := []) ⟨o, ho, hc, n, hd⟩ (by simpa using reads_strs rv) (.str z t) (plain_strs zs) rfl (by
    have k : PyData.depth (.str z) ≤ 1 := by simp [PyData.depth]
    omega) ?_
  rw [e]
  exact ⟨.int _, H, I.tok _, ⟨_, rfl⟩, q⟩
end SU

set_option Elab.async false
set_option linter.all false
set_option maxRecDepth 100000
set_option maxHeartbeats 8000000
/-! Puzzles: trees as data, what a puzzle is in a heap. -/
namespace PZ
open PySem PySem.Spec PyProof.Rows L2 He XH XV XR PEN TR XQ Evl

/-! ### trees -/
def nd (bs : List Int) (ks : List PyData) : PyData := .tuple [.tuple (bs.map PyData.int), .tuple ks]
theorem nums_inj : ∀ {a b : List Int}, a.map PyData.int = b.map PyData.int → a = b
  | [], [], _ => rfl
  | x :: a, y :: b, h => by
    rw [List.map_cons, List.map_cons] at h
    injection h with h1 h2
    injection h1 with h1
    rw [h1, nums_inj h2]
theorem nd_inj {bs bs' : List Int} {ks ks' : List PyData} (h : nd bs ks = nd bs' ks') : bs = bs' ∧ ks = ks' := by
  unfold nd at h
  injection h with h
  injection h with h1 h2
  injection h1 with h1
  injection h2 with h2 _
  injection h2 with h2
  exact ⟨nums_inj h1, h2⟩
mutual
def size : PyData → Nat
  | .tuple [_, .tuple ks] => 1 + sizeL ks
  | _ => 0
def sizeL : List PyData → Nat
  | [] => 0
  | k :: r => size k + sizeL r
end
mutual
def deep : PyData → Nat
  | .tuple [_, .tuple ks] => 1 + deepL ks
  | _ => 0
def deepL : List PyData → Nat
  | [] => 0
  | k :: r => max (deep k) (deepL r)
end
/-- the digits of a node -/
def istr (i : Int) : Str := (toString i : String)
def digS (bs : List Int) : Str := if (Txt.join ("" : Str) (bs.map istr)).length = 0 then "." else Txt.join ("" : Str) (bs.map istr)
def intOf : PyData → Int
  | .int i => i
  | _ => 0
mutual
def spell : PyData → Str
  | .tuple [.tuple bs, .tuple ks] => if ks = [] then digS (bs.map intOf) else digS (bs.map intOf) ++ ("(" : Str) ++ Txt.join ("," : Str) (spellL ks) ++ (")" : Str)
  | _ => "-"
def spellL : List PyData → List Str
  | [] => []
  | k :: r => spell k :: spellL r
end
def isN : PyData → Bool
  | .none => true
  | _ => false
/-- how many are left if what is spare at the end is dropped -/
def keepN {α : Type} (p : α → Bool) : List α → Nat
  | [] => 0
  | x :: r => if keepN p r = 0 then (if p x = true then 0 else 1) else keepN p r + 1
def short {α : Type} (p : α → Bool) (xs : List α) : List α := xs.take (keepN p xs)
def isZ : Int → Bool := fun b => decide (b = 0)
mutual
def trim : PyData → PyData
  | .tuple [.tuple bs, .tuple ks] => nd (short isZ (bs.map intOf)) ((trimL ks).take (keepN isN (trimL ks)))
  | d => d
def trimL : List PyData → List PyData
  | [] => []
  | k :: r => trim k :: trimL r
end
theorem ints_of (bs : List Int) : (bs.map PyData.int).map intOf = bs := by
  rw [List.map_map]
  exact List.map_id' bs
theorem size_nd (bs : List Int) (ks : List PyData) : size (nd bs ks) = 1 + sizeL ks := by simp [size, nd]
theorem deep_nd (bs : List Int) (ks : List PyData) : deep (nd bs ks) = 1 + deepL ks := by simp [deep, nd]
theorem spell_nd (bs : List Int) (ks : List PyData) : spell (nd bs ks) = if ks = [] then digS bs else digS bs ++ ("(" : Str) ++ Txt.join ("," : Str) (spellL ks) ++ (")" : Str) := by
  have e := ints_of bs
  simp only [spell, nd]
  rw [e]
theorem trim_nd (bs : List Int) (ks : List PyData) : trim (nd bs ks) = nd (short isZ bs) (short isN (trimL ks)) := by
  have e := ints_of bs
  simp only [trim, nd]
  rw [e]
  rfl
theorem spellL_map (ks : List PyData) : spellL ks = ks.map spell := by
  induction ks with
  | nil => rfl
  | cons k r ih => simp [spellL, ih]
theorem trimL_map (ks : List PyData) : trimL ks = ks.map trim := by
  induction ks with
  | nil => rfl
  | cons k r ih => simp [trimL, ih]
theorem size_non : size .none = 0 := by simp [size]
theorem deep_non : deep .none = 0 := by simp [deep]
theorem spell_non : spell .none = "-" := by simp [spell]
theorem trim_non : trim .none = .none := by simp [trim]
theorem sizeL_sum (ks : List PyData) : sizeL ks = (ks.map size).sum := by
  induction ks with
  | nil => rfl
  | cons k r ih => simp [sizeL, ih]
/-! ### what is dropped -/
theorem keepN_app {α : Type} (p : α → Bool) (x : α) : ∀ l : List α, keepN p (l ++ [x]) = if p x = true then keepN p l else l.length + 1
  | [] => by
    show (if (0 : Nat) = 0 then (if p x = true then 0 else 1) else 0 + 1) = _
    rfl
  | y :: r => by
    have ih := keepN_app p x r
    show (if keepN p (r ++ [x]) = 0 then (if p y = true then 0 else 1) else keepN p (r ++ [x]) + 1) = _
    rw [ih]
    by_cases h : p x = true
    · rw [if_pos h, if_pos h]
      rfl
    · rw [if_neg h, if_neg h, if_neg (by omega)]
      rfl
theorem keepN_le {α : Type} (p : α → Bool) : ∀ l : List α, keepN p l ≤ l.length
  | [] => Nat.le_refl _
  | y :: r => by
    have ih := keepN_le p r
    show (if keepN p r = 0 then (if p y = true then 0 else 1) else keepN p r + 1) ≤ r.length + 1
    split
    · split <;> omega
    · omega
theorem keepN_take {α : Type} {p : α → Bool} {l : List α} {i : Nat} {x : α} (h : l[i]? = some x) : keepN p (l.take (i + 1)) = if p x = true then keepN p (l.take i) else i + 1 := by
  have hi := (List.getElem?_eq_some_iff.mp h).1
  rw [take_more h, keepN_app, List.length_take, Nat.min_eq_left (Nat.le_of_lt hi)]
theorem keepN_map {α β : Type} (p : β → Bool) (f : α → β) : ∀ l : List α, keepN p (l.map f) = keepN (fun x => p (f x)) l
  | [] => rfl
  | y :: r => by
    have ih := keepN_map p f r
    show (if keepN p (r.map f) = 0 then (if p (f y) = true then 0 else 1) else keepN p (r.map f) + 1) = _
    rw [ih]
    rfl
theorem keepN_congr {α : Type} {p q : α → Bool} : ∀ {l : List α}, (∀ x ∈ l, p x = q x) → keepN p l = keepN q l
  | [], _ => rfl
  | y :: r, h => by
    have ih := keepN_congr (l := r) fun x hx => h x (List.mem_cons_of_mem _ hx)
    show (if keepN p r = 0 then (if p y = true then 0 else 1) else keepN p r + 1) = (if keepN q r = 0 then (if q y = true then 0 else 1) else keepN q r + 1)
    rw [ih, h y List.mem_cons_self]
theorem keepN_drop {α : Type} {p : α → Bool} {l : List α} {i : Nat} {x : α} (h : l[i]? = some x) (hp : p x = true) (k : keepN p (l.take (i + 1)) = keepN p l) : keepN p (l.take i) = keepN p l := by
  rw [← k, keepN_take h, if_pos hp]
theorem short_map {α β : Type} (p : β → Bool) (f : α → β) (l : List α) : short p (l.map f) = (short (fun x => p (f x)) l).map f := by
  unfold short
  rw [keepN_map, List.map_take]
/-! ### trees that are not too great -/
mutual
inductive Bd (B C : Nat) : PyData → Prop
  | mk {d : PyData} {bs : List Int} {ks : List PyData} (e : d = nd bs ks) (h1 : bs.length ≤ B) (h2 : ∀ b ∈ bs, b = 0 ∨ b = 1) (h3 : ks.length ≤ C) (h4 : BdL B C ks) : Bd B C d
inductive BdL (B C : Nat) : List PyData → Prop
  | nil : BdL B C []
  | non {ks : List PyData} (r : BdL B C ks) : BdL B C (.none :: ks)
  | one {k : PyData} {ks : List PyData} (h : Bd B C k) (r : BdL B C ks) : BdL B C (k :: ks)
end
theorem Bd.nd' {B C : Nat} {bs : List Int} {ks : List PyData} (h : Bd B C (nd bs ks)) : bs.length ≤ B ∧ (∀ b ∈ bs, b = 0 ∨ b = 1) ∧ ks.length ≤ C ∧ BdL B C ks := by
  cases h with
  | mk e h1 h2 h3 h4 =>
    obtain ⟨rfl, rfl⟩ := nd_inj e
    exact ⟨h1, h2, h3, h4⟩
theorem Bd.un {B C : Nat} {d : PyData} (h : Bd B C d) : ∃ bs ks, d = nd bs ks ∧ bs.length ≤ B ∧ (∀ b ∈ bs, b = 0 ∨ b = 1) ∧ ks.length ≤ C ∧ BdL B C ks := by
  cases h with
  | mk e h1 h2 h3 h4 => exact ⟨_, _, e, h1, h2, h3, h4⟩
theorem BdL.at {B C : Nat} : ∀ {ks : List PyData}, BdL B C ks → ∀ k ∈ ks, k = .none ∨ Bd B C k
  | _, .non r, k, hk => by
    rcases List.mem_cons.mp hk with e | h
    · exact .inl e
    · exact r.at k h
  | _, .one h0 r, k, hk => by
    rcases List.mem_cons.mp hk with e | h
    · rw [e]
      exact .inr h0
    · exact r.at k h
theorem BdL.of {B C : Nat} : ∀ {ks : List PyData}, (∀ k ∈ ks, k = .none ∨ Bd B C k) → BdL B C ks
  | [], _ => .nil
  | k :: r, h => by
    have ih := BdL.of (B := B) (C := C) (ks := r) fun x hx => h x (List.mem_cons_of_mem _ hx)
    rcases h k List.mem_cons_self with e | hb
    · rw [e]
      exact .non ih
    · exact .one hb ih
theorem BdL.take {B C : Nat} {ks : List PyData} (h : BdL B C ks) (n : Nat) : BdL B C (ks.take n) := BdL.of fun k hk => h.at k (List.mem_of_mem_take hk)
theorem Bd.notN {B C : Nat} {d : PyData} (h : Bd B C d) : isN d = false := by
  obtain ⟨bs, ks, rfl, _⟩ := h.un
  rfl
theorem Bd.ne {B C : Nat} {d : PyData} (h : Bd B C d) : d ≠ .none := fun e => by
  have := h.notN
  rw [e] at this
  cases this
mutual
theorem bd_trim {B C : Nat} : ∀ {d : PyData}, Bd B C d → Bd B C (trim d)
  | _, .mk (bs := bs) (ks := ks) e h1 h2 h3 h4 => by
    rw [e, trim_nd]
    have k := bdL_trim h4
    have l1 : (short isZ bs).length ≤ bs.length := by
      unfold short
      rw [List.length_take]
      omega
    have l2 : (short isN (trimL ks)).length ≤ ks.length := by
      unfold short
      rw [List.length_take, trimL_map, List.length_map]
      omega
    exact .mk rfl (by omega) (fun b hb => h2 b (List.mem_of_mem_take hb)) (by omega) (k.take _)
theorem bdL_trim {B C : Nat} : ∀ {ks : List PyData}, BdL B C ks → BdL B C (trimL ks)
  | _, .nil => by
    simp only [trimL]
    exact .nil
  | _, .non r => by
    simp only [trimL, trim_non]
    exact .non (bdL_trim r)
  | _, .one h r => by
    simp only [trimL]
    exact .one (bd_trim h) (bdL_trim r)
end
theorem sizeL_take (ks : List PyData) (n : Nat) : sizeL (ks.take n) ≤ sizeL ks := by
  induction ks generalizing n with
  | nil => simp
  | cons k r ih =>
    cases n with
    | zero => simp [sizeL]
    | succ n =>
      have k := ih n
      simp only [List.take_succ_cons, sizeL]
      omega
theorem deepL_take (ks : List PyData) (n : Nat) : deepL (ks.take n) ≤ deepL ks := by
  induction ks generalizing n with
  | nil => simp
  | cons k r ih =>
    cases n with
    | zero => simp [deepL]
    | succ n =>
      have k := ih n
      simp only [List.take_succ_cons, deepL]
      omega
mutual
theorem size_trim {B C : Nat} : ∀ {d : PyData}, Bd B C d → size (trim d) ≤ size d
  | _, .mk (bs := bs) (ks := ks) e h1 h2 h3 h4 => by
    rw [e, trim_nd, size_nd, size_nd]
    have k := sizeL_trim h4
    have k2 := sizeL_take (trimL ks) (keepN isN (trimL ks))
    unfold short
    omega
theorem sizeL_trim {B C : Nat} : ∀ {ks : List PyData}, BdL B C ks → sizeL (trimL ks) ≤ sizeL ks
  | _, .nil => by simp [trimL]
  | _, .non r => by
    have k := sizeL_trim r
    simp only [trimL, trim_non, sizeL]
    omega
  | _, .one h r => by
    have k := sizeL_trim r
    have k2 := size_trim h
    simp only [trimL, sizeL]
    omega
end
mutual
theorem deep_trim {B C : Nat} : ∀ {d : PyData}, Bd B C d → deep (trim d) ≤ deep d
  | _, .mk (bs := bs) (ks := ks) e h1 h2 h3 h4 => by
    rw [e, trim_nd, deep_nd, deep_nd]
    have k := deepL_trim h4
    have k2 := deepL_take (trimL ks) (keepN isN (trimL ks))
    unfold short
    omega
theorem deepL_trim {B C : Nat} : ∀ {ks : List PyData}, BdL B C ks → deepL (trimL ks) ≤ deepL ks
  | _, .nil => by simp [trimL]
  | _, .non r => by
    have k := deepL_trim r
    simp only [trimL, trim_non, deepL]
    omega
  | _, .one h r => by
    have k := deepL_trim r
    have k2 := deep_trim h
    simp only [trimL, deepL]
    omega
end
theorem deep_pos {B C : Nat} {d : PyData} (h : Bd B C d) : 1 ≤ deep d := by
  obtain ⟨bs, ks, rfl, _⟩ := h.un
  rw [deep_nd]
  omega
theorem size_pos {B C : Nat} {d : PyData} (h : Bd B C d) : 1 ≤ size d := by
  obtain ⟨bs, ks, rfl, _⟩ := h.un
  rw [size_nd]
  omega
theorem deepL_at {ks : List PyData} {k : PyData} (h : k ∈ ks) : deep k ≤ deepL ks := by
  induction ks with
  | nil => cases h
  | cons x r ih =>
    simp only [deepL]
    rcases List.mem_cons.mp h with e | h
    · rw [e]
      omega
    · have := ih h
      omega
theorem sizeL_at {ks : List PyData} {k : PyData} (h : k ∈ ks) : size k ≤ sizeL ks := by
  induction ks with
  | nil => cases h
  | cons x r ih =>
    simp only [sizeL]
    rcases List.mem_cons.mp h with e | h
    · rw [e]
      omega
    · have := ih h
      omega
mutual
theorem Bd.mono {B C B' C' : Nat} (h : B ≤ B') (h' : C ≤ C') : ∀ {d : PyData}, Bd B C d → Bd B' C' d
  | _, .mk e h1 h2 h3 h4 => .mk e (Nat.le_trans h1 h) h2 (Nat.le_trans h3 h') (h4.mono h h')
theorem BdL.mono {B C B' C' : Nat} (h : B ≤ B') (h' : C ≤ C') : ∀ {ks : List PyData}, BdL B C ks → BdL B' C' ks
  | _, .nil => .nil
  | _, .non r => .non (r.mono h h')
  | _, .one k r => .one (k.mono h h') (r.mono h h')
end
theorem BdL.app {B C : Nat} : ∀ {ks js : List PyData}, BdL B C ks → BdL B C js → BdL B C (ks ++ js)
  | _, _, .nil, h => h
  | _, _, .non r, h => .non (r.app h)
  | _, _, .one k r, h => .one k (r.app h)
theorem sizeL_app (a b : List PyData) : sizeL (a ++ b) = sizeL a + sizeL b := by
  induction a with
  | nil => simp [sizeL]
  | cons k r ih =>
    simp only [List.cons_append, sizeL, ih]
    omega
theorem deepL_app (a b : List PyData) : deepL (a ++ b) = max (deepL a) (deepL b) := by
  induction a with
  | nil => simp [deepL]
  | cons k r ih =>
    simp only [List.cons_append, deepL, ih]
    omega
end PZ

set_option Elab.async false
set_option linter.all false
set_option maxRecDepth 100000
set_option maxHeartbeats 8000000
namespace PZ
open PySem PySem.Spec PyProof.Rows L2 He XH XV XR PEN TR XQ Evl

/-! ### lengths of texts -/
theorem app_len (a b : Str) : (a ++ b).length = a.length + b.length := by
  obtain ⟨a⟩ := a
  obtain ⟨b⟩ := b
  show (a ++ b).size = a.size + b.size
  simp
theorem empty_app (w : Str) : Str.empty ++ w = w := by
  obtain ⟨a⟩ := w
  show (⟨#[] ++ a⟩ : Str) = ⟨a⟩
  simp
theorem joinL_len (S : List Nat) : ∀ ls : List (List Nat), (TL.joinL S ls).length ≤ (ls.map (·.length)).sum + ls.length * S.length
  | [] => Nat.zero_le _
  | [p] => by
    show p.length ≤ (p.length + 0) + 1 * S.length
    omega
  | p :: q :: r => by
    have k := joinL_len S (q :: r)
    show (p ++ (S ++ TL.joinL S (q :: r))).length ≤ _
    rw [List.length_append, List.length_append, List.map_cons, List.sum_cons, List.length_cons, Nat.succ_mul]
    omega
theorem join_len (a : Str) (ys : List Str) : (Txt.join a ys).length ≤ (ys.map (·.length)).sum + ys.length * a.length := by
  have z : TL.tl (Txt.join a ys) = TL.joinL (TL.tl a) (ys.map TL.tl) := by
    rw [TL.join_eq, TL.tl_join]
  have l1 : (Txt.join a ys).length = (TL.tl (Txt.join a ys)).length := len_codes _
  have l2 : a.length = (TL.tl a).length := len_codes _
  have l3 : (ys.map TL.tl).map (·.length) = ys.map (·.length) := by
    rw [List.map_map]
    exact List.map_congr_left fun y _ => (len_codes y).symm
  have k := joinL_len (TL.tl a) (ys.map TL.tl)
  rw [l3, List.length_map] at k
  rw [l1, z, l2]
  exact k
theorem sum_le {α : Type} {f : α → Nat} {b : Nat} : ∀ {l : List α}, (∀ x ∈ l, f x ≤ b) → (l.map f).sum ≤ l.length * b
  | [], _ => by simp
  | x :: r, h => by
    have k := sum_le (l := r) fun y hy => h y (List.mem_cons_of_mem _ hy)
    have k2 := h x List.mem_cons_self
    rw [List.map_cons, List.sum_cons, List.length_cons, Nat.succ_mul]
    omega
theorem istr_len {b : Int} (h : b = 0 ∨ b = 1) : (istr b).length = 1 := by
  rcases h with rfl | rfl <;> decide +kernel
theorem bits_sum {bs : List Int} (h : ∀ b ∈ bs, b = 0 ∨ b = 1) : ((bs.map istr).map (·.length)).sum = bs.length := by
  induction bs with
  | nil => rfl
  | cons b r ih =>
    have k := istr_len (h b List.mem_cons_self)
    have k2 := ih fun x hx => h x (List.mem_cons_of_mem _ hx)
    rw [List.map_cons, List.map_cons, List.sum_cons, k2, List.length_cons, k]
    omega
theorem digS_len {bs : List Int} (h : ∀ b ∈ bs, b = 0 ∨ b = 1) : (digS bs).length ≤ bs.length + 1 := by
  unfold digS
  split
  · have : ("." : Str).length = 1 := by decide +kernel
    omega
  · have k := join_len ("" : Str) (bs.map istr)
    have k2 := bits_sum h
    have k3 : ("" : Str).length = 0 := by decide +kernel
    rw [k2, k3] at k
    omega
theorem s1 : ("(" : Str).length = 1 ∧ (")" : Str).length = 1 ∧ ("," : Str).length = 1 ∧ ("-" : Str).length = 1 := by decide +kernel
mutual
theorem spell_len {B C : Nat} (hB : B ≤ 60) (hC : C ≤ 600) : ∀ {d : PyData}, Bd B C d → (spell d).length ≤ 1300 * size d
  | _, .mk (bs := bs) (ks := ks) e h1 h2 h3 h4 => by
    rw [e, spell_nd, size_nd]
    have k := spellL_len hB hC h4
    have kd := digS_len h2
    obtain ⟨p1, p2, p3, p4⟩ := s1
    split
    · omega
    · rw [app_len, app_len, app_len, p1, p2]
      have j := join_len ("," : Str) (spellL ks)
      have l : (spellL ks).length = ks.length := by rw [spellL_map, List.length_map]
      rw [p3, l] at j
      omega
theorem spellL_len {B C : Nat} (hB : B ≤ 60) (hC : C ≤ 600) : ∀ {ks : List PyData}, BdL B C ks → ((spellL ks).map (·.length)).sum ≤ 1300 * sizeL ks + ks.length
  | _, .nil => by simp [spellL]
  | _, .non r => by
    have k := spellL_len hB hC r
    obtain ⟨p1, p2, p3, p4⟩ := s1
    simp only [spellL, spell_non, sizeL, size_non, List.map_cons, List.sum_cons, List.length_cons, p4]
    omega
  | _, .one h r => by
    have k := spellL_len hB hC r
    have k2 := spell_len hB hC h
    simp only [spellL, sizeL, List.map_cons, List.sum_cons, List.length_cons]
    omega
end

/-! ### what keeps tuples and instances as they are -/
structure Kp (H H' : Hp) : Prop where
  ins : ∀ c C dx fs, fs ≠ [] → H c = some (.ins C dx fs) → H' c = some (.ins C dx fs)
  tup : ∀ c xs, Rd H c (.tup xs) → Rd H' c (.tup xs)
theorem Kp.refl (H : Hp) : Kp H H := ⟨fun _ _ _ _ _ h => h, fun _ _ h => h⟩
theorem Kp.trans {H H1 H2 : Hp} (a : Kp H H1) (b : Kp H1 H2) : Kp H H2 := ⟨fun c C dx fs n h => b.ins c C dx fs n (a.ins c C dx fs n h), fun c xs h => b.tup c xs (a.tup c xs h)⟩
theorem Kp.of {H H' : Hp} (e : Ex H H') : Kp H H' := ⟨fun c C dx fs _ h => e _ _ h, fun c xs h => ex_rd e h⟩
theorem Kp.lst {H : Hp} {D : Addr} {ys : List V} {o : HO} (hD : H D = some (.lst ys)) : Kp H (upd H D o) :=
  ⟨fun c C dx fs _ h => (upd_ne (fun e => by rw [e, hD] at h; cases h)).trans h, fun c xs h => by
    rcases h with h | ⟨o, h⟩
    · exact .inl ((upd_ne (fun e => by rw [e, hD] at h; cases h)).trans h)
    · exact .inr ⟨o, (upd_ne (fun e => by rw [e, hD] at h; cases h)).trans h⟩⟩
theorem Kp.xa {H H' : Hp} {a C dx : Addr} (ha : H a = some (.ins C dx [])) (k : Xa a H H') : Kp H H' :=
  ⟨fun c C' dx' fs n h => k c _ (fun e => by rw [e, ha] at h; injection h with h; injection h with _ _ h; exact n h.symm) h, fun c xs h => by
    rcases h with h | ⟨o, h⟩
    · exact .inl (k c _ (fun e => by rw [e, ha] at h; cases h) h)
    · exact .inr ⟨o, k c _ (fun e => by rw [e, ha] at h; cases h) h⟩⟩
theorem Kp.px {H H' : Hp} {p l : Addr} {n : Nat} (hP : Pen p l n H) (k : Px p l H H') : Kp H H' := by
  obtain ⟨c, ns, e1, e2, _⟩ := hP
  refine ⟨fun c C' dx' fs n h => k.get (fun e => by rw [e, e1] at h; cases h) (fun e => by rw [e, e2] at h; cases h) h, fun c xs h => ?_⟩
  rcases h with h | ⟨o, h⟩
  · exact .inl (k.get (fun e => by rw [e, e1] at h; cases h) (fun e => by rw [e, e2] at h; cases h) h)
  · exact .inr ⟨o, k.get (fun e => by rw [e, e1] at h; cases h) (fun e => by rw [e, e2] at h; cases h) h⟩
theorem Kp.t {K : PySem.W.Frag} {H H' : Hp} (k : Kp H H') {a : Addr} {xs : List V} (h : SqT K H a xs) : SqT K H' a xs := by
  rcases h with h | h
  · exact .inl (k.tup _ _ h)
  · exact .inr h
mutual
def tupD : PyData → Bool
  | .list _ => false
  | .dict _ => false
  | .tuple ds => tupDs ds
  | _ => true
def tupDs : List PyData → Bool
  | [] => true
  | d :: r => tupD d && tupDs r
end
mutual
theorem dp_kp {K : PySem.W.Frag} {H H' : Hp} (k : Kp H H') : ∀ (d : PyData) (v : V), tupD d = true → Dp K H v d → Dp K H' v d
  | .none, _, _, h => by
    cases h
    exact .non
  | .bool b, _, _, h => by
    cases h
    exact .bl b
  | .int i, _, _, h => by
    cases h
    exact .int i
  | .str x, _, _, h => by
    cases h
    exact .str x
  | .list ds, _, t, h => by simp [tupD] at t
  | .dict ds, _, t, h => by simp [tupD] at t
  | .tuple ds, _, t, h => by
    simp only [tupD] at t
    cases h with
    | tup h1 h2 => exact .tup (k.t h1) (dps_kp k ds _ t h2)
theorem dps_kp {K : PySem.W.Frag} {H H' : Hp} (k : Kp H H') : ∀ (ds : List PyData) (vs : List V), tupDs ds = true → DpAll K H vs ds → DpAll K H' vs ds
  | [], _, _, h => by
    cases h
    exact .nil
  | d :: ds, _, t, h => by
    simp only [tupDs, Bool.and_eq_true] at t
    cases h with
    | cons h1 h2 => exact .cons (dp_kp k d _ t.1 h1) (dps_kp k ds _ t.2 h2)
end
theorem tupDs_ints (bs : List Int) : tupDs (bs.map PyData.int) = true := by
  induction bs with
  | nil => rfl
  | cons b r ih => simp [tupDs, tupD, ih]
mutual
theorem bd_tup {B C : Nat} : ∀ {d : PyData}, Bd B C d → tupD d = true
  | _, .mk (bs := bs) (ks := ks) e h1 h2 h3 h4 => by
    rw [e]
    simp [nd, tupD, tupDs, tupDs_ints, bdL_tup h4]
theorem bdL_tup {B C : Nat} : ∀ {ks : List PyData}, BdL B C ks → tupDs ks = true
  | _, .nil => rfl
  | _, .non r => by simp [tupDs, tupD, bdL_tup r]
  | _, .one h r => by simp [tupDs, bd_tup h, bdL_tup r]
end
theorem dp_ints {K : PySem.W.Frag} {H : Hp} : ∀ {bs : List Int} {vs : List V}, DpAll K H vs (bs.map PyData.int) → vs = bs.map V.int
  | [], _, h => by
    cases h
    rfl
  | b :: r, _, h => by
    cases h with
    | cons h1 h2 =>
      cases h1
      rw [dp_ints h2]
      rfl
theorem dp_nums {K : PySem.W.Frag} {H : Hp} (bs : List Int) : DpAll K H (bs.map V.int) (bs.map PyData.int) := by
  induction bs with
  | nil => exact .nil
  | cons b r ih => exact .cons (.int b) ih
/-- a tree in a heap -/
theorem dp_nd {K : PySem.W.Frag} {H : Hp} {v : V} {bs : List Int} {ks : List PyData} (h : Dp K H v (nd bs ks)) : ∃ t tb tk vs, v = .ref t ∧ SqT K H t [.ref tb, .ref tk] ∧ SqT K H tb (bs.map V.int) ∧ SqT K H tk vs ∧ DpAll K H vs ks := by
  unfold nd at h
  cases h with
  | tup h1 h2 =>
    cases h2 with
    | cons h3 h4 =>
      cases h3 with
      | tup h5 h6 =>
        cases h4 with
        | cons h7 h8 =>
          cases h8
          cases h7 with
          | tup h9 h10 =>
            have e := dp_ints h6
            subst e
            exact ⟨_, _, _, _, rfl, h1, h5, h9, h10⟩
theorem nd_dp {K : PySem.W.Frag} {H : Hp} {t tb tk : Addr} {vs : List V} {bs : List Int} {ks : List PyData} (h1 : SqT K H t [.ref tb, .ref tk]) (h2 : SqT K H tb (bs.map V.int)) (h3 : SqT K H tk vs) (h4 : DpAll K H vs ks) : Dp K H (.ref t) (nd bs ks) :=
  .tup h1 (.cons (.tup h2 (dp_nums bs)) (.cons (.tup h3 h4) .nil))

/-! ### puzzles -/
mutual
inductive Pz (K : PySem.W.Frag) (H : Hp) : Addr → PyData → Prop
  | mk {a dx ba ca : Addr} {d : PyData} {bs : List Int} {ks : List PyData} {vs : List V} (e : d = nd bs ks) (b : Bd 60 600 d)
      (h : H a = some (.ins (ga K "Puzzle") dx [("bits", .ref ba), ("children", .ref ca), ("size", .int (size d : Nat)), ("depth", .int (deep d : Nat)), ("spelling", .str (spell d))]))
      (hb : SqT K H ba (bs.map V.int)) (hc : SqT K H ca vs) (hk : PzL K H vs ks) : Pz K H a d
inductive PzL (K : PySem.W.Frag) (H : Hp) : List V → List PyData → Prop
  | nil : PzL K H [] []
  | non {vs : List V} {ks : List PyData} (r : PzL K H vs ks) : PzL K H (.non :: vs) (.none :: ks)
  | one {a : Addr} {vs : List V} {k : PyData} {ks : List PyData} (h : Pz K H a k) (r : PzL K H vs ks) : PzL K H (.ref a :: vs) (k :: ks)
end
theorem Pz.kp {K : PySem.W.Frag} {H H' : Hp} (k : Kp H H') {a : Addr} {d : PyData} (h : Pz K H a d) : Pz K H' a d := by
  refine Pz.rec (motive_1 := fun a d _ => Pz K H' a d) (motive_2 := fun vs ks _ => PzL K H' vs ks) ?_ ?_ ?_ ?_ h
  · intro a dx ba ca d bs ks vs e b h hb hc hk ih
    exact .mk e b (k.ins _ _ _ _ (fun z => nomatch z) h) (k.t hb) (k.t hc) ih
  · exact .nil
  · intro vs ks r ih
    exact .non ih
  · intro a vs d ks h r ih1 ih2
    exact .one ih1 ih2
theorem PzL.kp {K : PySem.W.Frag} {H H' : Hp} (k : Kp H H') : ∀ {vs : List V} {ks : List PyData}, PzL K H vs ks → PzL K H' vs ks
  | _, _, .nil => .nil
  | _, _, .non r => .non (r.kp k)
  | _, _, .one h r => .one (h.kp k) (r.kp k)
theorem Pz.bd {K : PySem.W.Frag} {H : Hp} {a : Addr} {d : PyData} (h : Pz K H a d) : Bd 60 600 d := by
  cases h with
  | mk e b _ _ _ _ => exact b
theorem PzL.bd {K : PySem.W.Frag} {H : Hp} : ∀ {vs : List V} {ks : List PyData}, PzL K H vs ks → BdL 60 600 ks
  | _, _, .nil => .nil
  | _, _, .non r => .non r.bd
  | _, _, .one h r => .one h.bd r.bd
theorem PzL.len {K : PySem.W.Frag} {H : Hp} : ∀ {vs : List V} {ks : List PyData}, PzL K H vs ks → vs.length = ks.length
  | _, _, .nil => rfl
  | _, _, .non r => by rw [List.length_cons, List.length_cons, r.len]
  | _, _, .one _ r => by rw [List.length_cons, List.length_cons, r.len]
theorem PzL.app {K : PySem.W.Frag} {H : Hp} : ∀ {vs ws : List V} {ks js : List PyData}, PzL K H vs ks → PzL K H ws js → PzL K H (vs ++ ws) (ks ++ js)
  | _, _, _, _, .nil, h => h
  | _, _, _, _, .non r, h => .non (r.app h)
  | _, _, _, _, .one k r, h => .one k (r.app h)
theorem PzL.take {K : PySem.W.Frag} {H : Hp} : ∀ {vs : List V} {ks : List PyData} (n : Nat), PzL K H vs ks → PzL K H (vs.take n) (ks.take n)
  | _, _, 0, _ => .nil
  | _, _, n + 1, .nil => .nil
  | _, _, n + 1, .non r => .non (r.take n)
  | _, _, n + 1, .one h r => .one h (r.take n)
/-- a child at its place -/
theorem PzL.at {K : PySem.W.Frag} {H : Hp} : ∀ {vs : List V} {ks : List PyData}, PzL K H vs ks → ∀ {i : Nat} {v : V}, vs[i]? = some v → ∃ k, ks[i]? = some k ∧ ((v = .non ∧ k = .none) ∨ ∃ c, v = .ref c ∧ Pz K H c k)
  | _, _, .nil, i, v, h => by cases h
  | _, _, .non r, 0, v, h => by
    cases h
    exact ⟨_, rfl, .inl ⟨rfl, rfl⟩⟩
  | _, _, .one p r, 0, v, h => by
    cases h
    exact ⟨_, rfl, .inr ⟨_, rfl, p⟩⟩
  | _, _, .non r, i + 1, v, h => r.at (i := i) h
  | _, _, .one p r, i + 1, v, h => r.at (i := i) h

theorem spellL_at {ks : List PyData} {i : Nat} {k : PyData} (h : ks[i]? = some k) : (spellL ks)[i]? = some (spell k) := by
  rw [spellL_map, List.getElem?_map, h]
  rfl
theorem keep_bits (bs : List Int) : keepN (fun v : V => decide (v = .int 0)) (bs.map V.int) = keepN isZ bs := by
  rw [keepN_map]
  refine keepN_congr fun b _ => ?_
  unfold isZ
  by_cases h : b = 0
  · subst h
    rfl
  · rw [decide_eq_false h]
    exact decide_eq_false fun e => h (by injection e)
theorem keep_kids {K : PySem.W.Frag} {H : Hp} : ∀ {ws : List V} {ks : List PyData}, PzL K H ws ks → keepN (fun v : V => decide (v = .non)) ws = keepN isN ks
  | _, _, .nil => rfl
  | _, _, .non r => by
    have k := keep_kids r
    simp only [keepN, k, isN]
    rfl
  | _, _, .one (k := d) h r => by
    have k := keep_kids r
    have e := h.bd.notN
    simp only [keepN, k, e]
    rfl
theorem PzL.nodes {K : PySem.W.Frag} {H : Hp} : ∀ {ws : List V} {ks : List PyData}, PzL K H ws ks → PzL K H (ws.filter fun v => !decide (v = .non)) (ks.filter fun k => !isN k)
  | _, _, .nil => .nil
  | _, _, .non r => by
    have k := r.nodes
    rw [List.filter_cons, List.filter_cons, if_neg (by decide), if_neg (by decide)]
    exact k
  | _, _, .one (k := d) h r => by
    have k := r.nodes
    have e := h.bd.notN
    rw [List.filter_cons, List.filter_cons, if_pos (by rw [decide_eq_false (by intro z; cases z)]; rfl), if_pos (by rw [e]; rfl)]
    exact .one h k
theorem PzL.ref {K : PySem.W.Frag} {H : Hp} {ws : List V} {ks : List PyData} (h : PzL K H ws ks) (n : ∀ k ∈ ks, isN k = false) {i : Nat} {v : V} (hv : ws[i]? = some v) : ∃ c k, v = .ref c ∧ ks[i]? = some k ∧ Pz K H c k := by
  obtain ⟨k, hk, cas⟩ := h.at hv
  rcases cas with ⟨_, rfl⟩ | ⟨c, rfl, hp⟩
  · have := n _ (List.mem_of_getElem? hk)
    cases this
  · exact ⟨c, k, rfl, hk, hp⟩
theorem size_nodes (ks : List PyData) : ((ks.filter fun k => !isN k).map size).sum = sizeL ks := by
  induction ks with
  | nil => rfl
  | cons k r ih =>
    rw [List.filter_cons]
    cases h : isN k with
    | true =>
      have e : k = .none := by
        cases k <;> first | rfl | cases h
      rw [if_neg (by decide), ih, e]
      simp [sizeL, size_non]
    | false =>
      rw [if_pos (by decide), List.map_cons, List.sum_cons, ih]
      simp [sizeL]
theorem fold_max : ∀ (l : List Nat) (m : Nat), (l.map fun n : Nat => (n : Int)).foldl max (m : Int) = ((l.foldl max m : Nat) : Int)
  | [], _ => rfl
  | n :: r, m => by
    rw [List.map_cons, List.foldl_cons, List.foldl_cons]
    have e : max (m : Int) (n : Int) = ((max m n : Nat) : Int) := by omega
    rw [e, fold_max r]
theorem max_nodes : ∀ (ks : List PyData) (m : Nat), ((ks.filter fun k => !isN k).map deep).foldl max m = max m (deepL ks)
  | [], m => by simp [deepL]
  | k :: r, m => by
    rw [List.filter_cons]
    cases h : isN k with
    | true =>
      have e : k = .none := by
        cases k <;> first | rfl | cases h
      rw [if_neg (by decide), max_nodes r m, e]
      simp [deepL, deep_non]
    | false =>
      rw [if_pos (by decide), List.map_cons, List.foldl_cons, max_nodes r]
      simp only [deepL]
      omega
theorem deep_nodes (ks : List PyData) : mxD 0 (((ks.filter fun k => !isN k).map deep).map fun n : Nat => (n : Int)) = (deepL ks : Nat) := by
  have k := max_nodes ks 0
  cases e : (ks.filter fun k => !isN k).map deep with
  | nil =>
    rw [e] at k
    simp only [List.foldl_nil] at k
    show (0 : Int) = _
    omega
  | cons n r =>
    rw [e] at k
    rw [List.foldl_cons] at k
    show (r.map fun n : Nat => (n : Int)).foldl max (n : Int) = _
    rw [fold_max]
    have e2 : max 0 n = n := by omega
    rw [e2] at k
    omega
/-- tuple(xs) of a list or a tuple -/
theorem tup_go {K : PySem.W.Frag} {H : Hp} {p : Addr} {ys : List V} {Q : VK} (h : SqL K H p ys ∨ SqT K H p ys) (k : ∀ r H', Ex H H' → SqT K H' r ys → Q (.ref r) H') : (SqL K H p ys ∧ ∀ l, H l = none → Q (.ref l) (upd H l (.tup ys))) ∨ (SqT K H p ys ∧ Q (.ref p) H) := by
  rcases h with h | h
  · exact .inl ⟨h, fun l hl => k l _ (Ex.new hl) (st_of upd_same)⟩
  · exact .inr ⟨h, k p H (Ex.refl H) h⟩
/-- x = tuple(xs), xs a list or a tuple -/
def rTup (K : PySem.W.Frag) : List V → Hp → VK → Prop := fun xs H Q => ∃ p ys, xs = [.ref p] ∧ ((SqL K H p ys ∧ ∀ l, H l = none → Q (.ref l) (upd H l (.tup ys))) ∨ (SqT K H p ys ∧ Q (.ref p) H))
theorem q_tup {K : PySem.W.Frag} {te : TE} {i : Nat} {tz : TS} {D : Ends} {σ : L2.St} {H : Hp} {p : Addr} {ys : List V} (he : Ev te σ H (.ref p)) (h : SqL K H p ys ∨ SqT K H p ys) (k : ∀ r H', Ex H H' → SqT K H' r ys → tz D (σ.set i (some (.ref r))) H') : tSeq (tAsg (tCB (rTup K) (tCons te tNil)) (gName i)) tz D σ H :=
  he H (Ex.refl H) _ fun H1 e1 => ⟨p, ys, rfl, tup_go (Q := fun v H' => tz D (σ.set i (some v)) H') (h.imp (ex_l e1) (ex_t e1)) fun r H' e g => k r H' (e1.trans e) g⟩
theorem take_all {α : Type} {l : List α} {n : Nat} (h : l.length ≤ n) : l.take n = l := List.take_of_length_le h
/-! ### data that may be compared -/
theorem layNums (bs : List Int) : PyData.canLayAll0 (bs.map PyData.int) = true := by
  induction bs with
  | nil => simp [PyData.canLayAll0]
  | cons b r ih => simp [PyData.canLayAll0, PyData.canLay0, ih]
mutual
theorem lay_bd {B C : Nat} : ∀ {d : PyData}, Bd B C d → PyData.canLay0 d = true
  | _, .mk (bs := bs) (ks := ks) e h1 h2 h3 h4 => by
    rw [e]
    simp [nd, PyData.canLay0, PyData.canLayAll0, layNums, lay_bdL h4]
theorem lay_bdL {B C : Nat} : ∀ {ks : List PyData}, BdL B C ks → PyData.canLayAll0 ks = true
  | _, .nil => by simp [PyData.canLayAll0]
  | _, .non r => by simp [PyData.canLayAll0, PyData.canLay0, lay_bdL r]
  | _, .one h r => by simp [PyData.canLayAll0, lay_bd h, lay_bdL r]
end
mutual
theorem dep_bd {B C : Nat} : ∀ {d : PyData}, Bd B C d → PyData.depth d ≤ 2 * deep d + 1
  | _, .mk (bs := bs) (ks := ks) e h1 h2 h3 h4 => by
    rw [e, deep_nd]
    have k := depth_nums bs
    have k2 := dep_bdL h4
    simp only [nd, PyData.depth, PyData.depthAll]
    omega
theorem dep_bdL {B C : Nat} : ∀ {ks : List PyData}, BdL B C ks → PyData.depthAll ks ≤ 2 * deepL ks + 1
  | _, .nil => by simp [PyData.depthAll]
  | _, .non r => by
    have k := dep_bdL r
    simp only [PyData.depthAll, PyData.depth, deepL, deep_non]
    omega
  | _, .one h r => by
    have k := dep_bdL r
    have k2 := dep_bd h
    simp only [PyData.depthAll, deepL]
    omega
end
theorem shp_bd {B C : Nat} {d : PyData} (h : Bd B C d) (hd : deep d ≤ 31) : SeqAt.shaped d = true := by
  have k := dep_bd h
  unfold SeqAt.shaped
  rw [Bool.and_eq_true]
  exact ⟨lay_bd h, decide_eq_true (by omega)⟩
theorem shp_kids {B C : Nat} {ks : List PyData} (h : BdL B C ks) (hd : deepL ks ≤ 30) : SeqAt.shaped (.tuple ks) = true := by
  have k := dep_bdL h
  unfold SeqAt.shaped
  rw [Bool.and_eq_true]
  refine ⟨by simp [PyData.canLay0, lay_bdL h], decide_eq_true ?_⟩
  simp only [PyData.depth]
  omega
theorem shp_nums (bs : List Int) : SeqAt.shaped (.tuple (bs.map PyData.int)) = true := by
  have k := depth_nums bs
  unfold SeqAt.shaped
  rw [Bool.and_eq_true]
  refine ⟨by simp [PyData.canLay0, layNums], decide_eq_true ?_⟩
  simp only [PyData.depth]
  omega
theorem eqv_non (d : PyData) : PyData.eqv d .none = isN d := by
  cases d <;> rfl
theorem eqv_zero (b : Int) : PyData.eqv (.int b) (.int 0) = isZ b := by
  show (b == 0) = decide (b = 0)
  by_cases h : b = 0 <;> simp [h]
theorem keep_nums (bs : List Int) : keepN (fun d => PyData.eqv d (.int 0)) (bs.map PyData.int) = keepN isZ bs := by
  rw [keepN_map]
  exact keepN_congr fun b _ => eqv_zero b
theorem keep_nons (ks : List PyData) : keepN (fun d => PyData.eqv d .none) ks = keepN isN ks := keepN_congr fun d _ => eqv_non d
theorem dps_take {K : PySem.W.Frag} {H : Hp} : ∀ {vs : List V} {ds : List PyData} (n : Nat), DpAll K H vs ds → DpAll K H (vs.take n) (ds.take n)
  | _, _, 0, _ => .nil
  | _, _, n + 1, .nil => .nil
  | _, _, n + 1, .cons h r => .cons h (dps_take n r)
theorem ev_call {sp : Sp} {ta : TA} {σ : L2.St} {H : Hp} {vs : List V} {v : V} (h : EvA ta σ H vs) (hs : ∀ H1, Ex H H1 → ∀ Q : VK, (∀ H2, Ex H1 H2 → Q v H2) → sp (vs ++ []) H1 Q E0) : Ev (tCall sp [] E0 ta) σ H v := fun H1 e Q q =>
  h H1 e _ fun H2 e2 => hs H2 (e.trans e2) Q fun H3 e3 => q H3 (e2.trans e3)
theorem rv_ix {K : PySem.W.Frag} {H : Hp} {p : Addr} {xs : List V} {i : Int} {v : V} (h : SqL K H p xs ∨ SqT K H p xs) (ha : atI xs i = some v) : RV (rIx K) (.ref p) (.int i) H v := fun H1 e Q q => by
  rcases h with h | h
  · exact .inl ⟨p, xs, i, v, rfl, rfl, ex_l e h, ha, q H1 (Ex.refl _)⟩
  · exact .inr (.inl ⟨p, xs, i, v, rfl, rfl, ex_t e h, ha, q H1 (Ex.refl _)⟩)
theorem rv_neD {K : PySem.W.Frag} {H : Hp} {x y : V} {d e : PyData} (hd : Dp K H x d) (he : Dp K H y e) (sd : SeqAt.shaped d = true) (se : SeqAt.shaped e = true) : RV (rNeD K) x y H (.bl (!PyData.eqv d e)) := fun H1 a Q q => ⟨d, e, dpM a _ _ hd, dpM a _ _ he, sd, se, q H1 (Ex.refl _)⟩
theorem rv_eqD {K : PySem.W.Frag} {H : Hp} {x y : V} {d e : PyData} (hd : Dp K H x d) (he : Dp K H y e) (sd : SeqAt.shaped d = true) (se : SeqAt.shaped e = true) : RV (rEqD K) x y H (.bl (PyData.eqv d e)) := fun H1 a Q q => ⟨d, e, dpM a _ _ hd, dpM a _ _ he, sd, se, q H1 (Ex.refl _)⟩
theorem rv_isNo {H : Hp} {x : V} : RV (fun x y H Q => y = .non ∧ Q (.bl (decide (x = .non))) H) x .non H (.bl (decide (x = .non))) := fun H1 _ Q q => ⟨rfl, q H1 (Ex.refl _)⟩
theorem rv_notNo {H : Hp} {x : V} : RV (fun x y H Q => y = .non ∧ Q (.bl (!decide (x = .non))) H) x .non H (.bl (!decide (x = .non))) := fun H1 _ Q q => ⟨rfl, q H1 (Ex.refl _)⟩
theorem dp_non {K : PySem.W.Frag} {H : Hp} {B C : Nat} {v : V} {d : PyData} (h : Dp K H v d) (hd : d = .none ∨ Bd B C d) : (v = .non ∧ d = .none) ∨ (∃ t, v = .ref t ∧ Bd B C d) := by
  rcases hd with rfl | hb
  · cases h
    exact .inl ⟨rfl, rfl⟩
  · obtain ⟨bs, ks, rfl, _⟩ := id hb.un
    obtain ⟨t, _, _, _, rfl, _⟩ := dp_nd h
    exact .inr ⟨t, rfl, hb⟩
theorem deepL_mem (ks : List PyData) : deepL ks = 0 ∨ ∃ k ∈ ks, deep k = deepL ks := by
  induction ks with
  | nil => exact .inl (by simp [deepL])
  | cons k r ih =>
    simp only [deepL]
    by_cases h : deepL r ≤ deep k
    · exact .inr ⟨k, List.mem_cons_self, by omega⟩
    · rcases ih with e | ⟨x, hx, e⟩
      · omega
      · exact .inr ⟨x, List.mem_cons_of_mem _ hx, by omega⟩
theorem eqv_same {d : PyData} (h : SeqAt.shaped d = true) : PyData.eqv d d = true := SeqAt.eqv_refl d (SeqAt.canLay_of_shaped h)
end PZ

set_option Elab.async false
set_option linter.all false
set_option maxRecDepth 100000
set_option maxHeartbeats 8000000
/-! Unlike trees have unlike spellings. -/
namespace PZ
open PySem PySem.Spec PyProof.Rows L2 He XH XV XR PEN TR XQ Evl

def cd (z : Str) : List Nat := z.cps.toList
theorem str_ext {a b : Str} (h : cd a = cd b) : a = b := by
  obtain ⟨x⟩ := a
  obtain ⟨y⟩ := b
  have e : x = y := Array.toList_inj.mp h
  rw [e]
theorem app_cd (a b : Str) : cd (a ++ b) = cd a ++ cd b := by
  obtain ⟨x⟩ := a
  obtain ⟨y⟩ := b
  show (x ++ y).toList = _
  simp [cd]
theorem join_cd (a : Str) (ys : List Str) : cd (Txt.join a ys) = TL.joinL (cd a) (ys.map cd) := by
  have z : TL.tl (Txt.join a ys) = TL.joinL (TL.tl a) (ys.map TL.tl) := by
    rw [TL.join_eq, TL.tl_join]
  exact z
def dg (b : Int) : Nat := if b = 0 then 48 else 49
theorem dg_two (b : Int) : dg b = 48 ∨ dg b = 49 := by
  unfold dg
  split
  · exact .inl rfl
  · exact .inr rfl
theorem dg_inj {b b' : Int} (h : b = 0 ∨ b = 1) (h' : b' = 0 ∨ b' = 1) (e : dg b = dg b') : b = b' := by
  rcases h with rfl | rfl <;> rcases h' with rfl | rfl <;> first | rfl | cases e
def dgc (bs : List Int) : List Nat := if bs = [] then [46] else bs.map dg
theorem joinL_ones : ∀ cs : List Nat, TL.joinL [] (cs.map fun c => [c]) = cs
  | [] => rfl
  | [c] => rfl
  | c :: d :: r => by
    show [c] ++ ([] ++ TL.joinL [] ((d :: r).map fun c => [c])) = c :: d :: r
    rw [joinL_ones (d :: r)]
    rfl
theorem digS_cd {bs : List Int} (h : ∀ b ∈ bs, b = 0 ∨ b = 1) : cd (digS bs) = dgc bs := by
  have j : cd (Txt.join ("" : Str) (bs.map istr)) = bs.map dg := by
    rw [join_cd, List.map_map]
    have e : cd ("" : Str) = [] := by decide +kernel
    rw [e]
    have e2 : bs.map (cd ∘ istr) = (bs.map dg).map fun c => [c] := by
      rw [List.map_map]
      refine List.map_congr_left fun b hb => ?_
      rcases h b hb with rfl | rfl <;> decide +kernel
    rw [e2, joinL_ones]
  have l : (Txt.join ("" : Str) (bs.map istr)).length = bs.length := by
    have z : (Txt.join ("" : Str) (bs.map istr)).length = (cd (Txt.join ("" : Str) (bs.map istr))).length := len_codes _
    rw [z, j, List.length_map]
  unfold digS dgc
  cases bs with
  | nil => decide +kernel
  | cons b r =>
    rw [if_neg (by rw [l]; simp), if_neg (by simp)]
    exact j
/-- what may stand behind a node -/
def term (x : List Nat) : Prop := ∀ c r, x = c :: r → c = 44 ∨ c = 41
theorem dgc_head (bs : List Int) : ∃ c r, dgc bs = c :: r ∧ (c = 46 ∨ c = 48 ∨ c = 49) := by
  unfold dgc
  cases bs with
  | nil => exact ⟨46, [], rfl, .inl rfl⟩
  | cons b r =>
    exact ⟨dg b, r.map dg, rfl, .inr (dg_two b)⟩
/-- runs of digits are told from what is behind them -/
theorem runs : ∀ {bs bs' : List Int} {x y : List Nat}, (∀ b ∈ bs, b = 0 ∨ b = 1) → (∀ b ∈ bs', b = 0 ∨ b = 1) → (∀ c r, x = c :: r → c ≠ 48 ∧ c ≠ 49) → (∀ c r, y = c :: r → c ≠ 48 ∧ c ≠ 49) →
    bs.map dg ++ x = bs'.map dg ++ y → bs = bs' ∧ x = y
  | [], [], _, _, _, _, _, _, h => ⟨rfl, h⟩
  | [], b :: r, x, y, _, _, hx, _, h => by
    have z := hx (dg b) _ h
    rcases dg_two b with e | e
    · exact absurd e z.1
    · exact absurd e z.2
  | b :: r, [], x, y, _, _, _, hy, h => by
    have z := hy (dg b) _ h.symm
    rcases dg_two b with e | e
    · exact absurd e z.1
    · exact absurd e z.2
  | b :: r, b' :: r', x, y, h1, h2, hx, hy, h => by
    rw [List.map_cons, List.map_cons, List.cons_append, List.cons_append] at h
    injection h with e1 e2
    obtain ⟨k1, k2⟩ := runs (fun c hc => h1 c (List.mem_cons_of_mem _ hc)) (fun c hc => h2 c (List.mem_cons_of_mem _ hc)) hx hy e2
    refine ⟨?_, k2⟩
    rw [dg_inj (h1 b List.mem_cons_self) (h2 b' List.mem_cons_self) e1, k1]
theorem dgc_app {bs bs' : List Int} {x y : List Nat} (h1 : ∀ b ∈ bs, b = 0 ∨ b = 1) (h2 : ∀ b ∈ bs', b = 0 ∨ b = 1) (hx : ∀ c r, x = c :: r → c ≠ 48 ∧ c ≠ 49) (hy : ∀ c r, y = c :: r → c ≠ 48 ∧ c ≠ 49) (h : dgc bs ++ x = dgc bs' ++ y) : bs = bs' ∧ x = y := by
  unfold dgc at h
  by_cases e : bs = []
  · rw [if_pos e] at h
    by_cases e' : bs' = []
    · rw [if_pos e'] at h
      injection h with _ h
      exact ⟨by rw [e, e'], h⟩
    · rw [if_neg e'] at h
      cases bs' with
      | nil => exact absurd rfl e'
      | cons b r =>
        rw [List.map_cons] at h
        injection h with h _
        rcases dg_two b with e2 | e2 <;> (rw [e2] at h; cases h)
  · rw [if_neg e] at h
    by_cases e' : bs' = []
    · rw [if_pos e'] at h
      cases bs with
      | nil => exact absurd rfl e
      | cons b r =>
        rw [List.map_cons] at h
        injection h with h _
        rcases dg_two b with e2 | e2 <;> (rw [e2] at h; cases h)
    · rw [if_neg e'] at h
      exact runs h1 h2 hx hy h
def rest (ks : List PyData) (x : List Nat) : List Nat := if ks = [] then x else 40 :: (TL.joinL [44] ((spellL ks).map cd) ++ (41 :: x))
theorem spell_cd {B C : Nat} {bs : List Int} {ks : List PyData} (h : Bd B C (nd bs ks)) (x : List Nat) : cd (spell (nd bs ks)) ++ x = dgc bs ++ rest ks x := by
  obtain ⟨_, h01, _, _⟩ := h.nd'
  rw [spell_nd]
  unfold rest
  by_cases e : ks = []
  · rw [if_pos e, if_pos e, digS_cd h01]
  · rw [if_neg e, if_neg e, app_cd, app_cd, app_cd, digS_cd h01, join_cd]
    have c1 : cd ("(" : Str) = [40] := by decide +kernel
    have c2 : cd (")" : Str) = [41] := by decide +kernel
    have c3 : cd ("," : Str) = [44] := by decide +kernel
    rw [c1, c2, c3]
    simp only [List.append_assoc, List.cons_append, List.nil_append]
theorem rest_head {ks : List PyData} {x : List Nat} (hx : term x) : ∀ c r, rest ks x = c :: r → c ≠ 48 ∧ c ≠ 49 := by
  intro c r h
  unfold rest at h
  by_cases e : ks = []
  · rw [if_pos e] at h
    rcases hx c r h with rfl | rfl <;> exact ⟨by decide, by decide⟩
  · rw [if_neg e] at h
    injection h with h _
    subst h
    exact ⟨by decide, by decide⟩
theorem joinL_cons (k : List Nat) (r : List (List Nat)) : TL.joinL [44] (k :: r) = k ++ (if r = [] then [] else 44 :: TL.joinL [44] r) := by
  cases r with
  | nil => simp [TL.joinL]
  | cons a r => rfl
theorem none_cd : cd (spell .none) = [45] := by
  rw [spell_non]
  decide +kernel
mutual
theorem spell_pre {B C B' C' : Nat} : ∀ {d d' : PyData} {x y : List Nat}, Bd B C d → (d' = .none ∨ Bd B' C' d') → term x → term y → cd (spell d) ++ x = cd (spell d') ++ y → d = d' ∧ x = y
  | _, d', x, y, .mk (bs := bs) (ks := ks) e h1 h2 h3 h4, hd', hx, hy, h => by
    subst e
    have hb : Bd B C (nd bs ks) := .mk rfl h1 h2 h3 h4
    rw [spell_cd hb] at h
    rcases hd' with rfl | hb'
    · rw [none_cd] at h
      obtain ⟨c, r, e, hc⟩ := dgc_head bs
      rw [e] at h
      injection h with h _
      subst h
      rcases hc with z | z | z <;> cases z
    · obtain ⟨bs', ks', rfl, l1, l2, l3, l4⟩ := id hb'.un
      rw [spell_cd hb'] at h
      obtain ⟨eb, hq⟩ := dgc_app h2 l2 (rest_head hx) (rest_head hy) h
      subst eb
      replace h := hq
      clear hq
      unfold rest at h
      by_cases e : ks = []
      · rw [if_pos e] at h
        by_cases e' : ks' = []
        · rw [if_pos e'] at h
          exact ⟨by rw [e, e'], h⟩
        · rw [if_neg e'] at h
          rcases hx _ _ h with z | z <;> cases z
      · rw [if_neg e] at h
        by_cases e' : ks' = []
        · rw [if_pos e'] at h
          rcases hy _ _ h.symm with z | z <;> cases z
        · rw [if_neg e'] at h
          injection h with _ h
          obtain ⟨eq, hq⟩ := spellL_pre h4 l4 e e' h
          exact ⟨by rw [eq], hq⟩
theorem spellL_pre {B C B' C' : Nat} : ∀ {ks ks' : List PyData} {x y : List Nat}, BdL B C ks → BdL B' C' ks' → ks ≠ [] → ks' ≠ [] → TL.joinL [44] ((spellL ks).map cd) ++ (41 :: x) = TL.joinL [44] ((spellL ks').map cd) ++ (41 :: y) → ks = ks' ∧ x = y
  | _, _, _, _, .nil, _, n, _, _ => absurd rfl n
  | _, [], _, _, _, _, _, n, _ => absurd rfl n
  | _, k' :: r', x, y, .non (ks := r) hr, hk', _, _, h => by
    have hk2 := hk'.at k' List.mem_cons_self
    have hr' : BdL B' C' r' := BdL.of fun z hz => hk'.at z (List.mem_cons_of_mem _ hz)
    simp only [spellL, List.map_cons, joinL_cons, List.append_assoc] at h
    have key : k' = .none ∧ (if (spellL r).map cd = [] then [] else 44 :: TL.joinL [44] ((spellL r).map cd)) ++ (41 :: x) = (if (spellL r').map cd = [] then [] else 44 :: TL.joinL [44] ((spellL r').map cd)) ++ (41 :: y) := by
      rcases hk2 with rfl | hb'
      · exact ⟨rfl, List.append_cancel_left h⟩
      · obtain ⟨bs', ks', rfl, l1, l2, l3, l4⟩ := id hb'.un
        rw [spell_cd hb', none_cd] at h
        obtain ⟨c, q, e, hc⟩ := dgc_head bs'
        rw [e] at h
        injection h with h _
        subst h
        rcases hc with z | z | z <;> cases z
    obtain ⟨ek, hq⟩ := key
    subst ek
    replace h := hq
    clear hq
    by_cases e : r = []
    · subst e
      by_cases e' : r' = []
      · subst e'
        simp [spellL] at h
        exact ⟨rfl, h⟩
      · have n' : (spellL r').map cd ≠ [] := by
          cases r' with
          | nil => exact absurd rfl e'
          | cons a b => simp [spellL]
        rw [if_neg n'] at h
        simp [spellL] at h
    · have n : (spellL r).map cd ≠ [] := by
        cases r with
        | nil => exact absurd rfl e
        | cons a b => simp [spellL]
      rw [if_neg n] at h
      by_cases e' : r' = []
      · subst e'
        simp [spellL] at h
      · have n' : (spellL r').map cd ≠ [] := by
          cases r' with
          | nil => exact absurd rfl e'
          | cons a b => simp [spellL]
        rw [if_neg n'] at h
        injection h with _ h
        obtain ⟨eq, hq⟩ := spellL_pre hr hr' e e' h
        exact ⟨by rw [eq], hq⟩
  | _, k' :: r', x, y, .one (k := k) (ks := r) hk hr, hk', _, _, h => by
    have hk2 := hk'.at k' List.mem_cons_self
    have hr' : BdL B' C' r' := BdL.of fun z hz => hk'.at z (List.mem_cons_of_mem _ hz)
    simp only [spellL, List.map_cons, joinL_cons, List.append_assoc] at h
    have tm : ∀ (r : List PyData) (x : List Nat), term ((if (spellL r).map cd = [] then [] else 44 :: TL.joinL [44] ((spellL r).map cd)) ++ (41 :: x)) := fun r x c q e => by
      split at e
      · injection e with e _
        exact .inr e.symm
      · injection e with e _
        exact .inl e.symm
    obtain ⟨eb, hq⟩ := spell_pre hk hk2 (tm r x) (tm r' y) h
    subst eb
    replace h := hq
    clear hq
    by_cases e : r = []
    · subst e
      by_cases e' : r' = []
      · subst e'
        simp [spellL] at h
        exact ⟨rfl, h⟩
      · have n' : (spellL r').map cd ≠ [] := by
          cases r' with
          | nil => exact absurd rfl e'
          | cons a b => simp [spellL]
        rw [if_neg n'] at h
        simp [spellL] at h
    · have n : (spellL r).map cd ≠ [] := by
        cases r with
        | nil => exact absurd rfl e
        | cons a b => simp [spellL]
      rw [if_neg n] at h
      by_cases e' : r' = []
      · subst e'
        simp [spellL] at h
      · have n' : (spellL r').map cd ≠ [] := by
          cases r' with
          | nil => exact absurd rfl e'
          | cons a b => simp [spellL]
        rw [if_neg n'] at h
        injection h with _ h
        obtain ⟨eq, hq⟩ := spellL_pre hr hr' e e' h
        exact ⟨by rw [eq], hq⟩
end
theorem spell_inj {B C B' C' : Nat} {d d' : PyData} (h : Bd B C d) (h' : Bd B' C' d') (e : spell d = spell d') : d = d' := by
  refine (spell_pre (x := []) (y := []) h (.inr h') (fun c r z => nomatch z) (fun c r z => nomatch z) ?_).1
  rw [e]
theorem eqv_nums : ∀ {bs bs' : List Int}, PyData.eqvAll (bs.map PyData.int) (bs'.map PyData.int) = true → bs = bs'
  | [], [], _ => rfl
  | [], _ :: _, h => by cases h
  | _ :: _, [], h => by cases h
  | b :: r, b' :: r', h => by
    rw [List.map_cons, List.map_cons] at h
    have h2 : ((b == b') && PyData.eqvAll (r.map PyData.int) (r'.map PyData.int)) = true := h
    rw [Bool.and_eq_true] at h2
    rw [beq_iff_eq.mp h2.1, eqv_nums h2.2]
mutual
theorem eqv_bd {B C B' C' : Nat} : ∀ {d d' : PyData}, Bd B C d → (d' = .none ∨ Bd B' C' d') → PyData.eqv d d' = true → d = d'
  | _, d', .mk (bs := bs) (ks := ks) e h1 h2 h3 h4, hd', h => by
    subst e
    rcases hd' with rfl | hb'
    · cases h
    · obtain ⟨bs', ks', rfl, l1, l2, l3, l4⟩ := id hb'.un
      have h5 : (PyData.eqvAll (bs.map PyData.int) (bs'.map PyData.int) && (PyData.eqvAll ks ks' && true)) = true := h
      rw [Bool.and_eq_true, Bool.and_true] at h5
      rw [eqv_nums h5.1, eqv_bdL h4 l4 h5.2]
theorem eqv_bdL {B C B' C' : Nat} : ∀ {ks ks' : List PyData}, BdL B C ks → BdL B' C' ks' → PyData.eqvAll ks ks' = true → ks = ks'
  | _, [], .nil, _, _ => rfl
  | _, _ :: _, .nil, _, h => by cases h
  | _, [], .non _, _, h => by cases h
  | _, [], .one _ _, _, h => by cases h
  | _, k' :: r', .non (ks := r) hr, hk', h => by
    have hr' : BdL B' C' r' := BdL.of fun z hz => hk'.at z (List.mem_cons_of_mem _ hz)
    have h2 : (PyData.eqv .none k' && PyData.eqvAll r r') = true := h
    rw [Bool.and_eq_true] at h2
    have e : k' = .none := by
      rcases hk'.at k' List.mem_cons_self with e | hb
      · exact e
      · obtain ⟨bs', ks', rfl, _⟩ := hb.un
        have := h2.1
        cases this
    rw [e, eqv_bdL hr hr' h2.2]
  | _, k' :: r', .one (k := k) (ks := r) hk hr, hk', h => by
    have hr' : BdL B' C' r' := BdL.of fun z hz => hk'.at z (List.mem_cons_of_mem _ hz)
    have h2 : (PyData.eqv k k' && PyData.eqvAll r r') = true := h
    rw [Bool.and_eq_true] at h2
    rw [eqv_bd hk (hk'.at k' List.mem_cons_self) h2.1, eqv_bdL hr hr' h2.2]
end
/-- == of trees and == of their spellings -/
theorem eq_both {B C B' C' : Nat} {d d' : PyData} (h : Bd B C d) (h' : Bd B' C' d') (hl : deep d ≤ 31) : PyData.eqv d d' = decide (V.str (spell d') = V.str (spell d)) := by
  by_cases e : d = d'
  · subst e
    rw [decide_eq_true rfl]
    exact eqv_same (shp_bd h hl)
  · rw [decide_eq_false fun z => e (spell_inj h h' (by injection z with z; exact z.symm))]
    cases q : PyData.eqv d d' with
    | false => rfl
    | true => exact absurd (eqv_bd h (.inr h') q) e
theorem keepN_rep {α : Type} {p : α → Bool} {x : α} (hx : p x = true) (l : List α) : ∀ n : Nat, keepN p (l ++ List.replicate n x) = keepN p l
  | 0 => by simp
  | n + 1 => by
    rw [List.replicate_succ', ← List.append_assoc, keepN_app, if_pos hx]
    exact keepN_rep hx l n
theorem short_rep {α : Type} {p : α → Bool} {x : α} (hx : p x = true) (l : List α) (n : Nat) : short p (l ++ List.replicate n x) = short p l := by
  unfold short
  rw [keepN_rep hx, List.take_append_of_le_length (keepN_le p l)]
/-! ### data made on the way -/
def rCat2 (K : PySem.W.Frag) : R2 := fun x y H Q => (∃ a b ys, x = .ref a ∧ y = .ref b ∧ SqT K H a [] ∧ SqT K H b ys ∧ Q (.ref b) H) ∨ rCatT K x y H Q
theorem op_cat2 {X : Cx} : OpR X (binaryOp .Add) (rCat2 X.K) := op_or op_catT0 op_catT
def EvD (K : PySem.W.Frag) (te : TE) (σ : L2.St) (H : Hp) (d : PyData) : Prop := ∀ H1, Ex H H1 → ∀ Q : VK, (∀ v H2, Ex H1 H2 → Dp K H2 v d → Q v H2) → te σ H1 Q
def EvDs (K : PySem.W.Frag) (ta : TA) (σ : L2.St) (H : Hp) (ds : List PyData) : Prop := ∀ H1, Ex H H1 → ∀ Q : List V → Hp → Prop, (∀ vs H2, Ex H1 H2 → DpAll K H2 vs ds → Q vs H2) → ta σ H1 Q
section
variable {K : PySem.W.Frag} {σ : L2.St} {H : Hp} {te ta tb ti : TE} {d : PyData} {ds xs ys : List PyData}
theorem ed_of {v : V} (h : Ev te σ H v) (hd : Dp K H v d) : EvD K te σ H d := fun H1 e Q q => h H1 e Q fun H2 e2 => q v H2 e2 (dpM (e.trans e2) _ _ hd)
theorem ed_var {i : Nat} {v : V} (h : σ[i]? = some (some v)) (hd : Dp K H v d) : EvD K (tVar i) σ H d := ed_of (ev_var h) hd
theorem ed_non : EvD K (tC .non) σ H .none := ed_of ev_c .non
theorem ed_int {i : Int} : EvD K (tC (.int i)) σ H (.int i) := ed_of ev_c (.int i)
theorem ed_str {z : Str} : EvD K (tC (.str z)) σ H (.str z) := ed_of ev_c (.str z)
theorem eds_nil : EvDs K tNil σ H [] := fun H1 e Q q => q [] H1 (Ex.refl _) .nil
theorem eds_cons {tr : TA} (h : EvD K te σ H d) (hr : EvDs K tr σ H ds) : EvDs K (tCons te tr) σ H (d :: ds) := fun H1 e Q q =>
  h H1 e _ fun v H2 e2 dv => hr H2 (e.trans e2) _ fun vs H3 e3 dvs => q (v :: vs) H3 (e2.trans e3) (.cons (dpM e3 _ _ dv) dvs)
theorem ed_tup {tt : TA} (h : EvDs K tt σ H ds) (hl : ds.length ≤ 1000) : EvD K (tTup tt) σ H (.tuple ds) := fun H1 e Q q =>
  h H1 e _ fun vs H2 e2 dvs => ⟨fits (by rw [dpAll_len dvs]; exact hl), fun p hp => q (.ref p) _ (e2.trans (Ex.new hp)) (.tup (st_of upd_same) (dpMs (Ex.new hp) _ _ dvs))⟩
theorem ed_cat (h1 : EvD K ta σ H (.tuple xs)) (h2 : EvD K tb σ H (.tuple ys)) (hl : xs.length + ys.length ≤ 1000) : EvD K (tOp (rCat2 K) ta tb) σ H (.tuple (xs ++ ys)) := fun H1 e Q q =>
  h1 H1 e _ fun v H2 e2 dv => h2 H2 (e.trans e2) _ fun u H3 e3 du => by
    cases dv with
    | @tup a vs _ ha hvs =>
      cases du with
      | @tup b us _ hb hus =>
        have lv := dpAll_len hvs
        have lu := dpAll_len hus
        have ha3 := ex_t e3 ha
        have hvs3 := dpMs e3 _ _ hvs
        cases vs with
        | nil =>
          cases xs with
          | nil => exact .inl ⟨a, b, us, rfl, rfl, ha3, hb, q (.ref b) H3 (e2.trans e3) (.tup hb hus)⟩
          | cons x r => cases lv
        | cons v r =>
          refine .inr ⟨a, b, v :: r, us, rfl, rfl, ha3, hb, (fun z => nomatch z), fits (by omega), (fun z => ?_), fun _ p hp => q (.ref p) _ ((e2.trans e3).trans (Ex.new hp)) (.tup (st_of upd_same) (dpMs (Ex.new hp) _ _ (dpAll_app hvs3 hus)))⟩
          subst z
          have e0 : ys = [] := by
            cases ys with
            | nil => rfl
            | cons y s => cases lu
          refine q (.ref a) H3 (e2.trans e3) ?_
          rw [e0, List.append_nil]
          exact .tup ha3 hvs3
theorem ed_take {i : Nat} (h1 : EvD K ta σ H (.tuple xs)) (h2 : Ev ti σ H (.int (i : Nat))) : EvD K (tSl (rSlA K) ta tNoPart (tPart ti)) σ H (.tuple (xs.take i)) := fun H1 e Q q =>
  h1 H1 e _ fun v H2 e2 dv => h2 H2 (e.trans e2) _ fun H3 e3 => ⟨(i : Nat), rfl, by
    cases dv with
    | @tup a vs _ ha hvs =>
      have lv := dpAll_len hvs
      have ha3 := ex_t e3 ha
      have hvs3 := dpMs e3 _ _ hvs
      refine ⟨a, vs, rfl, ha3, fun hw => ?_, fun hw r hr => ?_⟩
      · have w2 := hw.2
        rw [HT.sIx_nat] at w2
        refine q (.ref a) H3 (e2.trans e3) ?_
        rw [take_all (show xs.length ≤ i by omega)]
        exact .tup ha3 hvs3
      · refine q (.ref r) _ ((e2.trans e3).trans (Ex.new hr)) ?_
        refine .tup (st_of (by rw [upd_same, cut_take])) (dps_take _ (dpMs (Ex.new hr) _ _ hvs3))⟩
theorem dps_drop {K : PySem.W.Frag} {H : Hp} : ∀ {vs : List V} {ds : List PyData} (n : Nat), DpAll K H vs ds → DpAll K H (vs.drop n) (ds.drop n)
  | _, _, 0, h => h
  | _, _, n + 1, .nil => .nil
  | _, _, n + 1, .cons h r => dps_drop n r
theorem ed_drop {i : Nat} (h1 : EvD K ta σ H (.tuple xs)) (h2 : Ev ti σ H (.int (i : Nat))) : EvD K (tSl (rSlA K) ta (tPart ti) tNoPart) σ H (.tuple (xs.drop i)) := fun H1 e Q q =>
  h1 H1 e _ fun v H2 e2 dv => h2 H2 (e.trans e2) _ fun H3 e3 => ⟨(i : Nat), rfl, by
    cases dv with
    | @tup a vs _ ha hvs =>
      have lv := dpAll_len hvs
      have ha3 := ex_t e3 ha
      have hvs3 := dpMs e3 _ _ hvs
      refine ⟨a, vs, rfl, ha3, fun hw => ?_, fun hw r hr => ?_⟩
      · have w1 := hw.1
        rw [HT.sIx_nat] at w1
        refine q (.ref a) H3 (e2.trans e3) ?_
        have e0 : xs.drop i = xs := by
          rcases Nat.eq_zero_or_pos i with z | z
          · rw [z]
            rfl
          · have : xs.length = 0 := by omega
            rw [List.length_eq_zero_iff.mp this]
            simp
        rw [e0]
        exact .tup ha3 hvs3
      · refine q (.ref r) _ ((e2.trans e3).trans (Ex.new hr)) ?_
        refine .tup (st_of (by rw [upd_same, cut_drop])) (dps_drop _ (dpMs (Ex.new hr) _ _ hvs3))⟩
theorem ed_ix {i : Nat} (h1 : EvD K ta σ H (.tuple xs)) (h2 : Ev ti σ H (.int (i : Nat))) (hi : xs[i]? = some d) : EvD K (tOp (rIxT K) ta ti) σ H d := fun H1 e Q q =>
  h1 H1 e _ fun v H2 e2 dv => h2 H2 (e.trans e2) _ fun H3 e3 => by
    cases dv with
    | @tup a vs _ ha hvs =>
      have lv := dpAll_len hvs
      have h0 := (List.getElem?_eq_some_iff.mp hi).1
      have hx : vs[i]? = some (vs[i]'(by omega)) := List.getElem?_eq_getElem _
      obtain ⟨d', h3, h4⟩ := dpAll_at hvs hx
      rw [hi] at h3
      cases h3
      exact ⟨a, vs, (i : Nat), _, rfl, rfl, ex_t e3 ha, atI_nat hx, q _ H3 (e2.trans e3) (dpM e3 _ _ h4)⟩
theorem EvD.mono {H' : Hp} (e : Ex H H') (h : EvD K te σ H d) : EvD K te σ H' d := fun H1 a Q q => h H1 (e.trans a) Q q
theorem s_retD {D : Ends} (h : EvD K te σ H d) (k : ∀ v H1, Ex H H1 → Dp K H1 v d → D.rt v H1) : tRet te D σ H := h H (Ex.refl H) D.rt k
theorem q_asgED {D : Ends} {tz : TS} {i : Nat} (h : EvD K te σ H d) (k : ∀ v H1, Ex H H1 → Dp K H1 v d → tz D (σ.set i (some v)) H1) : tSeq (tAsg te (gName i)) tz D σ H := h H (Ex.refl H) _ k
/-- == and != of data -/
theorem ev_neD {e : PyData} (h1 : EvD K ta σ H d) (h2 : EvD K tb σ H e) (sd : SeqAt.shaped d = true) (se : SeqAt.shaped e = true) : Ev (tOp (rNeD K) ta tb) σ H (.bl (!PyData.eqv d e)) := fun H1 a Q q =>
  h1 H1 a _ fun v H2 e2 dv => h2 H2 (a.trans e2) _ fun u H3 e3 du => ⟨d, e, dpM e3 _ _ dv, du, sd, se, q H3 (e2.trans e3)⟩
theorem ev_eqD {e : PyData} (h1 : EvD K ta σ H d) (h2 : EvD K tb σ H e) (sd : SeqAt.shaped d = true) (se : SeqAt.shaped e = true) : Ev (tOp (rEqD K) ta tb) σ H (.bl (PyData.eqv d e)) := fun H1 a Q q =>
  h1 H1 a _ fun v H2 e2 dv => h2 H2 (a.trans e2) _ fun u H3 e3 du => ⟨d, e, dpM e3 _ _ dv, du, sd, se, q H3 (e2.trans e3)⟩
theorem ed_call {sp : Sp} {ta : TA} {vs : List V} (h : EvA ta σ H vs) (hs : ∀ H1, Ex H H1 → ∀ Q : VK, (∀ v H2, Ex H1 H2 → Dp K H2 v d → Q v H2) → sp (vs ++ []) H1 Q E0) : EvD K (tCall sp [] E0 ta) σ H d := fun H1 e Q q =>
  h H1 e _ fun H2 e2 => hs H2 (e.trans e2) Q fun v H3 e3 dv => q v H3 (e2.trans e3) dv
theorem ed_if {t : TT} {b : Bool} (h : EvT t σ H b) (h1 : b = true → EvD K ta σ H d) (h2 : b = false → EvD K tb σ H d) : EvD K (tIf t ta tb) σ H d := fun H1 e Q q => h H1 e _ fun H2 e2 => by
  cases b with
  | true =>
    show ta σ H2 Q
    exact h1 rfl H2 (e.trans e2) Q fun v H3 e3 dv => q v H3 (e2.trans e3) dv
  | false =>
    show tb σ H2 Q
    exact h2 rfl H2 (e.trans e2) Q fun v H3 e3 dv => q v H3 (e2.trans e3) dv
end
end PZ

set_option Elab.async false
set_option linter.all false
set_option maxRecDepth 100000
set_option maxHeartbeats 8000000

namespace K06
open PySem PySem.Spec PyProof.Rows L2 He XH XV XR PEN TR Evl
def top (i : Nat) : Stmt := PySem.Challenge.pw_tryback_k06_whole_texts_refused.main.body.getD i (.Pass ⟨0, 0, 0, 0⟩)
abbrev s_wall : Stmt := top 0
theorem sc_wall : FnScope ["k"] ["k"] (defScope s_wall) := ⟨rfl, rfl, rfl, by decide +kernel, rfl, by decide +kernel, by decide +kernel⟩
abbrev s_BadCode_init : Stmt := inClass (top 3) 0
theorem sc_BadCode_init : FnScope ["self", "function", "number"] ["self", "function", "number"] (defScope s_BadCode_init) := ⟨rfl, rfl, rfl, by decide +kernel, rfl, by decide +kernel, by decide +kernel⟩
abbrev s_BadText_init : Stmt := inClass (top 4) 0
theorem sc_BadText_init : FnScope ["self", "line"] ["self", "line"] (defScope s_BadText_init) := ⟨rfl, rfl, rfl, by decide +kernel, rfl, by decide +kernel, by decide +kernel⟩
abbrev s_Function_init : Stmt := inClass (top 18) 0
theorem sc_Function_init : FnScope ["self", "name", "body"] ["self", "name", "body"] (defScope s_Function_init) := ⟨rfl, rfl, rfl, by decide +kernel, rfl, by decide +kernel, by decide +kernel⟩
abbrev s_Function___eq__ : Stmt := inClass (top 18) 1
theorem sc_Function___eq__ : FnScope ["self", "other"] ["self", "other"] (defScope s_Function___eq__) := ⟨rfl, rfl, rfl, by decide +kernel, rfl, by decide +kernel, by decide +kernel⟩
abbrev s_Code_init : Stmt := inClass (top 19) 0
theorem sc_Code_init : FnScope ["self", "cells", "rows", "functions", "start", "names", "function"] ["self", "cells", "rows", "functions", "start"] (defScope s_Code_init) := ⟨rfl, rfl, rfl, by decide +kernel, rfl, by decide +kernel, by decide +kernel⟩
abbrev s_Code_named : Stmt := inClass (top 19) 1
theorem sc_Code_named : FnScope ["self", "name"] ["self", "name"] (defScope s_Code_named) := ⟨rfl, rfl, rfl, by decide +kernel, rfl, by decide +kernel, by decide +kernel⟩
abbrev s_Code___eq__ : Stmt := inClass (top 19) 2
theorem sc_Code___eq__ : FnScope ["self", "other"] ["self", "other"] (defScope s_Code___eq__) := ⟨rfl, rfl, rfl, by decide +kernel, rfl, by decide +kernel, by decide +kernel⟩
abbrev s_frozen : Stmt := top 20
theorem sc_frozen : FnScope ["thing", "entry"] ["thing"] (defScope s_frozen) := ⟨rfl, rfl, rfl, by decide +kernel, rfl, by decide +kernel, by decide +kernel⟩
abbrev s_is_name : Stmt := top 21
theorem sc_is_name : FnScope ["word", "letter"] ["word"] (defScope s_is_name) := ⟨rfl, rfl, rfl, by decide +kernel, rfl, by decide +kernel, by decide +kernel⟩
abbrev s_kinds_of : Stmt := top 22
theorem sc_kinds_of : FnScope ["statement"] ["statement"] (defScope s_kinds_of) := ⟨rfl, rfl, rfl, by decide +kernel, rfl, by decide +kernel, by decide +kernel⟩
abbrev s_parts_of : Stmt := top 23
theorem sc_parts_of : FnScope ["statement", "kinds", "entry", "kind"] ["statement"] (defScope s_parts_of) := ⟨rfl, rfl, rfl, by decide +kernel, rfl, by decide +kernel, by decide +kernel⟩
abbrev s_numbered : Stmt := top 24
theorem sc_numbered : FnScope ["body", "around", "found", "statement", "number", "part"] ["body", "around"] (defScope s_numbered) := ⟨rfl, rfl, rfl, by decide +kernel, rfl, by decide +kernel, by decide +kernel⟩
abbrev s_check_bounds : Stmt := top 25
theorem sc_check_bounds : FnScope ["code"] ["code"] (defScope s_check_bounds) := ⟨rfl, rfl, rfl, by decide +kernel, rfl, by decide +kernel, by decide +kernel⟩
abbrev s_check_names : Stmt := top 26
theorem sc_check_names : FnScope ["code", "called", "seen", "name", "function"] ["code"] (defScope s_check_names) := ⟨rfl, rfl, rfl, by decide +kernel, rfl, by decide +kernel, by decide +kernel⟩
abbrev s_names_by_kind : Stmt := top 27
theorem sc_names_by_kind : FnScope ["code", "called", "function"] ["code"] (defScope s_names_by_kind) := ⟨rfl, rfl, rfl, by decide +kernel, rfl, by decide +kernel, by decide +kernel⟩
abbrev s_check_body : Stmt := top 28
theorem sc_check_body : FnScope ["function", "names", "number", "statement", "around"] ["function", "names"] (defScope s_check_body) := ⟨rfl, rfl, rfl, by decide +kernel, rfl, by decide +kernel, by decide +kernel⟩
abbrev s_well_formed : Stmt := top 29
theorem sc_well_formed : FnScope ["statement", "names", "kinds", "entry", "kind"] ["statement", "names"] (defScope s_well_formed) := ⟨rfl, rfl, rfl, by decide +kernel, rfl, by decide +kernel, by decide +kernel⟩
abbrev s_fits : Stmt := top 30
theorem sc_fits : FnScope ["entry", "kind", "names"] ["entry", "kind", "names"] (defScope s_fits) := ⟨rfl, rfl, rfl, by decide +kernel, rfl, by decide +kernel, by decide +kernel⟩
abbrev s_misplaced : Stmt := top 31
theorem sc_misplaced : FnScope ["word", "around", "block"] ["word", "around"] (defScope s_misplaced) := ⟨rfl, rfl, rfl, by decide +kernel, rfl, by decide +kernel, by decide +kernel⟩
abbrev s_written : Stmt := top 36
theorem sc_written : FnScope ["code", "lines", "function"] ["code"] (defScope s_written) := ⟨rfl, rfl, rfl, by decide +kernel, rfl, by decide +kernel, by decide +kernel⟩
abbrev s_heading : Stmt := top 37
theorem sc_heading : FnScope ["word", "names"] ["word", "names"] (defScope s_heading) := ⟨rfl, rfl, rfl, by decide +kernel, rfl, by decide +kernel, by decide +kernel⟩
abbrev s_part_lines : Stmt := top 38
theorem sc_part_lines : FnScope ["part", "margin", "lines", "statement"] ["part", "margin"] (defScope s_part_lines) := ⟨rfl, rfl, rfl, by decide +kernel, rfl, by decide +kernel, by decide +kernel⟩
abbrev s_statement_lines : Stmt := top 39
theorem sc_statement_lines : FnScope ["statement", "margin", "word", "parts", "names", "first", "lines", "number", "part"] ["statement", "margin"] (defScope s_statement_lines) := ⟨rfl, rfl, rfl, by decide +kernel, rfl, by decide +kernel, by decide +kernel⟩
abbrev s_read_code : Stmt := top 40
theorem sc_read_code : FnScope ["text", "lines", "cells", "rows", "start", "functions", "at", "name", "body"] ["text"] (defScope s_read_code) := ⟨rfl, rfl, rfl, by decide +kernel, rfl, by decide +kernel, by decide +kernel⟩
abbrev s_line_at : Stmt := top 41
theorem sc_line_at : FnScope ["lines", "at"] ["lines", "at"] (defScope s_line_at) := ⟨rfl, rfl, rfl, by decide +kernel, rfl, by decide +kernel, by decide +kernel⟩
abbrev s_read_heading : Stmt := top 42
theorem sc_read_heading : FnScope ["lines", "at", "word", "first", "names", "name"] ["lines", "at", "word"] (defScope s_read_heading) := ⟨rfl, rfl, rfl, by decide +kernel, rfl, by decide +kernel, by decide +kernel⟩
abbrev s_read_name : Stmt := top 43
theorem sc_read_name : FnScope ["lines", "at", "line"] ["lines", "at"] (defScope s_read_name) := ⟨rfl, rfl, rfl, by decide +kernel, rfl, by decide +kernel, by decide +kernel⟩
abbrev s_read_part : Stmt := top 44
theorem sc_read_part : FnScope ["lines", "at", "margin", "part", "head", "parts"] ["lines", "at", "margin"] (defScope s_read_part) := ⟨rfl, rfl, rfl, by decide +kernel, rfl, by decide +kernel, by decide +kernel⟩
abbrev s_read_parts : Stmt := top 45
theorem sc_read_parts : FnScope ["lines", "at", "margin", "word", "parts", "number", "part"] ["lines", "at", "margin", "word"] (defScope s_read_parts) := ⟨rfl, rfl, rfl, by decide +kernel, rfl, by decide +kernel, by decide +kernel⟩
abbrev s_read_head : Stmt := top 46
theorem sc_read_head : FnScope ["line", "margin", "first", "rest", "word", "kinds", "kind", "entry"] ["line", "margin"] (defScope s_read_head) := ⟨rfl, rfl, rfl, by decide +kernel, rfl, by decide +kernel, by decide +kernel⟩
abbrev s_word_of : Stmt := top 47
theorem sc_word_of : FnScope ["first"] ["first"] (defScope s_word_of) := ⟨rfl, rfl, rfl, by decide +kernel, rfl, by decide +kernel, by decide +kernel⟩
abbrev s_reads_as : Stmt := top 48
theorem sc_reads_as : FnScope ["entry", "kind"] ["entry", "kind"] (defScope s_reads_as) := ⟨rfl, rfl, rfl, by decide +kernel, rfl, by decide +kernel, by decide +kernel⟩
abbrev s_law_draw : Stmt := top 50
theorem sc_law_draw : FnScope ["_law_pen", "_law_many", "_law_spot", "_law_at", "_law_cell", "_law_mixed"] ["_law_pen", "_law_many"] (defScope s_law_draw) := ⟨rfl, rfl, rfl, by decide +kernel, rfl, by decide +kernel, by decide +kernel⟩
abbrev s_law_pick : Stmt := top 51
theorem sc_law_pick : FnScope ["_law_pen", "_law_row"] ["_law_pen", "_law_row"] (defScope s_law_pick) := ⟨rfl, rfl, rfl, by decide +kernel, rfl, by decide +kernel, by decide +kernel⟩
abbrev s_law_word : Stmt := top 52
theorem sc_law_word : FnScope ["_law_pen", "_law_most", "_law_letters", "_law_k"] ["_law_pen", "_law_most"] (defScope s_law_word) := ⟨rfl, rfl, rfl, by decide +kernel, rfl, by decide +kernel, by decide +kernel⟩
abbrev s_law_names : Stmt := top 53
theorem sc_law_names : FnScope ["_law_pen", "_law_many", "_law_found", "_law_k", "_law_name_here", "_law_spare", "_law_word_here", "_law_n"] ["_law_pen", "_law_many"] (defScope s_law_names) := ⟨rfl, rfl, rfl, by decide +kernel, rfl, by decide +kernel, by decide +kernel⟩
abbrev s_law_count : Stmt := top 54
theorem sc_law_count : FnScope ["_law_body", "_law_total", "_law_statement", "_law_part_here"] ["_law_body"] (defScope s_law_count) := ⟨rfl, rfl, rfl, by decide +kernel, rfl, by decide +kernel, by decide +kernel⟩
abbrev s_law_deeds : Stmt := top 55
theorem sc_law_deeds : FnScope ["_law_plan_here", "_law_found", "_law_cell", "_law_row"] ["_law_plan_here"] (defScope s_law_deeds) := ⟨rfl, rfl, rfl, by decide +kernel, rfl, by decide +kernel, by decide +kernel⟩
abbrev s_law_simple : Stmt := top 56
theorem sc_law_simple : FnScope ["_law_pen", "_law_plan_here", "_law_looping", "_law_deeds_here", "_law_kind_here", "_law_rare"] ["_law_pen", "_law_plan_here", "_law_looping"] (defScope s_law_simple) := ⟨rfl, rfl, rfl, by decide +kernel, rfl, by decide +kernel, by decide +kernel⟩
abbrev s_law_block : Stmt := top 57
theorem sc_law_block : FnScope ["_law_pen", "_law_plan_here", "_law_left", "_law_looping", "_law_deep", "_law_word_here", "_law_one", "_law_rest", "_law_deeds_here", "_law_many", "_law_two", "_law_k"] ["_law_pen", "_law_plan_here", "_law_left", "_law_looping", "_law_deep"] (defScope s_law_block) := ⟨rfl, rfl, rfl, by decide +kernel, rfl, by decide +kernel, by decide +kernel⟩
abbrev s_law_part : Stmt := top 58
theorem sc_law_part : FnScope ["_law_pen", "_law_plan_here", "_law_room", "_law_looping", "_law_deep", "_law_body", "_law_left", "_law_k", "_law_statement"] ["_law_pen", "_law_plan_here", "_law_room", "_law_looping", "_law_deep"] (defScope s_law_part) := ⟨rfl, rfl, rfl, by decide +kernel, rfl, by decide +kernel, by decide +kernel⟩
abbrev s_law_plan : Stmt := top 59
theorem sc_law_plan : FnScope ["_law_pen", "_law_cells", "_law_rows", "_law_many", "_law_room", "_law_names_here", "_law_plan_here", "_law_name_here"] ["_law_pen", "_law_cells", "_law_rows", "_law_many", "_law_room"] (defScope s_law_plan) := ⟨rfl, rfl, rfl, by decide +kernel, rfl, by decide +kernel, by decide +kernel⟩
abbrev s_law_drawn : Stmt := top 60
theorem sc_law_drawn : FnScope ["_law_pen", "_law_room"] ["_law_pen", "_law_room"] (defScope s_law_drawn) := ⟨rfl, rfl, rfl, by decide +kernel, rfl, by decide +kernel, by decide +kernel⟩
abbrev s_law_code : Stmt := top 61
theorem sc_law_code : FnScope ["_law_plan_here", "_law_functions", "_law_name_here"] ["_law_plan_here"] (defScope s_law_code) := ⟨rfl, rfl, rfl, by decide +kernel, rfl, by decide +kernel, by decide +kernel⟩
abbrev s_law_lines : Stmt := top 62
theorem sc_law_lines : FnScope ["_law_body", "_law_wide", "_law_seconds", "_law_found", "_law_statement", "_law_word_here", "_law_parts", "_law_plain", "_law_head", "_law_k", "_law_part_here"] ["_law_body", "_law_wide"] (defScope s_law_lines) := ⟨rfl, rfl, rfl, by decide +kernel, rfl, by decide +kernel, by decide +kernel⟩
abbrev s_law_text : Stmt := top 63
theorem sc_law_text : FnScope ["_law_plan_here", "_law_found", "_law_name_here"] ["_law_plan_here"] (defScope s_law_text) := ⟨rfl, rfl, rfl, by decide +kernel, rfl, by decide +kernel, by decide +kernel⟩
abbrev s_law_name : Stmt := top 64
theorem sc_law_name : FnScope ["_law_word_here", "_law_letters", "_law_sign"] ["_law_word_here"] (defScope s_law_name) := ⟨rfl, rfl, rfl, by decide +kernel, rfl, by decide +kernel, by decide +kernel⟩
abbrev s_law_kind : Stmt := top 65
theorem sc_law_kind : FnScope ["_law_text_here", "_law_words", "_law_head", "_law_seconds"] ["_law_text_here"] (defScope s_law_kind) := ⟨rfl, rfl, rfl, by decide +kernel, rfl, by decide +kernel, by decide +kernel⟩
abbrev s_law_heads : Stmt := top 66
theorem sc_law_heads : FnScope ["_law_lines_here", "_law_heads_here", "_law_k", "_law_words", "_law_word_here"] ["_law_lines_here"] (defScope s_law_heads) := ⟨rfl, rfl, rfl, by decide +kernel, rfl, by decide +kernel, by decide +kernel⟩
abbrev s_law_closed : Stmt := top 67
theorem sc_law_closed : FnScope ["_law_stack", "_law_wide", "_law_text_here", "_law_k"] ["_law_stack", "_law_wide", "_law_text_here"] (defScope s_law_closed) := ⟨rfl, rfl, rfl, by decide +kernel, rfl, by decide +kernel, by decide +kernel⟩
abbrev s_law_wrong : Stmt := top 68
theorem sc_law_wrong : FnScope ["_law_lines_here", "_law_told_here", "_law_stack", "_law_inside", "_law_at", "_law_wide", "_law_text_here", "_law_state", "_law_due", "_law_kind_here", "_law_one"] ["_law_lines_here"] (defScope s_law_wrong) := ⟨rfl, rfl, rfl, by decide +kernel, rfl, by decide +kernel, by decide +kernel⟩
abbrev s_law_line : Stmt := top 69
theorem sc_law_line : FnScope ["_law_pen", "_law_line_here", "_law_kind_here", "_law_junk", "_law_wide"] ["_law_pen", "_law_line_here"] (defScope s_law_line) := ⟨rfl, rfl, rfl, by decide +kernel, rfl, by decide +kernel, by decide +kernel⟩
abbrev s_law_spoilt : Stmt := top 70
theorem sc_law_spoilt : FnScope ["_law_pen", "_law_lines_here", "_law_at", "_law_kind_here"] ["_law_pen", "_law_lines_here"] (defScope s_law_spoilt) := ⟨rfl, rfl, rfl, by decide +kernel, rfl, by decide +kernel, by decide +kernel⟩
abbrev s_law_told : Stmt := top 71
theorem sc_law_told : FnScope ["_law_text_here", "_law_code_here", "_law_told_here", "e"] ["_law_text_here"] (defScope s_law_told) := ⟨rfl, rfl, rfl, by decide +kernel, rfl, by decide +kernel, by decide +kernel⟩
abbrev s_law : Stmt := top 72
theorem sc_law : FnScope ["_law_script", "_law_pen", "_law_turn", "_law_lines_here", "_law_k", "_law_text_here", "_law_told_here", "_law_due"] ["_law_script"] (defScope s_law) := ⟨rfl, rfl, rfl, by decide +kernel, rfl, by decide +kernel, by decide +kernel⟩
abbrev FnP (K : PySem.W.Frag) (x qn : Str) (st : Stmt) (f : Addr) (fd : FuncData) : Prop := FunD K x qn (defArgs st) (defBody st) (defScope st) [] [] f fd
def globs : List Str := [("BadCode" : Str), ("BadText" : Str), ("CHANGE_WORDS" : Str), ("Code" : Str), ("ENTRIES" : Str), ("FIXED_WORDS" : Str), ("Function" : Str), ("ROUND_WORDS" : Str), ("SECOND_WORDS" : Str), ("TooGreat" : Str), ("TryError" : Str), ("_law_block" : Str), ("_law_closed" : Str), ("_law_code" : Str), ("_law_count" : Str), ("_law_deeds" : Str), ("_law_draw" : Str), ("_law_drawn" : Str), ("_law_heads" : Str), ("_law_kind" : Str), ("_law_line" : Str), ("_law_lines" : Str), ("_law_name" : Str), ("_law_names" : Str), ("_law_part" : Str), ("_law_pick" : Str), ("_law_plan" : Str), ("_law_simple" : Str), ("_law_spoilt" : Str), ("_law_text" : Str), ("_law_told" : Str), ("_law_word" : Str), ("_law_wrong" : Str), ("_wall" : Str), ("check_body" : Str), ("check_bounds" : Str), ("check_names" : Str), ("fits" : Str), ("frozen" : Str), ("heading" : Str), ("is_name" : Str), ("kinds_of" : Str), ("law" : Str), ("line_at" : Str), ("misplaced" : Str), ("names_by_kind" : Str), ("numbered" : Str), ("part_lines" : Str), ("parts_of" : Str), ("read_code" : Str), ("read_head" : Str), ("read_heading" : Str), ("read_name" : Str), ("read_part" : Str), ("read_parts" : Str), ("reads_as" : Str), ("statement_lines" : Str), ("well_formed" : Str), ("word_of" : Str), ("written" : Str)]
def frees : List Str := ["range", "len", "int", "str", "list", "tuple", "isinstance", "all", "sum", "zip", "enumerate", "min"]
def Cl (P : Program) (w : World) (K : PySem.W.Frag) (mg : Str → Option Value) (base : Heap) (CX : CXT) (k : Nat) (f : Addr) (ps : List Str) (sp : Sp) : Prop := ∃ fd, FnOk P w K mg base CX k f fd ps sp ∧ Binds K fd ps [] ∧ PySem.W.keepIn K (.ref f) = true
structure Txt (K : PySem.W.Frag) (w : World) (mg : Str → Option Value) : Prop where
  gl : ∀ x ∈ globs, mg x = some (.ref (ga K x))
  fr : ∀ x ∈ frees, mg x = none
  c_MOST_CELLS : ∃ t, mg "MOST_CELLS" = some (.int 3 t)
  c_MOST_ROWS : ∃ t, mg "MOST_ROWS" = some (.int 2 t)
  c_MOST_FUNCTIONS : ∃ t, mg "MOST_FUNCTIONS" = some (.int 3 t)
  c_MOST_STATEMENTS : ∃ t, mg "MOST_STATEMENTS" = some (.int 14 t)
  c_MOST_BLOCKS_AROUND : ∃ t, mg "MOST_BLOCKS_AROUND" = some (.int 2 t)
  c_LONGEST_NAME : ∃ t, mg "LONGEST_NAME" = some (.int 12 t)
  c_LETTERS : ∃ t, mg "LETTERS" = some (.str "abcdefghijklmnopqrstuvwxyz" t)
  c_STEP : ∃ t, mg "STEP" = some (.str "  " t)
  c_WIDEST_MARGIN : ∃ t, mg "WIDEST_MARGIN" = some (.int 8 t)
end K06
set_option Elab.async false
set_option linter.all false
set_option maxRecDepth 100000
set_option maxHeartbeats 8000000
namespace K06
open PySem PySem.Spec PyProof.Rows L2 He XH XV XR PEN TR Evl

section
variable {P : Program} {w : World} {K : PySem.W.Frag} {mg : Str → Option Value} {base : Heap}

theorem ok_law_draw {fd : FuncData} (F : FnP K "_law_draw" "_law_draw" s_law_draw (ga K "_law_draw") fd) (T : Txt K w mg) : FnOk P w K mg base CX0 (0 + 1) (ga K "_law_draw") fd ["_law_pen", "_law_many"] spDraw := by
  refine FunD.ok F sc_law_draw (fun vs H Q E h => ?_) (fun cdv A outer s H vs Q E hr h => ?_)
  · obtain ⟨p, l, m, b, rfl, _⟩ := h
    rfl
  · obtain ⟨p, l, m, b, rfl, ⟨m0, m1⟩, hP, kk⟩ := h
    have n_int := T.fr "int" (by decide +kernel)
    have n_len := T.fr "len" (by decide +kernel)
    refine ⟨_, PSs.nox (pss_cons (ps_set (i := 2) sc_law_draw.nd rfl (Or.inl rfl) (pe_ix ix_list (pv 0) pe_int (fun _ _ => rfl)))
      (pss_cons (ps_asg (pe_op op_add (pv 2) pe_int) (pg_sub (pv 0) pe_int set_list))
      (pss_cons (ps_set (i := 3) sc_law_draw.nd rfl (Or.inl rfl) (pe_op op_mod (pe_callTy call_int1 (by rfl) n_int (by decide +kernel) (pa_cons (pv 2) pa_nil)) (pe_callB call_len_seq (by rfl) n_len (by decide +kernel) (pa_cons (pe_ix ix_list (pv 0) pe_int (fun _ _ => rfl)) pa_nil))))
      (pss_cons (ps_set (i := 4) sc_law_draw.nd rfl (Or.inl rfl) (pe_callTy call_int1 (by rfl) n_int (by decide +kernel) (pa_cons (pe_ix ix_list (pe_ix ix_list (pv 0) pe_int (fun _ _ => rfl)) (pv 3) (fun _ _ => rfl)) pa_nil)))
      (pss_cons (ps_if (pt_cmpR op_ge (pv 4) (pe_op op_pow pe_int pe_int) (nomark _))
      (pss_cons (ps_asg (pe_op op_fdiv (pv 4) (pv 1)) (pg_sub (pe_ix ix_list (pv 0) pe_int (fun _ _ => rfl)) (pv 3) set_list))
      (pss_one (ps_ret (pe_op op_mod (pe_callTy call_int1 (by rfl) n_int (by decide +kernel) (pa_cons (pv 4) pa_nil)) (pv 1)))))
      pss_nil)
      (pss_cons (ps_set (i := 5) sc_law_draw.nd rfl (Or.inl rfl) (pe_op op_pow (pe_callTy call_int1 (by rfl) n_int (by decide +kernel) (pa_cons (pe_op op_add (pe_op op_add (pe_op op_mul (pe_op op_mod (pe_callTy call_int1 (by rfl) n_int (by decide +kernel) (pa_cons (pv 4) pa_nil)) pe_int) pe_int) (pe_op op_mul (pv 2) pe_int)) pe_int) pa_nil)) pe_int))
      (pss_one (ps_ret (pe_op op_mod (pe_op op_fdiv (pe_callTy call_int1 (by rfl) n_int (by decide +kernel) (pa_cons (pe_op op_mod (pe_callTy call_int1 (by rfl) n_int (by decide +kernel) (pa_cons (pv 5) pa_nil)) pe_int) pa_nil)) pe_int) (pv 1)))))))))), ?_⟩
    have npl := hP.ne
    obtain ⟨c, ns, hp, hl, hne, c0, c1⟩ := hP
    have hl' : 0 < ns.length := by
      cases ns with
      | nil => exact absurd rfl hne
      | cons x r => exact Nat.succ_pos _
    have h1 : upd H p (.lst [.ref l, .int (c + 1)]) p = some (.lst [.ref l, .int (c + 1)]) := upd_same
    have h2 : upd H p (.lst [.ref l, .int (c + 1)]) l = some (.lst (ns.map V.int)) := (upd_ne npl.symm).trans hl
    have px1 : Px p l H (upd H p (.lst [.ref l, .int (c + 1)])) := (Px.refl H).upd (.inl rfl)
    have pen1 : Pen p l b (upd H p (.lst [.ref l, .int (c + 1)])) := ⟨c + 1, ns, h1, h2, hne, by omega, by omega⟩
    refine ⟨.ref p, rfl, p, _, 1, .int c, rfl, rfl, SqL.of hp, atI_nat (j := 1) rfl, ?_⟩
    refine ⟨.int c, rfl, c, 1, rfl, rfl, .ref p, rfl, p, _, 1, 1, rfl, rfl, hp, rfl, ?_⟩
    have em := Int.emod_nonneg c (show ((ns.map V.int).length : Int) ≠ 0 by rw [List.length_map]; omega)
    have el := Int.emod_lt_of_pos c (show (0 : Int) < ((ns.map V.int).length : Int) by rw [List.length_map]; omega)
    refine ⟨.int c, rfl, .inl ⟨c, rfl, .ref p, rfl, p, _, 0, .ref l, rfl, rfl, SqL.of h1, atI_nat (j := 0) rfl, l, _, rfl, .inl (SqL.of h2), c, _, rfl, rfl, (by show (0 : Int) < ((ns.map V.int).length : Int); rw [List.length_map]; omega), ?_⟩⟩
    generalize hz : c % ((ns.map V.int).length : Int) = z at em el
    obtain ⟨j, rfl⟩ : ∃ j : Nat, z = (j : Int) := ⟨z.toNat, by omega⟩
    have hj : j < ns.length := by
      rw [List.length_map] at el
      omega
    have gj : (ns.map V.int)[j]? = some (.int ns[j]) := by
      rw [List.getElem?_map, List.getElem?_eq_getElem hj]
      rfl
    generalize ns[j] = x at gj
    refine ⟨.ref p, rfl, p, _, 0, .ref l, rfl, rfl, SqL.of h1, atI_nat (j := 0) rfl, .int (c % ((ns.map V.int).length : Int)), rfl, l, _, j, .int x, rfl, by rw [hz], SqL.of h2, atI_nat gj, .inl ⟨x, rfl, ?_⟩⟩
    refine ⟨.int x, rfl, 10, 18, rfl, rfl, ⟨by decide, by decide, by decide⟩, x, _, rfl, rfl, _, rfl, ite2 (fun _ => ?_) (fun _ => ?_)⟩
    · have h3 : upd (upd H p (.lst [.ref l, .int (c + 1)])) l (.lst ((ns.map V.int).set j (.int (x / m)))) p = some (.lst [.ref l, .int (c + 1)]) := (upd_ne npl).trans h1
      have e3 : (ns.map V.int).set j (.int (x / m)) = (ns.set j (x / m)).map V.int := List.map_set.symm
      refine ⟨.int x, rfl, .int m, rfl, x, m, rfl, rfl, ⟨m0, m1⟩, .ref p, rfl, p, _, 0, .ref l, rfl, rfl, SqL.of h1, atI_nat (j := 0) rfl, .int (c % ((ns.map V.int).length : Int)), rfl, l, _, j, j, rfl, by rw [hz], h2, ixN_nat (by rw [List.length_map]; exact hj), ?_⟩
      refine ⟨.int x, rfl, .inl ⟨x, rfl, .int m, rfl, x, m, rfl, rfl, m0, ?_⟩⟩
      refine kk _ _ ⟨Int.emod_nonneg _ (by omega), Int.emod_lt_of_pos _ m0⟩ (px1.upd (.inr (.inl rfl))) ⟨c + 1, ns.set j (x / m), h3, ?_, ?_, by omega, by omega⟩
      · rw [← e3]
        exact upd_same
      · intro q
        have q2 : (ns.set j (x / m)).length = 0 := by
          rw [q]
          rfl
        rw [List.length_set] at q2
        omega
    · refine ⟨.int x, rfl, .inl ⟨x, rfl, x, 1000000007, rfl, rfl, (show (0 : Int) < 1000000007 by decide), _, 48271, rfl, rfl, .inr ⟨by decide, by decide⟩, .int c, rfl, c, 7919, rfl, rfl, .inr ⟨by decide, by decide⟩, _, _, rfl, rfl, _, 104729, rfl, rfl, .inl ⟨_, rfl, _, 5, rfl, rfl, ?_, ?_⟩⟩⟩
      · have z0 := Int.emod_nonneg x (show (1000000007 : Int) ≠ 0 by decide)
        have z1 := Int.emod_lt_of_pos x (show (0 : Int) < 1000000007 by decide)
        refine ⟨by decide, by decide, ?_⟩
        generalize x % 1000000007 = u at *
        omega
      · refine ⟨_, rfl, .inl ⟨_, rfl, _, 2147483647, rfl, rfl, (show (0 : Int) < 2147483647 by decide), .inl ⟨_, rfl, _, 8, rfl, rfl, ⟨by decide, by decide⟩, .int m, rfl, _, m, rfl, rfl, m0, ?_⟩⟩⟩
        exact kk _ _ ⟨Int.emod_nonneg _ (by omega), Int.emod_lt_of_pos _ m0⟩ px1 pen1

theorem ok_law_pick {fd : FuncData} (F : FnP K "_law_pick" "_law_pick" s_law_pick (ga K "_law_pick") fd) (T : Txt K w mg) (c_law_draw : Cl P w K mg base CX0 1 (ga K "_law_draw") ["_law_pen", "_law_many"] spDraw) : FnOk P w K mg base CX0 (1 + 1) (ga K "_law_pick") fd ["_law_pen", "_law_row"] (spPick K) := by
  obtain ⟨fd_law_draw, G_law_draw, b_law_draw, kp_law_draw⟩ := c_law_draw
  refine FunD.ok F sc_law_pick (fun vs H Q E h => ?_) (fun cdv A outer s H vs Q E hr h => ?_)
  · obtain ⟨p, l, a, xs, b, rfl, _⟩ := h
    rfl
  · obtain ⟨p, l, a, xs, b, rfl, hS, ⟨x0, x1⟩, hP, kk⟩ := h
    have g_law_draw := T.gl "_law_draw" (by decide +kernel)
    have n_len := T.fr "len" (by decide +kernel)
    refine ⟨_, PSs.nox (pss_one (ps_ret (pe_ix ix_list (pv 1) (pe_call G_law_draw (hr.mono (by decide)) (by rfl) g_law_draw kp_law_draw b_law_draw .nil pass0 (pa_cons (pv 0) (pa_cons (pe_callB call_len_seq (by rfl) n_len (by decide +kernel) (pa_cons (pv 1) pa_nil)) pa_nil))) (fun _ _ => rfl)))), ?_⟩
    have hS' : SqL K H a xs := ex_l cut_ex hS
    have hl : 0 < xs.length := by
      cases xs with
      | nil => exact absurd rfl x0
      | cons x r => exact Nat.succ_pos _
    refine ⟨.ref a, rfl, .ref p, rfl, .ref a, rfl, a, xs, rfl, .inl hS', p, l, (xs.length : Int), b, rfl, ⟨by omega, by omega⟩, hP, fun r H' hr px pen => ?_⟩
    obtain ⟨j, rfl⟩ : ∃ j : Nat, r = (j : Int) := ⟨r.toNat, by omega⟩
    have hj : j < xs.length := by omega
    have gj : xs[j]? = some xs[j] := List.getElem?_eq_getElem hj
    exact ⟨a, xs, j, xs[j], rfl, rfl, ex_l cut_ex (ex_l px hS), atI_nat gj, kk _ _ (List.getElem_mem hj) px pen⟩

theorem ok_law_word {fd : FuncData} (F : FnP K "_law_word" "_law_word" s_law_word (ga K "_law_word") fd) (T : Txt K w mg) (c_law_draw : Cl P w K mg base CX0 1 (ga K "_law_draw") ["_law_pen", "_law_many"] spDraw) : FnOk P w K mg base CX0 (1 + 1) (ga K "_law_word") fd ["_law_pen", "_law_most"] spWord := by
  obtain ⟨fd_law_draw, G_law_draw, b_law_draw, kp_law_draw⟩ := c_law_draw
  refine FunD.ok F sc_law_word (fun vs H Q E h => ?_) (fun cdv A outer s H vs Q E hr h => ?_)
  · obtain ⟨p, l, m, b, rfl, _⟩ := h
    rfl
  · obtain ⟨p, l, m, b, rfl, ⟨m1, m2⟩, hP, kk⟩ := h
    have n_range := T.fr "range" (by decide +kernel)
    have g_law_draw := T.gl "_law_draw" (by decide +kernel)
    refine ⟨_, PSs.nox (pss_cons (ps_set (i := 2) sc_law_word.nd rfl (Or.inr rfl) pe_str)
      (pss_one (ps_ret (pe_join pe_str (pe_lc (own := [("_law_k", 3)]) (g := gName 3) (by rfl) sc_law_word.nd (pi_range1 (by rfl) n_range (pa_cons (pe_op op_add pe_int (pe_call G_law_draw (hr.mono (by decide)) (by rfl) g_law_draw kp_law_draw b_law_draw .nil pass0 (pa_cons (pv 0) (pa_cons (pv 1) pa_nil)))) pa_nil)) (blkOk_by (own := [("_law_k", 3)]) (N := ["_law_pen", "_law_most", "_law_letters", "_law_k"]) (sc := defScope s_law_word) (by decide +kernel)) (fun _ _ _ _ _ => (pg_name (i := 3) sc_law_word.nd rfl (Or.inl rfl))) (fun _ _ _ _ _ => pts_nil) (fun _ _ _ _ _ => (pe_ix ix_str (pv 2) (pe_call G_law_draw (hr.mono (by decide)) (by rfl) g_law_draw kp_law_draw b_law_draw .nil pass0 (pa_cons (pv 0) (pa_cons pe_int pa_nil))) (fun _ _ => rfl)))))))), ?_⟩
    refine ⟨⟨_, rfl⟩, ⟨.ref p, rfl, .int m, rfl, p, l, m, b + 13, rfl, ⟨by omega, by omega⟩, hP, fun r H1 hr px1 pen1 => ⟨1, r, rfl, rfl, 1 + r, rfl, by omega, by omega, fun D hD => ?_⟩⟩⟩
    refine lc_range (lo := 0) (n := (1 + r).toNat) (fun i H' => ∃ cs : List Nat, cs.length = i ∧ (∀ c ∈ cs, 97 ≤ c ∧ c ≤ 122) ∧ H' D = some (.lst ((cs.map sign).map V.str)) ∧ Px p l H H' ∧ Pen p l (b + 13 - i) H')
      ⟨[], rfl, (fun c hc => nomatch hc), upd_same, px1.trans (Px.of (Ex.new hD)), (pen1.ex (Ex.new hD)).less (by omega)⟩ (fun i H' hi hI => ?_) (fun H' hI => ?_)
    · obtain ⟨cs, e1, e2, e3, e4, e5⟩ := hI
      have nD : D ≠ p ∧ D ≠ l := pen1.new hD
      refine ⟨rfl, yes_go ?_⟩
      refine ⟨.str alphabet, rfl, .ref p, rfl, p, l, 26, b + 13 - (i + 1), rfl, ⟨by decide, by decide⟩, e5.less (by omega), fun r2 H2 hr2 px2 pen2 => ?_⟩
      obtain ⟨c, ac, c1, c2⟩ := alpha_pick hr2
      refine ⟨alphabet, r2, c, rfl, rfl, fits (by decide +kernel), ac, (cs.map sign).map V.str, px2.get nD.1 nD.2 e3, ?_, cs ++ [c], ?_, ?_, ?_, (e4.trans px2).upd (.inr (.inr (px1.fresh nD.1 nD.2 hD))), pen2.upd nD.1 nD.2⟩
      · rw [List.length_map, List.length_map]
        exact small1000 (by omega)
      · rw [List.length_append, e1]
        rfl
      · intro x hx
        rcases List.mem_append.mp hx with h | h
        · exact e2 x h
        · rw [List.mem_singleton.mp h]
          exact ⟨c1, c2⟩
      · rw [upd_same, List.map_append, List.map_append]
        rfl
    · obtain ⟨cs, e1, e2, e3, e4, e5⟩ := hI
      have ln : (Txt.join ("" : Str) (cs.map sign)).length = cs.length := by rw [len_codes, join_signs]
      refine ⟨"", D, cs.map sign, rfl, rfl, .inl (sq_of e3), ?_, kk _ _ ⟨?_, ?_, ?_⟩ e4 (e5.less (by omega))⟩
      · rw [sum_signs, List.length_map]
        show cs.length + cs.length * 0 ≤ 16777216
        omega
      · intro c hc
        rw [join_signs] at hc
        exact e2 c hc
      · rw [ln]
        omega
      · rw [ln]
        omega

theorem ok_law_names {fd : FuncData} (F : FnP K "_law_names" "_law_names" s_law_names (ga K "_law_names") fd) (T : Txt K w mg) (c_law_draw : Cl P w K mg base CX0 1 (ga K "_law_draw") ["_law_pen", "_law_many"] spDraw) (c_law_word : Cl P w K mg base CX0 2 (ga K "_law_word") ["_law_pen", "_law_most"] spWord) : FnOk P w K mg base CX0 (2 + 1) (ga K "_law_names") fd ["_law_pen", "_law_many"] (spNames K) := by
  obtain ⟨fd_law_draw, G_law_draw, b_law_draw, kp_law_draw⟩ := c_law_draw
  obtain ⟨fd_law_word, G_law_word, b_law_word, kp_law_word⟩ := c_law_word
  refine FunD.ok F sc_law_names (fun vs H Q E h => ?_) (fun cdv A outer s H vs Q E hr h => ?_)
  · obtain ⟨p, l, n, b, rfl, _⟩ := h
    rfl
  · obtain ⟨p, l, n, b, rfl, hn, hP, kk⟩ := h
    have n_range := T.fr "range" (by decide +kernel)
    have g_law_word := T.gl "_law_word" (by decide +kernel)
    have g_law_draw := T.gl "_law_draw" (by decide +kernel)
    refine ⟨_, PSs.nox (pss_cons (ps_set (i := 2) sc_law_names.nd rfl (Or.inr rfl) (pe_lst pa_nil))
      (pss_cons (ps_for PassesOwn.never rfl (pi_range1 (by rfl) n_range (pa_cons (pv 1) pa_nil)) (pg_name (i := 3) sc_law_names.nd rfl (Or.inl rfl))
      (pss_cons (ps_set (i := 4) sc_law_names.nd rfl (Or.inl rfl) (pe_call G_law_word (hr.mono (by decide)) (by rfl) g_law_word kp_law_word b_law_word .nil pass0 (pa_cons (pv 0) (pa_cons (pe_ifExp (pt_cmpR op_eq (pe_call G_law_draw (hr.mono (by decide)) (by rfl) g_law_draw kp_law_draw b_law_draw .nil pass0 (pa_cons (pv 0) (pa_cons pe_int pa_nil))) pe_int (nomark _)) pe_int pe_int) pa_nil))))
      (pss_cons (ps_setLc (i := 5) (own := [("_law_word_here", 6)]) (g := gName 6) (by rfl) sc_law_names.nd rfl rfl (sw_true rfl rfl rfl (by decide +kernel)) (pi_list (pe_lc (own := [("_law_n", 7)]) (g := gName 7) (by rfl) sc_law_names.nd (pi_range2 (by rfl) n_range (pa_cons pe_int (pa_cons pe_int pa_nil))) (blkOk_by (own := [("_law_n", 7)]) (N := ["_law_pen", "_law_many", "_law_found", "_law_k", "_law_name_here", "_law_spare", "_law_word_here", "_law_n"]) (sc := defScope s_law_names) (by decide +kernel)) (fun _ _ _ _ _ => (pg_name (i := 7) sc_law_names.nd rfl (Or.inl rfl))) (fun _ _ _ _ _ => pts_nil) (fun _ _ _ _ _ => (pe_op op_mulS pe_str (pv 7))))) (blkOk_by (own := [("_law_word_here", 6)]) (N := ["_law_pen", "_law_many", "_law_found", "_law_k", "_law_name_here", "_law_spare", "_law_word_here", "_law_n"]) (sc := defScope s_law_names) (by decide +kernel)) (fun _ _ _ _ _ => (pg_name (i := 6) sc_law_names.nd rfl (Or.inl rfl))) (fun _ _ _ _ _ => (pts_one (pt_cmpR (op_notIn_seq : OpR _ _ (rIn K true)) (pv 6) (pv 2) (by rfl)))) (fun _ _ _ _ _ => (pv 6)))
      (pss_one (ps_expr (pe_bm PySem.F.plainAttrs_list PySem.F.slot_list_append PySem.F.type_list_append mt_append (pv 2) (pa_cons (pe_ifExp (pt_cmpR op_in_seq (pv 4) (pv 2) (by rfl)) (pe_ix ix_list (pv 5) pe_int (fun _ _ => rfl)) (pv 4)) pa_nil)))))))
      (pss_one (ps_ret (pv 2))))), ?_⟩
    refine ⟨fits (show 0 ≤ 1000 by decide), fun fl nf => ?_⟩
    have nF := hP.new nf
    refine q_forR1 (n := (n : Int)) (ea_cons (ev_var rfl) ea_nil) ⟨by omega, by omega⟩ (fun i σ' H' => ∃ ys v3 v4 v5 v6 v7, σ' = [some (.ref p), some (.int (n : Int)), some (.ref fl), v3, v4, v5, v6, v7] ∧ H' fl = some (.lst (ys.map V.str)) ∧ ys.length = i ∧ NamesOk ys ∧ Px p l H H' ∧ Pen p l (b + (n - i) * 16) H')
      (fun H1 e1 => ⟨[], none, none, none, none, none, rfl, e1 _ _ upd_same, rfl, ⟨List.nodup_nil, fun y hy => nomatch hy⟩, Px.trans ((Px.refl H).upd (.inr (.inr nf))) (Px.of e1), ((hP.upd nF.1 nF.2).ex e1)⟩) (fun i σ' H' hi hI => ?_) (fun σ' H' hI => ?_)
    · obtain ⟨ys, v3, v4, v5, v6, v7, rfl, hf, hl, ⟨nd, good⟩, px, pen⟩ := hI
      have hi' : i < n := by omega
      have hb : b + (n - i) * 16 = b + (n - (i + 1)) * 16 + 16 := by
        obtain ⟨d, hd⟩ : ∃ d, n - i = d + 1 := ⟨n - i - 1, by omega⟩
        rw [hd, show n - (i + 1) = d by omega, Nat.succ_mul]
        omega
      rw [hb] at pen
      -- the word
      refine ⟨.ref p, rfl, .ref p, rfl, p, l, 4, b + (n - (i + 1)) * 16 + 15, rfl, ⟨by decide, by decide⟩, pen, fun r H1 hr px1 pen1 => ⟨rfl, _, rfl, two_c fun x hx => ?_⟩⟩
      obtain ⟨m, rfl, m1, m2⟩ : ∃ m : Nat, x = .int (m : Int) ∧ 1 ≤ m ∧ m ≤ 12 := by
        rcases hx with rfl | rfl
        · exact ⟨12, rfl, by decide, by decide⟩
        · exact ⟨2, rfl, by decide, by decide⟩
      refine ⟨p, l, m, b + (n - (i + 1)) * 16, rfl, ⟨m1, m2⟩, pen1.less (by omega), fun z H2 hz px2 pen2 => ?_⟩
      have hf2 : H2 fl = some (.lst (ys.map V.str)) := px2.get nF.1 nF.2 (px1.get nF.1 nF.2 hf)
      -- spare
      dsimp only [gName, List.set]
      refine q_asgL (xs := given 12 (fun i => !decide (aS (1 + i) ∈ ys)) (fun i => V.str (aS (1 + i)))) ?_ fun sp H3 hs e3 h3 => ?_
      · refine el_lcNL (xs := given 12 (fun _ => true) (fun i => V.str (aS (1 + i)))) (fun i => !decide (aS (1 + i) ∈ ys)) (fun i => V.str (aS (1 + i))) ?_ (by decide) (fun _ => rfl) (fun j x H1' e1' hx => ?_) (fun j x H1' e1' hx _ => ?_)
        · refine el_lcR2 (lo := 1) (n := 13) (fun _ => true) (fun i => V.str (aS (1 + i))) (ea_cons ev_c (ea_cons ev_c ea_nil)) (by decide) (fun _ => rfl) (fun _ _ _ _ => fun H1 _ Q q => q H1 (Ex.refl H1)) (fun j H1' _ hj _ => ?_)
          refine ev_op ev_c (ev_var rfl) (fun H2' _ Q q => ⟨"a", 1 + j, rfl, ?_, ⟨by omega, by omega⟩, ⟨by decide +kernel, by decide +kernel⟩, q H2' (Ex.refl _)⟩)
          rw [Int.natCast_add]
          rfl
        · have ex : x = .str (aS (1 + j)) := given_all_at hx
          subst ex
          have k := rv_niL (K := K) (x := .str (aS (1 + j))) (H := H1') (sq_of (e1' _ _ hf2)) rfl (flat_strs ys)
          rw [inV_strs] at k
          exact et_test (ev_op (ev_var rfl) (ev_var rfl) k)
        · have ex : x = .str (aS (1 + j)) := given_all_at hx
          subst ex
          exact ev_var rfl
      -- found.append(..)
      have hf3 := e3 _ _ hf2
      obtain ⟨y, gy, y1, y2, y3, y4⟩ := spare_first (ys := ys) (by omega)
      have px3 : Px p l H H3 := ((px.trans px1).trans px2).trans (Px.of e3)
      have pen3 := pen2.ex e3
      have more : ∀ u : Str, u ∉ ys → Let u ∧ 1 ≤ u.length ∧ u.length ≤ 12 → ∃ ys' : List Str, upd H3 fl (.lst (ys.map V.str ++ [.str u])) fl = some (.lst (ys'.map V.str)) ∧ ys'.length = i + 1 ∧ NamesOk ys' ∧ Px p l H (upd H3 fl (.lst (ys.map V.str ++ [.str u]))) ∧ Pen p l (b + (n - (i + 1)) * 16) (upd H3 fl (.lst (ys.map V.str ++ [.str u]))) := by
        intro u hu gu
        refine ⟨ys ++ [u], ?_, by rw [List.length_append, hl]; rfl, ⟨?_, ?_⟩, px3.upd (.inr (.inr nf)), pen3.upd nF.1 nF.2⟩
        · rw [upd_same, List.map_append]
          rfl
        · refine List.nodup_append.mpr ⟨nd, List.nodup_cons.mpr ⟨List.not_mem_nil, List.nodup_nil⟩, ?_⟩
          intro a ha b' hb' e
          rw [List.mem_singleton.mp hb'] at e
          exact hu (e ▸ ha)
        · intro w hw
          rcases List.mem_append.mp hw with h | h
          · exact good w h
          · rw [List.mem_singleton.mp h]
            exact gu
      refine ⟨.ref fl, rfl, .inl ⟨rfl, _, sq_of hf3⟩, ?_⟩
      refine ⟨.str z, rfl, .ref fl, rfl, fl, _, rfl, .inl (sq_of hf3), rfl, flat_strs ys, _, rfl, ?_⟩
      show if (if false = true then !inV (.str z) (ys.map V.str) else inV (.str z) (ys.map V.str)) = true then _ else _
      rw [if_neg Bool.false_ne_true, inV_strs]
      refine ite2 (fun c => ?_) (fun c => ?_)
      · obtain ⟨ys', m1', m2', m3', m4', m5'⟩ := more y y1 ⟨y2, y3, y4⟩
        refine ⟨.ref sp, rfl, sp, _, 0, .str y, rfl, rfl, sq_of h3, atI_nat (j := 0) gy, fl, _, _, rfl, rfl, hf3, ?_, ⟨ys', _, _, _, _, _, rfl, m1', m2', m3', m4', m5'⟩⟩
        rw [List.length_map]
        exact small1000 (by omega)
      · obtain ⟨ys', m1', m2', m3', m4', m5'⟩ := more z (fun q => c (decide_eq_true q)) ⟨hz.1, hz.2.1, by omega⟩
        refine ⟨.str z, rfl, fl, _, _, rfl, rfl, hf3, ?_, ⟨ys', _, _, _, _, _, rfl, m1', m2', m3', m4', m5'⟩⟩
        rw [List.length_map]
        exact small1000 (by omega)
    · obtain ⟨ys, v3, v4, v5, v6, v7, rfl, hf, hl, ok, px, pen⟩ := hI
      have e : (n : Int).toNat = n := by omega
      rw [e] at hl pen
      refine ⟨.ref fl, rfl, kk fl ys H' nf hf hl ok px (pen.less (by omega))⟩

end
end K06
set_option Elab.async false
set_option linter.all false
set_option maxRecDepth 100000
set_option maxHeartbeats 8000000
namespace K06
open PySem PySem.Spec PyProof.Rows L2 He XH XV XR PEN TR Evl


structure Tx (K : PySem.W.Frag) (w : World) (mg : Str → Option Value) : Prop extends Txt K w mg where
  en : ∃ es n, KDict K w (ga K "ENTRIES") es n ∧ ∀ p ∈ ENT, ∃ a, PySem.W.nsIn K (ga K "ENTRIES") p.1 = some (some (.ref a)) ∧ ∀ H, SqT K H a (p.2.map V.str)
  fx : ∃ es n a b, KDict K w (ga K "FIXED_WORDS") es n ∧ (PySem.W.nsIn K (ga K "FIXED_WORDS") "how" = some (some (.ref a)) ∧ ∀ H, SqT K H a [.str "copy", .str "view"]) ∧ PySem.W.nsIn K (ga K "FIXED_WORDS") "end" = some (some (.ref b)) ∧ ∀ H, SqT K H b [.str "found", .str "none"]
  ek : ∀ x, x ∉ ENT.map (·.1) → PySem.W.nsIn K (ga K "ENTRIES") x = some none
  se : ∃ es n, KDict K w (ga K "SECOND_WORDS") es n ∧ ∀ p ∈ [("either", "or"), ("told", "else"), ("look", "else"), ("guard", "rescue"), ("lastly", "lastly")], ∃ t, PySem.W.nsIn K (ga K "SECOND_WORDS") (p.1 : String) = some (some (.str (p.2 : String) t))
  ej : ∀ x ∈ [("jump" : Str), "copy"], PySem.W.nsIn K (ga K "ENTRIES") x = some none
  ro : ∀ H, SqT K H (ga K "ROUND_WORDS") [.str "again", .str "out"]
  ch : ∀ H, SqT K H (ga K "CHANGE_WORDS") [.str "put", .str "blank", .str "give", .str "push", .str "pop", .str "cut"]
  cf : Cls K (ga K "Function")
  cc : Cls K (ga K "Code")
  nf : ∀ x ∈ ["name", "body", "many"], NoAttr K (ga K "Function") x
  nc : ∀ x ∈ ["cells", "rows", "functions", "start"], NoAttr K (ga K "Code") x
  mf : Mk K (ga K "Function") (ma K (ga K "Function") "__init__")
  mc : Mk K (ga K "Code") (ma K (ga K "Code") "__init__")

theorem kit_noI {K : PySem.W.Frag} : PySem.W.kitAny K (.type "int") [.type "list", .type "tuple"] = some false := kitAny_cons (b := false) (kit_ty (by decide +kernel)) (fun _ => kitAny_cons (b := false) (kit_ty (by decide +kernel)) (fun _ => kitAny_nil) (fun z => nomatch z)) (fun z => nomatch z)
section
variable {P : Program} {w : World} {K : PySem.W.Frag} {mg : Str → Option Value} {base : Heap}

theorem ok_is_name {fd : FuncData} (F : FnP K "is_name" "is_name" s_is_name (ga K "is_name") fd) (T : Tx K w mg) : FnOk P w K mg base CX0 (0 + 1) (ga K "is_name") fd ["word"] spIsName := by
  refine FunD.ok F sc_is_name (fun vs H Q E h => ?_) (fun cdv A outer s H vs Q E hr h => ?_)
  · obtain ⟨z, rfl, _⟩ := h
    rfl
  · obtain ⟨z, rfl, hz, kk⟩ := h
    have n_isinstance := T.fr "isinstance" (by decide +kernel)
    have n_str := T.fr "str" (by decide +kernel)
    have n_len := T.fr "len" (by decide +kernel)
    obtain ⟨tk_LONGEST_NAME, g_LONGEST_NAME⟩ := T.c_LONGEST_NAME
    have n_all := T.fr "all" (by decide +kernel)
    obtain ⟨tk_LETTERS, g_LETTERS⟩ := T.c_LETTERS
    refine ⟨_, PSs.nox (pss_cons (ps_if (PW.pt (pw_or (pt_not (pt_val (pe_callB call_isi (by rfl) n_isinstance (by decide +kernel) (pa_cons (pv 0) (pa_cons (pe_bltn (v := .ty "str") (by rfl) n_str (by decide +kernel) rfl) pa_nil))))) (pw_or1 (pt_not (pt_chain op_le op_le pe_int (pe_callB call_len_str (by rfl) n_len (by decide +kernel) (pa_cons (pv 0) pa_nil)) (pe_glob (v := .int _) (by rfl) g_LONGEST_NAME ⟨_, rfl⟩))))))
      (pss_one (ps_ret pe_bl))
      pss_nil)
      (pss_one (ps_ret (pe_callB (cr_all rfl) (by rfl) n_all (by decide +kernel) (pa_cons (pe_lc (own := [("letter", 1)]) (g := gName 1) (by rfl) sc_is_name.nd (pi_str (pv 0)) (blkOk_by (own := [("letter", 1)]) (N := ["word", "letter"]) (sc := defScope s_is_name) (by decide +kernel)) (fun _ _ _ _ _ => (pg_name (i := 1) sc_is_name.nd rfl (Or.inl rfl))) (fun _ _ _ _ _ => pts_nil) (fun _ _ _ _ _ => (pe_cmpR op_in_sign (pv 1) (pe_glob (v := .str _) (by rfl) g_LETTERS ⟨_, rfl⟩) (by rfl)))) pa_nil))))), ?_⟩
    refine q_when (b := !(decide ((1 : Int) ≤ (z.length : Int)) && decide ((z.length : Int) ≤ 12))) (et_is (et_or (et_not (et_B (ev_cb (ea_cons (ev_var rfl) (ea_cons ev_c ea_nil)) isi_str))) fun _ => et_not (et_test (ev_chain ev_c (ev_cb (ea_cons (ev_var rfl) ea_nil) fun H1 e Q q => ⟨z, rfl, fits hz, q H1 (Ex.refl _)⟩) ev_c))) (by simp)) (fun hb H1 e1 => ?_) (fun hb H1 e1 => ?_)
    · refine s_ret ev_c fun H2 e2 => ?_
      have z1 : goodN z = false := by
        unfold goodN
        rw [← Bool.and_assoc]
        have z2 : (decide (1 ≤ z.length) && decide (z.length ≤ 12)) = false := by
          rw [Bool.not_eq_true'] at hb
          rw [← hb]
          congr 1 <;> exact decide_eq_decide.mpr (by omega)
        rw [z2]
        rfl
      have k := kk H2 (e1.trans e2)
      rw [z1] at k
      exact k
    · refine ⟨.str z, rfl, z, rfl, fun D hD => ?_⟩
      refine lc_it walk_str (fun i H' => Ex H H' ∧ H' D = some (.lst ((z.cps.toList.take i).map fun c => V.bl (decide (c ∈ alphabet.cps.toList))))) ⟨e1.trans (Ex.new hD), upd_same⟩ (fun _ _ _ _ => True.intro) (fun i x H2 H3 hi hI hy => ?_) (fun H2 hI => ?_)
      · obtain ⟨rfl, c, hc, rfl⟩ := hy
        obtain ⟨e2, e3⟩ := hI
        have hDn : H D = none := fresh_back e1 hD
        have hc2 : z.cps.toList[i]? = some c := by rw [Array.getElem?_toList]; exact hc
        refine ⟨rfl, yes_go ⟨.str ⟨#[c]⟩, rfl, c, alphabet, rfl, rfl, _, e3, ?_, e2.mut hDn, ?_⟩⟩
        · rw [List.length_map, List.length_take]
          have k : z.cps.toList.length = z.length := (len_codes z).symm
          exact Nat.lt_of_le_of_lt (show _ ≤ 1000 by omega) (by rw [sizeLine_eq]; decide)
        · rw [upd_same, take_more hc2, List.map_append]
          rfl
      · obtain ⟨e2, e3⟩ := hI
        have z1 : (z.cps.toList.take z.cps.size) = z.cps.toList := List.take_of_length_le (by simp)
        rw [z1] at e3
        refine ⟨D, z.cps.toList.map fun c => decide (c ∈ alphabet.cps.toList), rfl, sq_of (by rw [e3, List.map_map]; rfl), ?_⟩
        have z2 : goodN z = (z.cps.toList.map fun c => decide (c ∈ alphabet.cps.toList)).all id := by
          unfold goodN
          rw [List.all_map]
          rw [Bool.not_eq_false', Bool.and_eq_true] at hb
          have k1 := of_decide_eq_true hb.1
          have k2 := of_decide_eq_true hb.2
          rw [decide_eq_true (show 1 ≤ z.length by omega), decide_eq_true (show z.length ≤ 12 by omega)]
          rfl
        have k := kk H2 e2
        rw [z2] at k
        exact k

theorem ok_frozen0 {fd : FuncData} (F : FnP K "frozen" "frozen" s_frozen (ga K "frozen") fd) (T : Tx K w mg) : FnOk P w K mg base CX0 (0 + 1) (ga K "frozen") fd ["thing"] (spFr K 0) := by
  refine FunD.ok F sc_frozen (fun vs H Q E h => ?_) (fun cdv A outer s H vs Q E hr h => ?_)
  · obtain ⟨v, d, rfl, _⟩ := h
    rfl
  · obtain ⟨v, d, rfl, hd, ht, kk⟩ := h
    have n_isinstance := T.fr "isinstance" (by decide +kernel)
    have n_list := T.fr "list" (by decide +kernel)
    have n_tuple := T.fr "tuple" (by decide +kernel)
    refine ⟨_, PSs.nox (pss_cons (ps_if (pt_val (pe_callB call_isiT (by rfl) n_isinstance (by decide +kernel) (pa_cons (pv 0) (pa_cons (pe_tup (pa_cons (pe_bltn (v := .ty "list") (by rfl) n_list (by decide +kernel) rfl) (pa_cons (pe_bltn (v := .ty "tuple") (by rfl) n_tuple (by decide +kernel) rfl) pa_nil))) pa_nil))))
      (pss_one ps_never)
      pss_nil)
      (pss_one (ps_ret (pv 0)))), ?_⟩
    cases ht with
    | @str _ z hz =>
      cases hd
      refine q_when (b := false) (et_B (ev_isiT (ev_var rfl) (fun H1 _ => .base (.str z)) kit_no)) (fun hb => nomatch hb) (fun _ H1 e1 => ?_)
      exact s_ret (ev_var rfl) fun H2 e2 => kk _ H2 (e1.trans e2) (.str z)
    | int i =>
      cases hd
      refine q_when (b := false) (et_B (ev_isiT (ev_var rfl) (fun H1 _ => .base (.int i)) kit_noI)) (fun hb => nomatch hb) (fun _ H1 e1 => ?_)
      exact s_ret (ev_var rfl) fun H2 e2 => kk _ H2 (e1.trans e2) (.int i)

theorem ok_frozenS {fd : FuncData} {n k : Nat} (F : FnP K "frozen" "frozen" s_frozen (ga K "frozen") fd) (T : Tx K w mg) (c_frozen : Cl P w K mg base CX0 k (ga K "frozen") ["thing"] (spFr K n)) : FnOk P w K mg base CX0 (k + 1) (ga K "frozen") fd ["thing"] (spFr K (n + 1)) := by
  obtain ⟨fd_frozen, G_frozen, b_frozen, kp_frozen⟩ := c_frozen
  refine FunD.ok F sc_frozen (fun vs H Q E h => ?_) (fun cdv A outer s H vs Q E hr h => ?_)
  · obtain ⟨v, d, rfl, _⟩ := h
    rfl
  · obtain ⟨v, d, rfl, hd, ht, kk⟩ := h
    have n_isinstance := T.fr "isinstance" (by decide +kernel)
    have n_list := T.fr "list" (by decide +kernel)
    have n_tuple := T.fr "tuple" (by decide +kernel)
    have g_frozen := T.gl "frozen" (by decide +kernel)
    refine ⟨_, PSs.nox (pss_cons (ps_if (pt_val (pe_callB call_isiT (by rfl) n_isinstance (by decide +kernel) (pa_cons (pv 0) (pa_cons (pe_tup (pa_cons (pe_bltn (v := .ty "list") (by rfl) n_list (by decide +kernel) rfl) (pa_cons (pe_bltn (v := .ty "tuple") (by rfl) n_tuple (by decide +kernel) rfl) pa_nil))) pa_nil))))
      (pss_one (ps_ret (pe_callTy call_tuple_of (by rfl) n_tuple (by decide +kernel) (pa_cons (pe_lc (own := [("entry", 1)]) (g := gName 1) (by rfl) sc_frozen.nd (pi_tup (pv 0)) (blkOk_by (own := [("entry", 1)]) (N := ["thing", "entry"]) (sc := defScope s_frozen) (by decide +kernel)) (fun _ _ _ _ _ => (pg_name (i := 1) sc_frozen.nd rfl (Or.inl rfl))) (fun _ _ _ _ _ => pts_nil) (fun _ _ _ _ _ => (pe_call G_frozen (hr.mono (Nat.le_refl _)) (by rfl) g_frozen kp_frozen b_frozen .nil pass0 (pa_cons (pv 1) pa_nil)))) pa_nil))))
      pss_nil)
      (pss_one (ps_ret (pv 0)))), ?_⟩
    cases ht with
    | @str _ z hz =>
      cases hd
      refine q_when (b := false) (et_B (ev_isiT (ev_var rfl) (fun H1 _ => .base (.str z)) kit_no)) (fun hb => nomatch hb) (fun _ H1 e1 => ?_)
      exact s_ret (ev_var rfl) fun H2 e2 => kk _ H2 (e1.trans e2) (.str z)
    | int i =>
      cases hd
      refine q_when (b := false) (et_B (ev_isiT (ev_var rfl) (fun H1 _ => .base (.int i)) kit_noI)) (fun hb => nomatch hb) (fun _ H1 e1 => ?_)
      exact s_ret (ev_var rfl) fun H2 e2 => kk _ H2 (e1.trans e2) (.int i)
    | @tup _ ds hl hs =>
      cases hd with
      | @tup a xs _ hx hD2 =>
        refine q_when (b := true) (et_B (ev_isiT (ev_var rfl) (fun H1 e => tyx_t (ex_t e hx)) kit_t)) (fun _ H1 e1 => ?_) (fun hb => nomatch hb)
        have hx1 := ex_t e1 hx
        have len := dpAll_len hD2
        refine ⟨.ref a, rfl, a, rfl, ⟨_, hx1⟩, fun D hD => ?_⟩
        refine lc_tup (xs := xs) (fun i H' => ∃ ys, ys.length = i ∧ Ex H H' ∧ H' D = some (.lst ys) ∧ DpAll K H' ys (ds.take i)) ⟨[], rfl, e1.trans (Ex.new hD), upd_same, .nil⟩ (fun i H' _ hI => ex_t hI.choose_spec.2.1 hx) (fun i x H2 hxi hI => ?_) (fun H2 hI => ?_)
        · obtain ⟨ys, e2, e3, e4, e5⟩ := hI
          obtain ⟨d', hd', hx'⟩ := dpAll_at hD2 hxi
          have hi := (List.getElem?_eq_some_iff.mp hxi).1
          have td := hs.at d' (List.mem_of_getElem? hd')
          refine ⟨rfl, yes_go ⟨x, rfl, x, d', rfl, dpM e3 _ _ hx', td, fun v' H3 e6 h6 => ⟨ys, e6 _ _ e4, small1000 (by omega), ys ++ [v'], by rw [List.length_append, e2]; rfl, (e3.trans e6).mut (fresh_back e1 hD), upd_same, ?_⟩⟩⟩
          rw [take_more hd']
          exact dpAll_add (dps_off (e6 _ _ e4) (n := n) (Tts.of fun y hy => hs.at y (List.mem_of_mem_take hy)) (dpMs e6 _ _ e5)) (dp_off (e6 _ _ e4) td h6)
        · obtain ⟨ys, e2, e3, e4, e5⟩ := hI
          rw [List.take_of_length_le (by omega)] at e5
          exact ⟨D, _, rfl, .inl ⟨sq_of e4, fun u hu => kk _ _ (e3.trans (Ex.new hu)) (.tup (st_of upd_same) (dpMs (Ex.new hu) _ _ e5))⟩⟩

theorem ok_kinds_of {fd : FuncData} (F : FnP K "kinds_of" "kinds_of" s_kinds_of (ga K "kinds_of") fd) (T : Tx K w mg) : FnOk P w K mg base CX0 (0 + 1) (ga K "kinds_of") fd ["statement"] (spKd K) := by
  refine FunD.ok F sc_kinds_of (fun vs H Q E h => ?_) (fun cdv A outer s H vs Q E hr h => ?_)
  · obtain ⟨t, w, rest, ks, rfl, _⟩ := h
    rfl
  · obtain ⟨t, wd, rest, ks, rfl, ht, hk, kk⟩ := h
    have n_isinstance := T.fr "isinstance" (by decide +kernel)
    have n_tuple := T.fr "tuple" (by decide +kernel)
    have n_str := T.fr "str" (by decide +kernel)
    have g_ENTRIES := T.gl "ENTRIES" (by decide +kernel)
    refine ⟨_, PSs.nox (pss_cons (ps_if (PW.pt (pw_and (pt_val (pe_callB call_isi (by rfl) n_isinstance (by decide +kernel) (pa_cons (pv 0) (pa_cons (pe_bltn (v := .ty "tuple") (by rfl) n_tuple (by decide +kernel) rfl) pa_nil)))) (pw_and (pt_truth (pv 0) (fun _ => rfl)) (pw_and1 (pt_val (pe_callB call_isi (by rfl) n_isinstance (by decide +kernel) (pa_cons (pe_ix ix_tup (pv 0) pe_int (fun _ _ => rfl)) (pa_cons (pe_bltn (v := .ty "str") (by rfl) n_str (by decide +kernel) rfl) pa_nil))))))))
      (pss_one (ps_ret (pe_kget (pe_glob (v := .ref _) (by rfl) g_ENTRIES rfl) (pe_ix ix_tup (pv 0) pe_int (fun _ _ => rfl)) ⟨rfl, rfl, rfl, rfl⟩)))
      pss_nil)
      (pss_one (ps_ret pe_non))), ?_⟩
    obtain ⟨es, n, hD, hE⟩ := T.en
    obtain ⟨a, hN, hA⟩ := hE _ hk
    refine q_when (b := true) (et_is (et_and (et_B (ev_cb (ea_cons (ev_var rfl) (ea_cons ev_c ea_nil)) fun H1 e Q q => ⟨.ref t, .ty "tuple", .type "tuple", .type "tuple", true, rfl, .ty _, tyx_t (ex_t e ht), kit_ty (by decide +kernel), q H1 (Ex.refl _)⟩)) fun _ =>
      et_and (b := true) (a := true) (fun H1 e Q q => ev_var rfl H1 e _ fun H2 e2 => ⟨true, (show TruV K (.ref t) H2 true from Or.inr (Or.inl ⟨_, ex_t e2 (ex_t e ht), rfl⟩)), q H2 e2⟩) fun _ => et_B (ev_cb (ea_cons (ev_op (ev_var rfl) ev_c (rv_ixT ht (v := .str wd) (atI_nat (j := 0) rfl))) (ea_cons ev_c ea_nil)) isi_str)) rfl) (fun _ H1 e1 => ?_) (fun hb => nomatch hb)
    exact ⟨_, es, n, rfl, hD, .ref t, rfl, t, _, 0, .str wd, rfl, rfl, ex_t e1 ht, atI_nat (j := 0) rfl, wd, _, .ref a, rfl, hN, rfl, kk a H1 hA e1⟩

theorem ok_parts_of {fd : FuncData} (F : FnP K "parts_of" "parts_of" s_parts_of (ga K "parts_of") fd) (T : Tx K w mg) (c_kinds_of : Cl P w K mg base CX0 1 (ga K "kinds_of") ["statement"] (spKd K)) : FnOk P w K mg base CX0 (1 + 1) (ga K "parts_of") fd ["statement"] (spPt K) := by
  obtain ⟨fd_kinds_of, G_kinds_of, b_kinds_of, kp_kinds_of⟩ := c_kinds_of
  refine FunD.ok F sc_parts_of (fun vs H Q E h => ?_) (fun cdv A outer s H vs Q E hr h => ?_)
  · obtain ⟨v, d, n, rfl, _⟩ := h
    rfl
  · obtain ⟨v, d, n, rfl, hd, htt, hsh, kk⟩ := h
    have g_kinds_of := T.gl "kinds_of" (by decide +kernel)
    have n_zip := T.fr "zip" (by decide +kernel)
    have n_isinstance := T.fr "isinstance" (by decide +kernel)
    have n_tuple := T.fr "tuple" (by decide +kernel)
    refine ⟨_, PSs.nox (pss_cons (ps_set (i := 1) sc_parts_of.nd rfl (Or.inl rfl) (pe_call G_kinds_of (hr.mono (by decide)) (by rfl) g_kinds_of kp_kinds_of b_kinds_of .nil pass0 (pa_cons (pv 0) pa_nil)))
      (pss_cons (ps_if (pt_cmpR op_isN (pv 1) pe_non (nomark _))
      (pss_one (ps_ret (pe_lst pa_nil)))
      pss_nil)
      (pss_one (ps_ret (pe_lc (own := [("entry", 2), ("kind", 3)]) (g := _) (by rfl) sc_parts_of.nd (RZ.pi_zipA (by rfl) n_zip (pa_cons (pe_slice sl_tup (pv 0) (po_some pe_int) po_none) (pa_cons (pv 1) pa_nil))) (blkOk_by (own := [("entry", 2), ("kind", 3)]) (N := ["statement", "kinds", "entry", "kind"]) (sc := defScope s_parts_of) (by decide +kernel)) (fun _ _ _ _ _ => (pg_tupc (K := K) (n := 2) rfl rfl (pgs_cons (pg_name (i := 2) sc_parts_of.nd rfl (Or.inl rfl)) (pgs_cons (pg_name (i := 3) sc_parts_of.nd rfl (Or.inl rfl)) pgs_nil)))) (fun _ _ _ _ _ => (pts_one (PW.pt (pw_and (pt_cmpR op_eq (pv 3) pe_str (nomark _)) (pw_and1 (pt_val (pe_callB (call_isi : CallR _ _ (rIsi K)) (by rfl) n_isinstance (by decide +kernel) (pa_cons (pv 2) (pa_cons (pe_bltn (v := .ty "tuple") (by rfl) n_tuple (by decide +kernel) rfl) pa_nil))))))))) (fun _ _ _ _ _ => (pv 2))))))), ?_⟩
    obtain ⟨wd, ks, args, rfl, hk, hl, hsh⟩ := hsh
    cases htt with
    | @tup m _ hlen hts =>
      cases hts with
      | cons ht1 hts =>
        cases hd with
        | @tup a xs _ hx hxs =>
          cases hxs with
          | @cons v0 rest _ _ h0 hr' =>
            cases h0
            have lr := dpAll_len hr'
            refine ⟨.ref a, rfl, a, wd, rest, ks, rfl, hx, hk, fun ak H1 hA e1 => ?_⟩
            dsimp only [gName, List.set]
            refine q_when (b := false) (et_test fun H2 e2 R q => ⟨.ref ak, rfl, rfl, q H2 (Ex.refl _)⟩) (fun hb => nomatch hb) (fun _ H2 e2 => ?_)
            have e12 := e1.trans e2
            refine ⟨.ref a, rfl, 1, rfl, a, _, rfl, ex_t e12 hx, ?_, fun p hp => ⟨.ref ak, rfl, p, ak, _, _, rfl, .inr ⟨st_of upd_same, hA _, fun D hD => ?_⟩⟩⟩
            · intro h
              have h1 := h.1
              rw [show ((1 : Int)) = ((1 : Nat) : Int) from rfl, HT.sIx_nat] at h1
              simp only [List.length_cons] at h1
              omega
            have hcut : cutV (V.str wd :: rest) (some 1) none = rest := by
              rw [show ((1 : Int)) = ((1 : Nat) : Int) from rfl, cut_drop]
              rfl
            rw [hcut] at hD ⊢
            have e3 := e12.trans ((Ex.new (o := .tup rest) hp).trans (Ex.new (o := .lst []) hD))
            refine lc_it (walk_zipT (xs := rest) (ys := ks.map V.str) rfl) (fun i H' => ∃ ys, ys.length ≤ i ∧ Ex (upd H2 p (.tup rest)) H' ∧ H' D = some (.lst ys) ∧ DpAll K H' ys ((args.take i).filter isP)) ⟨[], Nat.le_refl _, Ex.new hD, upd_same, .nil⟩ (fun i H' _ hI => ?_) (fun i x H3 H4 hi hI hy => ?_) (fun H3 hI => ?_)
            · obtain ⟨ys, f1, f2, f3, f4⟩ := hI
              exact ⟨st_of (f2 _ _ upd_same), hA _⟩
            · obtain ⟨ys, f1, f2, f3, f4⟩ := hI
              obtain ⟨tq, x1, y1, rfl, hT, rfl, p1, p2⟩ := hy
              replace p1 : rest[i]? = some x1 := p1
              replace p2 : (ks.map V.str)[i]? = some y1 := p2
              obtain ⟨di, hdi, hxi⟩ := dpAll_at hr' p1
              rw [List.getElem?_map] at p2
              cases hki : ks[i]? with
              | none =>
                rw [hki] at p2
                cases p2
              | some k =>
                rw [hki] at p2
                cases p2
                have hP := hsh i k di hki hdi
                have tdi := hts.at di (List.mem_of_getElem? hdi)
                have f5 : Ex (upd H2 p (.tup rest)) (upd H3 tq (.tup [x1, .str k])) := f2.trans (Ex.new hT)
                refine ⟨tq, [x1, .str k], rfl, st_of upd_same, rfl, x1, [.str k], rfl, .str k, [], rfl, rfl, rfl, ?_⟩
                have tst : isP di = (decide (V.str k = V.str "part") && isP di) := by
                  rw [hP]
                  cases hq : decide (k = "part") with
                  | false => simp
                  | true =>
                    have e := of_decide_eq_true hq
                    subst e
                    rfl
                have hx4 : Dp K (upd H3 tq (.tup [x1, .str k])) x1 di := dpM (e12.trans ((Ex.new hp).trans f5)) _ _ hxi
                refine go_test (b := isP di) (et_is (et_and (b := isP di) (et_test (ev_op (ev_var rfl) ev_c (rv_eq rfl))) fun hkp => et_B (ev_cb (ea_cons (ev_var rfl) (ea_cons ev_c ea_nil)) fun H5 e Q2 q2 => ?_)) tst.symm) fun H5 e5 => ?_
                · have isp : isP di = true := by
                    rw [hP]
                    have e0 := of_decide_eq_true hkp
                    cases e0
                    decide
                  cases di with
                  | tuple es =>
                    cases dpM e _ _ hx4 with
                    | @tup b zs _ hzs _ => exact ⟨.ref b, .ty "tuple", .type "tuple", .type "tuple", true, rfl, .ty _, tyx_t hzs, kit_ty (by decide +kernel), q2 H5 (Ex.refl _)⟩
                  | none => cases isp
                  | bool _ => cases isp
                  | int _ => cases isp
                  | str _ => cases isp
                  | list _ => cases isp
                  | dict _ => cases isp
                have g3 := e5 _ _ (Ex.new hT _ _ f3)
                have g4 := dpMs ((Ex.new hT).trans e5) _ _ f4
                have tk : (args.take (i + 1)).filter isP = (args.take i).filter isP ++ (if isP di = true then [di] else []) := by
                  rw [take_more hdi, List.filter_append]
                  cases hq : isP di <;> simp [hq]
                refine ite2 (fun hq => ?_) (fun hq => ?_)
                · refine ⟨x1, rfl, ys, g3, small1000 ?_, ys ++ [x1], ?_, (f5.trans e5).mut hD, upd_same, ?_⟩
                  · simp only [List.length_cons] at hlen
                    have hi2 := (List.getElem?_eq_some_iff.mp hdi).1
                    omega
                  · rw [List.length_append]
                    show ys.length + 1 ≤ i + 1
                    omega
                  · rw [tk, if_pos hq]
                    exact dpAll_add (dps_off g3 (n := m) (Tts.of fun y hy => hts.at y (List.mem_of_mem_take (List.mem_filter.mp hy).1)) g4) (dp_off g3 tdi (dpM e5 _ _ hx4))
                · refine ⟨ys, by omega, f5.trans e5, g3, ?_⟩
                  rw [tk, if_neg hq, List.append_nil]
                  exact g4
            · obtain ⟨ys, f1, f2, f3, f4⟩ := hI
              rw [List.length_map, lr, hl, Nat.min_self, List.take_of_length_le (by omega)] at f4
              exact kk D ys H3 (fresh_back (e12.trans (Ex.new hp)) hD) ((e12.trans (Ex.new hp)).trans f2) f3 f4

end
end K06
set_option Elab.async false
set_option linter.all false
set_option maxRecDepth 100000
set_option maxHeartbeats 8000000
namespace K06
open PySem PySem.Spec PyProof.Rows L2 He XH XV XR PEN TR Evl


/-! ### the numbered statements -/
inductive Prs (K : PySem.W.Frag) (H : Hp) : List Addr → List (PyData × List PyData) → Prop
  | nil : Prs K H [] []
  | cons {pr av : Addr} {sv : V} {s : PyData} {as : List PyData} {prs : List Addr} {more : List (PyData × List PyData)} {m m2 : Nat} (h : H pr = some (.tup [sv, .ref av])) (hs : Dp K H sv s) (ha : Dp K H (.ref av) (.tuple as)) (ts : Tt m s) (ta : Tt m2 (.tuple as)) (r : Prs K H prs more) : Prs K H (pr :: prs) ((s, as) :: more)
theorem Prs.mono {K : PySem.W.Frag} {H H' : Hp} (e : Ex H H') : ∀ {prs : List Addr} {l : List (PyData × List PyData)}, Prs K H prs l → Prs K H' prs l
  | _, _, .nil => .nil
  | _, _, .cons h hs ha ts ta r => .cons (e _ _ h) (dpM e _ _ hs) (dpM e _ _ ha) ts ta (r.mono e)
theorem Prs.off {K : PySem.W.Frag} {H : Hp} {D : Addr} {ys : List V} {o : HO} (hD : H D = some (.lst ys)) : ∀ {prs : List Addr} {l : List (PyData × List PyData)}, Prs K H prs l → Prs K (upd H D o) prs l
  | _, _, .nil => .nil
  | _, _, .cons h hs ha ts ta r => .cons ((upd_ne (fun e => by rw [e, hD] at h; cases h)).trans h) (dp_off hD ts hs) (dp_off hD ta ha) ts ta (r.off hD)
theorem Prs.app {K : PySem.W.Frag} {H : Hp} : ∀ {prs qrs : List Addr} {l k : List (PyData × List PyData)}, Prs K H prs l → Prs K H qrs k → Prs K H (prs ++ qrs) (l ++ k)
  | _, _, _, _, .nil, h => h
  | _, _, _, _, .cons h hs ha ts ta r, k => .cons h hs ha ts ta (r.app k)
theorem Prs.len {K : PySem.W.Frag} {H : Hp} : ∀ {prs : List Addr} {l : List (PyData × List PyData)}, Prs K H prs l → prs.length = l.length
  | _, _, .nil => rfl
  | _, _, .cons _ _ _ _ _ r => by rw [List.length_cons, List.length_cons, r.len]
def Bn : Nat → Nat
  | 0 => 0
  | n + 1 => 14 * (1 + 3 * Bn n)
theorem ent3 : ∀ p ∈ ENT, p.2.length ≤ 3 := by decide +kernel
theorem parts3 {d : PyData} (h : Sh d) : (parts d).length ≤ 3 := by
  obtain ⟨w, ks, args, rfl, hk, hl, _⟩ := h
  have k := ent3 _ hk
  have k2 : ((args.filter isP)).length ≤ args.length := List.length_filter_le ..
  show (args.filter isP).length ≤ 3
  simp only at k
  omega
theorem sum_le {α : Type} {f : α → Nat} {b : Nat} : ∀ {l : List α}, (∀ x ∈ l, f x ≤ b) → (l.map f).sum ≤ l.length * b
  | [], _ => by simp
  | x :: r, h => by
    have k := sum_le (l := r) fun y hy => h y (List.mem_cons_of_mem _ hy)
    have k2 := h x List.mem_cons_self
    rw [List.map_cons, List.sum_cons, List.length_cons, Nat.succ_mul]
    omega
theorem nums_len : ∀ {n : Nat} {ss as : List PyData}, Bod n ss → (nums n ss as).length ≤ Bn n
  | 0, _, _, _ => Nat.zero_le _
  | n + 1, ss, as, ⟨h1, h2⟩ => by
    show (ss.flatMap _).length ≤ 14 * (1 + 3 * Bn n)
    rw [List.length_flatMap]
    refine Nat.le_trans (sum_le (b := 1 + 3 * Bn n) fun s hs => ?_) (Nat.mul_le_mul_right _ h1)
    obtain ⟨k1, k2⟩ := h2 s hs
    rw [List.length_cons, List.length_flatMap]
    have k3 : (((parts s).zipIdx.map fun p => (nums n (bodyOf p.1) (as ++ [.tuple [wordOf s, .int (p.2 : Nat)]])).length)).sum ≤ (parts s).zipIdx.length * Bn n := sum_le fun p hp => by
      have hm : p.1 ∈ parts s := by
        have z := List.mem_zipIdx hp
        obtain ⟨_, z2, z3⟩ := z
        rw [z3]
        exact List.getElem_mem _
      obtain ⟨ds, e, hb⟩ := k2 _ hm
      rw [e]
      exact nums_len hb
    rw [List.length_zipIdx] at k3
    have k4 := Nat.mul_le_mul_right (Bn n) (parts3 k1)
    omega
def one (n : Nat) (as : List PyData) (s : PyData) (p : PyData × Nat) : List (PyData × List PyData) := nums n (bodyOf p.1) (as ++ [.tuple [wordOf s, .int (p.2 : Nat)]])
def oneS (n : Nat) (as : List PyData) (s : PyData) : List (PyData × List PyData) := (s, as) :: ((parts s).zipIdx.flatMap (one n as s))
theorem nums_S (n : Nat) (ss as : List PyData) : nums (n + 1) ss as = ss.flatMap (oneS n as) := rfl
theorem bn_fit : ∀ n : Nat, n ≤ 4 → Bn n ≤ 1100000 := by decide +kernel
theorem flat_more {α β : Type} {l : List α} {i : Nat} {x : α} (f : α → List β) (h : l[i]? = some x) : (l.take (i + 1)).flatMap f = (l.take i).flatMap f ++ f x := by
  rw [take_more h, List.flatMap_append, List.flatMap_singleton]
theorem flat_le {α β : Type} (f : α → List β) (l : List α) (i : Nat) : ((l.take i).flatMap f).length ≤ (l.flatMap f).length := by
  have h : (l.take i).flatMap f ++ (l.drop i).flatMap f = l.flatMap f := by rw [← List.flatMap_append, List.take_append_drop]
  rw [← h, List.length_append]
  omega
theorem op_or {X : Cx} {f : Value → Value → Sem Value} {r r' : R2} (h : OpR X f r) (h' : OpR X f r') : OpR X f (fun x y H Q => r x y H Q ∨ r' x y H Q) := by
  intro pins s σ H x y v u Q I rx ry q
  rcases q with q | q
  · exact h pins s σ H x y v u Q I rx ry q
  · exact h' pins s σ H x y v u Q I rx ry q
def rCat2 (K : PySem.W.Frag) : R2 := fun x y H Q => (∃ a b ys, x = .ref a ∧ y = .ref b ∧ SqT K H a [] ∧ SqT K H b ys ∧ Q (.ref b) H) ∨ rCatT K x y H Q
theorem op_cat2 {X : Cx} : OpR X (binaryOp .Add) (rCat2 X.K) := op_or op_catT0 op_catT
theorem cat_go {K : PySem.W.Frag} {H : Hp} {ar i2 : Addr} {as : List PyData} {y : V} {d : PyData} {Q : VK} (ha : Dp K H (.ref ar) (.tuple as)) (hi : SqT K H i2 [y]) (hy : Dp K H y d) (hl : as.length ≤ 900) (k : ∀ av H', Ex H H' → Dp K H' (.ref av) (.tuple (as ++ [d])) → Q (.ref av) H') :
    rCat2 K (.ref ar) (.ref i2) H Q := by
  cases ha with
  | @tup _ avs _ h1 h2 =>
    have le := dpAll_len h2
    cases avs with
    | nil =>
      cases h2
      exact .inl ⟨ar, i2, [y], rfl, rfl, h1, hi, k i2 H (Ex.refl H) (.tup hi (.cons hy .nil))⟩
    | cons v r =>
      refine .inr ⟨ar, i2, v :: r, [y], rfl, rfl, h1, hi, (fun e => nomatch e), fits ?_, (fun e => nomatch e), fun _ p hp => k p _ (Ex.new hp) (.tup (st_of upd_same) (dpMs (Ex.new hp) _ _ (dpAll_add h2 hy)))⟩
      rw [le]
      show as.length + 1 ≤ 1000
      omega
def spNum (K : PySem.W.Frag) (n : Nat) : Sp := fun vs H Q _ => ∃ b ar ss as m m2, vs = [.ref b, .ref ar] ∧ Dp K H (.ref b) (.tuple ss) ∧ Dp K H (.ref ar) (.tuple as) ∧ Tts m ss ∧ Tts m2 as ∧ (as.length + n ≤ 10 ∧ n ≤ 4) ∧ Bod n ss ∧
  ∀ q prs H', H q = none → Ex H H' → H' q = some (.lst (prs.map V.ref)) → Prs K H' prs (nums n ss as) → Q (.ref q) H'

section
variable {P : Program} {w : World} {K : PySem.W.Frag} {mg : Str → Option Value} {base : Heap}

theorem ok_numbered0 {fd : FuncData} (F : FnP K "numbered" "numbered" s_numbered (ga K "numbered") fd) (T : Tx K w mg) : FnOk P w K mg base CX0 (0 + 1) (ga K "numbered") fd ["body", "around"] (spNum K 0) := by
  refine FunD.ok F sc_numbered (fun vs H Q E h => ?_) (fun cdv A outer s H vs Q E hr h => ?_)
  · obtain ⟨b, ar, ss, as, m, m2, rfl, _⟩ := h
    rfl
  · obtain ⟨b, ar, ss, as, m, m2, rfl, hb, ha, hts, hta, _, hB, kk⟩ := h
    refine ⟨_, PSs.nox (pss_cons (ps_set (i := 2) sc_numbered.nd rfl (Or.inl rfl) (pe_lst pa_nil))
      (pss_cons (ps_for PassesOwn.never rfl (pi_tup (pv 0)) (pg_name (i := 3) sc_numbered.nd rfl (Or.inl rfl))
      (pss_cons ps_never
      (pss_one ps_never)))
      (pss_one (ps_ret (pv 2))))), ?_⟩
    have e0 : ss = [] := hB
    subst e0
    cases hb with
    | @tup _ xs _ hx hxs =>
      cases hxs
      refine q_asgL (el_lst ea_nil (by decide)) fun D H1 hD e1 h1 => ?_
      dsimp only [gName, List.set]
      refine ⟨.ref b, rfl, b, rfl, ⟨_, ex_t e1 hx⟩, ?_⟩
      refine for_tup (xs := []) (fun i σ' H' => σ' = _ ∧ H' = H1) ⟨rfl, rfl⟩ (fun i σ' H' _ hI => by rw [hI.2]; exact ex_t e1 hx) (fun i x σ' H' hx hI => nomatch hx) (fun σ' H' hI => ?_)
      rw [hI.1, hI.2]
      exact ⟨.ref D, rfl, kk D [] H1 hD e1 h1 .nil⟩

theorem ok_numberedS {fd : FuncData} {n k : Nat} (hk2 : 2 ≤ k) (F : FnP K "numbered" "numbered" s_numbered (ga K "numbered") fd) (T : Tx K w mg) (c_parts_of : Cl P w K mg base CX0 2 (ga K "parts_of") ["statement"] (spPt K)) (c_numbered : Cl P w K mg base CX0 k (ga K "numbered") ["body", "around"] (spNum K n)) : FnOk P w K mg base CX0 (k + 1) (ga K "numbered") fd ["body", "around"] (spNum K (n + 1)) := by
  obtain ⟨fd_parts_of, G_parts_of, b_parts_of, kp_parts_of⟩ := c_parts_of
  obtain ⟨fd_numbered, G_numbered, b_numbered, kp_numbered⟩ := c_numbered
  refine FunD.ok F sc_numbered (fun vs H Q E h => ?_) (fun cdv A outer s H vs Q E hr h => ?_)
  · obtain ⟨b, ar, ss, as, m, m2, rfl, _⟩ := h
    rfl
  · obtain ⟨b, ar, ss, as, m, m2, rfl, hb, ha, hts, hta, ⟨hal, hn⟩, hB, kk⟩ := h
    have n_enumerate := T.fr "enumerate" (by decide +kernel)
    have g_parts_of := T.gl "parts_of" (by decide +kernel)
    have g_numbered := T.gl "numbered" (by decide +kernel)
    refine ⟨_, PSs.nox (pss_cons (ps_set (i := 2) sc_numbered.nd rfl (Or.inl rfl) (pe_lst pa_nil))
      (pss_cons (ps_for PassesOwn.never rfl (pi_tup (pv 0)) (pg_name (i := 3) sc_numbered.nd rfl (Or.inl rfl))
      (pss_cons (ps_expr (pe_bm PySem.F.plainAttrs_list PySem.F.slot_list_append PySem.F.type_list_append mt_append (pv 2) (pa_cons (pe_tup (pa_cons (pv 3) (pa_cons (pv 1) pa_nil))) pa_nil)))
      (pss_one (ps_for PassesOwn.never rfl (pi_enum (by rfl) n_enumerate (pa_cons (pe_call G_parts_of (hr.mono hk2) (by rfl) g_parts_of kp_parts_of b_parts_of .nil pass0 (pa_cons (pv 3) pa_nil)) pa_nil)) (pg_tup rfl (pgs_cons (pg_name (i := 4) sc_numbered.nd rfl (Or.inl rfl)) (pgs_cons (pg_name (i := 5) sc_numbered.nd rfl (Or.inl rfl)) pgs_nil)))
      (pss_one (ps_expr (pe_bm PySem.F.plainAttrs_list PySem.F.slot_list_extend PySem.F.type_list_extend mt_extend (pv 2) (pa_cons (pe_call G_numbered (hr.mono (Nat.le_refl _)) (by rfl) g_numbered kp_numbered b_numbered .nil pass0 (pa_cons (pv 5) (pa_cons (pe_op op_cat2 (pv 1) (pe_tup (pa_cons (pe_tup (pa_cons (pe_ix ix_tup (pv 3) pe_int (fun _ _ => rfl)) (pa_cons (pv 4) pa_nil))) pa_nil))) pa_nil))) pa_nil))))))))
      (pss_one (ps_ret (pv 2))))), ?_⟩
    have hB0 := hB
    obtain ⟨hsl, hB⟩ := hB
    have tot := nums_len (as := as) hB0
    have cap := bn_fit (n + 1) hn
    rw [nums_S] at tot
    cases hb with
    | @tup _ xs _ hx hxs =>
      have lx := dpAll_len hxs
      refine q_asgL (el_lst ea_nil (by decide)) fun D H1 hD e1 h1 => ?_
      dsimp only [gName, List.set]
      refine ⟨.ref b, rfl, b, rfl, ⟨_, ex_t e1 hx⟩, ?_⟩
      refine for_tup (xs := xs) (fun i σ' H' => ∃ prs v3 v4 v5, σ' = [some (.ref b), some (.ref ar), some (.ref D), v3, v4, v5] ∧ H' D = some (.lst (prs.map V.ref)) ∧ Ex H H' ∧ Prs K H' prs ((ss.take i).flatMap (oneS n as)))
        ⟨[], _, _, _, rfl, h1, e1, .nil⟩ (fun i σ' H' _ hI => ?_) (fun i x σ' H' hxi hI => ?_) (fun σ' H' hI => ?_)
      · obtain ⟨prs, v3, v4, v5, rfl, f1, f2, f3⟩ := hI
        exact ex_t f2 hx
      · obtain ⟨prs, v3, v4, v5, rfl, f1, f2, f3⟩ := hI
        obtain ⟨s, hs, hxs'⟩ := dpAll_at hxs hxi
        have hsm := List.mem_of_getElem? hs
        obtain ⟨shs, hps⟩ := hB s hsm
        have tts := hts.at s hsm
        have lp := f3.len
        have le1 := flat_le (oneS n as) ss i
        dsimp only [gName, List.set]
        obtain ⟨wd, ks, args, es, hk, hkl, hksh⟩ := id shs
        subst es
        cases hxs' with
        | @tup t rest0 _ ht hrest =>
          cases hrest with
          | @cons v0 rest _ _ hv0 hrest =>
            cases hv0
            have hxs2 : Dp K H (.ref t) (.tuple (.str wd :: args)) := .tup ht (.cons (.str wd) hrest)
            generalize hS : PyData.tuple (.str wd :: args) = s at *
            have hw : wordOf s = .str wd := by rw [← hS]; rfl
            have tot1 : ((ss.take i).flatMap (oneS n as)).length + (oneS n as s).length ≤ 1100000 := by
              have z := flat_le (oneS n as) ss (i + 1)
              rw [flat_more (oneS n as) hs, List.length_append] at z
              omega
            have one1 : (oneS n as s).length = 1 + ((parts s).zipIdx.flatMap (one n as s)).length := by
              show (_ :: _).length = _
              rw [List.length_cons]
              omega
            refine ⟨.ref D, rfl, .inl ⟨rfl, _, sq_of f1⟩, .ref t, rfl, .ref ar, rfl, (show 2 ≤ sizeLine by decide), fun p hp => ⟨D, prs.map V.ref, .ref p, rfl, rfl, Ex.new hp _ _ f1, ?_, ?_⟩⟩
            · rw [List.length_map, sizeLine_eq]
              omega
            have g1 := f2.trans (Ex.new (o := .tup [.ref t, .ref ar]) hp)
            have nb : Prs K (upd H' p (.tup [.ref t, .ref ar])) (prs ++ [p]) ((ss.take i).flatMap (oneS n as) ++ [(s, as)]) := (f3.mono (Ex.new hp)).app (.cons upd_same (dpM g1 _ _ hxs2) (dpM g1 _ _ ha) tts (.tup (by omega) hta) .nil)
            have nb2 := nb.off (o := .lst (prs.map V.ref ++ [.ref p])) (Ex.new hp _ _ f1)
            have g2 : Ex H (upd (upd H' p (.tup [.ref t, .ref ar])) D (.lst (prs.map V.ref ++ [.ref p]))) := g1.mut hD
            have g3 : upd (upd H' p (.tup [.ref t, .ref ar])) D (.lst (prs.map V.ref ++ [.ref p])) D = some (.lst ((prs ++ [p]).map V.ref)) := by rw [upd_same, List.map_append]; rfl
            generalize upd (upd H' p (.tup [.ref t, .ref ar])) D (.lst (prs.map V.ref ++ [.ref p])) = H3 at nb2 g2 g3
            refine ⟨.ref t, rfl, .ref t, s, m, rfl, dpM g2 _ _ hxs2, tts, shs, fun q ys H4 hq e4 h4 hys => ⟨q, ys, rfl, sq_of h4, ?_⟩⟩
            have nqD : q ≠ D := fun e => by rw [e, g3] at hq; cases hq
            have lys := dpAll_len hys
            refine for_it (walk_enum (xs := ys)) (fun j σ' H' => ∃ prs2 v4' v5', σ' = [some (.ref b), some (.ref ar), some (.ref D), some (.ref t), v4', v5'] ∧ H' D = some (.lst (prs2.map V.ref)) ∧ Ex H H' ∧ (H' q = some (.lst ys) ∧ DpAll K H' ys (parts s)) ∧ Prs K H' prs2 ((ss.take i).flatMap (oneS n as) ++ ((s, as) :: ((parts s).zipIdx.take j).flatMap (one n as s))))
              ⟨prs ++ [p], _, _, rfl, e4 _ _ g3, g2.trans e4, ⟨h4, hys⟩, nb2.mono e4⟩ (fun j σ' H' _ hI => ?_) (fun j x σ' H5 H6 hj hI hy => ?_) (fun σ' H' hI => ?_)
            · obtain ⟨prs2, v4', v5', rfl, k1, k2, k3, k4⟩ := hI
              exact sq_of k3.1
            · obtain ⟨prs2, v4', v5', rfl, k1, k2, ⟨k3, k3'⟩, k4⟩ := hI
              obtain ⟨tq, x1, y1, rfl, hT, rfl, p1, p2⟩ := hy
              cases p1
              replace p2 : ys[j]? = some y1 := p2
              obtain ⟨pd, hpd, hpv⟩ := dpAll_at k3' p2
              obtain ⟨ds, rfl, hbd⟩ := hps pd (List.mem_of_getElem? hpd)
              have mz : (parts s).zipIdx[j]? = some (.tuple ds, j) := by
                rw [List.getElem?_zipIdx, hpd]
                simp
              have g5 : Ex H (upd H5 tq (.tup [.int (j : Nat), y1])) := k2.trans (Ex.new hT)
              have g6 := g5
              cases hpv with
              | @tup pb pvs _ hpb hpvs =>
                have tpd : Tt m (.tuple ds) ∨ True := .inr True.intro
                obtain ⟨m', tds, wlen, mp, tps⟩ : ∃ m', Tts m' ds ∧ wd.length ≤ 1000 ∧ ∃ mp, Tts mp (parts s) := by
                  have z := (List.mem_of_getElem? hpd)
                  have z2 : PyData.tuple ds ∈ args := by
                    rw [← hS] at z
                    exact (List.mem_filter.mp z).1
                  rw [← hS] at tts
                  cases tts with
                  | tup _ q1 =>
                    cases q1 with
                    | cons q0 q2 =>
                      have z3 := q2.at _ z2
                      cases q0 with
                      | str q5 =>
                        cases z3 with
                        | tup _ z4 => exact ⟨_, z4, q5, _, Tts.of fun y hy => q2.at y (by rw [← hS] at hy; exact (List.mem_filter.mp hy).1)⟩
                refine ⟨tq, [.int (j : Nat), .ref pb], rfl, st_of upd_same, rfl, .int (j : Nat), [.ref pb], rfl, .ref pb, [], rfl, rfl, ?_⟩
                dsimp only [gName, List.set]
                have kD := Ex.new (o := .tup [.int (j : Nat), .ref pb]) hT _ _ k1
                refine ⟨.ref D, rfl, .inl ⟨rfl, _, sq_of kD⟩, .ref pb, rfl, .ref ar, rfl, .ref t, rfl, t, _, 0, .str wd, rfl, rfl, ex_t g5 ht, atI_nat (j := 0) rfl, .int (j : Nat), rfl, (show 2 ≤ sizeLine by decide), fun i1 hi1 => ⟨(show 1 ≤ sizeLine by decide), fun i2 hi2 => ?_⟩⟩
                have g7 := (Ex.new (o := .tup [.str wd, .int (j : Nat)]) hi1).trans (Ex.new (o := .tup [.ref i1]) hi2)
                have dd : Dp K (upd (upd (upd H5 tq (.tup [.int (j : Nat), .ref pb])) i1 (.tup [.str wd, .int (j : Nat)])) i2 (.tup [.ref i1])) (.ref i1) (.tuple [wordOf s, .int (j : Nat)]) := by
                  rw [hw]
                  exact .tup (st_of (Ex.new hi2 _ _ upd_same)) (.cons (.str wd) (.cons (.int _) .nil))
                refine cat_go (K := K) (dpM (g5.trans g7) _ _ ha) (st_of upd_same) dd (by omega) fun av H7 e7 d7 => ?_
                have g8 := g7.trans e7
                have g9 : Ex H5 H7 := (Ex.new hT).trans g8
                refine ⟨pb, av, ds, as ++ [.tuple [wordOf s, .int (j : Nat)]], m', m2 + 1, rfl, dpM g9 _ _ (.tup hpb hpvs), d7, tds, ?_, ⟨by rw [List.length_append]; show as.length + 1 + n ≤ 10; omega, by omega⟩, hbd, fun qn prs3 H8 hqn e8 h8 hP => ?_⟩
                · rw [hw]
                  exact hta.up.app (.cons (.tup (show 2 ≤ 100 by decide) (.cons (.str wlen) (.cons (.int _) .nil))) .nil)
                have kD8 := e8 _ _ (g8 _ _ kD)
                have l3 := hP.len
                have l4 := k4.len
                have tot2 := flat_le (one n as s) (parts s).zipIdx (j + 1)
                rw [flat_more (one n as s) mz, List.length_append] at tot2
                rw [List.length_append, List.length_cons] at l4
                have l3' : prs3.length = (one n as s (.tuple ds, j)).length := l3
                refine ⟨D, qn, prs2.map V.ref, prs3.map V.ref, rfl, rfl, kD8, h8, ?_, prs2 ++ prs3, _, _, rfl, by rw [upd_same, List.map_append], (k2.trans (g9.trans e8)).mut hD, ⟨?_, ?_⟩, ?_⟩
                · rw [List.length_map, List.length_map, sizeLine_eq]
                  omega
                · exact (upd_ne nqD).trans (e8 _ _ (g9 _ _ k3))
                · exact dps_off kD8 tps (dpMs (g9.trans e8) _ _ k3')
                · rw [show ((parts s).zipIdx.take (j + 1)).flatMap (one n as s) = ((parts s).zipIdx.take j).flatMap (one n as s) ++ one n as s (.tuple ds, j) from flat_more _ mz, ← List.cons_append, ← List.append_assoc]
                  exact ((k4.mono (g9.trans e8)).app hP).off kD8
            · obtain ⟨prs2, v4', v5', rfl, k1, k2, k3, k4⟩ := hI
              refine ⟨prs2, _, _, _, rfl, k1, k2, ?_⟩
              rw [show (parts s).zipIdx.take ys.length = (parts s).zipIdx from List.take_of_length_le (by rw [List.length_zipIdx]; omega)] at k4
              rw [flat_more (oneS n as) hs]
              exact k4
      · obtain ⟨prs, v3, v4, v5, rfl, f1, f2, f3⟩ := hI
        rw [List.take_of_length_le (by omega)] at f3
        exact ⟨.ref D, rfl, kk D prs H' hD f2 f1 f3⟩

end
end K06
set_option Elab.async false
set_option linter.all false
set_option maxRecDepth 100000
set_option maxHeartbeats 8000000
namespace K06
open PySem PySem.Spec PyProof.Rows L2 He XH XV XR PEN TR Evl

theorem ttUpN {d : PyData} : ∀ {n : Nat} (k : Nat), Tt n d → Tt (n + k) d
  | _, 0, h => h
  | _, k + 1, h => (ttUpN k h).up
theorem ttUp {m : Nat} {d : PyData} (h : m ≤ 9) (t : Tt (m + 1) d) : Tt 10 d := by
  have z := ttUpN (9 - m) t
  rw [show m + 1 + (9 - m) = 10 by omega] at z
  exact z

/-! ### functions -/
def Fn (K : PySem.W.Frag) (H : Hp) (f : Addr) (nm : Str) (ss : List PyData) : Prop := ∃ dx b n, H f = some (.ins (ga K "Function") dx [("name", .str nm), ("body", .ref b), ("many", .int n)]) ∧ Dp K H (.ref b) (.tuple ss)
theorem Fn.mono {K : PySem.W.Frag} {H H' : Hp} {f : Addr} {nm : Str} {ss : List PyData} (e : Ex H H') (h : Fn K H f nm ss) : Fn K H' f nm ss := by
  obtain ⟨dx, b, n, h1, h2⟩ := h
  exact ⟨dx, b, n, e _ _ h1, dpM e _ _ h2⟩
/-- a body that holds: a tree of texts of such statements -/
def BodT (ss : List PyData) : Prop := (∃ m, m ≤ 9 ∧ Tt (m + 1) (.tuple ss)) ∧ Bod 4 ss
mutual
theorem dp_xa {K : PySem.W.Frag} {H H' : Hp} {a C dx : Addr} {fs : List (Str × V)} (k : Xa a H H') (ha : H a = some (.ins C dx fs)) : ∀ (d : PyData) (v : V), Dp K H v d → Dp K H' v d
  | .none, _, h => by
    cases h
    exact .non
  | .bool b, _, h => by
    cases h
    exact .bl b
  | .int i, _, h => by
    cases h
    exact .int i
  | .str x, _, h => by
    cases h
    exact .str x
  | .list ds, _, h => by
    cases h with
    | @lst b _ _ h1 h2 =>
      refine .lst ?_ (dps_xa k ha ds _ h2)
      rcases h1 with (h1 | ⟨o, h1⟩) | h1
      · exact .inl (.inl (k _ _ (fun e => by rw [e, ha] at h1; cases h1) h1))
      · exact .inl (.inr ⟨o, k _ _ (fun e => by rw [e, ha] at h1; cases h1) h1⟩)
      · exact .inr h1
  | .tuple ds, _, h => by
    cases h with
    | @tup b _ _ h1 h2 =>
      refine .tup ?_ (dps_xa k ha ds _ h2)
      rcases h1 with (h1 | ⟨o, h1⟩) | h1
      · exact .inl (.inl (k _ _ (fun e => by rw [e, ha] at h1; cases h1) h1))
      · exact .inl (.inr ⟨o, k _ _ (fun e => by rw [e, ha] at h1; cases h1) h1⟩)
      · exact .inr h1
  | .dict _, _, h => by cases h
theorem dps_xa {K : PySem.W.Frag} {H H' : Hp} {a C dx : Addr} {fs : List (Str × V)} (k : Xa a H H') (ha : H a = some (.ins C dx fs)) : ∀ (ds : List PyData) (vs : List V), DpAll K H vs ds → DpAll K H' vs ds
  | [], _, h => by
    cases h
    exact .nil
  | d :: ds, _, h => by
    cases h with
    | cons h1 h2 => exact .cons (dp_xa k ha d _ h1) (dps_xa k ha ds _ h2)
end
def spFI (K : PySem.W.Frag) : Sp := fun vs H Q _ => ∃ a nm b ss dx, vs = [.ref a, .str nm, .ref b] ∧ H a = some (.ins (ga K "Function") dx []) ∧ Dp K H (.ref b) (.tuple ss) ∧ BodT ss ∧ ∀ H', Xa a H H' → Fn K H' a nm ss → Q .non H'


/-! ### names by kind, what fits -/
def nmsOf (cs rs fs : List Str) (k : Str) : List Str := if k = "cell" then cs else if k = "row" then rs else if k = "function" then fs else if k = "how" then ["copy", "view"] else if k = "end" then ["found", "none"] else []
def fitsP (cs rs fs : List Str) (k : Str) (x : PyData) : Prop := if k = "part" then isP x = true else ∃ z, x = .str z ∧ z ∈ nmsOf cs rs fs k
def five : List Str := ["cell", "row", "function", "how", "end"]
def Nm (K : PySem.W.Frag) (H : Hp) (nm : Addr) (cs rs fs : List Str) : Prop := ∃ kvs, H nm = some (.dK kvs) ∧ ∀ k ∈ five, ∃ a, valV kvs (Sum.inr k) = some (.ref a) ∧ SqT K H a ((nmsOf cs rs fs k).map V.str)
theorem Nm.mono {K : PySem.W.Frag} {H H' : Hp} {nm : Addr} {cs rs fs : List Str} (e : Ex H H') (h : Nm K H nm cs rs fs) : Nm K H' nm cs rs fs := by
  obtain ⟨kvs, h1, h2⟩ := h
  refine ⟨kvs, e _ _ h1, fun k hk => ?_⟩
  obtain ⟨a, h3, h4⟩ := h2 k hk
  exact ⟨a, h3, ex_t e h4⟩
theorem kinds6 : ∀ p ∈ ENT, ∀ k ∈ p.2, k = "part" ∨ k ∈ five := by decide +kernel
theorem part5 : ("part" : Str) ∉ five := by decide +kernel
/-- a statement that holds: a known word, and what its kinds ask for -/
def Wf (cs rs fs : List Str) (d : PyData) : Prop := ∃ w ks args, d = .tuple (.str w :: args) ∧ (w, ks) ∈ ENT ∧ args.length = ks.length ∧ ∀ (i : Nat) (k : Str) (x : PyData), ks[i]? = some k → args[i]? = some x → fitsP cs rs fs k x
theorem Wf.sh {cs rs fs : List Str} {d : PyData} (h : Wf cs rs fs d) : Sh d := by
  obtain ⟨w, ks, args, rfl, hk, hl, hf⟩ := h
  refine ⟨w, ks, args, rfl, hk, hl, fun i k x h1 h2 => ?_⟩
  have z := hf i k x h1 h2
  unfold fitsP at z
  by_cases e : k = "part"
  · rw [if_pos e] at z
    rw [z, decide_eq_true e]
  · rw [if_neg e] at z
    obtain ⟨y, rfl, _⟩ := z
    rw [decide_eq_false e]
    rfl
def spFits (K : PySem.W.Frag) : Sp := fun vs H Q _ => ∃ x k nm d cs rs fs, vs = [x, .str k, .ref nm] ∧ Dp K H x d ∧ Nm K H nm cs rs fs ∧ (k = "part" ∨ k ∈ five) ∧ fitsP cs rs fs k d ∧ ∀ H', Ex H H' → Q (.bl true) H'
def spWell (K : PySem.W.Frag) : Sp := fun vs H Q _ => ∃ v nm d cs rs fs, vs = [v, .ref nm] ∧ Dp K H v d ∧ Nm K H nm cs rs fs ∧ Wf cs rs fs d ∧ ∀ H', Ex H H' → Q (.bl true) H'

section
variable {P : Program} {w : World} {K : PySem.W.Frag} {mg : Str → Option Value} {base : Heap}

theorem ok_Function_init {fd : FuncData} {f : Addr} (F : FnP K "__init__" "Function.__init__" s_Function_init f fd) (T : Tx K w mg) (c_frozen : Cl P w K mg base CX0 11 (ga K "frozen") ["thing"] (spFr K 10)) (c_numbered : Cl P w K mg base CX0 10 (ga K "numbered") ["body", "around"] (spNum K 4)) : FnOk P w K mg base CX0 (11 + 1) f fd ["self", "name", "body"] (spFI K) := by
  obtain ⟨fd_frozen, G_frozen, b_frozen, kp_frozen⟩ := c_frozen
  obtain ⟨fd_numbered, G_numbered, b_numbered, kp_numbered⟩ := c_numbered
  refine FunD.ok F sc_Function_init (fun vs H Q E h => ?_) (fun cdv A outer s H vs Q E hr h => ?_)
  · obtain ⟨a, nm, b, ss, dx, rfl, _⟩ := h
    rfl
  · obtain ⟨a, nm, b, ss, dx, rfl, ha, hb, ⟨⟨m, hm9, htt⟩, hbod⟩, kk⟩ := h
    have g_frozen := T.gl "frozen" (by decide +kernel)
    have n_len := T.fr "len" (by decide +kernel)
    have g_numbered := T.gl "numbered" (by decide +kernel)
    refine ⟨_, PSs.nox (pss_cons (ps_fld (pv 0) (pv 1) rfl)
      (pss_cons (ps_fld (pv 0) (pe_call G_frozen (hr.mono (by decide)) (by rfl) g_frozen kp_frozen b_frozen .nil pass0 (pa_cons (pv 2) pa_nil)) rfl)
      (pss_one (ps_fld (pv 0) (pe_callB call_len_seq (by rfl) n_len (by decide +kernel) (pa_cons (pe_call G_numbered (hr.mono (by decide)) (by rfl) g_numbered kp_numbered b_numbered .nil pass0 (pa_cons (pe_fld (pv 0) rfl) (pa_cons (pe_tup pa_nil) pa_nil))) pa_nil)) rfl)))), ?_⟩
    refine ⟨.str nm, rfl, .ref a, rfl, a, _, dx, [], rfl, ha, T.cf, T.nf "name" (by decide +kernel), by decide, ?_⟩
    have e1 : upd H a (.ins (ga K "Function") dx (putF "name" (.str nm) [])) a = some (.ins (ga K "Function") dx [("name", .str nm)]) := upd_same
    generalize hH1 : upd H a (.ins (ga K "Function") dx (putF "name" (.str nm) [])) = H1 at e1
    have x1 : Xa a H H1 := by rw [← hH1]; exact Xa.upd
    have hb1 := dp_xa x1 ha _ _ hb
    refine ⟨.ref b, rfl, .ref b, .tuple ss, rfl, hb1, (by exact ttUp hm9 htt), fun u H2 e2 h2 => ?_⟩
    cases h2 with
    | @tup u xs _ hu2 hxs2 =>
    refine ⟨.ref a, rfl, a, _, dx, _, rfl, e2 _ _ e1, T.cf, T.nf "body" (by decide +kernel), (show 1 < 1000 by decide), ?_⟩
    rw [putF_tail (by decide +kernel)]
    have e3 : upd H2 a (.ins (ga K "Function") dx (("name", .str nm) :: putF "body" (.ref u) [])) a = some (.ins (ga K "Function") dx [("name", .str nm), ("body", .ref u)]) := upd_same
    generalize hH3 : upd H2 a (.ins (ga K "Function") dx (("name", .str nm) :: putF "body" (.ref u) [])) = H3 at e3
    have x3 : Xa a H2 H3 := by rw [← hH3]; exact Xa.upd
    have h3 : Dp K H3 (.ref u) (.tuple ss) := dp_xa x3 (e2 _ _ e1) _ _ (.tup hu2 hxs2)
    refine ⟨.ref a, rfl, a, _, dx, _, .ref u, rfl, e3, T.cf, T.nf "body" (by decide +kernel), rfl, (by decide), fun ar har => ?_⟩
    have e4 := Ex.new (o := .tup []) har
    have tss : Tts m ss := by
      cases htt with
      | tup _ q => exact q
    refine ⟨u, ar, ss, [], m, 0, rfl, dpM e4 _ _ h3, .tup (st_of upd_same) .nil, tss, .nil, ⟨by decide, by decide⟩, hbod, fun q prs H4 hq e5 h5 _ => ?_⟩
    refine ⟨q, _, rfl, .inl (sq_of h5), .ref a, rfl, a, _, dx, _, rfl, e5 _ _ (e4 _ _ e3), T.cf, T.nf "many" (by decide +kernel), (show 2 < 1000 by decide), ?_⟩
    rw [putF_tail (by decide +kernel), putF_tail (by decide +kernel)]
    have x4 : Xa a H3 H4 := Xa.of (e4.trans e5)
    exact kk _ (((x1.trans (Xa.of e2)).trans (x3.trans x4)).trans Xa.upd) ⟨dx, u, _, upd_same, dp_xa (C := ga K "Function") (dx := dx) Xa.upd (e5 _ _ (e4 _ _ e3)) _ _ (dpM (e4.trans e5) _ _ h3)⟩

theorem ok_fits {fd : FuncData} (F : FnP K "fits" "fits" s_fits (ga K "fits") fd) (T : Tx K w mg) : FnOk P w K mg base CX0 (0 + 1) (ga K "fits") fd ["entry", "kind", "names"] (spFits K) := by
  refine FunD.ok F sc_fits (fun vs H Q E h => ?_) (fun cdv A outer s H vs Q E hr h => ?_)
  · obtain ⟨x, k, nm, d, cs, rs, fs, rfl, _⟩ := h
    rfl
  · obtain ⟨x, k, nm, d, cs, rs, fs, rfl, hd, hN, hk, hf, kk⟩ := h
    have n_isinstance := T.fr "isinstance" (by decide +kernel)
    have n_tuple := T.fr "tuple" (by decide +kernel)
    refine ⟨_, PSs.nox (pss_cons (ps_if (pt_cmpR op_eq (pv 1) pe_str (nomark _))
      (pss_one (ps_ret (pe_callB call_isi (by rfl) n_isinstance (by decide +kernel) (pa_cons (pv 0) (pa_cons (pe_bltn (v := .ty "tuple") (by rfl) n_tuple (by decide +kernel) rfl) pa_nil)))))
      pss_nil)
      (pss_one (ps_ret (pe_cmpR op_in_seq (pv 0) (pe_dget (Nat.lt_of_le_of_lt (Nat.add_le_add_left (by decide) _) hr.units) (pv 2) (pv 1) (fun _ _ => rfl)) (by rfl))))), ?_⟩
    unfold fitsP at hf
    refine q_when (b := decide (V.str k = V.str "part")) (et_test (ev_op (ev_var rfl) ev_c (rv_eq rfl))) (fun hb H1 e1 => ?_) (fun hb H1 e1 => ?_)
    · have e0 := of_decide_eq_true hb
      injection e0 with e0
      rw [if_pos e0] at hf
      refine s_ret (ev_cb (ea_cons (ev_var rfl) (ea_cons ev_c ea_nil)) fun H2 e Q2 q2 => ?_) fun H2 e2 => kk H2 (e1.trans e2)
      cases d with
      | tuple es =>
        cases hd with
        | @tup b zs _ hzs _ => exact ⟨.ref b, .ty "tuple", .type "tuple", .type "tuple", true, rfl, .ty _, tyx_t (ex_t (e1.trans e) hzs), kit_ty (by decide +kernel), q2 H2 (Ex.refl _)⟩
      | none => cases hf
      | bool _ => cases hf
      | int _ => cases hf
      | str _ => cases hf
      | list _ => cases hf
      | dict _ => cases hf
    · have e0 := of_decide_eq_false hb
      have e3 : ¬ k = "part" := fun e => e0 (by rw [e])
      rw [if_neg e3] at hf
      obtain ⟨z, rfl, hz⟩ := hf
      cases hd
      obtain ⟨kvs, g1, g2⟩ := hN
      obtain ⟨a, g3, g4⟩ := g2 k (hk.resolve_left e3)
      refine ⟨.str z, rfl, .ref nm, rfl, .str k, rfl, nm, .ref a, rfl, .inl ⟨kvs, Sum.inr k, .inl (e1 _ _ g1), rfl, g3.symm⟩, a, _, rfl, .inr (ex_t e1 g4), rfl, flat_strs _, ?_⟩
      show Q (.bl (if false = true then _ else inV (.str z) ((nmsOf cs rs fs k).map V.str))) H1
      rw [if_neg Bool.false_ne_true, inV_strs, decide_eq_true hz]
      exact kk H1 e1

theorem ok_well_formed {fd : FuncData} (F : FnP K "well_formed" "well_formed" s_well_formed (ga K "well_formed") fd) (T : Tx K w mg) (c_kinds_of : Cl P w K mg base CX0 1 (ga K "kinds_of") ["statement"] (spKd K)) (c_fits : Cl P w K mg base CX0 1 (ga K "fits") ["entry", "kind", "names"] (spFits K)) : FnOk P w K mg base CX0 (1 + 1) (ga K "well_formed") fd ["statement", "names"] (spWell K) := by
  obtain ⟨fd_kinds_of, G_kinds_of, b_kinds_of, kp_kinds_of⟩ := c_kinds_of
  obtain ⟨fd_fits, G_fits, b_fits, kp_fits⟩ := c_fits
  refine FunD.ok F sc_well_formed (fun vs H Q E h => ?_) (fun cdv A outer s H vs Q E hr h => ?_)
  · obtain ⟨v, nm, d, cs, rs, fs, rfl, _⟩ := h
    rfl
  · obtain ⟨v, nm, d, cs, rs, fs, rfl, hd, hN, hW, kk⟩ := h
    have g_kinds_of := T.gl "kinds_of" (by decide +kernel)
    have n_len := T.fr "len" (by decide +kernel)
    have n_all := T.fr "all" (by decide +kernel)
    have n_zip := T.fr "zip" (by decide +kernel)
    have g_fits := T.gl "fits" (by decide +kernel)
    refine ⟨_, PSs.nox (pss_cons (ps_set (i := 2) sc_well_formed.nd rfl (Or.inl rfl) (pe_call G_kinds_of (hr.mono (by decide)) (by rfl) g_kinds_of kp_kinds_of b_kinds_of .nil pass0 (pa_cons (pv 0) pa_nil)))
      (pss_cons (ps_if (PW.pt (pw_or (pt_cmpR op_isN (pv 2) pe_non (nomark _)) (pw_or1 (pt_cmpR op_ne (pe_callB call_len_seq (by rfl) n_len (by decide +kernel) (pa_cons (pv 0) pa_nil)) (pe_op op_add pe_int (pe_callB call_len_seq (by rfl) n_len (by decide +kernel) (pa_cons (pv 2) pa_nil))) (nomark _)))))
      (pss_one (ps_ret pe_bl))
      pss_nil)
      (pss_one (ps_ret (pe_callB (cr_all rfl) (by rfl) n_all (by decide +kernel) (pa_cons (pe_lc (own := [("entry", 3), ("kind", 4)]) (g := _) (by rfl) sc_well_formed.nd (RZ.pi_zipA (by rfl) n_zip (pa_cons (pe_slice sl_tup (pv 0) (po_some pe_int) po_none) (pa_cons (pv 2) pa_nil))) (blkOk_by (own := [("entry", 3), ("kind", 4)]) (N := ["statement", "names", "kinds", "entry", "kind"]) (sc := defScope s_well_formed) (by decide +kernel)) (fun _ _ _ _ _ => (pg_tupc (K := K) (n := 2) rfl rfl (pgs_cons (pg_name (i := 3) sc_well_formed.nd rfl (Or.inl rfl)) (pgs_cons (pg_name (i := 4) sc_well_formed.nd rfl (Or.inl rfl)) pgs_nil)))) (fun _ _ _ _ _ => pts_nil) (fun _ _ _ _ _ => (pe_call G_fits (hr.mono (by decide)) (by rfl) g_fits kp_fits b_fits .nil pass0 (pa_cons (pv 3) (pa_cons (pv 4) (pa_cons (pv 1) pa_nil)))))) pa_nil)))))), ?_⟩
    obtain ⟨wd, ks, args, rfl, hk, hl, hf⟩ := hW
    cases hd with
    | @tup a xs _ hx hxs =>
      cases hxs with
      | @cons v0 rest _ _ h0 hr' =>
        cases h0
        have lr := dpAll_len hr'
        refine ⟨.ref a, rfl, a, wd, rest, ks, rfl, hx, hk, fun ak H1 hA e1 => ?_⟩
        dsimp only [gName, List.set]
        have hx1 := ex_t e1 hx
        have k3 := ent3 _ hk
        refine q_when (b := false) (et_or (a := false) (b := false) (et_test fun H2 e2 R q => ⟨.ref ak, rfl, rfl, q H2 (Ex.refl _)⟩) fun _ => et_test (ev_is (ev_op (ev_cb (ea_cons (ev_var rfl) ea_nil) fun H2 e2 R q => ⟨a, _, rfl, .inr (ex_t e2 hx1), q H2 (Ex.refl _)⟩)
          (ev_op ev_c (ev_cb (ea_cons (ev_var rfl) ea_nil) fun H2 e2 R q => ⟨ak, _, rfl, .inr (hA _), q H2 (Ex.refl _)⟩) rv_I0) (rv_ne rfl)) ?_)) (fun hb => nomatch hb) (fun _ H2 e2 => ?_)
        · rw [List.length_map, List.length_cons, lr, hl]
          have z : ((ks.length + 1 : Nat) : Int) = 1 + (ks.length : Int) := by omega
          rw [z]
          simp
        have e12 := e1.trans e2
        refine ⟨.ref a, rfl, 1, rfl, a, _, rfl, ex_t e12 hx, ?_, fun p hp => ⟨.ref ak, rfl, p, ak, _, _, rfl, .inr ⟨st_of upd_same, hA _, fun D hD => ?_⟩⟩⟩
        · intro h
          have h1 := h.1
          rw [show ((1 : Int)) = ((1 : Nat) : Int) from rfl, HT.sIx_nat] at h1
          simp only [List.length_cons] at h1
          omega
        have hcut : cutV (V.str wd :: rest) (some 1) none = rest := by
          rw [show ((1 : Int)) = ((1 : Nat) : Int) from rfl, cut_drop]
          rfl
        rw [hcut] at hD ⊢
        have e3 := e12.trans (Ex.new (o := .tup rest) hp)
        refine lc_it (walk_zipT (xs := rest) (ys := ks.map V.str) rfl) (fun i H' => Ex (upd H2 p (.tup rest)) H' ∧ H' D = some (.lst ((List.replicate i true).map V.bl))) ⟨Ex.new hD, upd_same⟩ (fun i H' _ hI => ?_) (fun i x H3 H4 hi hI hy => ?_) (fun H3 hI => ?_)
        · obtain ⟨f2, f3⟩ := hI
          exact ⟨st_of (f2 _ _ upd_same), hA _⟩
        · obtain ⟨f2, f3⟩ := hI
          obtain ⟨tq, x1, y1, rfl, hT, rfl, p1, p2⟩ := hy
          replace p1 : rest[i]? = some x1 := p1
          replace p2 : (ks.map V.str)[i]? = some y1 := p2
          obtain ⟨di, hdi, hxi⟩ := dpAll_at hr' p1
          rw [List.getElem?_map] at p2
          cases hki : ks[i]? with
          | none =>
            rw [hki] at p2
            cases p2
          | some k =>
            rw [hki] at p2
            cases p2
            have f5 : Ex (upd H2 p (.tup rest)) (upd H3 tq (.tup [x1, .str k])) := f2.trans (Ex.new hT)
            have f6 := e3.trans f5
            have hi3 := (List.getElem?_eq_some_iff.mp hki).1
            refine ⟨tq, [x1, .str k], rfl, st_of upd_same, rfl, x1, [.str k], rfl, .str k, [], rfl, rfl, rfl, yes_go ?_⟩
            refine ⟨x1, rfl, .str k, rfl, .ref nm, rfl, x1, k, nm, di, cs, rs, fs, rfl, dpM f6 _ _ hxi, hN.mono f6, kinds6 _ hk k (List.mem_of_getElem? hki), hf i k di hki hdi, fun H5 e5 => ⟨_, e5 _ _ (Ex.new hT _ _ f3), small1000 ?_, (f5.trans e5).mut hD, ?_⟩⟩
            · simp only [List.length_map, List.length_replicate]
              simp only at k3
              omega
            · rw [upd_same, List.replicate_succ', List.map_append]
              rfl
        · obtain ⟨f2, f3⟩ := hI
          refine ⟨D, _, rfl, sq_of f3, ?_⟩
          rw [show ∀ n : Nat, (List.replicate n true).all id = true from fun n => by simp [List.all_replicate]]
          exact kk H3 (e3.trans f2)

end
end K06
set_option Elab.async false
set_option linter.all false
set_option maxRecDepth 100000
set_option maxHeartbeats 8000000
namespace K06
open PySem PySem.Spec PyProof.Rows L2 He XH XV XR PEN TR Evl


/-! ### x in t, data at any depth -/
def rInDT (K : PySem.W.Frag) : R2 := fun x y H Q => ∃ d ds, Dp K H x d ∧ Dp K H y (.tuple ds) ∧ SeqAt.shaped d = true ∧ SeqAt.shaped (.tuple ds) = true ∧ Q (.bl (ds.any fun z => PyData.eqv z d)) H
theorem op_inDT {X : Cx} (hu : X.A.units + 65 < cLine) : OpR X (compareOp .In) (rInDT X.K) := by
  intro pins s σ H x y v u Q I rx ry h
  obtain ⟨d, ds, hd, he, sd, se, q⟩ := h
  obtain ⟨as, r1⟩ := Dp.reads I d x v hd rx
  obtain ⟨bs, r2⟩ := Dp.reads I (.tuple ds) y u he ry
  exact SeqAt.in_tuple_reads r2 r1 (by have z := SeqAt.canLay_of_shaped se; simpa [PyData.canLay0] using z) (SeqAt.canLay_of_shaped sd) (room_in_shaped sd hu) ⟨.bl _, H, I, rfl, q⟩
/-! ### what stands around a statement -/
def words : List Str := ENT.map (·.1)
def CHG : List Str := ["put", "blank", "give", "push", "pop", "cut"]
def RND : List Str := ["again", "out"]
def blk (p : Str × Nat) : PyData := .tuple [.str p.1, .int (p.2 : Nat)]
theorem words_ok : ∀ z ∈ words, PyData.strOk z = true ∧ z.length ≤ 1000 := by
  have k : ∀ z ∈ words, PyData.strOk z = true ∧ decide (z.length ≤ 1000) = true := by decide +kernel
  exact fun z hz => ⟨(k z hz).1, of_decide_eq_true (k z hz).2⟩
theorem lay_blks : ∀ {ps : List (Str × Nat)}, (∀ p ∈ ps, p.1 ∈ words) → PyData.canLayAll0 (ps.map blk) = true ∧ PyData.depthAll (ps.map blk) ≤ 2
  | [], _ => ⟨by simp [PyData.canLayAll0], by simp [PyData.depthAll]⟩
  | p :: r, h => by
    obtain ⟨k1, k2⟩ := lay_blks (ps := r) fun q hq => h q (List.mem_cons_of_mem _ hq)
    have k3 := (words_ok _ (h p List.mem_cons_self)).1
    refine ⟨by simp [PyData.canLayAll0, PyData.canLay0, blk, k1, k3], ?_⟩
    simp only [List.map_cons, PyData.depthAll, PyData.depth, blk]
    omega
theorem shp_blks {ps : List (Str × Nat)} (h : ∀ p ∈ ps, p.1 ∈ words) : SeqAt.shaped (.tuple (ps.map blk)) = true := by
  obtain ⟨k1, k2⟩ := lay_blks h
  unfold SeqAt.shaped
  rw [Bool.and_eq_true]
  refine ⟨by simp [PyData.canLay0, k1], decide_eq_true ?_⟩
  simp only [PyData.depth]
  omega
def lst1 : PyData := .tuple [.str "lastly", .int 1]
theorem eqv_blk (p : Str × Nat) : PyData.eqv (blk p) lst1 = true → p = (("lastly" : Str), (1 : Nat)) := by
  intro h
  have z : (p.1 == ("lastly" : Str)) = true ∧ (((p.2 : Nat) : Int) == 1) = true := by simpa [blk, lst1, PyData.eqv, PyData.eqvAll] using h
  have z1 := beq_iff_eq.mp z.1
  have z2 := beq_iff_eq.mp z.2
  exact Prod.ext z1 (by omega)
/-- the word may stand there -/
def Placed (w : Str) (ps : List (Str × Nat)) : Prop := (w ∈ RND → ("tries" : Str) ∈ ps.map (·.1)) ∧ ((("lastly" : Str), (1 : Nat)) ∈ ps → w ∈ CHG)
def spMis (K : PySem.W.Frag) : Sp := fun vs H Q _ => ∃ w ar ps, vs = [.str w, .ref ar] ∧ Dp K H (.ref ar) (.tuple (ps.map blk)) ∧ (∀ p ∈ ps, p.1 ∈ words) ∧ ps.length ≤ 10 ∧ Placed w ps ∧ ∀ H', Ex H H' → Q (.bl false) H'
theorem el_words {K : PySem.W.Frag} {te : TE} {σ : L2.St} {H : Hp} {ar : Addr} {ps : List (Str × Nat)} {j : Nat} {vs : List Nat} (ht : Ev te σ H (.ref ar)) (hd : Dp K H (.ref ar) (.tuple (ps.map blk))) (hl : ps.length ≤ 10)
    (hw : ∀ x, wipe ((wipe σ vs).set j (some x)) vs = wipe σ vs) (hj : ∀ x, ((wipe σ vs).set j (some x))[j]? = some (some x)) : EvL (tLc (iTup K te) (gName j) tYes (tOp (rIxT K) (tVar j) (tC (.int 0))) vs) σ H ((ps.map (·.1)).map V.str) := fun H0 e Q q => ht H0 e _ fun H1 e1 => by
  cases dpM (e.trans e1) _ _ hd with
  | @tup _ xs _ hx hxs =>
    have lx := dpAll_len hxs
    refine ⟨ar, rfl, ⟨_, hx⟩, fun D hD => ?_⟩
    refine lc_tup (xs := xs) (fun i H' => Ex H1 H' ∧ H' D = some (.lst (((ps.take i).map (·.1)).map V.str))) ⟨Ex.new hD, upd_same⟩ (fun i H' _ hI => ex_t hI.1 hx) (fun i x H2 hxi hI => ?_) (fun H2 hI => ?_)
    · obtain ⟨e2, h2⟩ := hI
      obtain ⟨di, hdi, hxd⟩ := dpAll_at hxs hxi
      rw [List.getElem?_map] at hdi
      cases p1 : ps[i]? with
      | none =>
        rw [p1] at hdi
        cases hdi
      | some p =>
        rw [p1] at hdi
        cases hdi
        cases hxd with
        | @tup b zs _ hz hzs =>
          cases hzs with
          | cons h1 hr =>
            cases h1
            refine ⟨hw _, yes_go ⟨.ref b, hj _, b, _, 0, .str p.1, rfl, rfl, ex_t e2 hz, atI_nat (j := 0) rfl, _, h2, ?_, e2.mut hD, ?_⟩⟩
            · rw [List.length_map, List.length_map, List.length_take]
              exact small1000 (by omega)
            · rw [upd_same, take_more p1, List.map_append, List.map_append]
              rfl
    · obtain ⟨e2, h2⟩ := hI
      rw [lx, List.length_map, List.take_of_length_le (Nat.le_refl _)] at h2
      exact q D H2 (fresh_back e1 hD) (e1.trans e2) h2

section
variable {P : Program} {w : World} {K : PySem.W.Frag} {mg : Str → Option Value} {base : Heap}

theorem ok_misplaced {fd : FuncData} (F : FnP K "misplaced" "misplaced" s_misplaced (ga K "misplaced") fd) (T : Tx K w mg) : FnOk P w K mg base CX0 (0 + 1) (ga K "misplaced") fd ["word", "around"] (spMis K) := by
  refine FunD.ok F sc_misplaced (fun vs H Q E h => ?_) (fun cdv A outer s H vs Q E hr h => ?_)
  · obtain ⟨wd, ar, ps, rfl, _⟩ := h
    rfl
  · obtain ⟨wd, ar, ps, rfl, hd, hw, hl, ⟨pl1, pl2⟩, kk⟩ := h
    have g_ROUND_WORDS := T.gl "ROUND_WORDS" (by decide +kernel)
    have g_CHANGE_WORDS := T.gl "CHANGE_WORDS" (by decide +kernel)
    refine ⟨_, PSs.nox (pss_cons (ps_if (PW.pt (pw_and (pt_cmpR op_in_seq (pv 0) (pe_glob (v := .ref _) (by rfl) g_ROUND_WORDS rfl) (by rfl)) (pw_and1 (pt_cmpR op_notIn_seq pe_str (pe_lc (own := [("block", 2)]) (g := gName 2) (by rfl) sc_misplaced.nd (pi_tup (pv 1)) (blkOk_by (own := [("block", 2)]) (N := ["word", "around", "block"]) (sc := defScope s_misplaced) (by decide +kernel)) (fun _ _ _ _ _ => (pg_name (i := 2) sc_misplaced.nd rfl (Or.inl rfl))) (fun _ _ _ _ _ => pts_nil) (fun _ _ _ _ _ => (pe_ix (ix_tup : IxR _ (rIxT K)) (pv 2) pe_int (fun _ _ => rfl)))) (by rfl)))))
      (pss_one (ps_ret pe_bl))
      pss_nil)
      (pss_one (ps_ret (pe_and (pe_cmpR (op_inDT (units65 hr)) (pe_tup (pa_cons pe_str (pa_cons pe_int pa_nil))) (pv 1) (by rfl)) (pe_one (pe_cmpR op_notIn_seq (pv 0) (pe_glob (v := .ref _) (by rfl) g_CHANGE_WORDS rfl) (by rfl))))))), ?_⟩
    refine q_when (b := decide (wd ∈ RND) && !decide (("tries" : Str) ∈ ps.map (·.1))) (et_and (et_test (by rw [← inV_strs]; exact ev_op (ev_var rfl) ev_c fun H1 e R q => ⟨_, RND.map V.str, rfl, .inr (T.ro _), rfl, flat_strs _, q H1 (Ex.refl _)⟩)) fun hr => et_test (ev_opL ev_c (el_words (ev_var rfl) hd hl (fun _ => rfl) (fun _ => rfl)) fun q H1 hq e => by
      rw [← inV_strs]
      exact rv_niL (K := K) (sq_of hq) rfl (flat_strs _))) (fun hb H1 e1 => ?_) (fun hb H1 e1 => ?_)
    · rw [Bool.and_eq_true] at hb
      have z := pl1 (of_decide_eq_true hb.1)
      rw [decide_eq_true z] at hb
      cases hb.2
    · refine ⟨(by show 2 ≤ sizeLine; decide), fun p hp => ⟨.ref ar, rfl, lst1, ps.map blk, .tup (st_of upd_same) (.cons (.str _) (.cons (.int _) .nil)), dpM (e1.trans (Ex.new hp)) _ _ hd, by decide +kernel, shp_blks hw, _, rfl, ?_⟩⟩
      refine ite2 (fun ha => ?_) (fun _ => kk _ (e1.trans (Ex.new hp)))
      obtain ⟨z, hz, hz2⟩ := List.any_eq_true.mp ha
      obtain ⟨pp, hpp, rfl⟩ := List.mem_map.mp hz
      have e0 := eqv_blk pp hz2
      rw [e0] at hpp
      have hc := pl2 hpp
      refine ⟨.str wd, rfl, _, _, rfl, .inr (T.ch _), rfl, (flat_strs CHG), ?_⟩
      show Q (.bl (if true = true then !inV (.str wd) (CHG.map V.str) else _)) _
      rw [if_pos rfl, inV_strs, decide_eq_true hc]
      exact kk _ (e1.trans (Ex.new hp))

end
end K06
set_option Elab.async false
set_option linter.all false
set_option maxRecDepth 100000
set_option maxHeartbeats 8000000
namespace K06
open PySem PySem.Spec PyProof.Rows L2 He XH XV XR PEN TR Evl


/-- a body of a code: short enough, each statement holds where it stands -/
def BodV (cs rs os : List Str) (ss : List PyData) : Prop := BodT ss ∧ (nums 4 ss []).length ≤ 14 ∧ ∀ q ∈ nums 4 ss [], Wf cs rs os q.1 ∧ ∃ wd ps, wordOf q.1 = .str wd ∧ q.2 = ps.map blk ∧ (∀ p ∈ ps, p.1 ∈ words) ∧ ps.length ≤ 10 ∧ Placed wd ps ∧ (parts q.1 ≠ [] → ps.length ≤ 2)
def Fns (K : PySem.W.Frag) (H : Hp) (fos : List Addr) (os : List Str) (bds : List (List PyData)) : Prop := fos.length = os.length ∧ bds.length = os.length ∧ ∀ (i : Nat) (f : Addr) (z : Str) (ss : List PyData), fos[i]? = some f → os[i]? = some z → bds[i]? = some ss → Fn K H f z ss
theorem Fns.mono {K : PySem.W.Frag} {H H' : Hp} {fos : List Addr} {os : List Str} {bds : List (List PyData)} (e : Ex H H') (h : Fns K H fos os bds) : Fns K H' fos os bds := ⟨h.1, h.2.1, fun i f z ss h1 h2 h3 => (h.2.2 i f z ss h1 h2 h3).mono e⟩
theorem Fns.at {K : PySem.W.Frag} {H : Hp} {fos : List Addr} {os : List Str} {bds : List (List PyData)} (h : Fns K H fos os bds) {i : Nat} {f : Addr} (p : fos[i]? = some f) : ∃ z ss, os[i]? = some z ∧ bds[i]? = some ss ∧ Fn K H f z ss := by
  have hi := (List.getElem?_eq_some_iff.mp p).1
  have h1 : os[i]? = some (os[i]'(by rw [← h.1]; exact hi)) := List.getElem?_eq_getElem _
  have h2 : bds[i]? = some (bds[i]'(by rw [h.2.1, ← h.1]; exact hi)) := List.getElem?_eq_getElem _
  exact ⟨_, _, h1, h2, h.2.2 i f _ _ p h1 h2⟩
structure Cd (K : PySem.W.Frag) (H : Hp) (a c r f : Addr) (cs rs os : List Str) (st : Str) (fos : List Addr) (bds : List (List PyData)) : Prop where
  ca : H c = some (.tup (cs.map V.str))
  ra : H r = some (.tup (rs.map V.str))
  fa : H f = some (.tup (fos.map V.ref))
  fs : Fns K H fos os bds
  at_ : ∃ dx, H a = some (.ins (ga K "Code") dx [("cells", .ref c), ("rows", .ref r), ("functions", .ref f), ("start", .str st)])
theorem Cd.mono {K : PySem.W.Frag} {H H' : Hp} {a c r f : Addr} {cs rs os : List Str} {st : Str} {fos : List Addr} {bds : List (List PyData)} (e : Ex H H') (h : Cd K H a c r f cs rs os st fos bds) : Cd K H' a c r f cs rs os st fos bds := by
  obtain ⟨h1, h2, h3, h4, ⟨dx, h5⟩⟩ := h
  exact ⟨e _ _ h1, e _ _ h2, e _ _ h3, h4.mono e, ⟨dx, e _ _ h5⟩⟩
/-- names of a code that may be -/
structure Names (cs rs os : List Str) (st : Str) : Prop where
  sz : cs.length ≤ 3 ∧ rs.length ≤ 2 ∧ os.length ≤ 3
  ok : NamesOk (cs ++ rs ++ os)
  st : st ∈ os
theorem Names.sz40 {cs rs os : List Str} {st : Str} (h : Names cs rs os st) : cs.length ≤ 40 ∧ rs.length ≤ 40 ∧ os.length ≤ 40 := by
  have z := h.sz
  omega
theorem el_called {K : PySem.W.Frag} {w : World} {mg : Str → Option Value} {te : TE} {σ : L2.St} {H : Hp} {f : Addr} {fos : List Addr} {os : List Str} {bds : List (List PyData)} {j : Nat} {vs : List Nat} (T : Tx K w mg) (ht : Ev te σ H (.ref f)) (hf : H f = some (.tup (fos.map V.ref))) (hF : Fns K H fos os bds) (hl : os.length ≤ 40)
    (hw : ∀ x, wipe ((wipe σ vs).set j (some x)) vs = wipe σ vs) (hj : ∀ x, ((wipe σ vs).set j (some x))[j]? = some (some x)) : EvL (tLc (iTup K te) (gName j) tYes (tFld K (tVar j) "name") vs) σ H (os.map V.str) := fun H0 e Q q => ht H0 e _ fun H1 e1 => by
  have hf1 := e1 _ _ (e _ _ hf)
  refine ⟨f, rfl, ⟨_, st_of hf1⟩, fun D hD => ?_⟩
  refine lc_tup (xs := fos.map V.ref) (fun i H' => Ex H1 H' ∧ H' D = some (.lst ((os.take i).map V.str))) ⟨Ex.new hD, upd_same⟩ (fun i H' _ hI => st_of (hI.1 _ _ hf1)) (fun i x H2 hx hI => ?_) (fun H2 hI => ?_)
  · obtain ⟨e2, h2⟩ := hI
    rw [List.getElem?_map] at hx
    cases p : fos[i]? with
    | none =>
      rw [p] at hx
      cases hx
    | some t =>
      rw [p] at hx
      cases hx
      have hi := (List.getElem?_eq_some_iff.mp p).1
      obtain ⟨z, ss, ho, _, dx, b, n, g1, g2⟩ := hF.at p
      refine ⟨hw _, yes_go ⟨.ref t, hj _, t, _, dx, _, .str z, rfl, e2 _ _ (e1 _ _ (e _ _ g1)), T.cf, T.nf "name" (by decide +kernel), rfl, _, h2, ?_, e2.mut hD, ?_⟩⟩
      · rw [List.length_map, List.length_take]
        exact small1000 (by omega)
      · rw [upd_same, take_more ho, List.map_append]
        rfl
  · obtain ⟨e2, h2⟩ := hI
    rw [List.length_map, hF.1, List.take_of_length_le (Nat.le_refl _)] at h2
    exact q D H2 (fresh_back e1 hD) (e1.trans e2) h2
def spByKind (K : PySem.W.Frag) : Sp := fun vs H Q _ => ∃ a c r f cs rs os st fos bds, vs = [.ref a] ∧ Cd K H a c r f cs rs os st fos bds ∧ Names cs rs os st ∧ ∀ p H', Ex H H' → Nm K H' p cs rs os → Q (.ref p) H'
def spOk (K : PySem.W.Frag) : Sp := fun vs H Q _ => ∃ a c r f cs rs os st fos bds, vs = [.ref a] ∧ Cd K H a c r f cs rs os st fos bds ∧ Names cs rs os st ∧ ∀ H', Ex H H' → Q .non H'

section
variable {P : Program} {w : World} {K : PySem.W.Frag} {mg : Str → Option Value} {base : Heap}

theorem ok_names_by_kind {fd : FuncData} (F : FnP K "names_by_kind" "names_by_kind" s_names_by_kind (ga K "names_by_kind") fd) (T : Tx K w mg) : FnOk P w K mg base CX0 (0 + 1) (ga K "names_by_kind") fd ["code"] (spByKind K) := by
  refine FunD.ok F sc_names_by_kind (fun vs H Q E h => ?_) (fun cdv A outer s H vs Q E hr h => ?_)
  · obtain ⟨a, c, r, f, cs, rs, os, st, fos, bds, rfl, _⟩ := h
    rfl
  · obtain ⟨a, c, r, f, cs, rs, os, st, fos, bds, rfl, hC, hNm, kk⟩ := h
    have n_tuple := T.fr "tuple" (by decide +kernel)
    have g_FIXED_WORDS := T.gl "FIXED_WORDS" (by decide +kernel)
    refine ⟨_, PSs.nox (pss_cons (ps_set (i := 1) sc_names_by_kind.nd rfl (Or.inl rfl) (pe_callTy call_tuple_of (by rfl) n_tuple (by decide +kernel) (pa_cons (pe_lc (own := [("function", 2)]) (g := gName 2) (by rfl) sc_names_by_kind.nd (pi_tup (pe_fld (pv 0) rfl)) (blkOk_by (own := [("function", 2)]) (N := ["code", "called", "function"]) (sc := defScope s_names_by_kind) (by decide +kernel)) (fun _ _ _ _ _ => (pg_name (i := 2) sc_names_by_kind.nd rfl (Or.inl rfl))) (fun _ _ _ _ _ => pts_nil) (fun _ _ _ _ _ => (pe_fldc (K := K) rfl (pv 2) rfl))) pa_nil)))
      (pss_one (ps_ret (pe_disp (pps_cons pe_str (pe_fld (pv 0) rfl) (pps_cons pe_str (pe_fld (pv 0) rfl) (pps_cons pe_str (pv 1) (pps_cons pe_str (pe_ix ix_kdict (pe_glob (v := .ref _) (by rfl) g_FIXED_WORDS rfl) pe_str (fun _ _ => rfl)) (pps_cons pe_str (pe_ix ix_kdict (pe_glob (v := .ref _) (by rfl) g_FIXED_WORDS rfl) pe_str (fun _ _ => rfl)) pps_nil))))) rfl rfl (by simp) (by decide))))), ?_⟩
    obtain ⟨dx, hA⟩ := hC.at_
    obtain ⟨es, n, a1, a2, D1, ⟨D2, D2'⟩, D3, D3'⟩ := T.fx
    refine q_cb (el_called (te := tFld K (tVar 0) "functions") (σ := L2.start ["code", "called", "function"] [V.ref a]) (j := 2) (vs := [2]) T (ev_fld (ev_var rfl) hA T.cc (T.nc "functions" (by decide +kernel)) rfl) hC.fa hC.fs hNm.sz40.2.2 (fun _ => by rfl) (fun _ => by rfl) H (Ex.refl H) _ fun q H1 hq e1 h1 => ?_)
    refine ⟨q, _, rfl, .inl ⟨sq_of h1, fun u hu => ?_⟩⟩
    dsimp only [gName, List.set]
    intro p hp
    have e2 := e1.trans ((Ex.new (o := .tup (os.map V.str)) hu).trans (Ex.new (o := .dK []) hp))
    have hA2 := e2 _ _ hA
    refine ⟨.ref a, rfl, a, _, dx, _, .ref c, rfl, hA2, T.cc, T.nc "cells" (by decide +kernel), rfl, ?_⟩
    refine ⟨.ref a, rfl, a, _, dx, _, .ref r, rfl, hA2, T.cc, T.nc "rows" (by decide +kernel), rfl, ?_⟩
    refine ⟨.ref u, rfl, ?_⟩
    refine ⟨_, "how", .ref a1, rfl, rfl, ⟨es, n, _, D1.at_, D1.lit, D2, rfl⟩, ?_⟩
    refine ⟨_, "end", .ref a2, rfl, rfl, ⟨es, n, _, D1.at_, D1.lit, D3, rfl⟩, ?_⟩
    have e3 : Ex H (upd (upd (upd H1 u (.tup (os.map V.str))) p (.dK [])) p (.dK (mergeK [] [(Sum.inr "cell", .ref c), (Sum.inr "row", .ref r), (Sum.inr "function", .ref u), (Sum.inr "how", .ref a1), (Sum.inr "end", .ref a2)]))) := e2.mut (fresh_back (e1.trans (Ex.new hu)) hp)
    refine ⟨upd_same, [(Sum.inr "cell", .ref c), (Sum.inr "row", .ref r), (Sum.inr "function", .ref u), (Sum.inr "how", .ref a1), (Sum.inr "end", .ref a2)], rfl, (show 5 ≤ 15 by decide), kk p _ e3 ⟨_, upd_same, fun k hk => ?_⟩⟩
    have hu5 : SqT K (upd (upd (upd H1 u (.tup (os.map V.str))) p (.dK [])) p (.dK (mergeK [] [(Sum.inr "cell", .ref c), (Sum.inr "row", .ref r), (Sum.inr "function", .ref u), (Sum.inr "how", .ref a1), (Sum.inr "end", .ref a2)]))) u (os.map V.str) := by
      have nu : u ≠ p := fun e => by rw [e, upd_same] at hp; cases hp
      exact st_of ((upd_ne nu).trans ((upd_ne nu).trans upd_same))
    unfold five at hk
    simp only [List.mem_cons, List.not_mem_nil, or_false] at hk
    rcases hk with rfl | rfl | rfl | rfl | rfl
    · exact ⟨c, by rfl, st_of (e3 _ _ hC.ca)⟩
    · exact ⟨r, by rfl, st_of (e3 _ _ hC.ra)⟩
    · exact ⟨u, by rfl, hu5⟩
    · exact ⟨a1, by rfl, D2' _⟩
    · exact ⟨a2, by rfl, D3' _⟩

theorem ok_check_bounds {fd : FuncData} (F : FnP K "check_bounds" "check_bounds" s_check_bounds (ga K "check_bounds") fd) (T : Tx K w mg) : FnOk P w K mg base CX0 (0 + 1) (ga K "check_bounds") fd ["code"] (spOk K) := by
  refine FunD.ok F sc_check_bounds (fun vs H Q E h => ?_) (fun cdv A outer s H vs Q E hr h => ?_)
  · obtain ⟨a, c, r, f, cs, rs, os, st, fos, bds, rfl, _⟩ := h
    rfl
  · obtain ⟨a, c, r, f, cs, rs, os, st, fos, bds, rfl, hC, hNm, kk⟩ := h
    have n_len := T.fr "len" (by decide +kernel)
    obtain ⟨tk_MOST_CELLS, g_MOST_CELLS⟩ := T.c_MOST_CELLS
    obtain ⟨tk_MOST_ROWS, g_MOST_ROWS⟩ := T.c_MOST_ROWS
    obtain ⟨tk_MOST_FUNCTIONS, g_MOST_FUNCTIONS⟩ := T.c_MOST_FUNCTIONS
    refine ⟨_, PSs.nox (pss_one (ps_if (PW.pt (pw_or (pt_cmpR op_gt (pe_callB call_len_seq (by rfl) n_len (by decide +kernel) (pa_cons (pe_fld (pv 0) rfl) pa_nil)) (pe_glob (v := .int _) (by rfl) g_MOST_CELLS ⟨_, rfl⟩) (nomark _)) (pw_or (pt_cmpR op_gt (pe_callB call_len_seq (by rfl) n_len (by decide +kernel) (pa_cons (pe_fld (pv 0) rfl) pa_nil)) (pe_glob (v := .int _) (by rfl) g_MOST_ROWS ⟨_, rfl⟩) (nomark _)) (pw_or1 (pt_cmpR op_gt (pe_callB call_len_seq (by rfl) n_len (by decide +kernel) (pa_cons (pe_fld (pv 0) rfl) pa_nil)) (pe_glob (v := .int _) (by rfl) g_MOST_FUNCTIONS ⟨_, rfl⟩) (nomark _))))))
      (pss_one ps_never)
      pss_nil)), ?_⟩
    obtain ⟨dx, hA⟩ := hC.at_
    have z := hNm.sz
    refine s_when (b := false) (et_is (et_or (et_test (ev_op (ev_cb (ea_cons (ev_fld (ev_var rfl) hA T.cc (T.nc "cells" (by decide +kernel)) rfl) ea_nil) fun H2 e2 R q => ⟨c, _, rfl, .inr (st_of (e2 _ _ hC.ca)), q H2 (Ex.refl _)⟩) ev_c (by rw [List.length_map]; exact rv_I0))) fun _ =>
      et_or (et_test (ev_op (ev_cb (ea_cons (ev_fld (ev_var rfl) hA T.cc (T.nc "rows" (by decide +kernel)) rfl) ea_nil) fun H2 e2 R q => ⟨r, _, rfl, .inr (st_of (e2 _ _ hC.ra)), q H2 (Ex.refl _)⟩) ev_c (by rw [List.length_map]; exact rv_I0))) fun _ =>
      et_test (ev_op (ev_cb (ea_cons (ev_fld (ev_var rfl) hA T.cc (T.nc "functions" (by decide +kernel)) rfl) ea_nil) fun H2 e2 R q => ⟨f, _, rfl, .inr (st_of (e2 _ _ hC.fa)), q H2 (Ex.refl _)⟩) ev_c (by rw [List.length_map, hC.fs.1]; exact rv_I0))) ?_) (fun hb => nomatch hb) (fun hb H1 e1 => kk H1 e1)
    rw [decide_eq_false (show ¬ (3 : Int) < (cs.length : Int) by omega), decide_eq_false (show ¬ (2 : Int) < (rs.length : Int) by omega), decide_eq_false (show ¬ (3 : Int) < (os.length : Int) by omega)]
    rfl

end
end K06
set_option Elab.async false
set_option linter.all false
set_option maxRecDepth 100000
set_option maxHeartbeats 8000000
namespace K06
open PySem PySem.Spec PyProof.Rows L2 He XH XV XR PEN TR Evl


theorem alpha_all : ∀ j : Fin 26, (97 + j.1) ∈ alphabet.cps.toList := by decide +kernel
theorem let_good {z : Str} (h : Let z ∧ 1 ≤ z.length ∧ z.length ≤ 12) : goodN z = true := by
  unfold goodN
  rw [decide_eq_true h.2.1, decide_eq_true h.2.2, Bool.true_and, Bool.true_and, List.all_eq_true]
  intro c hc
  obtain ⟨k1, k2⟩ := h.1 c hc
  have z1 := alpha_all ⟨c - 97, by omega⟩
  rw [show 97 + (c - 97) = c by omega] at z1
  exact decide_eq_true z1
theorem nodup_take {l : List Str} (h : l.Nodup) {i : Nat} {z : Str} (hz : l[i]? = some z) : z ∉ l.take i := by
  intro hm
  obtain ⟨j, hj⟩ := List.mem_iff_getElem?.mp hm
  have hji : j < i := by
    have k := (List.getElem?_eq_some_iff.mp hj).1
    rw [List.length_take] at k
    omega
  rw [List.getElem?_take, if_pos hji] at hj
  obtain ⟨a1, a2⟩ := List.getElem?_eq_some_iff.mp hz
  obtain ⟨b1, b2⟩ := List.getElem?_eq_some_iff.mp hj
  exact (List.pairwise_iff_getElem.mp h) j i b1 a1 hji (b2.trans a2.symm)
def spBody (K : PySem.W.Frag) : Sp := fun vs H Q _ => ∃ f nm z ss cs rs os, vs = [.ref f, .ref nm] ∧ Fn K H f z ss ∧ Nm K H nm cs rs os ∧ BodV cs rs os ss ∧ ∀ H', Ex H H' → Q .non H'
theorem prs_at {K : PySem.W.Frag} {H : Hp} : ∀ {prs : List Addr} {l : List (PyData × List PyData)}, Prs K H prs l → ∀ {i : Nat} {pr : Addr}, prs[i]? = some pr → ∃ s as sv av m m2, l[i]? = some (s, as) ∧ H pr = some (.tup [sv, .ref av]) ∧ Dp K H sv s ∧ Dp K H (.ref av) (.tuple as) ∧ Tt m s ∧ Tt m2 (.tuple as)
  | _, _, .nil, i, pr, h => by cases h
  | _, _, .cons h hs ha ts ta r, 0, pr, e => by
    cases e
    exact ⟨_, _, _, _, _, _, rfl, h, hs, ha, ts, ta⟩
  | _, _, .cons h hs ha ts ta r, i + 1, pr, e => prs_at r (i := i) e

section
variable {P : Program} {w : World} {K : PySem.W.Frag} {mg : Str → Option Value} {base : Heap}

theorem ok_check_names {fd : FuncData} (F : FnP K "check_names" "check_names" s_check_names (ga K "check_names") fd) (T : Tx K w mg) (c_is_name : Cl P w K mg base CX0 1 (ga K "is_name") ["word"] spIsName) : FnOk P w K mg base CX0 (1 + 1) (ga K "check_names") fd ["code"] (spOk K) := by
  obtain ⟨fd_is_name, G_is_name, b_is_name, kp_is_name⟩ := c_is_name
  refine FunD.ok F sc_check_names (fun vs H Q E h => ?_) (fun cdv A outer s H vs Q E hr h => ?_)
  · obtain ⟨a, c, r, f, cs, rs, os, st, fos, bds, rfl, _⟩ := h
    rfl
  · obtain ⟨a, c, r, f, cs, rs, os, st, fos, bds, rfl, hC, hNm, kk⟩ := h
    have g_is_name := T.gl "is_name" (by decide +kernel)
    refine ⟨_, PSs.nox (pss_cons (ps_setLc (i := 1) (own := [("function", 4)]) (g := gName 4) (by rfl) sc_check_names.nd rfl rfl (sw_true rfl rfl rfl (by decide +kernel)) (pi_tup (pe_fld (pv 0) rfl)) (blkOk_by (own := [("function", 4)]) (N := ["code", "called", "seen", "name", "function"]) (sc := defScope s_check_names) (by decide +kernel)) (fun _ _ _ _ _ => (pg_name (i := 4) sc_check_names.nd rfl (Or.inl rfl))) (fun _ _ _ _ _ => pts_nil) (fun _ _ _ _ _ => (pe_fldc (K := K) rfl (pv 4) rfl)))
      (pss_cons (ps_set (i := 2) sc_check_names.nd rfl (Or.inl rfl) (pe_lst pa_nil))
      (pss_cons (ps_for PassesOwn.never rfl (pi_list (pe_lst (StX.pa_star (pe_fld (pv 0) rfl) (StX.pa_star (pe_fld (pv 0) rfl) (StX.pa_star (pv 1) pa_nil))))) (pg_name (i := 3) sc_check_names.nd rfl (Or.inl rfl))
      (pss_cons (ps_if (PW.pt (pw_or (pt_not (pt_val (pe_call G_is_name (hr.mono (by decide)) (by rfl) g_is_name kp_is_name b_is_name .nil pass0 (pa_cons (pv 3) pa_nil)))) (pw_or1 (pt_cmpR op_in_seq (pv 3) (pv 2) (by rfl)))))
      (pss_one ps_never)
      pss_nil)
      (pss_one (ps_expr (pe_bm PySem.F.plainAttrs_list PySem.F.slot_list_append PySem.F.type_list_append mt_append (pv 2) (pa_cons (pv 3) pa_nil))))))
      (pss_one (ps_if (pt_cmpR op_notIn_seq (pe_fld (pv 0) rfl) (pv 1) (by rfl))
      (pss_one ps_never)
      pss_nil))))), ?_⟩
    obtain ⟨dx, hA⟩ := hC.at_
    obtain ⟨z1, z2, z3⟩ := hNm.sz
    refine q_asgL (el_called (te := tFld K (tVar 0) "functions") (σ := L2.start ["code", "called", "seen", "name", "function"] [V.ref a]) (j := 4) (vs := [4]) T (ev_fld (ev_var rfl) hA T.cc (T.nc "functions" (by decide +kernel)) rfl) hC.fa hC.fs hNm.sz40.2.2 (fun _ => by rfl) (fun _ => by rfl)) fun q H1 hq e1 g1 => ?_
    refine q_asgL (el_lst ea_nil (by decide)) fun D H2 hD e2 g2 => ?_
    have e3 := e1.trans e2
    have hD0 : H D = none := fresh_back e1 hD
    have gq := e2 _ _ g1
    have hsz : (cs ++ rs ++ os).length ≤ 120 := by
      rw [List.length_append, List.length_append]
      omega
    have en : cs.map V.str ++ (rs.map V.str ++ (os.map V.str ++ [])) = (cs ++ rs ++ os).map V.str := by
      simp
    refine ⟨.ref a, rfl, a, _, dx, _, .ref c, rfl, e3 _ _ hA, T.cc, T.nc "cells" (by decide +kernel), rfl, c, _, rfl, .inl (st_of (e3 _ _ hC.ca)), ?_⟩
    refine ⟨.ref a, rfl, a, _, dx, _, .ref r, rfl, e3 _ _ hA, T.cc, T.nc "rows" (by decide +kernel), rfl, r, _, rfl, .inl (st_of (e3 _ _ hC.ra)), ?_⟩
    refine ⟨.ref q, rfl, q, _, rfl, .inr (sq_of gq), ?_⟩
    show (cs.map V.str ++ (rs.map V.str ++ (os.map V.str ++ []))).length ≤ sizeLine ∧ _
    rw [en]
    refine ⟨by rw [List.length_map, sizeLine_eq]; omega, fun p hp => ⟨p, rfl, ⟨_, sq_of upd_same⟩, ?_⟩⟩
    have e4 := e3.trans (Ex.new (o := .lst ((cs ++ rs ++ os).map V.str)) hp)
    have hpD : p ≠ D := fun e => by rw [e, g2] at hp; cases hp
    refine for_list (xs := (cs ++ rs ++ os).map V.str) (fun i σ' H' => ∃ v3 v4, σ' = [some (.ref a), some (.ref q), some (.ref D), v3, v4] ∧ H' D = some (.lst (((cs ++ rs ++ os).take i).map V.str)) ∧ Ex H H' ∧ H' p = some (.lst ((cs ++ rs ++ os).map V.str)) ∧ H' q = some (.lst (os.map V.str)))
      ⟨_, _, rfl, (upd_ne (Ne.symm hpD)).trans g2, e4, upd_same, Ex.new hp _ _ gq⟩ (fun i σ' H' _ hI => ?_) (fun i x σ' H' hx hI => ?_) (fun σ' H' hI => ?_)
    · obtain ⟨v3, v4, rfl, g3, e5, g4, g5⟩ := hI
      exact sq_of g4
    · obtain ⟨v3, v4, rfl, g3, e5, g4, g5⟩ := hI
      rw [List.getElem?_map] at hx
      cases p1 : (cs ++ rs ++ os)[i]? with
      | none =>
        rw [p1] at hx
        cases hx
      | some z =>
        rw [p1] at hx
        cases hx
        have hi := (List.getElem?_eq_some_iff.mp p1).1
        have hz := hNm.ok.2 z (List.mem_of_getElem? p1)
        have hgood := let_good hz
        have hnot := nodup_take hNm.ok.1 p1
        dsimp only [gName, List.set]
        refine q_when (b := false) (et_is (et_or (a := !goodN z) (b := decide (z ∈ (cs ++ rs ++ os).take i)) (et_not (et_B (ev_call (ea_cons (ev_var rfl) ea_nil) fun H5 e7 R q _ => ⟨z, rfl, by omega, fun H6 e8 => q H6 e8⟩))) fun _ =>
          et_test (ev_op (ev_var rfl) (ev_var rfl) (by rw [← inV_strs]; exact rv_isL (sq_of g3) rfl (flat_strs _)))) (by rw [hgood, decide_eq_false hnot]; rfl)) (fun hb => nomatch hb) (fun hb H5 e7 => ?_)
        refine s_app (e7 _ _ g3) (ev_var rfl) (ev_var rfl) (by rw [List.length_map, List.length_take]; omega) fun H6 e8 => ?_
        have nq : q ≠ D := fun e => by rw [e, hD] at g1; cases g1
        refine ⟨_, _, rfl, ?_, ((e5.trans e7).trans e8).mut hD0, (upd_ne hpD).trans (e8 _ _ (e7 _ _ g4)), (upd_ne nq).trans (e8 _ _ (e7 _ _ g5))⟩
        rw [upd_same, take_more p1, List.map_append]
        rfl
    · obtain ⟨v3, v4, rfl, g3, e5, g4, g5⟩ := hI
      dsimp only
      exact s_when (b := !decide (st ∈ os)) (et_test (ev_op (ev_fld (ev_var rfl) (e5 _ _ hA) T.cc (T.nc "start" (by decide +kernel)) rfl) (ev_var rfl) (by rw [← inV_strs]; exact rv_niL (K := K) (sq_of g5) rfl (flat_strs _)))) (fun hb H5 e7 => by rw [decide_eq_true hNm.st] at hb; cases hb) (fun hb H5 e7 => kk H5 (e5.trans e7))

theorem ok_check_body {fd : FuncData} (F : FnP K "check_body" "check_body" s_check_body (ga K "check_body") fd) (T : Tx K w mg) (c_numbered : Cl P w K mg base CX0 6 (ga K "numbered") ["body", "around"] (spNum K 4)) (c_well_formed : Cl P w K mg base CX0 2 (ga K "well_formed") ["statement", "names"] (spWell K)) (c_misplaced : Cl P w K mg base CX0 1 (ga K "misplaced") ["word", "around"] (spMis K)) (c_parts_of : Cl P w K mg base CX0 2 (ga K "parts_of") ["statement"] (spPt K)) : FnOk P w K mg base CX0 (6 + 1) (ga K "check_body") fd ["function", "names"] (spBody K) := by
  obtain ⟨fd_numbered, G_numbered, b_numbered, kp_numbered⟩ := c_numbered
  obtain ⟨fd_well_formed, G_well_formed, b_well_formed, kp_well_formed⟩ := c_well_formed
  obtain ⟨fd_misplaced, G_misplaced, b_misplaced, kp_misplaced⟩ := c_misplaced
  obtain ⟨fd_parts_of, G_parts_of, b_parts_of, kp_parts_of⟩ := c_parts_of
  refine FunD.ok F sc_check_body (fun vs H Q E h => ?_) (fun cdv A outer s H vs Q E hr h => ?_)
  · obtain ⟨f, nm, z, ss, cs, rs, os, rfl, _⟩ := h
    rfl
  · obtain ⟨f, nm, z, ss, cs, rs, os, rfl, hF, hN, hB, kk⟩ := h
    have n_enumerate := T.fr "enumerate" (by decide +kernel)
    have g_numbered := T.gl "numbered" (by decide +kernel)
    obtain ⟨tk_MOST_STATEMENTS, g_MOST_STATEMENTS⟩ := T.c_MOST_STATEMENTS
    have g_well_formed := T.gl "well_formed" (by decide +kernel)
    have g_misplaced := T.gl "misplaced" (by decide +kernel)
    have g_parts_of := T.gl "parts_of" (by decide +kernel)
    have n_len := T.fr "len" (by decide +kernel)
    obtain ⟨tk_MOST_BLOCKS_AROUND, g_MOST_BLOCKS_AROUND⟩ := T.c_MOST_BLOCKS_AROUND
    refine ⟨_, PSs.nox (pss_one (ps_for PassesOwn.never rfl (pi_enum (by rfl) n_enumerate (pa_cons (pe_call G_numbered (hr.mono (by decide)) (by rfl) g_numbered kp_numbered b_numbered .nil pass0 (pa_cons (pe_fld (pv 0) rfl) (pa_cons (pe_tup pa_nil) pa_nil))) pa_nil)) (pg_tup rfl (pgs_cons (pg_name (i := 2) sc_check_body.nd rfl (Or.inl rfl)) (pgs_cons (pg_tup rfl (pgs_cons (pg_name (i := 3) sc_check_body.nd rfl (Or.inl rfl)) (pgs_cons (pg_name (i := 4) sc_check_body.nd rfl (Or.inl rfl)) pgs_nil))) pgs_nil)))
      (pss_cons (ps_if (pt_cmpR op_eq (pv 2) (pe_glob (v := .int _) (by rfl) g_MOST_STATEMENTS ⟨_, rfl⟩) (nomark _))
      (pss_one ps_never)
      pss_nil)
      (pss_cons (ps_if (PW.pt (pw_or (pt_not (pt_val (pe_call G_well_formed (hr.mono (by decide)) (by rfl) g_well_formed kp_well_formed b_well_formed .nil pass0 (pa_cons (pv 3) (pa_cons (pv 1) pa_nil))))) (pw_or1 (pt_val (pe_call G_misplaced (hr.mono (by decide)) (by rfl) g_misplaced kp_misplaced b_misplaced .nil pass0 (pa_cons (pe_ix ix_tup (pv 3) pe_int (fun _ _ => rfl)) (pa_cons (pv 4) pa_nil)))))))
      (pss_one ps_never)
      pss_nil)
      (pss_one (ps_if (PW.pt (pw_and (pt_truth (pe_call G_parts_of (hr.mono (by decide)) (by rfl) g_parts_of kp_parts_of b_parts_of .nil pass0 (pa_cons (pv 3) pa_nil)) (fun _ => rfl)) (pw_and1 (pt_cmpR op_gt (pe_callB call_len_seq (by rfl) n_len (by decide +kernel) (pa_cons (pv 4) pa_nil)) (pe_glob (v := .int _) (by rfl) g_MOST_BLOCKS_AROUND ⟨_, rfl⟩) (nomark _)))))
      (pss_one ps_never)
      pss_nil)))))), ?_⟩
    obtain ⟨dx, b, n, h1, h2⟩ := hF
    obtain ⟨⟨⟨m, hm9, htt⟩, hbod⟩, hcnt, hst⟩ := hB
    have tss : Tts m ss := by
      cases htt with
      | tup _ q => exact q
    refine ⟨.ref f, rfl, f, _, dx, _, .ref b, rfl, h1, T.cf, T.nf "body" (by decide +kernel), rfl, (by show 0 ≤ sizeLine; decide), fun ar har => ?_⟩
    have e1 := Ex.new (o := .tup []) har
    refine ⟨b, ar, ss, [], m, 0, rfl, dpM e1 _ _ h2, .tup (st_of upd_same) .nil, tss, .nil, ⟨by decide, by decide⟩, hbod, fun q prs H1 hq e2 g1 g3 => ?_⟩
    refine ⟨q, prs.map V.ref, rfl, sq_of g1, ?_⟩
    refine for_it (walk_enum (xs := prs.map V.ref)) (fun i σ' H' => ∃ v2 v3 v4, σ' = [some (.ref f), some (.ref nm), v2, v3, v4] ∧ Ex H1 H') ⟨_, _, _, rfl, Ex.refl _⟩ (fun i σ' H' _ hI => ?_) (fun i x σ' H2 H3 hi hI hy => ?_) (fun σ' H' hI => ?_)
    · obtain ⟨v2, v3, v4, rfl, e3⟩ := hI
      exact sq_of (e3 _ _ g1)
    · obtain ⟨v2, v3, v4, rfl, e3⟩ := hI
      obtain ⟨tq, x1, y1, rfl, hT, rfl, p1, p2⟩ := hy
      cases p1
      replace p2 : (prs.map V.ref)[i]? = some y1 := p2
      rw [List.getElem?_map] at p2
      cases p : prs[i]? with
      | none =>
        rw [p] at p2
        cases p2
      | some pr =>
        rw [p] at p2
        cases p2
        have hi2 := (List.getElem?_eq_some_iff.mp p).1
        have lpr := g3.len
        obtain ⟨s, as, sv, av, m1, m2, hq1, t1, t2, t3, tts, tta⟩ := prs_at g3 p
        obtain ⟨hwf, wd, ps, hwd, hps, hpw, hpl, hpp, hdeep⟩ := hst _ (List.mem_of_getElem? hq1)
        simp only at hwf hwd hps hdeep
        have e4 : Ex H1 (upd H2 tq (.tup [.int (i : Nat), .ref pr])) := e3.trans (Ex.new hT)
        have hsh := hwf.sh
        obtain ⟨w0, ks, args, hs0, _, _, _⟩ := id hsh
        have hw0 : w0 = wd := by
          rw [hs0] at hwd
          injection hwd
        subst hw0
        rw [hs0] at t2
        cases t2 with
        | @tup t xs _ hx hxs =>
        cases hxs with
        | @cons v0 rest _ _ hv0 hrest =>
        cases hv0
        have t2' : Dp K H1 (.ref t) s := by
          rw [hs0]
          exact .tup hx (.cons (.str w0) hrest)
        subst hps
        refine ⟨tq, _, rfl, st_of upd_same, rfl, .int (i : Nat), [.ref pr], rfl, .ref pr, [], rfl, pr, [.ref t, .ref av], rfl, st_of (e4 _ _ t1), rfl, .ref t, [.ref av], rfl, .ref av, [], rfl, rfl, rfl, ?_⟩
        dsimp only [gName, List.set]
        refine q_when (b := false) (et_is (et_test (ev_op (ev_var rfl) ev_c (rv_eq rfl))) (decide_eq_false (by intro h; injection h with h; omega))) (fun hb => nomatch hb) (fun _ H4 e5 => ?_)
        have e6 := e4.trans e5
        have e06 := (e1.trans e2).trans e6
        refine q_when (b := false) (et_or (a := false) (b := false) (et_not (a := true) (et_B (ev_call (ea_cons (ev_var rfl) (ea_cons (ev_var rfl) ea_nil)) fun H5 e7 R q _ => ⟨.ref t, nm, s, cs, rs, os, rfl, dpM (e6.trans e7) _ _ t2', hN.mono (e06.trans e7), hwf, fun H6 e8 => q H6 e8⟩))) fun _ =>
          et_B (ev_call (ea_cons (ev_op (ev_var rfl) ev_c (rv_ixT (ex_t e6 hx) (v := .str w0) (atI_nat (j := 0) rfl))) (ea_cons (ev_var rfl) ea_nil)) fun H5 e7 R q _ => ⟨w0, av, ps, rfl, dpM (e6.trans e7) _ _ t3, hpw, hpl, hpp, fun H6 e8 => q H6 e8⟩)) (fun hb => nomatch hb) (fun _ H5 e7 => ?_)
        have e8 := e6.trans e7
        refine ⟨.ref t, rfl, .ref t, s, m1, rfl, dpM e8 _ _ t2', tts, hsh, fun s' ys H6 hs' e9 hS hys => ⟨!ys.isEmpty, (show TruV K (.ref s') H6 _ from Or.inl ⟨ys, sq_of hS, rfl⟩), ite2 (fun hne => ?_) (fun _ => ite_ff ⟨_, _, _, rfl, e8.trans e9⟩)⟩⟩
        have hpne : parts s ≠ [] := by
          intro e
          rw [e] at hys
          cases hys
          cases hne
        have hd2 := hdeep hpne
        refine go_test (b := false) (et_is (et_test (ev_op (ev_cb (ea_cons (ev_var rfl) ea_nil) fun H7 e10 R q => ?_) ev_c (rv_I0 (i := (ps.length : Int))))) (decide_eq_false (by omega))) fun H7 e10 => ite_ff ⟨_, _, _, rfl, (e8.trans e9).trans e10⟩
        cases dpM ((e8.trans e9).trans e10) _ _ t3 with
        | @tup _ zs _ hz hzs =>
          have lz := dpAll_len hzs
          rw [List.length_map] at lz
          exact ⟨av, zs, rfl, .inr hz, by rw [lz]; exact q H7 (Ex.refl _)⟩
    · obtain ⟨v2, v3, v4, rfl, e3⟩ := hI
      exact kk H' ((e1.trans e2).trans e3)

end
end K06
set_option Elab.async false
set_option linter.all false
set_option maxRecDepth 100000
set_option maxHeartbeats 8000000
namespace K06
open PySem PySem.Spec PyProof.Rows L2 He XH XV XR PEN TR Evl


theorem Fn.xa {K : PySem.W.Frag} {H H' : Hp} {f a C dx : Addr} {nm : Str} {ss : List PyData} (k : Xa a H H') (ha : H a = some (.ins C dx [])) (h : Fn K H f nm ss) : Fn K H' f nm ss := by
  obtain ⟨dx2, b, n, h1, h2⟩ := h
  refine ⟨dx2, b, n, k _ _ ?_ h1, dp_xa k ha _ _ h2⟩
  rintro rfl
  rw [ha] at h1
  cases h1
theorem Fns.xa {K : PySem.W.Frag} {H H' : Hp} {a C dx : Addr} {fos : List Addr} {os : List Str} {bds : List (List PyData)} (k : Xa a H H') (ha : H a = some (.ins C dx [])) (h : Fns K H fos os bds) : Fns K H' fos os bds := ⟨h.1, h.2.1, fun i f z ss h1 h2 h3 => (h.2.2 i f z ss h1 h2 h3).xa k ha⟩
def spCI (K : PySem.W.Frag) : Sp := fun vs H Q _ => ∃ a c r f cs rs os st fos bds dx, vs = [.ref a, .ref c, .ref r, .ref f, .str st] ∧ H a = some (.ins (ga K "Code") dx []) ∧ H c = some (.lst (cs.map V.str)) ∧ H r = some (.lst (rs.map V.str)) ∧ H f = some (.lst (fos.map V.ref)) ∧ Fns K H fos os bds ∧ Names cs rs os st ∧ (∀ ss ∈ bds, BodV cs rs os ss) ∧
  ∀ c r f H', Xa a H H' → Cd K H' a c r f cs rs os st fos bds → Q .non H'

section
variable {P : Program} {w : World} {K : PySem.W.Frag} {mg : Str → Option Value} {base : Heap}

theorem ok_Code_init {fd : FuncData} {f : Addr} (F : FnP K "__init__" "Code.__init__" s_Code_init f fd) (T : Tx K w mg) (c_check_bounds : Cl P w K mg base CX0 1 (ga K "check_bounds") ["code"] (spOk K)) (c_check_names : Cl P w K mg base CX0 2 (ga K "check_names") ["code"] (spOk K)) (c_names_by_kind : Cl P w K mg base CX0 1 (ga K "names_by_kind") ["code"] (spByKind K)) (c_check_body : Cl P w K mg base CX0 7 (ga K "check_body") ["function", "names"] (spBody K)) : FnOk P w K mg base CX0 (7 + 1) f fd ["self", "cells", "rows", "functions", "start"] (spCI K) := by
  obtain ⟨fd_check_bounds, G_check_bounds, b_check_bounds, kp_check_bounds⟩ := c_check_bounds
  obtain ⟨fd_check_names, G_check_names, b_check_names, kp_check_names⟩ := c_check_names
  obtain ⟨fd_names_by_kind, G_names_by_kind, b_names_by_kind, kp_names_by_kind⟩ := c_names_by_kind
  obtain ⟨fd_check_body, G_check_body, b_check_body, kp_check_body⟩ := c_check_body
  refine FunD.ok F sc_Code_init (fun vs H Q E h => ?_) (fun cdv A outer s H vs Q E hr h => ?_)
  · obtain ⟨a, c, r, f, cs, rs, os, st, fos, bds, dx, rfl, _⟩ := h
    rfl
  · obtain ⟨a, c, r, f, cs, rs, os, st, fos, bds, dx, rfl, ha, hc, hr', hf, hF, hNm, hBd, kF⟩ := h
    have n_tuple := T.fr "tuple" (by decide +kernel)
    have g_check_bounds := T.gl "check_bounds" (by decide +kernel)
    have g_check_names := T.gl "check_names" (by decide +kernel)
    have g_names_by_kind := T.gl "names_by_kind" (by decide +kernel)
    have g_check_body := T.gl "check_body" (by decide +kernel)
    refine ⟨_, PSs.nox (pss_cons (ps_fld (pv 0) (pe_callTy call_tuple_of (by rfl) n_tuple (by decide +kernel) (pa_cons (pv 1) pa_nil)) rfl)
      (pss_cons (ps_fld (pv 0) (pe_callTy call_tuple_of (by rfl) n_tuple (by decide +kernel) (pa_cons (pv 2) pa_nil)) rfl)
      (pss_cons (ps_fld (pv 0) (pe_callTy call_tuple_of (by rfl) n_tuple (by decide +kernel) (pa_cons (pv 3) pa_nil)) rfl)
      (pss_cons (ps_fld (pv 0) (pv 4) rfl)
      (pss_cons (ps_expr (pe_call G_check_bounds (hr.mono (by decide)) (by rfl) g_check_bounds kp_check_bounds b_check_bounds .nil pass0 (pa_cons (pv 0) pa_nil)))
      (pss_cons (ps_expr (pe_call G_check_names (hr.mono (by decide)) (by rfl) g_check_names kp_check_names b_check_names .nil pass0 (pa_cons (pv 0) pa_nil)))
      (pss_cons (ps_set (i := 5) sc_Code_init.nd rfl (Or.inl rfl) (pe_call G_names_by_kind (hr.mono (by decide)) (by rfl) g_names_by_kind kp_names_by_kind b_names_by_kind .nil pass0 (pa_cons (pv 0) pa_nil)))
      (pss_one (ps_for PassesOwn.never rfl (pi_tup (pe_fld (pv 0) rfl)) (pg_name (i := 6) sc_Code_init.nd rfl (Or.inl rfl))
      (pss_one (ps_expr (pe_call G_check_body (hr.mono (by decide)) (by rfl) g_check_body kp_check_body b_check_body .nil pass0 (pa_cons (pv 6) (pa_cons (pv 5) pa_nil)))))))))))))), ?_⟩
    have nc : c ≠ a := fun e => by rw [e, ha] at hc; cases hc
    have nr : r ≠ a := fun e => by rw [e, ha] at hr'; cases hr'
    have nf : f ≠ a := fun e => by rw [e, ha] at hf; cases hf
    refine ⟨.ref c, rfl, c, _, rfl, .inl ⟨sq_of hc, fun u1 hu1 => ?_⟩⟩
    have n1 : u1 ≠ a := fun e => by rw [e, ha] at hu1; cases hu1
    refine ⟨.ref a, rfl, a, _, dx, [], rfl, (upd_ne (Ne.symm n1)).trans ha, T.cc, T.nc "cells" (by decide +kernel), by decide, ?_⟩
    have a1 : upd (upd H u1 (.tup (cs.map V.str))) a (.ins (ga K "Code") dx (putF "cells" (.ref u1) [])) a = some (.ins (ga K "Code") dx [("cells", .ref u1)]) := upd_same
    have b1 : upd (upd H u1 (.tup (cs.map V.str))) a (.ins (ga K "Code") dx (putF "cells" (.ref u1) [])) u1 = some (.tup (cs.map V.str)) := (upd_ne n1).trans upd_same
    have x1 : Xa a H (upd (upd H u1 (.tup (cs.map V.str))) a (.ins (ga K "Code") dx (putF "cells" (.ref u1) []))) := (Xa.of (Ex.new hu1)).trans Xa.upd
    generalize upd (upd H u1 (.tup (cs.map V.str))) a (.ins (ga K "Code") dx (putF "cells" (.ref u1) [])) = H1 at a1 b1 x1
    refine ⟨.ref r, rfl, r, _, rfl, .inl ⟨sq_of (x1 _ _ nr hr'), fun u2 hu2 => ?_⟩⟩
    have n2 : u2 ≠ a := fun e => by rw [e, a1] at hu2; cases hu2
    refine ⟨.ref a, rfl, a, _, dx, _, rfl, (upd_ne (Ne.symm n2)).trans a1, T.cc, T.nc "rows" (by decide +kernel), (show 1 < 1000 by decide), ?_⟩
    rw [putF_tail (by decide +kernel)]
    have a2 : upd (upd H1 u2 (.tup (rs.map V.str))) a (.ins (ga K "Code") dx (("cells", .ref u1) :: putF "rows" (.ref u2) [])) a = some (.ins (ga K "Code") dx [("cells", .ref u1), ("rows", .ref u2)]) := upd_same
    have b2 : upd (upd H1 u2 (.tup (rs.map V.str))) a (.ins (ga K "Code") dx (("cells", .ref u1) :: putF "rows" (.ref u2) [])) u2 = some (.tup (rs.map V.str)) := (upd_ne n2).trans upd_same
    have x2 : Xa a H1 (upd (upd H1 u2 (.tup (rs.map V.str))) a (.ins (ga K "Code") dx (("cells", .ref u1) :: putF "rows" (.ref u2) []))) := (Xa.of (Ex.new hu2)).trans Xa.upd
    generalize upd (upd H1 u2 (.tup (rs.map V.str))) a (.ins (ga K "Code") dx (("cells", .ref u1) :: putF "rows" (.ref u2) [])) = H2 at a2 b2 x2
    have b1' := x2 _ _ n1 b1
    refine ⟨.ref f, rfl, f, _, rfl, .inl ⟨sq_of (x2 _ _ nf (x1 _ _ nf hf)), fun u3 hu3 => ?_⟩⟩
    have n3 : u3 ≠ a := fun e => by rw [e, a2] at hu3; cases hu3
    refine ⟨.ref a, rfl, a, _, dx, _, rfl, (upd_ne (Ne.symm n3)).trans a2, T.cc, T.nc "functions" (by decide +kernel), (show 2 < 1000 by decide), ?_⟩
    rw [putF_tail (by decide +kernel), putF_tail (by decide +kernel)]
    have a3 : upd (upd H2 u3 (.tup (fos.map V.ref))) a (.ins (ga K "Code") dx (("cells", .ref u1) :: ("rows", .ref u2) :: putF "functions" (.ref u3) [])) a = some (.ins (ga K "Code") dx [("cells", .ref u1), ("rows", .ref u2), ("functions", .ref u3)]) := upd_same
    have b3 : upd (upd H2 u3 (.tup (fos.map V.ref))) a (.ins (ga K "Code") dx (("cells", .ref u1) :: ("rows", .ref u2) :: putF "functions" (.ref u3) [])) u3 = some (.tup (fos.map V.ref)) := (upd_ne n3).trans upd_same
    have x3 : Xa a H2 (upd (upd H2 u3 (.tup (fos.map V.ref))) a (.ins (ga K "Code") dx (("cells", .ref u1) :: ("rows", .ref u2) :: putF "functions" (.ref u3) []))) := (Xa.of (Ex.new hu3)).trans Xa.upd
    generalize upd (upd H2 u3 (.tup (fos.map V.ref))) a (.ins (ga K "Code") dx (("cells", .ref u1) :: ("rows", .ref u2) :: putF "functions" (.ref u3) [])) = H3 at a3 b3 x3
    refine ⟨.str st, rfl, .ref a, rfl, a, _, dx, _, rfl, a3, T.cc, T.nc "start" (by decide +kernel), (show 3 < 1000 by decide), ?_⟩
    rw [putF_tail (by decide +kernel), putF_tail (by decide +kernel), putF_tail (by decide +kernel)]
    have a4 : upd H3 a (.ins (ga K "Code") dx (("cells", .ref u1) :: ("rows", .ref u2) :: ("functions", .ref u3) :: putF "start" (.str st) [])) a = some (.ins (ga K "Code") dx [("cells", .ref u1), ("rows", .ref u2), ("functions", .ref u3), ("start", .str st)]) := upd_same
    have x4 : Xa a H3 (upd H3 a (.ins (ga K "Code") dx (("cells", .ref u1) :: ("rows", .ref u2) :: ("functions", .ref u3) :: putF "start" (.str st) []))) := Xa.upd
    generalize upd H3 a (.ins (ga K "Code") dx (("cells", .ref u1) :: ("rows", .ref u2) :: ("functions", .ref u3) :: putF "start" (.str st) [])) = H4 at a4 x4
    have xx : Xa a H H4 := ((x1.trans x2).trans x3).trans x4
    have hC : Cd K H4 a u1 u2 u3 cs rs os st fos bds := ⟨x4 _ _ n1 (x3 _ _ n1 b1'), x4 _ _ n2 (x3 _ _ n2 b2), x4 _ _ n3 b3, hF.xa xx ha, ⟨dx, a4⟩⟩
    refine ⟨.ref a, rfl, a, u1, u2, u3, cs, rs, os, st, fos, bds, rfl, hC, hNm, fun H5 e5 => ?_⟩
    refine ⟨.ref a, rfl, a, u1, u2, u3, cs, rs, os, st, fos, bds, rfl, hC.mono e5, hNm, fun H6 e6 => ?_⟩
    have e56 := e5.trans e6
    refine ⟨.ref a, rfl, a, u1, u2, u3, cs, rs, os, st, fos, bds, rfl, hC.mono e56, hNm, fun p H7 e7 hN7 => ?_⟩
    have e57 := e56.trans e7
    have hC7 := hC.mono e57
    obtain ⟨dx', hA7⟩ := hC7.at_
    refine ⟨.ref a, rfl, a, _, dx', _, .ref u3, rfl, hA7, T.cc, T.nc "functions" (by decide +kernel), rfl, u3, rfl, ⟨_, st_of hC7.fa⟩, ?_⟩
    refine for_tup (xs := fos.map V.ref) (fun i σ' H' => ∃ v6, σ' = [some (.ref a), some (.ref c), some (.ref r), some (.ref f), some (.str st), some (.ref p), v6] ∧ Ex H7 H') ⟨_, rfl, Ex.refl _⟩ (fun i σ' H' _ hI => ?_) (fun i x σ' H' hx hI => ?_) (fun σ' H' hI => ?_)
    · obtain ⟨v6, rfl, e8⟩ := hI
      exact st_of (e8 _ _ hC7.fa)
    · obtain ⟨v6, rfl, e8⟩ := hI
      rw [List.getElem?_map] at hx
      cases p1 : fos[i]? with
      | none =>
        rw [p1] at hx
        cases hx
      | some t =>
        rw [p1] at hx
        cases hx
        obtain ⟨z, ss, ho, hb, hFn⟩ := hC7.fs.at p1
        exact ⟨.ref t, rfl, .ref p, rfl, t, p, z, ss, cs, rs, os, rfl, hFn.mono e8, hN7.mono e8, hBd ss (List.mem_of_getElem? hb), fun H9 e9 => ⟨_, rfl, e8.trans e9⟩⟩
    · obtain ⟨v6, rfl, e8⟩ := hI
      exact kF u1 u2 u3 H' (xx.trans (Xa.of (e57.trans e8))) (hC7.mono e8)

end
end K06
set_option Elab.async false
set_option linter.all false
set_option maxRecDepth 100000
set_option maxHeartbeats 8000000
namespace K06
open PySem PySem.Spec PyProof.Rows L2 He XH XV XR PEN TR Evl


/-! ### the drawn codes -/
mutual
theorem dp_px {K : PySem.W.Frag} {H H' : Hp} {p l : Addr} {n : Nat} (hP : Pen p l n H) (k : Px p l H H') : ∀ {m : Nat} {d : PyData} {v : V}, Tt m d → Dp K H v d → Dp K H' v d
  | _, _, _, .str _, h => by
    cases h
    exact .str _
  | _, _, _, .int _, h => by
    cases h
    exact .int _
  | _, _, _, .tup _ hs, h => by
    cases h with
    | @tup a xs _ h1 h2 =>
      refine .tup ?_ (dps_px hP k hs h2)
      obtain ⟨c, ns, e1, e2, _⟩ := hP
      rcases h1 with (h1 | ⟨o, h1⟩) | h1
      · exact .inl (.inl (k.get (fun e => by rw [e, e1] at h1; cases h1) (fun e => by rw [e, e2] at h1; cases h1) h1))
      · exact .inl (.inr ⟨o, k.get (fun e => by rw [e, e1] at h1; cases h1) (fun e => by rw [e, e2] at h1; cases h1) h1⟩)
      · exact .inr h1
theorem dps_px {K : PySem.W.Frag} {H H' : Hp} {p l : Addr} {n : Nat} (hP : Pen p l n H) (k : Px p l H H') : ∀ {m : Nat} {ds : List PyData} {vs : List V}, Tts m ds → DpAll K H vs ds → DpAll K H' vs ds
  | _, _, _, .nil, h => by
    cases h
    exact .nil
  | _, _, _, .cons h1 r1, h => by
    cases h with
    | cons h2 r2 => exact .cons (dp_px hP k h1 h2) (dps_px hP k r1 r2)
end
/-- a plan, as far as the drawing reads it -/
def Pl (K : PySem.W.Frag) (H : Hp) (pl : Addr) (cs rs os : List Str) : Prop := ∃ kvs c r o, H pl = some (.dK kvs) ∧ valV kvs (Sum.inr "cells") = some (.ref c) ∧ valV kvs (Sum.inr "rows") = some (.ref r) ∧ valV kvs (Sum.inr "order") = some (.ref o) ∧ H c = some (.lst (cs.map V.str)) ∧ H r = some (.lst (rs.map V.str)) ∧ H o = some (.lst (os.map V.str))
theorem Pl.px {K : PySem.W.Frag} {H H' : Hp} {p l pl : Addr} {n : Nat} {cs rs os : List Str} (hP : Pen p l n H) (k : Px p l H H') (h : Pl K H pl cs rs os) : Pl K H' pl cs rs os := by
  obtain ⟨kvs, c, r, o, h0, h1, h2, h3, h4, h5, h6⟩ := h
  have n4 := strs_off hP h4
  have n5 := strs_off hP h5
  have n6 := strs_off hP h6
  have n0 : pl ≠ p ∧ pl ≠ l := by
    obtain ⟨c, ns, e1, e2, _⟩ := hP
    exact ⟨(fun e => by rw [e, e1] at h0; cases h0), (fun e => by rw [e, e2] at h0; cases h0)⟩
  exact ⟨kvs, c, r, o, k.get n0.1 n0.2 h0, h1, h2, h3, k.get n4.1 n4.2 h4, k.get n5.1 n5.2 h5, k.get n6.1 n6.2 h6⟩
theorem Pl.mono {K : PySem.W.Frag} {H H' : Hp} {pl : Addr} {cs rs os : List Str} (e : Ex H H') (h : Pl K H pl cs rs os) : Pl K H' pl cs rs os := by
  obtain ⟨kvs, c, r, o, h0, h1, h2, h3, h4, h5, h6⟩ := h
  exact ⟨kvs, c, r, o, e _ _ h0, h1, h2, h3, e _ _ h4, e _ _ h5, e _ _ h6⟩
def two (w z : Str) : PyData := .tuple [.str w, .str z]
def deedsC (z : Str) : List PyData := [two "put" z, two "blank" z, two "give" z, two "put" z]
def deedsR (z : Str) : List PyData := [two "push" z, two "pop" z, two "cut" z, two "push" z]
def deeds (cs rs : List Str) : List PyData := cs.flatMap deedsC ++ rs.flatMap deedsR
def spDeeds (K : PySem.W.Frag) : Sp := fun vs H Q _ => ∃ pl cs rs os, vs = [.ref pl] ∧ Pl K H pl cs rs os ∧ cs.length ≤ 3 ∧ rs.length ≤ 2 ∧ ∀ q ys H', H q = none → Ex H H' → H' q = some (.lst ys) → DpAll K H' ys (deeds cs rs) → Q (.ref q) H'
theorem flat_len {α β : Type} {f : α → List β} {b : Nat} {l : List α} (h : ∀ x, (f x).length = b) : (l.flatMap f).length = l.length * b := by
  induction l with
  | nil => simp
  | cons x r ih => rw [List.flatMap_cons, List.length_append, h, ih, List.length_cons, Nat.succ_mul, Nat.add_comm]

section
variable {P : Program} {w : World} {K : PySem.W.Frag} {mg : Str → Option Value} {base : Heap}

theorem ok_law_deeds {fd : FuncData} (F : FnP K "_law_deeds" "_law_deeds" s_law_deeds (ga K "_law_deeds") fd) (T : Tx K w mg) : FnOk P w K mg base CX0 (0 + 1) (ga K "_law_deeds") fd ["_law_plan_here"] (spDeeds K) := by
  refine FunD.ok F sc_law_deeds (fun vs H Q E h => ?_) (fun cdv A outer s H vs Q E hr h => ?_)
  · obtain ⟨pl, cs, rs, os, rfl, _⟩ := h
    rfl
  · obtain ⟨pl, cs, rs, os, rfl, hP, lc, lr, kk⟩ := h
    refine ⟨_, PSs.nox (pss_cons (ps_set (i := 1) sc_law_deeds.nd rfl (Or.inl rfl) (pe_lst pa_nil))
      (pss_cons (ps_for PassesOwn.never rfl (pi_list (pe_dget (Nat.lt_of_le_of_lt (Nat.add_le_add_left (by decide) _) hr.units) (pv 0) pe_str (fun _ _ => rfl))) (pg_name (i := 2) sc_law_deeds.nd rfl (Or.inl rfl))
      (pss_one (ps_set (i := 1) sc_law_deeds.nd rfl (Or.inl rfl) (pe_op op_cat (pv 1) (pe_lst (pa_cons (pe_tup (pa_cons pe_str (pa_cons (pv 2) pa_nil))) (pa_cons (pe_tup (pa_cons pe_str (pa_cons (pv 2) pa_nil))) (pa_cons (pe_tup (pa_cons pe_str (pa_cons (pv 2) pa_nil))) (pa_cons (pe_tup (pa_cons pe_str (pa_cons (pv 2) pa_nil))) pa_nil)))))))))
      (pss_cons (ps_for PassesOwn.never rfl (pi_list (pe_dget (Nat.lt_of_le_of_lt (Nat.add_le_add_left (by decide) _) hr.units) (pv 0) pe_str (fun _ _ => rfl))) (pg_name (i := 3) sc_law_deeds.nd rfl (Or.inl rfl))
      (pss_one (ps_set (i := 1) sc_law_deeds.nd rfl (Or.inl rfl) (pe_op op_cat (pv 1) (pe_lst (pa_cons (pe_tup (pa_cons pe_str (pa_cons (pv 3) pa_nil))) (pa_cons (pe_tup (pa_cons pe_str (pa_cons (pv 3) pa_nil))) (pa_cons (pe_tup (pa_cons pe_str (pa_cons (pv 3) pa_nil))) (pa_cons (pe_tup (pa_cons pe_str (pa_cons (pv 3) pa_nil))) pa_nil)))))))))
      (pss_one (ps_ret (pv 1)))))), ?_⟩
    obtain ⟨kvs, c, r, o, h0, h1, h2, h3, h4, h5, h6⟩ := hP
    -- four new pairs behind a list
    have four : ∀ {H1 : Hp} {F : Addr} {ys : List V} {ds : List PyData} (z w1 w2 w3 w4 : Str), H1 F = some (.lst ys) → DpAll K H1 ys ds → ∀ t1, H1 t1 = none → ∀ t2, upd H1 t1 (.tup [.str w1, .str z]) t2 = none → ∀ t3, upd (upd H1 t1 (.tup [.str w1, .str z])) t2 (.tup [.str w2, .str z]) t3 = none →
        ∀ t4, upd (upd (upd H1 t1 (.tup [.str w1, .str z])) t2 (.tup [.str w2, .str z])) t3 (.tup [.str w3, .str z]) t4 = none → ∀ H5, H5 = upd (upd (upd (upd H1 t1 (.tup [.str w1, .str z])) t2 (.tup [.str w2, .str z])) t3 (.tup [.str w3, .str z])) t4 (.tup [.str w4, .str z]) → Ex H1 H5 ∧ DpAll K H5 (ys ++ [.ref t1, .ref t2, .ref t3, .ref t4]) (ds ++ [two w1 z, two w2 z, two w3 z, two w4 z]) := by
      intro H1 F ys ds z w1 w2 w3 w4 hF hD t1 k1 t2 k2 t3 k3 t4 k4 H5 e5
      have a1 := Ex.new (o := .tup [.str w1, .str z]) k1
      have a2 := Ex.new (o := .tup [.str w2, .str z]) k2
      have a3 := Ex.new (o := .tup [.str w3, .str z]) k3
      have a4 := Ex.new (o := .tup [.str w4, .str z]) k4
      have aa := ((a1.trans a2).trans a3).trans a4
      rw [e5]
      have pr : ∀ w : Str, DpAll K (upd (upd (upd (upd H1 t1 (.tup [.str w1, .str z])) t2 (.tup [.str w2, .str z])) t3 (.tup [.str w3, .str z])) t4 (.tup [.str w4, .str z])) [.str w, .str z] [.str w, .str z] := fun w => .cons (.str _) (.cons (.str _) .nil)
      exact ⟨aa, dpAll_app (dpMs aa _ _ hD) (.cons (.tup (st_of (a4 _ _ (a3 _ _ (a2 _ _ upd_same)))) (pr w1)) (.cons (.tup (st_of (a4 _ _ (a3 _ _ upd_same))) (pr w2)) (.cons (.tup (st_of (a4 _ _ upd_same)) (pr w3)) (.cons (.tup (st_of upd_same) (pr w4)) .nil))))⟩
    refine q_asgL (el_lst ea_nil (by decide)) fun F0 H1 hF0 e1 g1 => ?_
    dsimp only [gName, List.set]
    refine ⟨.ref pl, rfl, pl, .ref c, rfl, .inl ⟨kvs, Sum.inr "cells", .inl (e1 _ _ h0), rfl, h1.symm⟩, c, rfl, ⟨_, sq_of (e1 _ _ h4)⟩, ?_⟩
    refine for_list (xs := cs.map V.str) (fun i σ' H' => ∃ F ys v2 v3, σ' = [some (.ref pl), some (.ref F), v2, v3] ∧ H F = none ∧ Ex H H' ∧ H' F = some (.lst ys) ∧ DpAll K H' ys ((cs.take i).flatMap deedsC)) ⟨F0, [], _, _, rfl, hF0, e1, g1, .nil⟩ (fun i σ' H' _ hI => ?_) (fun i x σ' H' hx hI => ?_) (fun σ' H' hI => ?_)
    · obtain ⟨F, ys, v2, v3, rfl, f1, f2, f3, f4⟩ := hI
      exact sq_of (f2 _ _ h4)
    · obtain ⟨F, ys, v2, v3, rfl, f1, f2, f3, f4⟩ := hI
      rw [List.getElem?_map] at hx
      cases w1 : cs[i]? with
      | none =>
        rw [w1] at hx
        cases hx
      | some z =>
        rw [w1] at hx
        cases hx
        have ll := dpAll_len f4
        rw [flat_len (b := 4) (fun _ => rfl), List.length_take] at ll
        dsimp only [gName, List.set]
        refine ⟨.ref F, rfl, .str z, rfl, (show 2 ≤ sizeLine by decide), fun t1 k1 => ⟨.str z, rfl, (show 2 ≤ sizeLine by decide), fun t2 k2 => ⟨.str z, rfl, (show 2 ≤ sizeLine by decide), fun t3 k3 => ⟨.str z, rfl, (show 2 ≤ sizeLine by decide), fun t4 k4 => ⟨(show 4 ≤ sizeLine by decide), fun q hq => ?_⟩⟩⟩⟩⟩
        obtain ⟨m1, m2⟩ := four z "put" "blank" "give" "put" f3 f4 t1 k1 t2 k2 t3 k3 t4 k4 _ rfl
        have m3 := Ex.new (o := .lst [.ref t1, .ref t2, .ref t3, .ref t4]) hq
        refine ⟨F, q, ys, _, rfl, rfl, m3 _ _ (m1 _ _ f3), upd_same, fits (by show ys.length + 4 ≤ 1000; omega), fun G hG => ⟨G, _, _, _, rfl, fresh_back ((f2.trans m1).trans m3) hG, ((f2.trans m1).trans m3).trans (Ex.new hG), upd_same, ?_⟩⟩
        rw [flat_more deedsC w1]
        exact dpMs (m3.trans (Ex.new hG)) _ _ m2
    · obtain ⟨F, ys, v2, v3, rfl, f1, f2, f3, f4⟩ := hI
      rw [List.length_map, List.take_of_length_le (Nat.le_refl _)] at f4
      have lcs := dpAll_len f4
      rw [flat_len (b := 4) (fun _ => rfl)] at lcs
      refine ⟨.ref pl, rfl, pl, .ref r, rfl, .inl ⟨kvs, Sum.inr "rows", .inl (f2 _ _ h0), rfl, h2.symm⟩, r, rfl, ⟨_, sq_of (f2 _ _ h5)⟩, ?_⟩
      refine for_list (xs := rs.map V.str) (fun i σ' H' => ∃ F ys v2 v3, σ' = [some (.ref pl), some (.ref F), v2, v3] ∧ H F = none ∧ Ex H H' ∧ H' F = some (.lst ys) ∧ DpAll K H' ys (cs.flatMap deedsC ++ (rs.take i).flatMap deedsR)) ⟨F, ys, _, _, rfl, f1, f2, f3, (by rw [List.take_zero, List.flatMap_nil, List.append_nil]; exact f4)⟩ (fun i σ' H' _ hI => ?_) (fun i x σ' H' hx hI => ?_) (fun σ' H' hI => ?_)
      · obtain ⟨F, ys, v2, v3, rfl, f1, f2, f3, f4⟩ := hI
        exact sq_of (f2 _ _ h5)
      · clear f1 f2 f3 f4 lcs
        obtain ⟨F, ys, v2, v3, rfl, f1, f2, f3, f4⟩ := hI
        rw [List.getElem?_map] at hx
        cases w1 : rs[i]? with
        | none =>
          rw [w1] at hx
          cases hx
        | some z =>
          rw [w1] at hx
          cases hx
          have ll := dpAll_len f4
          rw [List.length_append, flat_len (b := 4) (fun _ => rfl), flat_len (b := 4) (fun _ => rfl), List.length_take] at ll
          dsimp only [gName, List.set]
          refine ⟨.ref F, rfl, .str z, rfl, (show 2 ≤ sizeLine by decide), fun t1 k1 => ⟨.str z, rfl, (show 2 ≤ sizeLine by decide), fun t2 k2 => ⟨.str z, rfl, (show 2 ≤ sizeLine by decide), fun t3 k3 => ⟨.str z, rfl, (show 2 ≤ sizeLine by decide), fun t4 k4 => ⟨(show 4 ≤ sizeLine by decide), fun q hq => ?_⟩⟩⟩⟩⟩
          obtain ⟨m1, m2⟩ := four z "push" "pop" "cut" "push" f3 f4 t1 k1 t2 k2 t3 k3 t4 k4 _ rfl
          have m3 := Ex.new (o := .lst [.ref t1, .ref t2, .ref t3, .ref t4]) hq
          refine ⟨F, q, ys, _, rfl, rfl, m3 _ _ (m1 _ _ f3), upd_same, fits (by show ys.length + 4 ≤ 1000; omega), fun G hG => ⟨G, _, _, _, rfl, fresh_back ((f2.trans m1).trans m3) hG, ((f2.trans m1).trans m3).trans (Ex.new hG), upd_same, ?_⟩⟩
          rw [flat_more deedsR w1, ← List.append_assoc]
          exact dpMs (m3.trans (Ex.new hG)) _ _ m2
      · clear f1 f2 f3 f4 lcs
        obtain ⟨F, ys, v2, v3, rfl, f1, f2, f3, f4⟩ := hI
        rw [List.length_map, List.take_of_length_le (Nat.le_refl _)] at f4
        exact ⟨.ref F, rfl, kk F ys H' f1 f2 f3 f4⟩

end
end K06
set_option Elab.async false
set_option linter.all false
set_option maxRecDepth 100000
set_option maxHeartbeats 8000000
namespace K06
open PySem PySem.Spec PyProof.Rows L2 He XH XV XR PEN TR Evl


/-! ### the number of statements -/
def cnt : Nat → List PyData → Nat
  | 0, _ => 0
  | n + 1, ss => (ss.map fun s => 1 + ((parts s).map fun p => cnt n (bodyOf p)).sum).sum
def Hb : Nat → List PyData → Prop
  | 0, ss => ss = []
  | n + 1, ss => ∀ s ∈ ss, (∃ w args, s = .tuple (w :: args)) ∧ ∀ p ∈ parts s, ∃ ds, p = .tuple ds ∧ Hb n ds
def spCnt (K : PySem.W.Frag) (n : Nat) : Sp := fun vs H Q _ => ∃ b ss m, vs = [.ref b] ∧ Dp K H (.ref b) (.tuple ss) ∧ Tts m ss ∧ Hb n ss ∧ ∀ H', Ex H H' → Q (.int (cnt n ss : Nat)) H'
theorem sum_more {α : Type} {l : List α} {i : Nat} {x : α} (f : α → Nat) (h : l[i]? = some x) : ((l.take (i + 1)).map f).sum = ((l.take i).map f).sum + f x := by
  rw [take_more h, List.map_append, List.sum_append]
  simp
theorem int_sum : ∀ ns : List Nat, (ns.map fun n : Nat => (n : Int)).sum = ((ns.sum : Nat) : Int)
  | [] => rfl
  | n :: r => by
    rw [List.map_cons, List.sum_cons, int_sum r, List.sum_cons]
    omega

section
variable {P : Program} {w : World} {K : PySem.W.Frag} {mg : Str → Option Value} {base : Heap}

theorem ok_law_count0 {fd : FuncData} (F : FnP K "_law_count" "_law_count" s_law_count (ga K "_law_count") fd) (T : Tx K w mg) : FnOk P w K mg base CX0 (0 + 1) (ga K "_law_count") fd ["_law_body"] (spCnt K 0) := by
  refine FunD.ok F sc_law_count (fun vs H Q E h => ?_) (fun cdv A outer s H vs Q E hr h => ?_)
  · obtain ⟨b, ss, m, rfl, _⟩ := h
    rfl
  · obtain ⟨b, ss, m, rfl, hd, hts, hH, kk⟩ := h
    refine ⟨_, PSs.nox (pss_cons (ps_set (i := 1) sc_law_count.nd rfl (Or.inl rfl) pe_int)
      (pss_cons (ps_for PassesOwn.never rfl (pi_tup (pv 0)) (pg_name (i := 2) sc_law_count.nd rfl (Or.inl rfl))
      (pss_one ps_never))
      (pss_one (ps_ret (pv 1))))), ?_⟩
    have e0 : ss = [] := hH
    subst e0
    cases hd with
    | @tup _ xs _ hx hxs =>
      cases hxs
      refine q_asg ev_c fun H1 e1 => ?_
      dsimp only [gName, List.set]
      refine ⟨.ref b, rfl, b, rfl, ⟨_, ex_t e1 hx⟩, ?_⟩
      refine for_tup (xs := []) (fun i σ' H' => σ' = _ ∧ H' = H1) ⟨rfl, rfl⟩ (fun i σ' H' _ hI => by rw [hI.2]; exact ex_t e1 hx) (fun i x σ' H' hx hI => nomatch hx) (fun σ' H' hI => ?_)
      rw [hI.1, hI.2]
      exact ⟨.int 0, rfl, kk H1 e1⟩

theorem ok_law_countS {fd : FuncData} {n k : Nat} (F : FnP K "_law_count" "_law_count" s_law_count (ga K "_law_count") fd) (T : Tx K w mg) (c_law_count : Cl P w K mg base CX0 k (ga K "_law_count") ["_law_body"] (spCnt K n)) : FnOk P w K mg base CX0 (k + 1) (ga K "_law_count") fd ["_law_body"] (spCnt K (n + 1)) := by
  obtain ⟨fd_law_count, G_law_count, b_law_count, kp_law_count⟩ := c_law_count
  refine FunD.ok F sc_law_count (fun vs H Q E h => ?_) (fun cdv A outer s H vs Q E hr h => ?_)
  · obtain ⟨b, ss, m, rfl, _⟩ := h
    rfl
  · obtain ⟨b, ss, m, rfl, hd, hts, hH, kk⟩ := h
    have n_sum := T.fr "sum" (by decide +kernel)
    have n_isinstance := T.fr "isinstance" (by decide +kernel)
    have n_tuple := T.fr "tuple" (by decide +kernel)
    have g_law_count := T.gl "_law_count" (by decide +kernel)
    refine ⟨_, PSs.nox (pss_cons (ps_set (i := 1) sc_law_count.nd rfl (Or.inl rfl) pe_int)
      (pss_cons (ps_for PassesOwn.never rfl (pi_tup (pv 0)) (pg_name (i := 2) sc_law_count.nd rfl (Or.inl rfl))
      (pss_one (ps_set (i := 1) sc_law_count.nd rfl (Or.inl rfl) (pe_op op_add (pe_op op_add (pv 1) pe_int) (pe_callB (cr_sum rfl) (by rfl) n_sum (by decide +kernel) (pa_cons (pe_lc (own := [("_law_part_here", 3)]) (g := gName 3) (by rfl) sc_law_count.nd (pi_tup (pe_slice sl_tup (pv 2) (po_some pe_int) po_none)) (blkOk_by (own := [("_law_part_here", 3)]) (N := ["_law_body", "_law_total", "_law_statement", "_law_part_here"]) (sc := defScope s_law_count) (by decide +kernel)) (fun _ _ _ _ _ => (pg_name (i := 3) sc_law_count.nd rfl (Or.inl rfl))) (fun _ _ _ _ _ => (pts_one (pt_val (pe_callB (call_isi : CallR _ _ (rIsi K)) (by rfl) n_isinstance (by decide +kernel) (pa_cons (pv 3) (pa_cons (pe_bltn (v := .ty "tuple") (by rfl) n_tuple (by decide +kernel) rfl) pa_nil)))))) (fun _ _ _ _ _ => (pe_call G_law_count (hr.mono (Nat.le_refl _)) (by rfl) g_law_count kp_law_count b_law_count .nil pass0 (pa_cons (pv 3) pa_nil)))) pa_nil))))))
      (pss_one (ps_ret (pv 1))))), ?_⟩
    cases hd with
    | @tup _ xs _ hx hxs =>
      have lx := dpAll_len hxs
      refine q_asg ev_c fun H1 e1 => ?_
      dsimp only [gName, List.set]
      refine ⟨.ref b, rfl, b, rfl, ⟨_, ex_t e1 hx⟩, ?_⟩
      refine for_tup (xs := xs) (fun i σ' H' => ∃ v2 v3, σ' = [some (.ref b), some (.int (((ss.take i).map fun s => 1 + ((parts s).map fun p => cnt n (bodyOf p)).sum).sum : Nat)), v2, v3] ∧ Ex H H') ⟨_, _, rfl, e1⟩ (fun i σ' H' _ hI => ?_) (fun i x σ' H' hxi hI => ?_) (fun σ' H' hI => ?_)
      · obtain ⟨v2, v3, rfl, f1⟩ := hI
        exact ex_t f1 hx
      · obtain ⟨v2, v3, rfl, f1⟩ := hI
        obtain ⟨s, hs, hxs'⟩ := dpAll_at hxs hxi
        have hsm := List.mem_of_getElem? hs
        obtain ⟨⟨wd, args, es⟩, hps⟩ := hH s hsm
        have tts := hts.at s hsm
        subst es
        cases hxs' with
        | @tup t rest0 _ ht hrest =>
          cases hrest with
          | @cons v0 rest _ _ hv0 hrest =>
            cases tts with
            | @tup m1 _ hl0 tt2 =>
              cases tt2 with
              | cons _ targs =>
                have lr := dpAll_len hrest
                simp only [List.length_cons] at hl0
                dsimp only [gName, List.set]
                refine ⟨_, rfl, _, 1, rfl, rfl, .ref t, rfl, 1, rfl, t, _, rfl, ex_t f1 ht, ?_, fun p hp => ⟨p, rfl, ⟨_, st_of upd_same⟩, fun D hD => ?_⟩⟩
                · intro h
                  have h1 := h.1
                  rw [show ((1 : Int)) = ((1 : Nat) : Int) from rfl, HT.sIx_nat] at h1
                  simp only [List.length_cons] at h1
                  omega
                have hcut : cutV (v0 :: rest) (some 1) none = rest := by
                  rw [show ((1 : Int)) = ((1 : Nat) : Int) from rfl, cut_drop]
                  rfl
                rw [hcut] at hD ⊢
                have e2 := f1.trans (Ex.new (o := .tup rest) hp)
                refine lc_tup (xs := rest) (fun i H' => Ex (upd H' p (.tup rest)) (upd H' p (.tup rest)) ∧ ∃ ns : List Nat, ns.length ≤ i ∧ Ex H H' ∧ H' p = some (.tup rest) ∧ H' D = some (.lst ((ns.map fun n : Nat => (n : Int)).map V.int)) ∧ ns = ((args.take i).filter isP).map fun q => cnt n (bodyOf q)) ⟨Ex.refl _, [], Nat.le_refl _, e2.trans (Ex.new hD), Ex.new hD _ _ upd_same, upd_same, rfl⟩ (fun j H3 _ hI => ?_) (fun j x H3 hxj hI => ?_) (fun H3 hI => ?_)
                · obtain ⟨_, ns, k1, k2, k3, k4, k5⟩ := hI
                  exact st_of k3
                · obtain ⟨_, ns, k1, k2, k3, k4, k5⟩ := hI
                  obtain ⟨di, hdi, hxd⟩ := dpAll_at hrest hxj
                  have hj := (List.getElem?_eq_some_iff.mp hdi).1
                  have hx3 := dpM k2 _ _ hxd
                  have tdi := targs.at di (List.mem_of_getElem? hdi)
                  have tk : (args.take (j + 1)).filter isP = (args.take j).filter isP ++ (if isP di = true then [di] else []) := by
                    rw [take_more hdi, List.filter_append]
                    cases hq : isP di <;> simp [hq]
                  refine ⟨rfl, go_test (b := isP di) (et_B (ev_cb (ea_cons (ev_var rfl) (ea_cons ev_c ea_nil)) fun H5 e Q2 q2 => ?_)) fun H5 e5 => ?_⟩
                  · cases di with
                    | tuple es =>
                      cases dpM e _ _ hx3 with
                      | @tup bb zs _ hzs _ => exact ⟨.ref bb, .ty "tuple", .type "tuple", .type "tuple", true, rfl, .ty _, tyx_t hzs, kit_ty (by decide +kernel), q2 H5 (Ex.refl _)⟩
                    | str z =>
                      cases hx3
                      exact ⟨.str z, .ty "tuple", .type "str", .type "tuple", false, rfl, .ty _, .base (.str z), kit_ty (by decide +kernel), q2 H5 (Ex.refl _)⟩
                    | int z =>
                      cases hx3
                      exact ⟨.int z, .ty "tuple", .type "int", .type "tuple", false, rfl, .ty _, .base (.int z), kit_ty (by decide +kernel), q2 H5 (Ex.refl _)⟩
                    | none => cases tdi
                    | bool _ => cases tdi
                    | list _ => cases tdi
                    | dict _ => cases tdi
                  · refine ite2 (fun hq => ?_) (fun hq => ?_)
                    · obtain ⟨ds, rfl, hHd⟩ := hps di (List.mem_filter.mpr ⟨List.mem_of_getElem? hdi, hq⟩)
                      cases dpM e5 _ _ hx3 with
                      | @tup bb zs _ hzs hzs2 =>
                      cases tdi with
                      | @tup m2 _ _ tds =>
                      refine ⟨.ref bb, rfl, bb, ds, _, rfl, .tup hzs hzs2, tds, hHd, fun H6 e6 => ⟨_, e6 _ _ (e5 _ _ k4), ?_, Ex.refl _, ns ++ [cnt n ds], ?_, ((k2.trans e5).trans e6).mut (fresh_back e2 hD), ?_, ?_, ?_⟩⟩
                      · rw [List.length_map, List.length_map]
                        exact small1000 (by omega)
                      · rw [List.length_append]
                        show ns.length + 1 ≤ j + 1
                        omega
                      · exact (upd_ne (fun e => by rw [e, k4] at k3; cases k3)).trans (e6 _ _ (e5 _ _ k3))
                      · rw [upd_same, List.map_append, List.map_append]
                        rfl
                      · rw [tk, if_pos hq, List.map_append, ← k5]
                        rfl
                    · refine ⟨Ex.refl _, ns, by omega, k2.trans e5, e5 _ _ k3, e5 _ _ k4, ?_⟩
                      rw [tk, if_neg hq, List.append_nil]
                      exact k5
                · obtain ⟨_, ns, k1, k2, k3, k4, k5⟩ := hI
                  rw [lr, List.take_of_length_le (Nat.le_refl _)] at k5
                  refine ⟨D, _, rfl, sq_of k4, _, _, rfl, rfl, some (.ref t), v3, ?_, k2⟩
                  have z : ((((ss.take i).map fun s => 1 + ((parts s).map fun p => cnt n (bodyOf p)).sum).sum : Nat) : Int) + 1 + (ns.map fun n : Nat => (n : Int)).sum = ((((ss.take (i + 1)).map fun s => 1 + ((parts s).map fun p => cnt n (bodyOf p)).sum).sum : Nat) : Int) := by
                    rw [sum_more _ hs, int_sum, k5]
                    show _ = (((((ss.take i).map fun s => 1 + ((parts s).map fun p => cnt n (bodyOf p)).sum).sum + (1 + ((args.filter isP).map fun p => cnt n (bodyOf p)).sum) : Nat)) : Int)
                    omega
                  show [some (V.ref b), some (V.int (_ + 1 + _)), some (V.ref t), v3] = _
                  rw [z]
      · obtain ⟨v2, v3, rfl, f1⟩ := hI
        rw [List.take_of_length_le (by omega)]
        exact ⟨_, rfl, kk H' f1⟩

end
end K06
set_option Elab.async false
set_option linter.all false
set_option maxRecDepth 100000
set_option maxHeartbeats 8000000
namespace K06
open PySem PySem.Spec PyProof.Rows L2 He XH XV XR PEN TR Evl


/-! ### expressions that give data -/
def ED (K : PySem.W.Frag) (te : TE) (σ : L2.St) (H : Hp) (d : PyData) : Prop := ∀ H1, Ex H H1 → ∀ Q : VK, (∀ v H2, Ex H1 H2 → Dp K H2 v d → Q v H2) → te σ H1 Q
def EDs (K : PySem.W.Frag) (ta : TA) (σ : L2.St) (H : Hp) (ds : List PyData) : Prop := ∀ H1, Ex H H1 → ∀ Q : List V → Hp → Prop, (∀ vs H2, Ex H1 H2 → DpAll K H2 vs ds → Q vs H2) → ta σ H1 Q
def EDL (K : PySem.W.Frag) (te : TE) (σ : L2.St) (H : Hp) (ds : List PyData) : Prop := ∀ H1, Ex H H1 → ∀ Q : VK, (∀ p vs H2, H1 p = none → Ex H1 H2 → H2 p = some (.lst vs) → DpAll K H2 vs ds → Q (.ref p) H2) → te σ H1 Q
section
variable {K : PySem.W.Frag} {σ : L2.St} {H : Hp} {te tb : TE} {ta : TA} {d : PyData} {ds es : List PyData} {i : Nat} {v : V}
theorem ed_s {z : Str} : ED K (tC (.str z)) σ H (.str z) := fun H1 e Q q => q _ H1 (Ex.refl _) (.str z)
theorem ed_var (h : σ[i]? = some (some v)) (hd : Dp K H v d) : ED K (tVar i) σ H d := fun H1 e Q q => ⟨v, h, q v H1 (Ex.refl _) (dpM e _ _ hd)⟩
theorem eds_nil : EDs K tNil σ H [] := fun H1 e Q q => q [] H1 (Ex.refl _) .nil
theorem eds_cons (h : ED K te σ H d) (r : EDs K ta σ H ds) : EDs K (tCons te ta) σ H (d :: ds) := fun H1 e Q q => h H1 e _ fun v H2 e2 d2 => r H2 (e.trans e2) _ fun vs H3 e3 d3 => q (v :: vs) H3 (e2.trans e3) (.cons (dpM e3 _ _ d2) d3)
theorem ed_tup (h : EDs K ta σ H ds) (hl : ds.length ≤ 1000) : ED K (tTup ta) σ H (.tuple ds) := fun H1 e Q q => h H1 e _ fun vs H2 e2 d2 => ⟨by rw [dpAll_len d2]; exact fits hl, fun p hp => q _ _ (e2.trans (Ex.new hp)) (.tup (st_of upd_same) (dpMs (Ex.new hp) _ _ d2))⟩
theorem edl_lst (h : EDs K ta σ H ds) (hl : ds.length ≤ 1000) : EDL K (tLst ta) σ H ds := fun H1 e Q q => h H1 e _ fun vs H2 e2 d2 => ⟨by rw [dpAll_len d2]; exact fits hl, fun p hp => q p vs _ (fresh_back e2 hp) (e2.trans (Ex.new hp)) upd_same (dpMs (Ex.new hp) _ _ d2)⟩
theorem edl_cat (h : EDL K te σ H ds) (h2 : EDL K tb σ H es) (hl : ds.length + es.length ≤ 1000) : EDL K (tOp rCat te tb) σ H (ds ++ es) := fun H1 e Q q => h H1 e _ fun p vs H2 n2 e2 g2 d2 => h2 H2 (e.trans e2) _ fun r ws H3 n3 e3 g3 d3 =>
  ⟨p, r, vs, ws, rfl, rfl, e3 _ _ g2, g3, by rw [dpAll_len d2, dpAll_len d3]; exact fits hl, fun u hu => q u _ _ (fresh_back (e2.trans e3) hu) ((e2.trans e3).trans (Ex.new hu)) upd_same (dpAll_app (dpMs (e3.trans (Ex.new hu)) _ _ d2) (dpMs (Ex.new hu) _ _ d3))⟩
theorem edl_catV {p : Addr} {vs : List V} (hs : σ[i]? = some (some (.ref p))) (g : H p = some (.lst vs)) (d : DpAll K H vs ds) (h2 : EDL K tb σ H es) (hl : ds.length + es.length ≤ 1000) : EDL K (tOp rCat (tVar i) tb) σ H (ds ++ es) := fun H1 e Q q => ⟨.ref p, hs, h2 H1 e _ fun r ws H3 n3 e3 g3 d3 =>
  ⟨p, r, vs, ws, rfl, rfl, e3 _ _ (e _ _ g), g3, by rw [dpAll_len d, dpAll_len d3]; exact fits hl, fun u hu => q u _ _ (fresh_back e3 hu) (e3.trans (Ex.new hu)) upd_same (dpAll_app (dpMs ((e.trans e3).trans (Ex.new hu)) _ _ d) (dpMs (Ex.new hu) _ _ d3))⟩⟩
theorem edl_var {p : Addr} {vs : List V} (h : σ[i]? = some (some (.ref p))) (g : H p = some (.lst vs)) (hd : DpAll K H vs ds) {Q : VK} (k : Q (.ref p) H) : tVar i σ H Q := ⟨_, h, k⟩
theorem q_asgD {tz : TS} {D : Ends} (h : EDL K te σ H ds) (k : ∀ p vs H1, H p = none → Ex H H1 → H1 p = some (.lst vs) → DpAll K H1 vs ds → tz D (σ.set i (some (.ref p))) H1) : tSeq (tAsg te (gName i)) tz D σ H := h H (Ex.refl H) _ k
end
/-! ### simple statements -/
theorem wf1 {cs rs os : List Str} {w : Str} (h : (w, []) ∈ ENT) : Wf cs rs os (.tuple [.str w]) := ⟨w, [], [], rfl, h, rfl, fun i k x h1 _ => by cases h1⟩
theorem wf2 {cs rs os : List Str} {w k z : Str} (h : (w, [k]) ∈ ENT) (hk : ¬ k = "part") (hz : z ∈ nmsOf cs rs os k) : Wf cs rs os (two w z) := by
  refine ⟨w, [k], [.str z], rfl, h, rfl, fun i k' x h1 h2 => ?_⟩
  match i, h1, h2 with
  | 0, h1, h2 =>
    cases h1
    cases h2
    unfold fitsP
    rw [if_neg hk]
    exact ⟨z, rfl, hz⟩
  | i + 1, h1, h2 => cases h1
def wordS : PyData → Str
  | .tuple (.str w :: _) => w
  | _ => ""
/-- a statement without parts; again and out only where one may -/
def SimOk (cs rs os : List Str) (lp : Bool) (s : PyData) : Prop := Wf cs rs os s ∧ parts s = [] ∧ Tt 2 s ∧ (wordS s ∈ RND → lp = true)
def DeedOk (cs rs os : List Str) (s : PyData) : Prop := Wf cs rs os s ∧ parts s = [] ∧ Tt 2 s ∧ wordS s ∈ CHG
theorem DeedOk.sim {cs rs os : List Str} {lp : Bool} {s : PyData} (h : DeedOk cs rs os s) : SimOk cs rs os lp s := ⟨h.1, h.2.1, h.2.2.1, fun k => absurd k ((show ∀ w ∈ CHG, w ∉ RND by decide +kernel) _ h.2.2.2)⟩
theorem tt_two {w z : Str} (h1 : w.length ≤ 1000) (h2 : z.length ≤ 1000) : Tt 2 (two w z) := .tup (show 2 ≤ 100 by decide) (.cons (.str h1) (.cons (.str h2) .nil))
theorem deed_two {cs rs os : List Str} {w k z : Str} (h : (w, [k]) ∈ ENT) (hk : ¬ k = "part") (hz : z ∈ nmsOf cs rs os k) (hl : z.length ≤ 1000) (hw : w ∈ CHG) : DeedOk cs rs os (two w z) := ⟨wf2 h hk hz, rfl, tt_two ((show ∀ w ∈ CHG, w.length ≤ 1000 by decide +kernel) w hw) hl, hw⟩
theorem deeds_ok {cs rs os : List Str} (hl : ∀ z ∈ cs ++ rs ++ os, z.length ≤ 12) : ∀ d ∈ deeds cs rs, DeedOk cs rs os d := by
  intro d hd
  unfold deeds at hd
  rcases List.mem_append.mp hd with h | h
  · obtain ⟨z, hz, h⟩ := List.mem_flatMap.mp h
    have l := hl z (List.mem_append_left _ (List.mem_append_left _ hz))
    unfold deedsC at h
    simp only [List.mem_cons, List.not_mem_nil, or_false] at h
    rcases h with rfl | rfl | rfl | rfl
    · exact deed_two (k := "cell") (by decide +kernel) (by decide +kernel) hz (by omega) (by decide +kernel)
    · exact deed_two (k := "cell") (by decide +kernel) (by decide +kernel) hz (by omega) (by decide +kernel)
    · exact deed_two (k := "cell") (by decide +kernel) (by decide +kernel) hz (by omega) (by decide +kernel)
    · exact deed_two (k := "cell") (by decide +kernel) (by decide +kernel) hz (by omega) (by decide +kernel)
  · obtain ⟨z, hz, h⟩ := List.mem_flatMap.mp h
    have l := hl z (List.mem_append_left _ (List.mem_append_right _ hz))
    have e : nmsOf cs rs os "row" = rs := by
      unfold nmsOf
      rw [if_neg (by decide +kernel), if_pos rfl]
    unfold deedsR at h
    simp only [List.mem_cons, List.not_mem_nil, or_false] at h
    rcases h with rfl | rfl | rfl | rfl
    · exact deed_two (k := "row") (by decide +kernel) (by decide +kernel) (by rw [e]; exact hz) (by omega) (by decide +kernel)
    · exact deed_two (k := "row") (by decide +kernel) (by decide +kernel) (by rw [e]; exact hz) (by omega) (by decide +kernel)
    · exact deed_two (k := "row") (by decide +kernel) (by decide +kernel) (by rw [e]; exact hz) (by omega) (by decide +kernel)
    · exact deed_two (k := "row") (by decide +kernel) (by decide +kernel) (by rw [e]; exact hz) (by omega) (by decide +kernel)
def rare1 : List PyData := [two "stop" "found", two "stop" "none", .tuple [.str "fault"], .tuple [.str "may"], .tuple [.str "may"]]
def rare2 : List PyData := [two "answer" "copy", two "answer" "view"]
def rare3 : List PyData := [.tuple [.str "again"], .tuple [.str "out"]]
theorem sim1 {cs rs os : List Str} {lp : Bool} {w : Str} (h : (w, []) ∈ ENT) (hl : w.length ≤ 1000) (hw : w ∈ RND → lp = true) : SimOk cs rs os lp (.tuple [.str w]) := ⟨wf1 h, rfl, .tup (show 1 ≤ 100 by decide) (.cons (.str hl) .nil), hw⟩
theorem sim2 {cs rs os : List Str} {lp : Bool} {w k z : Str} (h : (w, [k]) ∈ ENT) (hk : ¬ k = "part") (hz : z ∈ nmsOf cs rs os k) (hl : w.length ≤ 1000) (hl2 : z.length ≤ 1000) (hw : w ∉ RND) : SimOk cs rs os lp (two w z) := ⟨wf2 h hk hz, rfl, tt_two hl hl2, fun e => absurd e hw⟩
theorem rare_ok (cs rs os : List Str) (lp : Bool) : ∀ d ∈ rare1 ++ rare2, SimOk cs rs os lp d := by
  intro d hd
  unfold rare1 rare2 at hd
  simp only [List.cons_append, List.nil_append, List.mem_cons, List.not_mem_nil, or_false] at hd
  have e1 : ∀ a b c : List Str, nmsOf a b c "end" = [("found" : Str), "none"] := fun a b c => by
    unfold nmsOf
    rw [if_neg (by decide +kernel), if_neg (by decide +kernel), if_neg (by decide +kernel), if_neg (by decide +kernel), if_pos rfl]
  have e2 : ∀ a b c : List Str, nmsOf a b c "how" = [("copy" : Str), "view"] := fun a b c => by
    unfold nmsOf
    rw [if_neg (by decide +kernel), if_neg (by decide +kernel), if_neg (by decide +kernel), if_pos rfl]
  rcases hd with rfl | rfl | rfl | rfl | rfl | rfl | rfl
  · exact sim2 (k := "end") (by decide +kernel) (by decide +kernel) (by rw [e1]; decide +kernel) (by decide +kernel) (by decide +kernel) (by decide +kernel)
  · exact sim2 (k := "end") (by decide +kernel) (by decide +kernel) (by rw [e1]; decide +kernel) (by decide +kernel) (by decide +kernel) (by decide +kernel)
  · exact sim1 (by decide +kernel) (by decide +kernel) (fun h => absurd h (by decide +kernel))
  · exact sim1 (by decide +kernel) (by decide +kernel) (fun h => absurd h (by decide +kernel))
  · exact sim1 (by decide +kernel) (by decide +kernel) (fun h => absurd h (by decide +kernel))
  · exact sim2 (k := "how") (by decide +kernel) (by decide +kernel) (by rw [e2]; decide +kernel) (by decide +kernel) (by decide +kernel) (by decide +kernel)
  · exact sim2 (k := "how") (by decide +kernel) (by decide +kernel) (by rw [e2]; decide +kernel) (by decide +kernel) (by decide +kernel) (by decide +kernel)
theorem rare3_ok (cs rs os : List Str) : ∀ d ∈ rare3, SimOk cs rs os true d := by
  intro d hd
  unfold rare3 at hd
  simp only [List.mem_cons, List.not_mem_nil, or_false] at hd
  rcases hd with rfl | rfl
  · exact sim1 (by decide +kernel) (by decide +kernel) (fun _ => rfl)
  · exact sim1 (by decide +kernel) (by decide +kernel) (fun _ => rfl)
def Nms (cs rs os : List Str) : Prop := NamesOk (cs ++ rs ++ os) ∧ (cs.length ≤ 3 ∧ rs.length ≤ 2 ∧ os.length ≤ 3) ∧ os ≠ []
def spSim (K : PySem.W.Frag) : Sp := fun vs H Q _ => ∃ p l pl cs rs os lp b, vs = [.ref p, .ref pl, .bl lp] ∧ Pl K H pl cs rs os ∧ Nms cs rs os ∧ Pen p l (b + 2) H ∧ ∀ v s H', Px p l H H' → Pen p l b H' → Dp K H' v s → SimOk cs rs os lp s → Q v H'
/-- what a pick of data gives -/
theorem pick_data {K : PySem.W.Frag} {H H' : Hp} {p l : Addr} {n : Nat} {xs : List V} {ds : List PyData} {v : V} (hP : Pen p l n H) (px : Px p l H H') (hd : DpAll K H xs ds) (ht : ∀ d ∈ ds, ∃ m, Tt m d) (hv : v ∈ xs) : ∃ d ∈ ds, Dp K H' v d := by
  obtain ⟨i, hi⟩ := List.mem_iff_getElem?.mp hv
  obtain ⟨d, h1, h2⟩ := dpAll_at hd hi
  have hm := List.mem_of_getElem? h1
  obtain ⟨m, tm⟩ := ht d hm
  exact ⟨d, hm, dp_px hP px tm h2⟩
theorem lay_deeds {l : List PyData} (h : ∀ d ∈ l, ∃ w z, d = two w z ∧ PyData.strOk w = true ∧ PyData.strOk z = true) : PyData.canLayAll0 l = true ∧ PyData.depthAll l ≤ 2 := by
  induction l with
  | nil => exact ⟨by simp [PyData.canLayAll0], by simp [PyData.depthAll]⟩
  | cons d r ih =>
    obtain ⟨k1, k2⟩ := ih fun x hx => h x (List.mem_cons_of_mem _ hx)
    obtain ⟨w, z, rfl, a1, a2⟩ := h d List.mem_cons_self
    refine ⟨by simp [PyData.canLayAll0, PyData.canLay0, two, k1, a1, a2], ?_⟩
    simp only [PyData.depthAll, PyData.depth, two]
    omega
theorem shp_deeds {cs rs os : List Str} (h : NamesOk (cs ++ rs ++ os)) : SeqAt.shaped (.list (deeds cs rs)) = true := by
  have k : ∀ d ∈ deeds cs rs, ∃ w z, d = two w z ∧ PyData.strOk w = true ∧ PyData.strOk z = true := by
    intro d hd
    unfold deeds at hd
    have wk : ∀ w ∈ CHG, PyData.strOk w = true := by decide +kernel
    rcases List.mem_append.mp hd with g | g
    · obtain ⟨z, hz, g⟩ := List.mem_flatMap.mp g
      have zk := let_ok (h.2 z (List.mem_append_left _ (List.mem_append_left _ hz))).1
      unfold deedsC at g
      simp only [List.mem_cons, List.not_mem_nil, or_false] at g
      rcases g with rfl | rfl | rfl | rfl
      · exact ⟨_, _, rfl, wk _ (by decide +kernel), zk⟩
      · exact ⟨_, _, rfl, wk _ (by decide +kernel), zk⟩
      · exact ⟨_, _, rfl, wk _ (by decide +kernel), zk⟩
      · exact ⟨_, _, rfl, wk _ (by decide +kernel), zk⟩
    · obtain ⟨z, hz, g⟩ := List.mem_flatMap.mp g
      have zk := let_ok (h.2 z (List.mem_append_left _ (List.mem_append_right _ hz))).1
      unfold deedsR at g
      simp only [List.mem_cons, List.not_mem_nil, or_false] at g
      rcases g with rfl | rfl | rfl | rfl
      · exact ⟨_, _, rfl, wk _ (by decide +kernel), zk⟩
      · exact ⟨_, _, rfl, wk _ (by decide +kernel), zk⟩
      · exact ⟨_, _, rfl, wk _ (by decide +kernel), zk⟩
      · exact ⟨_, _, rfl, wk _ (by decide +kernel), zk⟩
  obtain ⟨k1, k2⟩ := lay_deeds k
  unfold SeqAt.shaped
  rw [Bool.and_eq_true]
  refine ⟨by simp [PyData.canLay0, k1], decide_eq_true ?_⟩
  simp only [PyData.depth]
  omega

section
variable {P : Program} {w : World} {K : PySem.W.Frag} {mg : Str → Option Value} {base : Heap}

theorem ok_law_simple {fd : FuncData} (F : FnP K "_law_simple" "_law_simple" s_law_simple (ga K "_law_simple") fd) (T : Tx K w mg) (c_law_deeds : Cl P w K mg base CX0 1 (ga K "_law_deeds") ["_law_plan_here"] (spDeeds K)) (c_law_draw : Cl P w K mg base CX0 1 (ga K "_law_draw") ["_law_pen", "_law_many"] spDraw) (c_law_pick : Cl P w K mg base CX0 2 (ga K "_law_pick") ["_law_pen", "_law_row"] (spPick K)) : FnOk P w K mg base CX0 (2 + 1) (ga K "_law_simple") fd ["_law_pen", "_law_plan_here", "_law_looping"] (spSim K) := by
  obtain ⟨fd_law_deeds, G_law_deeds, b_law_deeds, kp_law_deeds⟩ := c_law_deeds
  obtain ⟨fd_law_draw, G_law_draw, b_law_draw, kp_law_draw⟩ := c_law_draw
  obtain ⟨fd_law_pick, G_law_pick, b_law_pick, kp_law_pick⟩ := c_law_pick
  refine FunD.ok F sc_law_simple (fun vs H Q E h => ?_) (fun cdv A outer s H vs Q E hr h => ?_)
  · obtain ⟨p, l, pl, cs, rs, os, lp, b, rfl, _⟩ := h
    rfl
  · obtain ⟨p, l, pl, cs, rs, os, lp, b, rfl, hPl, hN, hP, kk⟩ := h
    have g_law_deeds := T.gl "_law_deeds" (by decide +kernel)
    have g_law_draw := T.gl "_law_draw" (by decide +kernel)
    have g_law_pick := T.gl "_law_pick" (by decide +kernel)
    refine ⟨_, PSs.nox (pss_cons (ps_set (i := 3) sc_law_simple.nd rfl (Or.inl rfl) (pe_call G_law_deeds (hr.mono (by decide)) (by rfl) g_law_deeds kp_law_deeds b_law_deeds .nil pass0 (pa_cons (pv 1) pa_nil)))
      (pss_cons (ps_set (i := 4) sc_law_simple.nd rfl (Or.inl rfl) (pe_call G_law_draw (hr.mono (by decide)) (by rfl) g_law_draw kp_law_draw b_law_draw .nil pass0 (pa_cons (pv 0) (pa_cons pe_int pa_nil))))
      (pss_cons (ps_if (PW.pt (pw_and (pt_cmpR op_lt (pv 4) pe_int (nomark _)) (pw_and1 (pt_cmpR (op_neD hr.units) (pv 3) (pe_lst pa_nil) (nomark _)))))
      (pss_one (ps_ret (pe_call G_law_pick (hr.mono (by decide)) (by rfl) g_law_pick kp_law_pick b_law_pick .nil pass0 (pa_cons (pv 0) (pa_cons (pv 3) pa_nil)))))
      pss_nil)
      (pss_cons (ps_if (pt_cmpR op_lt (pv 4) pe_int (nomark _))
      (pss_one (ps_ret (pe_tup (pa_cons pe_str (pa_cons (pe_call G_law_pick (hr.mono (by decide)) (by rfl) g_law_pick kp_law_pick b_law_pick .nil pass0 (pa_cons (pv 0) (pa_cons (pe_dget (Nat.lt_of_le_of_lt (Nat.add_le_add_left (by decide) _) hr.units) (pv 1) pe_str (fun _ _ => rfl)) pa_nil))) pa_nil)))))
      pss_nil)
      (pss_cons (ps_set (i := 5) sc_law_simple.nd rfl (Or.inl rfl) (pe_lst (pa_cons (pe_tup (pa_cons pe_str (pa_cons pe_str pa_nil))) (pa_cons (pe_tup (pa_cons pe_str (pa_cons pe_str pa_nil))) (pa_cons (pe_tup (pa_cons pe_str pa_nil)) (pa_cons (pe_tup (pa_cons pe_str pa_nil)) (pa_cons (pe_tup (pa_cons pe_str pa_nil)) pa_nil)))))))
      (pss_cons (ps_set (i := 5) sc_law_simple.nd rfl (Or.inl rfl) (pe_op op_cat (pv 5) (pe_lst (pa_cons (pe_tup (pa_cons pe_str (pa_cons pe_str pa_nil))) (pa_cons (pe_tup (pa_cons pe_str (pa_cons pe_str pa_nil))) pa_nil)))))
      (pss_cons (ps_if (pt_val (pv 2))
      (pss_one (ps_set (i := 5) sc_law_simple.nd rfl (Or.inl rfl) (pe_op op_cat (pv 5) (pe_lst (pa_cons (pe_tup (pa_cons pe_str pa_nil)) (pa_cons (pe_tup (pa_cons pe_str pa_nil)) pa_nil))))))
      pss_nil)
      (pss_one (ps_ret (pe_call G_law_pick (hr.mono (by decide)) (by rfl) g_law_pick kp_law_pick b_law_pick .nil pass0 (pa_cons (pv 0) (pa_cons (pv 5) pa_nil)))))))))))), ?_⟩
    obtain ⟨hok, ⟨z1, z2, z3⟩, hne⟩ := hN
    refine ⟨.ref pl, rfl, pl, cs, rs, os, rfl, hPl, z1, z2, fun q ys H1 hq e1 g1 d1 => ?_⟩
    dsimp only [gName, List.set]
    have nq : q ≠ p ∧ q ≠ l := hP.new hq
    have hl12 : ∀ z ∈ cs ++ rs ++ os, z.length ≤ 12 := fun z hz => (hok.2 z hz).2.2
    have dok := deeds_ok hl12
    refine ⟨.ref p, rfl, p, l, 10, b + 1, rfl, ⟨by decide, by decide⟩, hP.ex e1, fun r H2 hr2 px2 pen2 => ?_⟩
    have px := (Px.of (p := p) (l := l) e1).trans px2
    have g2 := px2.get nq.1 nq.2 g1
    have tds : ∀ d ∈ deeds cs rs, ∃ m, Tt m d := fun d hd => ⟨2, (dok d hd).2.2.1⟩
    have d2 : DpAll K H2 ys (deeds cs rs) := dps_px (hP.ex e1) px2 (Tts.of fun d hd => (dok d hd).2.2.1) d1
    have fin : ∀ {R : Addr} {vs : List V} {ds : List PyData} {H3 : Hp} {σ : L2.St} {D : Ends}, σ[0]? = some (some (.ref p)) → σ[5]? = some (some (.ref R)) → H3 R = some (.lst vs) → DpAll K H3 vs ds → (∀ d ∈ ds, SimOk cs rs os lp d) → ds ≠ [] → ds.length ≤ 100 → (R ≠ p ∧ R ≠ l) → Px p l H H3 → Pen p l (b + 1) H3 → D.rt = Q →
        tRet (tCall (spPick K) [] E0 (tCons (tVar 0) (tCons (tVar 5) tNil))) D σ H3 := by
      intro R vs ds H3 σ D s0 s5 gR dR ok ne len nR pxR penR hD
      have lv := dpAll_len dR
      refine ⟨.ref p, s0, .ref R, s5, p, l, R, vs, b, rfl, sq_of ((cut_at nR.1 nR.2).trans gR), ⟨?_, by omega⟩, penR.less (by omega), fun v H4 hv px4 pen4 => ?_⟩
      · intro e
        rw [e] at lv
        exact ne (List.length_eq_zero_iff.mp lv.symm)
      · obtain ⟨d, hd, dv⟩ := pick_data penR px4 dR (fun d hd => ⟨2, (ok d hd).2.2.1⟩) hv
        rw [hD]
        exact kk v d H4 (pxR.trans px4) pen4 dv (ok d hd)
    dsimp only [gName, List.set]
    refine q_when (b := decide (r < 5) && !PyData.eqv (.list (deeds cs rs)) (.list [])) (et_and (et_test (ev_op (ev_var rfl) ev_c rv_I0)) fun _ => et_test (ev_opL (ev_var rfl) (el_lst ea_nil (by decide)) fun u H3 hu e H4 e4 R k => ⟨.list (deeds cs rs), .list [], .lst (sq_of (e4 _ _ (e _ _ g2))) (dpMs (e.trans e4) _ _ d2), .lst (sq_of (e4 _ _ hu)) .nil, shp_deeds hok, by decide +kernel, k H4 (Ex.refl _)⟩)) (fun hb H3 e3 => ?_) (fun hb H3 e3 => ?_)
    · rw [Bool.and_eq_true] at hb
      have lv := dpAll_len d2
      have ne : deeds cs rs ≠ [] := by
        intro e
        rw [e] at hb
        exact absurd hb.2 (by decide +kernel)
      refine ⟨.ref p, rfl, .ref q, rfl, p, l, q, ys, b, rfl, sq_of ((cut_at nq.1 nq.2).trans (e3 _ _ g2)), ⟨?_, ?_⟩, (pen2.ex e3).less (by omega), fun v H4 hv px4 pen4 => ?_⟩
      · intro e
        rw [e] at lv
        exact ne (List.length_eq_zero_iff.mp lv.symm)
      · rw [lv]
        unfold deeds
        rw [List.length_append, flat_len (b := 4) (fun _ => rfl), flat_len (b := 4) (fun _ => rfl)]
        omega
      · obtain ⟨d, hd, dv⟩ := pick_data (pen2.ex e3) px4 (dpMs e3 _ _ d2) tds hv
        exact kk v d H4 ((px.trans (Px.of e3)).trans px4) pen4 dv (dok d hd).sim
    · have px3 := px.trans (Px.of (p := p) (l := l) e3)
      have pen3 := pen2.ex e3
      refine q_when (b := decide (r < 8)) (et_test (ev_op (ev_var rfl) ev_c rv_I0)) (fun hb H4 e4 => ?_) (fun hb H4 e4 => ?_)
      · have px4 := px3.trans (Px.of (p := p) (l := l) e4)
        obtain ⟨kvs, c, r', o, h0, h1, h2, h3, h4, h5, h6⟩ := hPl.px hP px4
        have no := strs_off (pen3.ex e4) h6
        refine ⟨.ref p, rfl, .ref pl, rfl, pl, .ref o, rfl, .inl ⟨kvs, Sum.inr "order", .inl h0, rfl, h3.symm⟩, p, l, o, _, b, rfl, sq_of ((cut_at no.1 no.2).trans h6), ⟨?_, ?_⟩, (pen3.ex e4).less (by omega), fun v H5 hv px5 pen5 => ⟨(show 2 ≤ sizeLine by decide), fun t ht => ?_⟩⟩
        · intro e
          exact hne (List.map_eq_nil_iff.mp e)
        · rw [List.length_map]
          omega
        · obtain ⟨z, hz, rfl⟩ := List.mem_map.mp hv
          refine kk (.ref t) (two "deeper" z) _ ((px4.trans px5).trans (Px.of (Ex.new ht))) (pen5.ex (Ex.new ht)) (.tup (st_of upd_same) (.cons (.str _) (.cons (.str _) .nil))) (sim2 (k := "function") (by decide +kernel) (by decide +kernel) ?_ (by decide +kernel) ?_ (by decide +kernel))
          · unfold nmsOf
            rw [if_neg (by decide +kernel), if_neg (by decide +kernel), if_pos rfl]
            exact hz
          · have k := hl12 z (List.mem_append_right _ hz)
            omega
      · have px4 := px3.trans (Px.of (p := p) (l := l) e4)
        have pen4 := pen3.ex e4
        refine q_asgD (K := K) (ds := rare1) (edl_lst (eds_cons (ed_tup (eds_cons ed_s (eds_cons ed_s eds_nil)) (show 2 ≤ 1000 by decide)) (eds_cons (ed_tup (eds_cons ed_s (eds_cons ed_s eds_nil)) (show 2 ≤ 1000 by decide)) (eds_cons (ed_tup (eds_cons ed_s eds_nil) (show 1 ≤ 1000 by decide)) (eds_cons (ed_tup (eds_cons ed_s eds_nil) (show 1 ≤ 1000 by decide)) (eds_cons (ed_tup (eds_cons ed_s eds_nil) (show 1 ≤ 1000 by decide)) eds_nil))))) (show 5 ≤ 1000 by decide)) fun R1 vs1 H5 hR1 e5 gR1 dR1 => ?_
        refine q_asgD (K := K) (ds := rare1 ++ rare2) (edl_catV rfl gR1 dR1 (edl_lst (eds_cons (ed_tup (eds_cons ed_s (eds_cons ed_s eds_nil)) (show 2 ≤ 1000 by decide)) (eds_cons (ed_tup (eds_cons ed_s (eds_cons ed_s eds_nil)) (show 2 ≤ 1000 by decide)) eds_nil)) (show 2 ≤ 1000 by decide)) (show 5 + 2 ≤ 1000 by decide)) fun R2 vs2 H6 hR2 e6 gR2 dR2 => ?_
        have px6 := px4.trans (Px.of (p := p) (l := l) (e5.trans e6))
        have pen6 := pen4.ex (e5.trans e6)
        refine q_when (b := lp) (et_B (ev_var rfl)) (fun hb H7 e7 => ?_) (fun hb H7 e7 => ?_)
        · refine (edl_catV (K := K) (ds := rare1 ++ rare2) (es := rare3) rfl (e7 _ _ gR2) (dpMs e7 _ _ dR2) (edl_lst (eds_cons (ed_tup (eds_cons ed_s eds_nil) (show 1 ≤ 1000 by decide)) (eds_cons (ed_tup (eds_cons ed_s eds_nil) (show 1 ≤ 1000 by decide)) eds_nil)) (show 2 ≤ 1000 by decide)) (show 7 + 2 ≤ 1000 by decide)) H7 (Ex.refl _) _ fun R3 vs3 H8 hR3 e8 gR3 dR3 => ?_
          have nR := (pen6.ex e7).new hR3
          refine fin rfl rfl gR3 dR3 (fun d hd => ?_) (by decide +kernel) (show 9 ≤ 100 by decide) nR (px6.trans (Px.of (e7.trans e8))) (((pen6.ex e7).ex e8).less (by omega)) rfl
          rcases List.mem_append.mp hd with h | h
          · exact rare_ok cs rs os lp d h
          · rw [hb]
            exact rare3_ok cs rs os d h
        · have nR := (pen4.ex e5).new hR2
          exact fin rfl rfl (e7 _ _ gR2) (dpMs e7 _ _ dR2) (rare_ok cs rs os lp) (by decide +kernel) (show 7 ≤ 100 by decide) nR (px6.trans (Px.of e7)) ((pen6.ex e7).less (by omega)) rfl

end
end K06
set_option Elab.async false
set_option linter.all false
set_option maxRecDepth 100000
set_option maxHeartbeats 8000000
namespace K06
open PySem PySem.Spec PyProof.Rows L2 He XH XV XR PEN TR Evl


/-! ### parts and blocks as they are drawn -/
def Val (cs rs os : List Str) : Nat → List (Str × Nat) → List PyData → Prop
  | 0, _, ss => ss = []
  | n + 1, ps, ss => ∀ s ∈ ss, Wf cs rs os s ∧ Placed (wordS s) ps ∧ (parts s ≠ [] → ps.length ≤ 2) ∧ ∀ (j : Nat) (p : PyData), (parts s)[j]? = some p → ∃ ds, p = .tuple ds ∧ Val cs rs os n (ps ++ [(wordS s, j)]) ds
def Ctx (lp : Bool) (ps : List (Str × Nat)) : Prop := (lp = true → ("tries" : Str) ∈ ps.map (·.1)) ∧ (("lastly" : Str), (1 : Nat)) ∉ ps ∧ ∀ p ∈ ps, p.1 ∈ words
def Pn : Nat → Nat
  | 0 => 0
  | n + 1 => 1 + 14 * (12 + 2 * Pn n)
theorem Val.hb {cs rs os : List Str} : ∀ {n : Nat} {ps : List (Str × Nat)} {ss : List PyData}, Val cs rs os n ps ss → Hb n ss
  | 0, _, _, h => h
  | n + 1, ps, ss, h => fun s hs => by
    obtain ⟨hw, _, _, hp⟩ := h s hs
    obtain ⟨w, ks, args, e, _⟩ := hw
    refine ⟨⟨_, _, e⟩, fun p hpm => ?_⟩
    obtain ⟨j, hj⟩ := List.mem_iff_getElem?.mp hpm
    obtain ⟨ds, e2, hv⟩ := hp j p hj
    exact ⟨ds, e2, hv.hb⟩
/-- a drawn part -/
structure PartOk (cs rs os : List Str) (n : Nat) (ps : List (Str × Nat)) (room : Nat) (ss : List PyData) : Prop where
  val : Val cs rs os n ps ss
  tt : Tts (2 * n) ss
  few : cnt n ss ≤ room
def spPart (K : PySem.W.Frag) (n : Nat) : Sp := fun vs H Q _ => ∃ p l pl cs rs os room lp d ps b, vs = [.ref p, .ref pl, .int (room : Nat), .bl lp, .int (d : Nat)] ∧ Pl K H pl cs rs os ∧ Nms cs rs os ∧ (room ≤ 14 ∧ n + d = 4 ∧ ps.length = d) ∧ Ctx lp ps ∧ Pen p l (b + Pn n) H ∧
  ∀ a ss H', Px p l H H' → Pen p l b H' → Dp K H' (.ref a) (.tuple ss) → PartOk cs rs os n ps room ss → Q (.ref a) H'
def spBlk (K : PySem.W.Frag) (n : Nat) : Sp := fun vs H Q _ => ∃ p l pl cs rs os left lp d ps b, vs = [.ref p, .ref pl, .int (left : Nat), .bl lp, .int (d : Nat)] ∧ Pl K H pl cs rs os ∧ Nms cs rs os ∧ (1 ≤ left ∧ left ≤ 14 ∧ n + 1 + d = 4 ∧ ps.length = d ∧ 1 ≤ n) ∧ Ctx lp ps ∧ Pen p l (b + (8 + 2 * Pn n)) H ∧
  ∀ a s H', Px p l H H' → Pen p l b H' → Dp K H' (.ref a) s → Val cs rs os (n + 1) ps [s] → Tt (2 * n + 2) s → cnt (n + 1) [s] ≤ left → Q (.ref a) H'
theorem ctx_more {lp lp' : Bool} {ps : List (Str × Nat)} {w : Str} {j : Nat} (h : Ctx lp ps) (hw : w ∈ words) (hl : ¬ (w = "lastly" ∧ j = 1)) (hlp : lp' = true → lp = true ∨ w = "tries") : Ctx lp' (ps ++ [(w, j)]) := by
  obtain ⟨h1, h2, h3⟩ := h
  refine ⟨fun e => ?_, fun hm => ?_, fun p hp => ?_⟩
  · rw [List.map_append]
    rcases hlp e with k | k
    · exact List.mem_append_left _ (h1 k)
    · rw [k]
      exact List.mem_append_right _ List.mem_cons_self
  · rcases List.mem_append.mp hm with k | k
    · exact h2 k
    · have e := List.mem_singleton.mp k
      exact hl ⟨(congrArg Prod.fst e).symm, (congrArg Prod.snd e).symm⟩
  · rcases List.mem_append.mp hp with k | k
    · exact h3 p k
    · rw [List.mem_singleton.mp k]
      exact hw
theorem cnt_one {n : Nat} {s : PyData} : cnt (n + 1) [s] = 1 + ((parts s).map fun p => cnt n (bodyOf p)).sum := by
  show (1 + _) + 0 = _
  omega
theorem placed_blk {w : Str} {lp : Bool} {ps : List (Str × Nat)} (h : Ctx lp ps) (hw : w ∉ RND) : Placed w ps := ⟨fun k => absurd k hw, fun k => absurd k h.2.1⟩
/-- deeds as a second part of a lastly -/
theorem val_deeds {cs rs os : List Str} {n : Nat} {ps : List (Str × Nat)} {l : List PyData} (h : ∀ d ∈ l, DeedOk cs rs os d) (hn : 1 ≤ n) : Val cs rs os n ps l := by
  match n, hn with
  | n + 1, _ =>
    intro s hs
    obtain ⟨a1, a2, a3, a4⟩ := h s hs
    have nr := (show ∀ w ∈ CHG, w ∉ RND by decide +kernel) _ a4
    refine ⟨a1, ⟨fun k => absurd k nr, fun _ => a4⟩, fun k => absurd a2 k, fun j p hp => ?_⟩
    rw [a2] at hp
    cases hp
/-- a block of a word and two parts; of one; of a cell and two parts -/
theorem wf_b2 {cs rs os : List Str} {w : Str} {xs ys : List PyData} (h : (w, [("part" : Str), "part"]) ∈ ENT) : Wf cs rs os (.tuple [.str w, .tuple xs, .tuple ys]) := by
  refine ⟨w, _, [.tuple xs, .tuple ys], rfl, h, rfl, fun i k x h1 h2 => ?_⟩
  match i, h1, h2 with
  | 0, h1, h2 => cases h1; cases h2; unfold fitsP; rw [if_pos rfl]; rfl
  | 1, h1, h2 => cases h1; cases h2; unfold fitsP; rw [if_pos rfl]; rfl
  | i + 2, h1, h2 => cases h1
theorem wf_b1 {cs rs os : List Str} {w : Str} {xs : List PyData} (h : (w, [("part" : Str)]) ∈ ENT) : Wf cs rs os (.tuple [.str w, .tuple xs]) := by
  refine ⟨w, _, [.tuple xs], rfl, h, rfl, fun i k x h1 h2 => ?_⟩
  match i, h1, h2 with
  | 0, h1, h2 => cases h1; cases h2; unfold fitsP; rw [if_pos rfl]; rfl
  | i + 1, h1, h2 => cases h1
theorem wf_b3 {cs rs os : List Str} {z : Str} {xs ys : List PyData} (hz : z ∈ cs) : Wf cs rs os (.tuple [.str "look", .str z, .tuple xs, .tuple ys]) := by
  refine ⟨"look", _, [.str z, .tuple xs, .tuple ys], rfl, (show (("look" : Str), [("cell" : Str), "part", "part"]) ∈ ENT by decide +kernel), rfl, fun i k x h1 h2 => ?_⟩
  match i, h1, h2 with
  | 0, h1, h2 => cases h1; cases h2; unfold fitsP; rw [if_neg (by decide +kernel)]; exact ⟨z, rfl, hz⟩
  | 1, h1, h2 => cases h1; cases h2; unfold fitsP; rw [if_pos rfl]; rfl
  | 2, h1, h2 => cases h1; cases h2; unfold fitsP; rw [if_pos rfl]; rfl
  | i + 3, h1, h2 => cases h1
def bwords : List Str := ["tries", "tries", "either", "told", "look", "guard", "lastly"]
theorem bw_words : ∀ w ∈ bwords, w ∈ words ∧ w ∉ RND ∧ w.length ≤ 1000 := by
  have k : ∀ w ∈ bwords, w ∈ words ∧ w ∉ RND ∧ decide (w.length ≤ 1000) = true := by decide +kernel
  exact fun w h => ⟨(k w h).1, (k w h).2.1, of_decide_eq_true (k w h).2.2⟩


theorem len_cnt {n : Nat} {ss : List PyData} : ss.length ≤ cnt (n + 1) ss := by
  show ss.length ≤ (ss.map _).sum
  induction ss with
  | nil => exact Nat.zero_le _
  | cons x r ih =>
    rw [List.map_cons, List.sum_cons, List.length_cons]
    omega
theorem len_cnt' {n : Nat} {ss : List PyData} (h : 1 ≤ n) : ss.length ≤ cnt n ss := by
  match n, h with
  | n + 1, _ => exact len_cnt
section
variable {cs rs os : List Str} {n d left : Nat} {ps : List (Str × Nat)} {lp : Bool} {w z : Str} {ss1 ss2 : List PyData}
theorem blk1 (hc : Ctx lp ps) (hn : n + 1 + d = 4 ∧ ps.length = d ∧ 1 ≤ n ∧ left ≤ 14) (v1 : Val cs rs os n (ps ++ [(("tries" : Str), (0 : Nat))]) ss1) (t1 : Tts (2 * n) ss1) (c : 1 + cnt n ss1 ≤ left) :
    Val cs rs os (n + 1) ps [.tuple [.str "tries", .tuple ss1]] ∧ Tt (2 * n + 2) (.tuple [.str "tries", .tuple ss1]) ∧ cnt (n + 1) [.tuple [.str "tries", .tuple ss1]] ≤ left := by
  have l1 := len_cnt' (ss := ss1) hn.2.2.1
  refine ⟨fun s hs => ?_, .tup (show 2 ≤ 100 by decide) (.cons (.str (by decide +kernel)) (.cons (.tup (by omega) t1) .nil)), ?_⟩
  · rw [List.mem_singleton.mp hs]
    refine ⟨wf_b1 (by decide +kernel), placed_blk hc (w := "tries") (by decide +kernel), fun _ => by omega, fun j p hj => ?_⟩
    match j, hj with
    | 0, hj => cases hj; exact ⟨ss1, rfl, v1⟩
    | j + 1, hj => cases hj
  · rw [cnt_one]
    show 1 + (cnt n ss1 + 0) ≤ left
    omega
theorem blk2 (hw : w ∈ bwords) (he : (w, [("part" : Str), "part"]) ∈ ENT) (hc : Ctx lp ps) (hn : n + 1 + d = 4 ∧ ps.length = d ∧ 1 ≤ n ∧ left ≤ 14) (v1 : Val cs rs os n (ps ++ [(w, 0)]) ss1) (t1 : Tts (2 * n) ss1) (v2 : Val cs rs os n (ps ++ [(w, 1)]) ss2) (t2 : Tts (2 * n) ss2) (c : 1 + cnt n ss1 + cnt n ss2 ≤ left) :
    Val cs rs os (n + 1) ps [.tuple [.str w, .tuple ss1, .tuple ss2]] ∧ Tt (2 * n + 2) (.tuple [.str w, .tuple ss1, .tuple ss2]) ∧ cnt (n + 1) [.tuple [.str w, .tuple ss1, .tuple ss2]] ≤ left := by
  have l1 := len_cnt' (ss := ss1) hn.2.2.1
  have l2 := len_cnt' (ss := ss2) hn.2.2.1
  obtain ⟨w1, w2, w3⟩ := bw_words w hw
  refine ⟨fun s hs => ?_, .tup (show 3 ≤ 100 by decide) (.cons (.str w3) (.cons (.tup (by omega) t1) (.cons (.tup (by omega) t2) .nil))), ?_⟩
  · rw [List.mem_singleton.mp hs]
    refine ⟨wf_b2 he, placed_blk hc (w := w) w2, fun _ => by omega, fun j p hj => ?_⟩
    match j, hj with
    | 0, hj => cases hj; exact ⟨ss1, rfl, v1⟩
    | 1, hj => cases hj; exact ⟨ss2, rfl, v2⟩
    | j + 2, hj => cases hj
  · rw [cnt_one]
    show 1 + (cnt n ss1 + (cnt n ss2 + 0)) ≤ left
    omega
theorem blk3 (hz : z ∈ cs) (hzl : z.length ≤ 1000) (hc : Ctx lp ps) (hn : n + 1 + d = 4 ∧ ps.length = d ∧ 1 ≤ n ∧ left ≤ 14) (v1 : Val cs rs os n (ps ++ [(("look" : Str), (0 : Nat))]) ss1) (t1 : Tts (2 * n) ss1) (v2 : Val cs rs os n (ps ++ [(("look" : Str), (1 : Nat))]) ss2) (t2 : Tts (2 * n) ss2) (c : 1 + cnt n ss1 + cnt n ss2 ≤ left) :
    Val cs rs os (n + 1) ps [.tuple [.str "look", .str z, .tuple ss1, .tuple ss2]] ∧ Tt (2 * n + 2) (.tuple [.str "look", .str z, .tuple ss1, .tuple ss2]) ∧ cnt (n + 1) [.tuple [.str "look", .str z, .tuple ss1, .tuple ss2]] ≤ left := by
  have l1 := len_cnt' (ss := ss1) hn.2.2.1
  have l2 := len_cnt' (ss := ss2) hn.2.2.1
  refine ⟨fun s hs => ?_, .tup (show 4 ≤ 100 by decide) (.cons (.str (by decide +kernel)) (.cons (.str hzl) (.cons (.tup (by omega) t1) (.cons (.tup (by omega) t2) .nil)))), ?_⟩
  · rw [List.mem_singleton.mp hs]
    refine ⟨wf_b3 hz, placed_blk hc (w := "look") (by decide +kernel), fun _ => by omega, fun j p hj => ?_⟩
    match j, hj with
    | 0, hj => cases hj; exact ⟨ss1, rfl, v1⟩
    | 1, hj => cases hj; exact ⟨ss2, rfl, v2⟩
    | j + 2, hj => cases hj
  · rw [cnt_one]
    show 1 + (cnt n ss1 + (cnt n ss2 + 0)) ≤ left
    omega
end
theorem deeds_cnt {cs rs os : List Str} {n : Nat} : ∀ {l : List PyData}, (∀ d ∈ l, DeedOk cs rs os d) → cnt (n + 1) l = l.length
  | [], _ => rfl
  | x :: r, h => by
    have k := deeds_cnt (n := n) (l := r) fun y hy => h y (List.mem_cons_of_mem _ hy)
    have k2 := (h x List.mem_cons_self).2.1
    show (1 + ((parts x).map _).sum) + cnt (n + 1) r = r.length + 1
    rw [k2, k]
    show 1 + 0 + r.length = _
    omega
theorem ev_dget {σ : L2.St} {H : Hp} {i : Nat} {pl : Addr} {kvs : List (Key × V)} {k : Str} {v : V} (hs : σ[i]? = some (some (.ref pl))) (h0 : H pl = some (.dK kvs)) (h1 : valV kvs (Sum.inr k) = some v) : Ev (tDGet (tVar i) (tC (.str k))) σ H v := fun H1 e Q q =>
  ⟨.ref pl, hs, pl, v, rfl, .inl ⟨kvs, Sum.inr k, .inl (e _ _ h0), rfl, h1.symm⟩, q H1 (Ex.refl _)⟩

theorem bw_two : ∀ w ∈ bwords, w ≠ "tries" → w ≠ "look" → (w, [("part" : Str), "part"]) ∈ ENT := by decide +kernel
section
variable {P : Program} {w : World} {K : PySem.W.Frag} {mg : Str → Option Value} {base : Heap}

theorem ok_law_block {fd : FuncData} {n k : Nat} (hk2 : 2 ≤ k) (F : FnP K "_law_block" "_law_block" s_law_block (ga K "_law_block") fd) (T : Tx K w mg) (c_law_draw : Cl P w K mg base CX0 1 (ga K "_law_draw") ["_law_pen", "_law_many"] spDraw) (c_law_pick : Cl P w K mg base CX0 2 (ga K "_law_pick") ["_law_pen", "_law_row"] (spPick K)) (c_law_deeds : Cl P w K mg base CX0 1 (ga K "_law_deeds") ["_law_plan_here"] (spDeeds K)) (c_law_count : Cl P w K mg base CX0 k (ga K "_law_count") ["_law_body"] (spCnt K n)) (c_law_part : Cl P w K mg base CX0 k (ga K "_law_part") ["_law_pen", "_law_plan_here", "_law_room", "_law_looping", "_law_deep"] (spPart K n)) : FnOk P w K mg base CX0 (k + 1) (ga K "_law_block") fd ["_law_pen", "_law_plan_here", "_law_left", "_law_looping", "_law_deep"] (spBlk K n) := by
  obtain ⟨fd_law_draw, G_law_draw, b_law_draw, kp_law_draw⟩ := c_law_draw
  obtain ⟨fd_law_pick, G_law_pick, b_law_pick, kp_law_pick⟩ := c_law_pick
  obtain ⟨fd_law_deeds, G_law_deeds, b_law_deeds, kp_law_deeds⟩ := c_law_deeds
  obtain ⟨fd_law_count, G_law_count, b_law_count, kp_law_count⟩ := c_law_count
  obtain ⟨fd_law_part, G_law_part, b_law_part, kp_law_part⟩ := c_law_part
  refine FunD.ok F sc_law_block (fun vs H Q E h => ?_) (fun cdv A outer s H vs Q E hr h => ?_)
  · obtain ⟨p, l, pl, cs, rs, os, left, lp, d, ps, b, rfl, _⟩ := h
    rfl
  · obtain ⟨p, l, pl, cs, rs, os, left, lp, d, ps, b, rfl, hPl, hN, ⟨lf1, lf2, hnd, hpd, hn1⟩, hC, hP, kk⟩ := h
    have g_law_pick := T.gl "_law_pick" (by decide +kernel)
    have g_law_part := T.gl "_law_part" (by decide +kernel)
    have g_law_draw := T.gl "_law_draw" (by decide +kernel)
    have g_law_count := T.gl "_law_count" (by decide +kernel)
    have g_law_deeds := T.gl "_law_deeds" (by decide +kernel)
    have n_min := T.fr "min" (by decide +kernel)
    have n_tuple := T.fr "tuple" (by decide +kernel)
    have n_range := T.fr "range" (by decide +kernel)
    refine ⟨_, PSs.nox (pss_cons (ps_set (i := 5) sc_law_block.nd rfl (Or.inl rfl) (pe_call G_law_pick (hr.mono (by omega)) (by rfl) g_law_pick kp_law_pick b_law_pick .nil pass0 (pa_cons (pv 0) (pa_cons (pe_lst (pa_cons pe_str (pa_cons pe_str (pa_cons pe_str (pa_cons pe_str (pa_cons pe_str (pa_cons pe_str (pa_cons pe_str pa_nil)))))))) pa_nil))))
      (pss_cut (ps_if (PW.pt (pw_and (pt_cmpR op_eq (pv 5) pe_str (nomark _)) (pw_and1 (pt_cmpR (op_eqD hr.units) (pe_dget (Nat.lt_of_le_of_lt (Nat.add_le_add_left (by decide) _) hr.units) (pv 1) pe_str (fun _ _ => rfl)) (pe_lst pa_nil) (nomark _)))))
      (pss_one (ps_set (i := 5) sc_law_block.nd rfl (Or.inl rfl) pe_str))
      pss_nil)
      (pss_cons (ps_set (i := 6) sc_law_block.nd rfl (Or.inl rfl) (pe_call G_law_part (hr.mono (by omega)) (by rfl) g_law_part kp_law_part b_law_part .nil pass0 (pa_cons (pv 0) (pa_cons (pv 1) (pa_cons (pe_call G_law_draw (hr.mono (by omega)) (by rfl) g_law_draw kp_law_draw b_law_draw .nil pass0 (pa_cons (pv 0) (pa_cons (pv 2) pa_nil))) (pa_cons (pe_or (pv 3) (pe_one (pe_cmpR op_eq (pv 5) pe_str (nomark _)))) (pa_cons (pe_op op_add (pv 4) pe_int) pa_nil)))))))
      (pss_cons (ps_set (i := 7) sc_law_block.nd rfl (Or.inl rfl) (pe_op op_sub (pe_op op_sub (pv 2) pe_int) (pe_call G_law_count (hr.mono (by omega)) (by rfl) g_law_count kp_law_count b_law_count .nil pass0 (pa_cons (pv 6) pa_nil))))
      (pss_cons (ps_if (pt_cmpR op_eq (pv 5) pe_str (nomark _))
      (pss_one (ps_ret (pe_tup (pa_cons (pv 5) (pa_cons (pv 6) pa_nil)))))
      pss_nil)
      (pss_cons (ps_if (pt_cmpR op_eq (pv 5) pe_str (nomark _)) (pss_cons (ps_set (i := 8) sc_law_block.nd rfl (Or.inr rfl) (pe_call G_law_deeds (hr.mono (by omega)) (by rfl) g_law_deeds kp_law_deeds b_law_deeds .nil pass0 (pa_cons (pv 1) pa_nil))) (pss_cut (ps_set (i := 9) sc_law_block.nd rfl (Or.inl rfl) (pe_ifExp (pt_cmpR (op_neD hr.units) (pv 8) (pe_lst pa_nil) (nomark _)) (pe_call G_law_draw (hr.mono (by omega)) (by rfl) g_law_draw kp_law_draw b_law_draw .nil pass0 (pa_cons (pv 0) (pa_cons (pe_op op_add pe_int (pe_callB (call_min2 rfl) (by rfl) n_min (by decide +kernel) (pa_cons pe_int (pa_cons (pv 7) pa_nil)))) pa_nil))) pe_int)) (pss_one (ps_ret (pe_tup (pa_cons (pv 5) (pa_cons (pv 6) (pa_cons (pe_callTy call_tuple_of (by rfl) n_tuple (by decide +kernel) (pa_cons (pe_lc (own := [("_law_k", 11)]) (g := gName 11) (by rfl) sc_law_block.nd (pi_range1 (by rfl) n_range (pa_cons (pv 9) pa_nil)) (blkOk_by (own := [("_law_k", 11)]) (N := ["_law_pen", "_law_plan_here", "_law_left", "_law_looping", "_law_deep", "_law_word_here", "_law_one", "_law_rest", "_law_deeds_here", "_law_many", "_law_two", "_law_k"]) (sc := defScope s_law_block) (by decide +kernel)) (fun _ _ _ _ _ => (pg_name (i := 11) sc_law_block.nd rfl (Or.inl rfl))) (fun _ _ _ _ _ => pts_nil) (fun _ _ _ _ _ => (pe_call G_law_pick (hr.mono (by omega)) (by rfl) g_law_pick kp_law_pick b_law_pick .nil pass0 (pa_cons (pv 0) (pa_cons (pv 8) pa_nil))))) pa_nil)) pa_nil)))))))) pss_nil)
      (pss_cons (ps_set (i := 10) sc_law_block.nd rfl (Or.inl rfl) (pe_call G_law_part (hr.mono (by omega)) (by rfl) g_law_part kp_law_part b_law_part .nil pass0 (pa_cons (pv 0) (pa_cons (pv 1) (pa_cons (pv 7) (pa_cons (pv 3) (pa_cons (pe_op op_add (pv 4) pe_int) pa_nil)))))))
      (pss_cons (ps_if (pt_cmpR op_eq (pv 5) pe_str (nomark _))
      (pss_one (ps_ret (pe_tup (pa_cons (pv 5) (pa_cons (pe_call G_law_pick (hr.mono (by omega)) (by rfl) g_law_pick kp_law_pick b_law_pick .nil pass0 (pa_cons (pv 0) (pa_cons (pe_dget (Nat.lt_of_le_of_lt (Nat.add_le_add_left (by decide) _) hr.units) (pv 1) pe_str (fun _ _ => rfl)) pa_nil))) (pa_cons (pv 6) (pa_cons (pv 10) pa_nil)))))))
      pss_nil)
      (pss_one (ps_ret (pe_tup (pa_cons (pv 5) (pa_cons (pv 6) (pa_cons (pv 10) pa_nil)))))))))))))), ?_⟩
    have hN' := hN
    obtain ⟨hok, ⟨z1, z2, z3⟩, hne⟩ := hN'
    have hl12 : ∀ z ∈ cs ++ rs ++ os, z.length ≤ 12 := fun z hz => (hok.2 z hz).2.2
    have hnn : n + 1 + d = 4 ∧ ps.length = d ∧ 1 ≤ n ∧ left ≤ 14 := ⟨hnd, hpd, hn1, lf2⟩
    refine ⟨.ref p, rfl, fits (show 7 ≤ 1000 by decide), fun W hW => ⟨p, l, W, bwords.map V.str, b + (7 + 2 * Pn n), rfl, ?_, ⟨by decide +kernel, by decide +kernel⟩, (hP.ex (Ex.new hW)).less (by omega), fun v H2 hv px2 pen2 => ?_⟩⟩
    · have nW := hP.new hW
      exact sq_of ((cut_at nW.1 nW.2).trans upd_same)
    obtain ⟨w0, hw0, rfl⟩ := List.mem_map.mp hv
    have px := (Px.of (p := p) (l := l) (Ex.new (o := .lst (bwords.map V.str)) hW)).trans px2
    dsimp only [gName, List.set]
    refine q_cut (M := fun σ' H' => ∃ w, w ∈ bwords ∧ (w = "look" → cs ≠ []) ∧ σ' = [some (.ref p), some (.ref pl), some (.int (left : Nat)), some (.bl lp), some (.int (d : Nat)), some (.str w), none, none, none, none, none, none] ∧ Px p l H H' ∧ Pen p l (b + (7 + 2 * Pn n)) H') ?_ fun σ3 H3 hM => ?_
    · obtain ⟨kvs, c, r', o, h0, h1, h2, h3, h4, h5, h6⟩ := hPl.px hP px
      have lg : legal cs := fun z hz => let_ok (hok.2 z (List.mem_append_left _ (List.mem_append_left _ hz))).1
      refine s_when (b := decide (V.str w0 = V.str "look") && PyData.eqv (.list (cs.map PyData.str)) (.list [])) (et_and (et_test (ev_op (ev_var rfl) ev_c (rv_eq rfl))) fun _ => et_test (ev_opL (ev_dget rfl h0 h1) (el_lst ea_nil (by decide)) fun u H4 hu e H5 e5 R k => ⟨.list (cs.map PyData.str), .list [], .lst (sq_of (e5 _ _ (e _ _ h4))) (dp_strs _), .lst (sq_of (e5 _ _ hu)) .nil, shp_list cs lg, by decide +kernel, k H5 (Ex.refl _)⟩)) (fun hb H4 e4 => ?_) (fun hb H4 e4 => ?_)
      · exact ⟨"either", by decide +kernel, (fun e => absurd e (by decide +kernel)), rfl, px.trans (Px.of e4), pen2.ex e4⟩
      · refine ⟨w0, hw0, fun e ec => ?_, rfl, px.trans (Px.of e4), pen2.ex e4⟩
        rw [e, ec] at hb
        exact absurd hb (by decide +kernel)
    clear px px2 pen2 hv hw0
    obtain ⟨w, hw, hlook, rfl, px3, pen3⟩ := hM
    obtain ⟨ww, wr, wl⟩ := bw_words w hw
    have hPl3 := hPl.px hP px3
    -- the first part
    refine ⟨.ref p, rfl, .ref pl, rfl, .ref p, rfl, .int (left : Nat), rfl, p, l, (left : Nat), b + (6 + 2 * Pn n), rfl, ⟨by omega, by omega⟩, pen3.less (by omega), fun r H4 hr4 px4 pen4 => ?_⟩
    obtain ⟨r1, rfl, hr1⟩ := nat_of hr4
    refine (ev_orV (a := lp) (b := decide (V.str w = V.str "tries")) (ev_var rfl) fun _ => ev_op (ev_var rfl) ev_c (rv_eq rfl)) H4 (Ex.refl _) _ fun H5 e5 => ?_
    have px5 := (px3.trans px4).trans (Px.of (p := p) (l := l) e5)
    have pen5 := pen4.ex e5
    refine ⟨.int (d : Nat), rfl, (d : Nat), 1, rfl, rfl, p, l, pl, cs, rs, os, r1, (lp || decide (V.str w = V.str "tries")), d + 1, ps ++ [(w, 0)], b + (6 + Pn n), rfl, hPl.px hP px5, hN, ⟨by omega, by omega, by rw [List.length_append, hpd]; rfl⟩, ctx_more hC ww (fun e => by cases e.2) (fun e => ?_), pen5.less (by omega), fun a1 ss1 H6 px6 pen6 d6 ok6 => ?_⟩
    · rw [Bool.or_eq_true] at e
      rcases e with e | e
      · exact .inl e
      · have e2 := of_decide_eq_true e
        injection e2 with e2
        exact .inr e2
    have pxA := px5.trans px6
    -- the rest
    refine ⟨.int (left : Nat), rfl, (left : Nat), 1, rfl, rfl, .ref a1, rfl, a1, ss1, 2 * n, rfl, d6, ok6.tt, ok6.val.hb, fun H7 e7 => ⟨_, _, rfl, rfl, ?_⟩⟩
    have few := ok6.few
    have eR : ((left : Nat) : Int) - 1 - ((cnt n ss1 : Nat) : Int) = ((left - 1 - cnt n ss1 : Nat) : Int) := by omega
    dsimp only [gName, List.set]
    rw [eR]
    have d7 := dpM e7 _ _ d6
    have pxB := pxA.trans (Px.of (p := p) (l := l) e7)
    have pen7 := pen6.ex e7
    refine q_when (b := decide (V.str w = V.str "tries")) (et_test (ev_op (ev_var rfl) ev_c (rv_eq rfl))) (fun hb H8 e8 => ?_) (fun hb H8 e8 => ?_)
    · have e := of_decide_eq_true hb
      injection e with e
      subst e
      refine s_retU (eu_tup (ea_cons (ev_var rfl) (ea_cons (ev_var rfl) ea_nil)) (show 2 ≤ 100000 by decide)) fun q H9 hq e9 g9 => ?_
      obtain ⟨f1, f2, f3⟩ := blk1 hC hnn ok6.val ok6.tt (by omega)
      exact kk q _ H9 (pxB.trans (Px.of (e8.trans e9))) ((pen7.ex (e8.trans e9)).less (by omega)) (.tup (st_of g9) (.cons (.str _) (.cons (dpM (e8.trans e9) _ _ d7) .nil))) f1 f2 f3
    have pxC := pxB.trans (Px.of (p := p) (l := l) e8)
    have pen8 := pen7.ex e8
    have d8 := dpM e8 _ _ d7
    have hnt : w ≠ "tries" := fun e => of_decide_eq_false hb (by rw [e])
    refine q_when (b := decide (V.str w = V.str "lastly")) (et_test (ev_op (ev_var rfl) ev_c (rv_eq rfl))) (fun hb2 H9 e9 => ?_) (fun hb2 H9 e9 => ?_)
    · have e := of_decide_eq_true hb2
      injection e with e
      subst e
      have pxD := pxC.trans (Px.of (p := p) (l := l) e9)
      have pen9 := pen8.ex e9
      have d9 := dpM e9 _ _ d8
      have dok := deeds_ok (os := os) hl12
      refine ⟨.ref pl, rfl, pl, cs, rs, os, rfl, hPl.px hP pxD, z1, z2, fun q ys H10 hq e10 g10 d10 => ?_⟩
      have nq := pen9.new hq
      have pxE := pxD.trans (Px.of (p := p) (l := l) e10)
      have pen10 := pen9.ex e10
      have dA := dpM e10 _ _ d9
      have t1 : Tt (2 * n + 1) (.tuple ss1) := .tup (by have k := len_cnt' (ss := ss1) hn1; omega) ok6.tt
      dsimp only [gName, List.set]
      refine q_cut (M := fun σ' H' => ∃ many : Nat, many ≤ 3 ∧ many ≤ left - 1 - cnt n ss1 ∧ (0 < many → deeds cs rs ≠ []) ∧ σ' = [some (.ref p), some (.ref pl), some (.int (left : Nat)), some (.bl lp), some (.int (d : Nat)), some (.str "lastly"), some (.ref a1), some (.int ((left - 1 - cnt n ss1 : Nat) : Int)), some (.ref q), some (.int (many : Nat)), none, none] ∧ Px p l H10 H' ∧ Pen p l (b + 4) H') ?_ fun σ11 H11 hM => ?_
      · refine go_test (b := !PyData.eqv (.list (deeds cs rs)) (.list [])) (et_test (ev_opL (ev_var rfl) (el_lst ea_nil (by decide)) fun u H4 hu e H5 e5 R k => ⟨.list (deeds cs rs), .list [], .lst (sq_of (e5 _ _ (e _ _ g10))) (dpMs (e.trans e5) _ _ d10), .lst (sq_of (e5 _ _ hu)) .nil, shp_deeds hok, by decide +kernel, k H5 (Ex.refl _)⟩)) fun H11 e11 => ite2 (fun hne2 => ?_) (fun _ => ?_)
        · refine ⟨.ref p, rfl, .int ((left - 1 - cnt n ss1 : Nat) : Int), rfl, 3, ((left - 1 - cnt n ss1 : Nat) : Int), rfl, ?_⟩
          have bd : ∃ m : Nat, (1 : Int) + (if ((left - 1 - cnt n ss1 : Nat) : Int) < 3 then ((left - 1 - cnt n ss1 : Nat) : Int) else 3) = ((m + 1 : Nat) : Int) ∧ m ≤ 3 ∧ m ≤ left - 1 - cnt n ss1 := by
            by_cases h : ((left - 1 - cnt n ss1 : Nat) : Int) < 3
            · rw [if_pos h]
              exact ⟨left - 1 - cnt n ss1, by omega, by omega, by omega⟩
            · rw [if_neg h]
              exact ⟨3, by omega, by omega, by omega⟩
          obtain ⟨m, em, m1, m2⟩ := bd
          refine ⟨1, _, rfl, rfl, p, l, ((m + 1 : Nat) : Int), b + 4, (by rw [← em]; rfl), ⟨by omega, by omega⟩, (pen10.ex e11).less (by omega), fun r H12 hr px12 pen12 => ?_⟩
          obtain ⟨many, rfl, hm⟩ := nat_of hr
          refine ⟨many, by omega, by omega, fun _ e => ?_, rfl, (Px.of e11).trans px12, pen12⟩
          rw [e] at hne2
          exact absurd hne2 (by decide +kernel)
        · exact ⟨0, by omega, by omega, (fun h => absurd h (Nat.lt_irrefl 0)), rfl, Px.of e11, (pen10.ex e11).less (by omega)⟩
      obtain ⟨many, m1, m2, m3, rfl, pxF, penF⟩ := hM
      have gF := pxF.get nq.1 nq.2 g10
      have dF : DpAll K H11 ys (deeds cs rs) := dps_px pen10 pxF (Tts.of fun x hx => (dok x hx).2.2.1) d10
      have dB := dp_px pen10 pxF t1 dA
      refine ⟨.str "lastly", rfl, .ref a1, rfl, .int (many : Nat), rfl, (many : Nat), rfl, by omega, by omega, fun D hD => ?_⟩
      have nD := penF.new hD
      refine lc_range (lo := 0) (n := ((many : Nat) : Int).toNat) (fun j H' => ∃ zs ds, zs.length = j ∧ H' D = some (.lst zs) ∧ DpAll K H' zs ds ∧ (∀ d ∈ ds, DeedOk cs rs os d) ∧ Px p l H11 H' ∧ Pen p l (b + 4 - j) H') ⟨[], [], rfl, upd_same, .nil, (fun d hd => nomatch hd), Px.of (Ex.new hD), penF.ex (Ex.new hD)⟩ (fun j H' hj hJ => ?_) (fun H' hJ => ?_)
      · obtain ⟨vs2, ds, k1, k2, k3, k4, k5, k6⟩ := hJ
        have hj2 : j < many := by omega
        have gq := k5.get nq.1 nq.2 gF
        have dq : DpAll K H' ys (deeds cs rs) := dps_px penF k5 (Tts.of fun x hx => (dok x hx).2.2.1) dF
        have lq := dpAll_len dq
        have lds : (deeds cs rs).length ≤ 1000 := by
          unfold deeds
          rw [List.length_append, flat_len (b := 4) (fun _ => rfl), flat_len (b := 4) (fun _ => rfl)]
          omega
        refine ⟨rfl, yes_go ⟨.ref p, rfl, .ref q, rfl, p, l, q, ys, b + 4 - (j + 1), rfl, sq_of ((cut_at nq.1 nq.2).trans gq), ⟨fun e => ?_, by omega⟩, k6.less (by omega), fun v H5 hv px5 pen5 => ?_⟩⟩
        · rw [e] at lq
          exact m3 (by omega) (List.length_eq_zero_iff.mp lq.symm)
        · obtain ⟨dd, hdd, dv⟩ := pick_data k6 px5 dq (fun x hx => ⟨2, (dok x hx).2.2.1⟩) hv
          have g5 := px5.get nD.1 nD.2 k2
          have dz := dps_px k6 px5 (Tts.of fun x hx => (k4 x hx).2.2.1) k3
          refine ⟨vs2, g5, small1000 (by omega), vs2 ++ [v], ds ++ [dd], by rw [List.length_append, k1]; rfl, upd_same, ?_, fun x hx => ?_, (k5.trans px5).upd (.inr (.inr hD)), pen5.upd nD.1 nD.2⟩
          · exact dpAll_add (dps_off g5 (n := 2) (Tts.of fun x hx => (k4 x hx).2.2.1) dz) (dp_off g5 (dok dd hdd).2.2.1 dv)
          · rcases List.mem_append.mp hx with h | h
            · exact k4 x h
            · rw [List.mem_singleton.mp h]
              exact dok dd hdd
      · obtain ⟨vs2, ds, k1, k2, k3, k4, k5, k6⟩ := hJ
        refine ⟨D, vs2, rfl, .inl ⟨sq_of k2, fun u hu => ⟨(show 3 ≤ sizeLine by decide), fun qq hqq => ?_⟩⟩⟩
        have ez := (Ex.new (o := .tup vs2) hu).trans (Ex.new (o := .tup [.str "lastly", .ref a1, .ref u]) hqq)
        have lz := dpAll_len k3
        have t2n : Tts (2 * n) ds := Tts.of fun x hx => by
          have z := ttUpN (2 * n - 2) (k4 x hx).2.2.1
          rw [show 2 + (2 * n - 2) = 2 * n by omega] at z
          exact z
        have cd : cnt n ds = ds.length := by
          match n, hn1 with
          | n + 1, _ => exact deeds_cnt k4
        obtain ⟨f1, f2, f3⟩ := blk2 (w := "lastly") hw (by decide +kernel) hC hnn ok6.val ok6.tt (val_deeds (ps := ps ++ [(("lastly" : Str), (1 : Nat))]) k4 hn1) t2n (by omega)
        exact kk qq _ _ (((pxE.trans pxF).trans k5).trans (Px.of ez)) ((k6.ex ez).less (by omega)) (.tup (st_of upd_same) (.cons (.str _) (.cons (dpM ez _ _ (dp_px penF k5 t1 dB)) (.cons (dpM (Ex.new hqq) _ _ (.tup (st_of upd_same) (dpMs (Ex.new hu) _ _ k3))) .nil)))) f1 f2 f3
    have pxD := pxC.trans (Px.of (p := p) (l := l) e9)
    have pen9 := pen8.ex e9
    have d9 := dpM e9 _ _ d8
    have hnl : w ≠ "lastly" := fun e => of_decide_eq_false hb2 (by rw [e])
    -- the second part
    refine ⟨.ref p, rfl, .ref pl, rfl, .int _, rfl, .bl lp, rfl, .int (d : Nat), rfl, (d : Nat), 1, rfl, rfl, p, l, pl, cs, rs, os, left - 1 - cnt n ss1, lp, d + 1, ps ++ [(w, 1)], b + 2, rfl, hPl.px hP pxD, hN, ⟨by omega, by omega, by rw [List.length_append, hpd]; rfl⟩, ctx_more hC ww (fun e => hnl e.1) (fun e => .inl e), pen9.less (by omega), fun a2 ss2 H10 px10 pen10 d10 ok10 => ?_⟩
    have few2 := ok10.few
    have px11 := pxD.trans px10
    have d9' : Dp K H10 (.ref a1) (.tuple ss1) := dp_px pen9 px10 (.tup (by have k := len_cnt' (ss := ss1) hn1; omega) ok6.tt) d9
    dsimp only [gName, List.set]
    refine q_when (b := decide (V.str w = V.str "look")) (et_test (ev_op (ev_var rfl) ev_c (rv_eq rfl))) (fun hb3 H11 e11 => ?_) (fun hb3 H11 e11 => ?_)
    · have e := of_decide_eq_true hb3
      injection e with e
      subst e
      have hcs := hlook rfl
      have px12 := px11.trans (Px.of (p := p) (l := l) e11)
      obtain ⟨kvs, c, r', o, h0, h1, h2, h3, h4, h5, h6⟩ := hPl.px hP px12
      have nc := strs_off (pen10.ex e11) h4
      refine ⟨.str "look", rfl, .ref p, rfl, .ref pl, rfl, pl, .ref c, rfl, .inl ⟨kvs, Sum.inr "cells", .inl h0, rfl, h1.symm⟩, p, l, c, _, b + 1, rfl, sq_of ((cut_at nc.1 nc.2).trans h4), ⟨fun e => hcs (List.map_eq_nil_iff.mp e), by rw [List.length_map]; omega⟩, (pen10.ex e11).less (by omega), fun v H12 hv px13 pen13 => ?_⟩
      obtain ⟨z, hz, rfl⟩ := List.mem_map.mp hv
      have t1 : Tt (2 * n + 1) (.tuple ss1) := .tup (by have k := len_cnt' (ss := ss1) hn1; omega) ok6.tt
      have t2 : Tt (2 * n + 1) (.tuple ss2) := .tup (by have k := len_cnt' (ss := ss2) hn1; omega) ok10.tt
      refine ⟨.ref a1, rfl, .ref a2, rfl, (show 4 ≤ sizeLine by decide), fun q hq => ?_⟩
      have zl := hl12 z (List.mem_append_left _ (List.mem_append_left _ hz))
      obtain ⟨f1, f2, f3⟩ := blk3 (rs := rs) (os := os) hz (by omega) hC hnn ok6.val ok6.tt ok10.val ok10.tt (by omega)
      have e13 := Ex.new (o := .tup [.str "look", .str z, .ref a1, .ref a2]) hq
      exact kk q _ _ ((px12.trans px13).trans (Px.of e13)) ((pen13.ex e13).less (by omega)) (.tup (st_of upd_same) (.cons (.str _) (.cons (.str _) (.cons (dpM e13 _ _ (dp_px (pen10.ex e11) px13 t1 (dpM e11 _ _ d9'))) (.cons (dpM e13 _ _ (dp_px (pen10.ex e11) px13 t2 (dpM e11 _ _ d10))) .nil))))) f1 f2 f3
    · have hnk : w ≠ "look" := fun e => of_decide_eq_false hb3 (by rw [e])
      refine s_retU (eu_tup (ea_cons (ev_var rfl) (ea_cons (ev_var rfl) (ea_cons (ev_var rfl) ea_nil))) (show 3 ≤ 100000 by decide)) fun q H12 hq e12 g12 => ?_
      obtain ⟨f1, f2, f3⟩ := blk2 hw (bw_two w hw hnt hnk) hC hnn ok6.val ok6.tt ok10.val ok10.tt (by omega)
      exact kk q _ H12 (px11.trans (Px.of (e11.trans e12))) ((pen10.ex (e11.trans e12)).less (by omega)) (.tup (st_of g12) (.cons (.str _) (.cons (dpM (e11.trans e12) _ _ d9') (.cons (dpM (e11.trans e12) _ _ d10) .nil)))) f1 f2 f3

end
end K06
set_option Elab.async false
set_option linter.all false
set_option maxRecDepth 100000
set_option maxHeartbeats 8000000
namespace K06
open PySem PySem.Spec PyProof.Rows L2 He XH XV XR PEN TR Evl


theorem cnt_app {n : Nat} {ss : List PyData} {s : PyData} : cnt (n + 1) (ss ++ [s]) = cnt (n + 1) ss + cnt (n + 1) [s] := by
  show ((ss ++ [s]).map _).sum = (ss.map _).sum + ([s].map _).sum
  rw [List.map_append, List.sum_append]
theorem val_app {cs rs os : List Str} {n : Nat} {ps : List (Str × Nat)} {ss : List PyData} {s : PyData} (h : Val cs rs os (n + 1) ps ss) (k : Val cs rs os (n + 1) ps [s]) : Val cs rs os (n + 1) ps (ss ++ [s]) := fun x hx => by
  rcases List.mem_append.mp hx with z | z
  · exact h x z
  · exact k x z
theorem sim_val {cs rs os : List Str} {n : Nat} {ps : List (Str × Nat)} {s : PyData} {lp : Bool} (hC : Ctx lp ps) (h : SimOk cs rs os lp s) : Val cs rs os (n + 1) ps [s] ∧ Tt (2 * (n + 1)) s ∧ cnt (n + 1) [s] = 1 := by
  obtain ⟨h1, h2, h3, h4⟩ := h
  refine ⟨fun x hx => ?_, ?_, ?_⟩
  · rw [List.mem_singleton.mp hx]
    refine ⟨h1, ⟨fun k => hC.1 (h4 k), fun k => absurd k hC.2.1⟩, fun k => absurd h2 k, fun j p hp => ?_⟩
    rw [h2] at hp
    cases hp
  · have z := ttUpN (2 * n) h3
    rw [show 2 + 2 * n = 2 * (n + 1) by omega] at z
    exact z
  · rw [cnt_one, h2]
    rfl

section
variable {P : Program} {w : World} {K : PySem.W.Frag} {mg : Str → Option Value} {base : Heap}

theorem ok_law_part1 {fd : FuncData} {m k : Nat} (hk3 : 3 ≤ k) (hm : m = 0) (F : FnP K "_law_part" "_law_part" s_law_part (ga K "_law_part") fd) (T : Tx K w mg) (c_law_draw : Cl P w K mg base CX0 1 (ga K "_law_draw") ["_law_pen", "_law_many"] spDraw) (c_law_count : Cl P w K mg base CX0 k (ga K "_law_count") ["_law_body"] (spCnt K (m + 1))) (c_law_simple : Cl P w K mg base CX0 3 (ga K "_law_simple") ["_law_pen", "_law_plan_here", "_law_looping"] (spSim K)) : FnOk P w K mg base CX0 (k + 1) (ga K "_law_part") fd ["_law_pen", "_law_plan_here", "_law_room", "_law_looping", "_law_deep"] (spPart K (m + 1)) := by
  obtain ⟨fd_law_draw, G_law_draw, b_law_draw, kp_law_draw⟩ := c_law_draw
  obtain ⟨fd_law_count, G_law_count, b_law_count, kp_law_count⟩ := c_law_count
  obtain ⟨fd_law_simple, G_law_simple, b_law_simple, kp_law_simple⟩ := c_law_simple
  refine FunD.ok F sc_law_part (fun vs H Q E h => ?_) (fun cdv A outer s H vs Q E hr h => ?_)
  · obtain ⟨p, l, pl, cs, rs, os, room, lp, d, ps, b, rfl, _⟩ := h
    rfl
  · obtain ⟨p, l, pl, cs, rs, os, room, lp, d, ps, b, rfl, hPl, hN, ⟨rm, hnd, hpd⟩, hC, hP, kk⟩ := h
    have n_range := T.fr "range" (by decide +kernel)
    have g_law_draw := T.gl "_law_draw" (by decide +kernel)
    have g_law_simple := T.gl "_law_simple" (by decide +kernel)
    have g_law_count := T.gl "_law_count" (by decide +kernel)
    have n_tuple := T.fr "tuple" (by decide +kernel)
    refine ⟨_, PSs.nox (pss_cons (ps_set (i := 5) sc_law_part.nd rfl (Or.inl rfl) (pe_lst pa_nil)) (pss_cons (ps_set (i := 6) sc_law_part.nd rfl (Or.inl rfl) (pv 2)) (pss_cons (ps_for PassesOwn.never rfl (pi_range1 (by rfl) n_range (pa_cons (pe_call G_law_draw (hr.mono (by omega)) (by rfl) g_law_draw kp_law_draw b_law_draw .nil pass0 (pa_cons (pv 0) (pa_cons (pe_op op_add (pv 2) pe_int) pa_nil))) pa_nil)) (pg_name (i := 7) sc_law_part.nd rfl (Or.inl rfl)) (pss_one (ps_if (pt_cmpR op_gt (pv 6) pe_int (nomark _)) (pss_cut (ps_if (PW.pt (pw_and (pt_cmpR op_lt (pv 4) pe_int (nomark _)) (pw_and1 (pt_cmpR op_eq (pe_call G_law_draw (hr.mono (by omega)) (by rfl) g_law_draw kp_law_draw b_law_draw .nil pass0 (pa_cons (pv 0) (pa_cons pe_int pa_nil))) pe_int (nomark _))))) (pss_one ps_never) (pss_one (ps_set (i := 8) sc_law_part.nd rfl (Or.inl rfl) (pe_call G_law_simple (hr.mono (by omega)) (by rfl) g_law_simple kp_law_simple b_law_simple .nil pass0 (pa_cons (pv 0) (pa_cons (pv 1) (pa_cons (pv 3) pa_nil))))))) (pss_cons (ps_set (i := 6) sc_law_part.nd rfl (Or.inl rfl) (pe_op op_sub (pv 6) (pe_call G_law_count (hr.mono (by omega)) (by rfl) g_law_count kp_law_count b_law_count .nil pass0 (pa_cons (pe_tup (pa_cons (pv 8) pa_nil)) pa_nil)))) (pss_one (ps_expr (pe_bm PySem.F.plainAttrs_list PySem.F.slot_list_append PySem.F.type_list_append mt_append (pv 5) (pa_cons (pv 8) pa_nil)))))) pss_nil))) (pss_one (ps_ret (pe_callTy call_tuple_of (by rfl) n_tuple (by decide +kernel) (pa_cons (pv 5) pa_nil))))))), ?_⟩
    obtain ⟨hok, ⟨z1, z2, z3⟩, hne⟩ := id hN
    refine q_asgL (el_lst ea_nil (by decide)) fun B H1 hB e1 g1 => ?_
    refine q_asg (ev_var rfl) fun H2 e2 => ?_
    have nB := hP.new hB
    have e12 := e1.trans e2
    refine ⟨.ref p, rfl, .int (room : Nat), rfl, (room : Nat), 1, rfl, rfl, p, l, ((room : Nat) : Int) + 1, b + 14 * (12 + 2 * Pn m), rfl, ⟨by omega, by omega⟩, (hP.ex e12).less (by show b + 14 * (12 + 2 * Pn m) + 1 ≤ b + (1 + 14 * (12 + 2 * Pn m)); omega), fun r H3 hr3 px3 pen3 => ?_⟩
    obtain ⟨rr, rfl, hrr⟩ := nat_of hr3
    refine ⟨(rr : Nat), rfl, by omega, by omega, ?_⟩
    refine for_range (lo := 0) (n := ((rr : Nat) : Int).toNat) (fun i σ' H' => ∃ ss vs left v7 v8, σ' = [some (.ref p), some (.ref pl), some (.int (room : Nat)), some (.bl lp), some (.int (d : Nat)), some (.ref B), some (.int (left : Nat)), v7, v8] ∧ H' B = some (.lst vs) ∧ DpAll K H' vs ss ∧ Tts (2 * (m + 1)) ss ∧ Val cs rs os (m + 1) ps ss ∧ cnt (m + 1) ss + left ≤ room ∧ Px p l H H' ∧ Pen p l (b + (14 - i) * (12 + 2 * Pn m)) H')
      ⟨[], [], room, _, _, rfl, px3.get nB.1 nB.2 (e2 _ _ g1), .nil, .nil, (fun s hs => nomatch hs), (by show 0 + room ≤ room; omega), (Px.of e12).trans px3, pen3⟩ (fun i σ' H4 hi hI => ?_) (fun σ' H' hI => ?_)
    · obtain ⟨ss, vs, left, v7, v8, rfl, gB, dB, tB, vB, cB, pxA, penA⟩ := hI
      have hi2 : i < rr := by omega
      have eqB : (14 - i) * (12 + 2 * Pn m) = (14 - (i + 1)) * (12 + 2 * Pn m) + (12 + 2 * Pn m) := by
        obtain ⟨q, hq⟩ : ∃ q, 14 - i = q + 1 := ⟨14 - i - 1, by omega⟩
        rw [hq, show 14 - (i + 1) = q by omega, Nat.succ_mul]
      rw [eqB] at penA
      rw [show (0 : Int) + (i : Int) = ((i : Nat) : Int) by omega]
      dsimp only [gName, List.set]
      refine s_when (b := decide ((0 : Int) < (left : Nat))) (et_test (ev_op (ev_var rfl) ev_c rv_I0)) (fun hb H5 e6 => ?_) (fun hb H5 e6 => ?_)
      · have hleft := of_decide_eq_true hb
        replace pxA := pxA.trans (Px.of (p := p) (l := l) e6)
        replace penA := penA.ex e6
        have gB' := e6 _ _ gB
        have dB' := dpMs e6 _ _ dB
        refine q_cut (M := fun σ' H' => ∃ v s, σ' = [some (.ref p), some (.ref pl), some (.int (room : Nat)), some (.bl lp), some (.int (d : Nat)), some (.ref B), some (.int (left : Nat)), some (.int (i : Nat)), some v] ∧ Px p l H H' ∧ Pen p l (b + (14 - (i + 1)) * (12 + 2 * Pn m)) H' ∧ Px p l H5 H' ∧ Dp K H' v s ∧ Val cs rs os (m + 1) ps [s] ∧ Tt (2 * (m + 1)) s ∧ cnt (m + 1) [s] ≤ left) ?_ fun σ6 H6 hM => ?_
        · refine go_test (b := false) (et_is (et_and (b := false) (et_test (ev_op (ev_var rfl) ev_c rv_I0)) fun hq => absurd (of_decide_eq_true hq) (by omega)) (by rw [decide_eq_false (by omega)]; rfl)) fun H6' e6 => ite_ff ?_
          have pxq := pxA.trans (Px.of (p := p) (l := l) e6)
          have penq := penA.ex e6
          refine ⟨.ref p, rfl, .ref pl, rfl, .bl lp, rfl, p, l, pl, cs, rs, os, lp, b + (14 - (i + 1)) * (12 + 2 * Pn m), rfl, hPl.px hP pxq, hN, (penq.less (by omega)), fun v s H6 px6 pen6 d6 s6 => ?_⟩
          obtain ⟨y1, y2, y3⟩ := sim_val (n := m) hC s6
          exact ⟨v, s, rfl, pxq.trans px6, pen6, (Px.of e6).trans px6, d6, y1, y2, by omega⟩
        obtain ⟨v, s, rfl, px7, pen7, px8, d7, v7', t7, c7⟩ := hM
        have gB7 := px8.get nB.1 nB.2 gB'
        have dB7 := dps_px penA px8 tB dB'
        have lv := dpAll_len dB7
        have ls := len_cnt (n := m) (ss := ss)
        have h1c : 1 ≤ cnt (m + 1) [s] := len_cnt (n := m) (ss := [s])
        refine ⟨.int (left : Nat), rfl, v, rfl, (show 1 ≤ sizeLine by decide), fun tp htp => ?_⟩
        have e8 := Ex.new (o := .tup [v]) htp
        refine ⟨tp, [s], 2 * (m + 1), rfl, .tup (st_of upd_same) (.cons (dpM e8 _ _ d7) .nil), .cons t7 .nil, v7'.hb, fun H9 e9 => ⟨(left : Nat), _, rfl, rfl, ?_⟩⟩
        have e89 := e8.trans e9
        dsimp only [gName, List.set]
        rw [show ((left : Nat) : Int) - ((cnt (m + 1) [s] : Nat) : Int) = ((left - cnt (m + 1) [s] : Nat) : Int) by omega]
        refine s_app (e89 _ _ gB7) (ev_var rfl) (ev_var rfl) (by omega) fun H10 e10 => ?_
        have eA := e89.trans e10
        have gA := eA _ _ gB7
        refine ⟨ss ++ [s], vs ++ [v], left - cnt (m + 1) [s], _, _, rfl, upd_same, ?_, tB.app (.cons t7 .nil), val_app vB v7', by rw [cnt_app]; omega, (px7.trans (Px.of eA)).upd (.inr (.inr hB)), (pen7.ex eA).upd nB.1 nB.2⟩
        exact dpAll_add (dps_off gA tB (dpMs eA _ _ dB7)) (dp_off gA t7 (dpM eA _ _ d7))
      · exact ⟨ss, vs, left, _, _, rfl, e6 _ _ gB, dpMs e6 _ _ dB, tB, vB, cB, pxA.trans (Px.of e6), (penA.ex e6).less (by omega)⟩
    · obtain ⟨ss, vs, left, v7, v8, rfl, gB, dB, tB, vB, cB, pxA, penA⟩ := hI
      refine ⟨.ref B, rfl, B, vs, rfl, .inl ⟨sq_of gB, fun u hu => ?_⟩⟩
      have eu := Ex.new (o := .tup vs) hu
      exact kk u ss _ (pxA.trans (Px.of eu)) ((penA.ex eu).less (by omega)) (.tup (st_of upd_same) (dpMs eu _ _ dB)) ⟨vB, tB, by omega⟩

theorem ok_law_part2 {fd : FuncData} {m k : Nat} (hk3 : 3 ≤ k) (hm : 1 ≤ m) (F : FnP K "_law_part" "_law_part" s_law_part (ga K "_law_part") fd) (T : Tx K w mg) (c_law_draw : Cl P w K mg base CX0 1 (ga K "_law_draw") ["_law_pen", "_law_many"] spDraw) (c_law_count : Cl P w K mg base CX0 k (ga K "_law_count") ["_law_body"] (spCnt K (m + 1))) (c_law_simple : Cl P w K mg base CX0 3 (ga K "_law_simple") ["_law_pen", "_law_plan_here", "_law_looping"] (spSim K)) (c_law_block : Cl P w K mg base CX0 k (ga K "_law_block") ["_law_pen", "_law_plan_here", "_law_left", "_law_looping", "_law_deep"] (spBlk K m)) : FnOk P w K mg base CX0 (k + 1) (ga K "_law_part") fd ["_law_pen", "_law_plan_here", "_law_room", "_law_looping", "_law_deep"] (spPart K (m + 1)) := by
  obtain ⟨fd_law_draw, G_law_draw, b_law_draw, kp_law_draw⟩ := c_law_draw
  obtain ⟨fd_law_count, G_law_count, b_law_count, kp_law_count⟩ := c_law_count
  obtain ⟨fd_law_simple, G_law_simple, b_law_simple, kp_law_simple⟩ := c_law_simple
  obtain ⟨fd_law_block, G_law_block, b_law_block, kp_law_block⟩ := c_law_block
  refine FunD.ok F sc_law_part (fun vs H Q E h => ?_) (fun cdv A outer s H vs Q E hr h => ?_)
  · obtain ⟨p, l, pl, cs, rs, os, room, lp, d, ps, b, rfl, _⟩ := h
    rfl
  · obtain ⟨p, l, pl, cs, rs, os, room, lp, d, ps, b, rfl, hPl, hN, ⟨rm, hnd, hpd⟩, hC, hP, kk⟩ := h
    have n_range := T.fr "range" (by decide +kernel)
    have g_law_draw := T.gl "_law_draw" (by decide +kernel)
    have g_law_block := T.gl "_law_block" (by decide +kernel)
    have g_law_simple := T.gl "_law_simple" (by decide +kernel)
    have g_law_count := T.gl "_law_count" (by decide +kernel)
    have n_tuple := T.fr "tuple" (by decide +kernel)
    refine ⟨_, PSs.nox (pss_cons (ps_set (i := 5) sc_law_part.nd rfl (Or.inl rfl) (pe_lst pa_nil)) (pss_cons (ps_set (i := 6) sc_law_part.nd rfl (Or.inl rfl) (pv 2)) (pss_cons (ps_for PassesOwn.never rfl (pi_range1 (by rfl) n_range (pa_cons (pe_call G_law_draw (hr.mono (by omega)) (by rfl) g_law_draw kp_law_draw b_law_draw .nil pass0 (pa_cons (pv 0) (pa_cons (pe_op op_add (pv 2) pe_int) pa_nil))) pa_nil)) (pg_name (i := 7) sc_law_part.nd rfl (Or.inl rfl)) (pss_one (ps_if (pt_cmpR op_gt (pv 6) pe_int (nomark _)) (pss_cut (ps_if (PW.pt (pw_and (pt_cmpR op_lt (pv 4) pe_int (nomark _)) (pw_and1 (pt_cmpR op_eq (pe_call G_law_draw (hr.mono (by omega)) (by rfl) g_law_draw kp_law_draw b_law_draw .nil pass0 (pa_cons (pv 0) (pa_cons pe_int pa_nil))) pe_int (nomark _))))) (pss_one (ps_set (i := 8) sc_law_part.nd rfl (Or.inl rfl) (pe_call G_law_block (hr.mono (by omega)) (by rfl) g_law_block kp_law_block b_law_block .nil pass0 (pa_cons (pv 0) (pa_cons (pv 1) (pa_cons (pv 6) (pa_cons (pv 3) (pa_cons (pv 4) pa_nil)))))))) (pss_one (ps_set (i := 8) sc_law_part.nd rfl (Or.inl rfl) (pe_call G_law_simple (hr.mono (by omega)) (by rfl) g_law_simple kp_law_simple b_law_simple .nil pass0 (pa_cons (pv 0) (pa_cons (pv 1) (pa_cons (pv 3) pa_nil))))))) (pss_cons (ps_set (i := 6) sc_law_part.nd rfl (Or.inl rfl) (pe_op op_sub (pv 6) (pe_call G_law_count (hr.mono (by omega)) (by rfl) g_law_count kp_law_count b_law_count .nil pass0 (pa_cons (pe_tup (pa_cons (pv 8) pa_nil)) pa_nil)))) (pss_one (ps_expr (pe_bm PySem.F.plainAttrs_list PySem.F.slot_list_append PySem.F.type_list_append mt_append (pv 5) (pa_cons (pv 8) pa_nil)))))) pss_nil))) (pss_one (ps_ret (pe_callTy call_tuple_of (by rfl) n_tuple (by decide +kernel) (pa_cons (pv 5) pa_nil))))))), ?_⟩
    obtain ⟨hok, ⟨z1, z2, z3⟩, hne⟩ := id hN
    refine q_asgL (el_lst ea_nil (by decide)) fun B H1 hB e1 g1 => ?_
    refine q_asg (ev_var rfl) fun H2 e2 => ?_
    have nB := hP.new hB
    have e12 := e1.trans e2
    refine ⟨.ref p, rfl, .int (room : Nat), rfl, (room : Nat), 1, rfl, rfl, p, l, ((room : Nat) : Int) + 1, b + 14 * (12 + 2 * Pn m), rfl, ⟨by omega, by omega⟩, (hP.ex e12).less (by show b + 14 * (12 + 2 * Pn m) + 1 ≤ b + (1 + 14 * (12 + 2 * Pn m)); omega), fun r H3 hr3 px3 pen3 => ?_⟩
    obtain ⟨rr, rfl, hrr⟩ := nat_of hr3
    refine ⟨(rr : Nat), rfl, by omega, by omega, ?_⟩
    refine for_range (lo := 0) (n := ((rr : Nat) : Int).toNat) (fun i σ' H' => ∃ ss vs left v7 v8, σ' = [some (.ref p), some (.ref pl), some (.int (room : Nat)), some (.bl lp), some (.int (d : Nat)), some (.ref B), some (.int (left : Nat)), v7, v8] ∧ H' B = some (.lst vs) ∧ DpAll K H' vs ss ∧ Tts (2 * (m + 1)) ss ∧ Val cs rs os (m + 1) ps ss ∧ cnt (m + 1) ss + left ≤ room ∧ Px p l H H' ∧ Pen p l (b + (14 - i) * (12 + 2 * Pn m)) H')
      ⟨[], [], room, _, _, rfl, px3.get nB.1 nB.2 (e2 _ _ g1), .nil, .nil, (fun s hs => nomatch hs), (by show 0 + room ≤ room; omega), (Px.of e12).trans px3, pen3⟩ (fun i σ' H4 hi hI => ?_) (fun σ' H' hI => ?_)
    · obtain ⟨ss, vs, left, v7, v8, rfl, gB, dB, tB, vB, cB, pxA, penA⟩ := hI
      have hi2 : i < rr := by omega
      have eqB : (14 - i) * (12 + 2 * Pn m) = (14 - (i + 1)) * (12 + 2 * Pn m) + (12 + 2 * Pn m) := by
        obtain ⟨q, hq⟩ : ∃ q, 14 - i = q + 1 := ⟨14 - i - 1, by omega⟩
        rw [hq, show 14 - (i + 1) = q by omega, Nat.succ_mul]
      rw [eqB] at penA
      rw [show (0 : Int) + (i : Int) = ((i : Nat) : Int) by omega]
      dsimp only [gName, List.set]
      refine s_when (b := decide ((0 : Int) < (left : Nat))) (et_test (ev_op (ev_var rfl) ev_c rv_I0)) (fun hb H5 e6 => ?_) (fun hb H5 e6 => ?_)
      · have hleft := of_decide_eq_true hb
        replace pxA := pxA.trans (Px.of (p := p) (l := l) e6)
        replace penA := penA.ex e6
        have gB' := e6 _ _ gB
        have dB' := dpMs e6 _ _ dB
        refine q_cut (M := fun σ' H' => ∃ v s, σ' = [some (.ref p), some (.ref pl), some (.int (room : Nat)), some (.bl lp), some (.int (d : Nat)), some (.ref B), some (.int (left : Nat)), some (.int (i : Nat)), some v] ∧ Px p l H H' ∧ Pen p l (b + (14 - (i + 1)) * (12 + 2 * Pn m)) H' ∧ Px p l H5 H' ∧ Dp K H' v s ∧ Val cs rs os (m + 1) ps [s] ∧ Tt (2 * (m + 1)) s ∧ cnt (m + 1) [s] ≤ left) ?_ fun σ6 H6 hM => ?_
        · refine ⟨.int (d : Nat), rfl, (d : Nat), 3, rfl, rfl, _, rfl, ite2 (fun _ => ?_) (fun h => absurd (decide_eq_true (by omega)) h)⟩
          refine ⟨.ref p, rfl, p, l, 3, b + (14 - (i + 1)) * (12 + 2 * Pn m) + (11 + 2 * Pn m), rfl, ⟨by decide, by decide⟩, penA.less (by omega), fun r H6' hr6 pxq penq => ⟨rfl, _, rfl, ite2 (fun _ => ?_) (fun _ => ?_)⟩⟩
          · refine ⟨.ref p, rfl, .ref pl, rfl, .int (left : Nat), rfl, .bl lp, rfl, .int (d : Nat), rfl, p, l, pl, cs, rs, os, left, lp, d, ps, b + (14 - (i + 1)) * (12 + 2 * Pn m), rfl, hPl.px hP (pxA.trans pxq), hN, ⟨by omega, by omega, by omega, hpd, hm⟩, hC, penq.less (by omega), fun a s H7 px7 pen7 d7 v7 t7 c7 => ?_⟩
            exact ⟨.ref a, s, rfl, (pxA.trans pxq).trans px7, pen7, pxq.trans px7, d7, v7, t7, c7⟩
          · refine ⟨.ref p, rfl, .ref pl, rfl, .bl lp, rfl, p, l, pl, cs, rs, os, lp, b + (14 - (i + 1)) * (12 + 2 * Pn m), rfl, hPl.px hP (pxA.trans pxq), hN, penq.less (by omega), fun v s H6 px6 pen6 d6 s6 => ?_⟩
            obtain ⟨y1, y2, y3⟩ := sim_val (n := m) hC s6
            exact ⟨v, s, rfl, (pxA.trans pxq).trans px6, pen6, pxq.trans px6, d6, y1, y2, by omega⟩
        obtain ⟨v, s, rfl, px7, pen7, px8, d7, v7', t7, c7⟩ := hM
        have gB7 := px8.get nB.1 nB.2 gB'
        have dB7 := dps_px penA px8 tB dB'
        have lv := dpAll_len dB7
        have ls := len_cnt (n := m) (ss := ss)
        have h1c : 1 ≤ cnt (m + 1) [s] := len_cnt (n := m) (ss := [s])
        refine ⟨.int (left : Nat), rfl, v, rfl, (show 1 ≤ sizeLine by decide), fun tp htp => ?_⟩
        have e8 := Ex.new (o := .tup [v]) htp
        refine ⟨tp, [s], 2 * (m + 1), rfl, .tup (st_of upd_same) (.cons (dpM e8 _ _ d7) .nil), .cons t7 .nil, v7'.hb, fun H9 e9 => ⟨(left : Nat), _, rfl, rfl, ?_⟩⟩
        have e89 := e8.trans e9
        dsimp only [gName, List.set]
        rw [show ((left : Nat) : Int) - ((cnt (m + 1) [s] : Nat) : Int) = ((left - cnt (m + 1) [s] : Nat) : Int) by omega]
        refine s_app (e89 _ _ gB7) (ev_var rfl) (ev_var rfl) (by omega) fun H10 e10 => ?_
        have eA := e89.trans e10
        have gA := eA _ _ gB7
        refine ⟨ss ++ [s], vs ++ [v], left - cnt (m + 1) [s], _, _, rfl, upd_same, ?_, tB.app (.cons t7 .nil), val_app vB v7', by rw [cnt_app]; omega, (px7.trans (Px.of eA)).upd (.inr (.inr hB)), (pen7.ex eA).upd nB.1 nB.2⟩
        exact dpAll_add (dps_off gA tB (dpMs eA _ _ dB7)) (dp_off gA t7 (dpM eA _ _ d7))
      · exact ⟨ss, vs, left, _, _, rfl, e6 _ _ gB, dpMs e6 _ _ dB, tB, vB, cB, pxA.trans (Px.of e6), (penA.ex e6).less (by omega)⟩
    · obtain ⟨ss, vs, left, v7, v8, rfl, gB, dB, tB, vB, cB, pxA, penA⟩ := hI
      refine ⟨.ref B, rfl, B, vs, rfl, .inl ⟨sq_of gB, fun u hu => ?_⟩⟩
      have eu := Ex.new (o := .tup vs) hu
      exact kk u ss _ (pxA.trans (Px.of eu)) ((penA.ex eu).less (by omega)) (.tup (st_of upd_same) (dpMs eu _ _ dB)) ⟨vB, tB, by omega⟩

end
end K06
set_option Elab.async false
set_option linter.all false
set_option maxRecDepth 100000
set_option maxHeartbeats 8000000
namespace K06
open PySem PySem.Spec PyProof.Rows L2 He XH XV XR PEN TR Evl


theorem blk_app (ps : List (Str × Nat)) (w : Str) (j : Nat) : (ps ++ [(w, j)]).map blk = ps.map blk ++ [.tuple [.str w, .int (j : Nat)]] := by
  rw [List.map_append]
  rfl
theorem le_sum : ∀ {l : List Nat} {x : Nat}, x ∈ l → x ≤ l.sum
  | y :: r, x, h => by
    rw [List.sum_cons]
    rcases List.mem_cons.mp h with e | k
    · omega
    · have z := le_sum k
      omega
theorem Val.sh {cs rs os : List Str} : ∀ {n : Nat} {ps : List (Str × Nat)} {ss : List PyData}, Val cs rs os n ps ss → ss.length ≤ 14 → cnt n ss ≤ 14 → Bod n ss
  | 0, _, _, h, _, _ => h
  | n + 1, ps, ss, h, hl, hc => ⟨hl, fun s hs => by
    obtain ⟨hw, _, _, hp⟩ := h s hs
    refine ⟨hw.sh, fun p hpm => ?_⟩
    obtain ⟨j, hj⟩ := List.mem_iff_getElem?.mp hpm
    obtain ⟨ds, e2, hv⟩ := hp j p hj
    have c1 : cnt n ds ≤ 14 := by
      have k1 : 1 + ((parts s).map fun p => cnt n (bodyOf p)).sum ≤ cnt (n + 1) ss := by
        show _ ≤ (ss.map _).sum
        exact le_sum (List.mem_map.mpr ⟨s, hs, rfl⟩)
      have k2 : cnt n (bodyOf p) ≤ ((parts s).map fun p => cnt n (bodyOf p)).sum := le_sum (List.mem_map.mpr ⟨p, hpm, rfl⟩)
      rw [e2] at k2
      have k3 : cnt n ds ≤ ((parts s).map fun p => cnt n (bodyOf p)).sum := k2
      omega
    refine ⟨ds, e2, hv.sh ?_ c1⟩
    match n, hv, c1 with
    | 0, hv, _ => rw [show ds = [] from hv]; decide
    | n + 1, hv, c1 => exact Nat.le_trans len_cnt c1⟩
theorem nums_cnt : ∀ {n : Nat} {ss as : List PyData}, Hb n ss → (nums n ss as).length = cnt n ss
  | 0, _, _, _ => rfl
  | n + 1, ss, as, h => by
    show (ss.flatMap _).length = (ss.map _).sum
    rw [List.length_flatMap]
    congr 1
    refine List.map_congr_left fun s hs => ?_
    obtain ⟨_, hp⟩ := h s hs
    rw [List.length_cons, List.length_flatMap]
    have k : ((parts s).zipIdx.map fun p => (nums n (bodyOf p.1) (as ++ [.tuple [wordOf s, .int (p.2 : Nat)]])).length) = (parts s).map fun p => cnt n (bodyOf p) := by
      refine List.ext_getElem? fun i => ?_
      rw [List.getElem?_map, List.getElem?_map, List.getElem?_zipIdx]
      cases q : (parts s)[i]? with
      | none => rfl
      | some p =>
        obtain ⟨ds, e, hb⟩ := hp p (List.mem_of_getElem? q)
        show some _ = some _
        rw [e]
        exact congrArg some (nums_cnt hb)
    rw [k]
    omega
def Sts (cs rs os : List Str) (q : PyData × List PyData) : Prop := Wf cs rs os q.1 ∧ ∃ wd ps, wordOf q.1 = .str wd ∧ q.2 = ps.map blk ∧ (∀ p ∈ ps, p.1 ∈ words) ∧ ps.length ≤ 10 ∧ Placed wd ps ∧ (parts q.1 ≠ [] → ps.length ≤ 2)
theorem val_nums {cs rs os : List Str} : ∀ {n : Nat} {ps : List (Str × Nat)} {ss : List PyData}, Val cs rs os n ps ss → (∀ p ∈ ps, p.1 ∈ words) → n + ps.length ≤ 10 → ∀ q ∈ nums n ss (ps.map blk), Sts cs rs os q
  | 0, _, _, _, _, _, q, hq => by cases hq
  | n + 1, ps, ss, h, hw, hl, q, hq => by
    obtain ⟨s, hs, hq⟩ := List.mem_flatMap.mp hq
    obtain ⟨hwf, hpl, hdp, hp⟩ := h s hs
    obtain ⟨w, ks, args, es, hk, _⟩ := id hwf
    have ew : wordS s = w := by rw [es]; rfl
    have ew2 : wordOf s = .str w := by rw [es]; rfl
    have ww : w ∈ words := List.mem_map.mpr ⟨_, hk, rfl⟩
    rcases List.mem_cons.mp hq with e | hq
    · rw [e]
      exact ⟨hwf, w, ps, ew2, rfl, hw, by omega, by rw [← ew]; exact hpl, hdp⟩
    · obtain ⟨⟨p, j⟩, hm, hq⟩ := List.mem_flatMap.mp hq
      have hj : (parts s)[j]? = some p := by
        have z := List.mem_zipIdx hm
        obtain ⟨_, z2, z3⟩ := z
        simp only [Nat.sub_zero] at z3
        rw [z3]
        exact List.getElem?_eq_getElem _
      obtain ⟨ds, e, hv⟩ := hp j p hj
      simp only at hq
      rw [e, ew2, ← blk_app] at hq
      rw [ew] at hv
      refine val_nums hv (fun x hx => ?_) (by rw [List.length_append]; show n + (ps.length + 1) ≤ 10; omega) q hq
      rcases List.mem_append.mp hx with k | k
      · exact hw x k
      · rw [List.mem_singleton.mp k]
        exact ww
theorem part_body {cs rs os : List Str} {room : Nat} {ss : List PyData} (h : PartOk cs rs os 4 [] room ss) (hr : room ≤ 14) : BodV cs rs os ss := by
  have hf := h.few
  have hl : ss.length ≤ cnt 4 ss := len_cnt (n := 3) (ss := ss)
  refine ⟨⟨⟨8, by decide, .tup (by omega) h.tt⟩, h.val.sh (by omega) (by omega)⟩, ?_, fun q hq => ?_⟩
  · rw [nums_cnt h.val.hb]
    omega
  · exact val_nums (ps := []) h.val (fun p hp => nomatch hp) (by decide) q hq

end K06
set_option Elab.async false
set_option linter.all false
set_option maxRecDepth 100000
set_option maxHeartbeats 8000000
namespace K06
open PySem PySem.Spec PyProof.Rows L2 He XH XV XR PEN TR Evl


mutual
theorem dp_dk2 {K : PySem.W.Frag} {H : Hp} {D : Addr} {ks : List (Key × V)} {o : HO} (hD : H D = some (.dK ks)) : ∀ {n : Nat} {d : PyData} {v : V}, Tt n d → Dp K H v d → Dp K (upd H D o) v d
  | _, _, _, .str _, h => by
    cases h
    exact .str _
  | _, _, _, .int _, h => by
    cases h
    exact .int _
  | _, _, _, .tup _ hs, h => by
    cases h with
    | @tup a xs _ h1 h2 =>
      refine .tup ?_ (dps_dk2 hD hs h2)
      rcases h1 with (h1 | ⟨ob, h1⟩) | h1
      · exact .inl (.inl ((upd_ne (fun e => by rw [e, hD] at h1; cases h1)).trans h1))
      · exact .inl (.inr ⟨ob, (upd_ne (fun e => by rw [e, hD] at h1; cases h1)).trans h1⟩)
      · exact .inr h1
theorem dps_dk2 {K : PySem.W.Frag} {H : Hp} {D : Addr} {ks : List (Key × V)} {o : HO} (hD : H D = some (.dK ks)) : ∀ {n : Nat} {ds : List PyData} {vs : List V}, Tts n ds → DpAll K H vs ds → DpAll K (upd H D o) vs ds
  | _, _, _, .nil, h => by
    cases h
    exact .nil
  | _, _, _, .cons h1 r1, h => by
    cases h with
    | cons h2 r2 => exact .cons (dp_dk2 hD h1 h2) (dps_dk2 hD r1 r2)
end


theorem cut_mid {xs : List V} {i j : Nat} (h : i + j ≤ xs.length) : cutV xs (some (i : Int)) (some (((i + j : Nat)) : Int)) = (xs.drop i).take j := by
  unfold cutV
  rw [HT.sIx_nat, HT.sIx_nat, Nat.min_eq_left h, Nat.min_eq_left (show i ≤ xs.length by omega), Nat.add_sub_cancel_left]
/-- a whole plan -/
def PlF (K : PySem.W.Frag) (H : Hp) (pl : Addr) (cs rs os : List Str) (st : Str) (bds : List (List PyData)) : Prop := ∃ kvs c r o bd bkvs, H pl = some (.dK kvs) ∧ valV kvs (Sum.inr "cells") = some (.ref c) ∧ valV kvs (Sum.inr "rows") = some (.ref r) ∧ valV kvs (Sum.inr "order") = some (.ref o) ∧ valV kvs (Sum.inr "start") = some (.str st) ∧ valV kvs (Sum.inr "bodies") = some (.ref bd) ∧
  H c = some (.lst (cs.map V.str)) ∧ H r = some (.lst (rs.map V.str)) ∧ H o = some (.lst (os.map V.str)) ∧ H bd = some (.dK bkvs) ∧ bds.length = os.length ∧ (∀ (i : Nat) (z : Str) (ss : List PyData), os[i]? = some z → bds[i]? = some ss → ∃ b, valV bkvs (Sum.inr z) = some (.ref b) ∧ Dp K H (.ref b) (.tuple ss)) ∧ bkvs.length ≤ 3 ∧ bd ≠ pl
def spPlan (K : PySem.W.Frag) : Sp := fun vs H Q _ => ∃ p l c r m room b, vs = [.ref p, .int (c : Nat), .int (r : Nat), .int (m : Nat), .int (room : Nat)] ∧ (c ≤ 3 ∧ r ≤ 2 ∧ 1 ≤ m ∧ m ≤ 3 ∧ room ≤ 14) ∧ Pen p l (b + (200 + 3 * Pn 4)) H ∧
  ∀ pl cs rs os st bds H', Px p l H H' → Pen p l b H' → PlF K H' pl cs rs os st bds → Names cs rs os st → (∀ ss ∈ bds, PartOk cs rs os 4 [] room ss) → Q (.ref pl) H'
theorem dp_dk {K : PySem.W.Frag} {H : Hp} {D : Addr} {ks : List (Key × V)} {o : HO} (hD : H D = some (.dK ks)) : ∀ {n : Nat} {d : PyData} {v : V}, Tt n d → Dp K H v d → Dp K (upd H D o) v d := by
  intro n d v ht hd
  exact dp_dk2 hD ht hd

section
variable {P : Program} {w : World} {K : PySem.W.Frag} {mg : Str → Option Value} {base : Heap}

theorem ok_law_plan {fd : FuncData} (F : FnP K "_law_plan" "_law_plan" s_law_plan (ga K "_law_plan") fd) (T : Tx K w mg) (c_law_names : Cl P w K mg base CX0 3 (ga K "_law_names") ["_law_pen", "_law_many"] (spNames K)) (c_law_pick : Cl P w K mg base CX0 2 (ga K "_law_pick") ["_law_pen", "_law_row"] (spPick K)) (c_law_part : Cl P w K mg base CX0 11 (ga K "_law_part") ["_law_pen", "_law_plan_here", "_law_room", "_law_looping", "_law_deep"] (spPart K 4)) : FnOk P w K mg base CX0 (11 + 1) (ga K "_law_plan") fd ["_law_pen", "_law_cells", "_law_rows", "_law_many", "_law_room"] (spPlan K) := by
  obtain ⟨fd_law_names, G_law_names, b_law_names, kp_law_names⟩ := c_law_names
  obtain ⟨fd_law_pick, G_law_pick, b_law_pick, kp_law_pick⟩ := c_law_pick
  obtain ⟨fd_law_part, G_law_part, b_law_part, kp_law_part⟩ := c_law_part
  refine FunD.ok F sc_law_plan (fun vs H Q E h => ?_) (fun cdv A outer s H vs Q E hr h => ?_)
  · obtain ⟨p, l, c, r, m, room, b, rfl, _⟩ := h
    rfl
  · obtain ⟨p, l, c, r, m, room, b, rfl, ⟨z1, z2, z3, z4, z5⟩, hP, kk⟩ := h
    have g_law_names := T.gl "_law_names" (by decide +kernel)
    have g_law_pick := T.gl "_law_pick" (by decide +kernel)
    have g_law_part := T.gl "_law_part" (by decide +kernel)
    refine ⟨_, PSs.nox (pss_cons (ps_set (i := 5) sc_law_plan.nd rfl (Or.inl rfl) (pe_call G_law_names (hr.mono (by decide)) (by rfl) g_law_names kp_law_names b_law_names .nil pass0 (pa_cons (pv 0) (pa_cons (pe_op op_add (pe_op op_add (pv 1) (pv 2)) (pv 3)) pa_nil))))
      (pss_cons (ps_set (i := 6) sc_law_plan.nd rfl (Or.inl rfl) (pe_disp (pps_cons pe_str (pe_slice sl_list (pv 5) po_none (po_some (pv 1))) (pps_cons pe_str (pe_slice sl_list (pv 5) (po_some (pv 1)) (po_some (pe_op op_add (pv 1) (pv 2)))) (pps_cons pe_str (pe_slice sl_list (pv 5) (po_some (pe_op op_add (pv 1) (pv 2))) po_none) pps_nil))) rfl rfl (by simp) (by decide)))
      (pss_cons (ps_asg (pe_call G_law_pick (hr.mono (by decide)) (by rfl) g_law_pick kp_law_pick b_law_pick .nil pass0 (pa_cons (pv 0) (pa_cons (pe_dget (Nat.lt_of_le_of_lt (Nat.add_le_add_left (by decide) _) hr.units) (pv 6) pe_str (fun _ _ => rfl)) pa_nil))) (pg_sub (pv 6) pe_str (set_dict (Nat.lt_of_le_of_lt (Nat.add_le_add_left (by decide) _) hr.units))))
      (pss_cons (ps_asg pe_dnewK (pg_sub (pv 6) pe_str (set_dict (Nat.lt_of_le_of_lt (Nat.add_le_add_left (by decide) _) hr.units))))
      (pss_cons (ps_for PassesOwn.never rfl (pi_list (pe_dget (Nat.lt_of_le_of_lt (Nat.add_le_add_left (by decide) _) hr.units) (pv 6) pe_str (fun _ _ => rfl))) (pg_name (i := 7) sc_law_plan.nd rfl (Or.inl rfl))
      (pss_one (ps_asg (pe_call G_law_part (hr.mono (by decide)) (by rfl) g_law_part kp_law_part b_law_part .nil pass0 (pa_cons (pv 0) (pa_cons (pv 6) (pa_cons (pv 4) (pa_cons pe_bl (pa_cons pe_int pa_nil)))))) (pg_sub (pe_dget (Nat.lt_of_le_of_lt (Nat.add_le_add_left (by decide) _) hr.units) (pv 6) pe_str (fun _ _ => rfl)) (pv 7) (set_dict (Nat.lt_of_le_of_lt (Nat.add_le_add_left (by decide) _) hr.units))))))
      (pss_one (ps_ret (pv 6)))))))), ?_⟩
    refine ⟨.ref p, rfl, .int (c : Nat), rfl, .int (r : Nat), rfl, (c : Nat), (r : Nat), rfl, rfl, .int (m : Nat), rfl, _, _, rfl, rfl, p, l, c + r + m, b + (20 + 3 * Pn 4), rfl, by omega, hP.less (by omega), fun q ys H1 hq g1 hlen hok px1 pen1 => ?_⟩
    have nq := hP.new hq
    dsimp only [gName, List.set]
    intro pl hpl
    have eP := Ex.new (o := .dK []) hpl
    refine ⟨.ref q, rfl, .int (c : Nat), rfl, (c : Nat), rfl, q, _, rfl, sq_of (eP _ _ g1), fun c1 hc1 => ?_⟩
    have e1 := Ex.new (o := .lst (cutV (ys.map V.str) none (some (c : Nat)))) hc1
    refine ⟨.ref q, rfl, .int (c : Nat), rfl, (c : Nat), rfl, .int (c : Nat), rfl, .int (r : Nat), rfl, (c : Nat), (r : Nat), rfl, rfl, ((c + r : Nat) : Int), rfl, q, _, rfl, sq_of (e1 _ _ (eP _ _ g1)), fun r1 hr1 => ?_⟩
    have e2 := Ex.new (o := .lst (cutV (ys.map V.str) (some (c : Nat)) (some ((c + r : Nat) : Int)))) hr1
    refine ⟨.ref q, rfl, .int (c : Nat), rfl, .int (r : Nat), rfl, (c : Nat), (r : Nat), rfl, rfl, ((c + r : Nat) : Int), rfl, q, _, rfl, sq_of (e2 _ _ (e1 _ _ (eP _ _ g1))), fun o1 ho1 => ?_⟩
    have e3 := Ex.new (o := .lst (cutV (ys.map V.str) (some ((c + r : Nat) : Int)) none)) ho1
    refine ⟨e3 _ _ (e2 _ _ (e1 _ _ upd_same)), [(Sum.inr "cells", .ref c1), (Sum.inr "rows", .ref r1), (Sum.inr "order", .ref o1)], rfl, (show 3 ≤ 15 by decide), ?_⟩
    have lys : (ys.map V.str).length = c + r + m := by rw [List.length_map, hlen]
    rw [cut_take, cut_mid (by omega), cut_drop, ← List.map_take, ← List.map_drop, ← List.map_drop, ← List.map_take] at *
    have eA := ((eP.trans e1).trans e2).trans e3
    have k0 : ∀ a, H1 a = none → a ≠ p ∧ a ≠ l := fun a h => pen1.new h
    have h3pl : upd (upd (upd (upd H1 pl (.dK [])) c1 (.lst ((ys.take c).map V.str))) r1 (.lst (((ys.drop c).take r).map V.str))) o1 (.lst ((ys.drop (c + r)).map V.str)) pl = some (.dK []) := e3 _ _ (e2 _ _ (e1 _ _ upd_same))
    have h3c : upd (upd (upd (upd H1 pl (.dK [])) c1 (.lst ((ys.take c).map V.str))) r1 (.lst (((ys.drop c).take r).map V.str))) o1 (.lst ((ys.drop (c + r)).map V.str)) c1 = some (.lst ((ys.take c).map V.str)) := e3 _ _ (e2 _ _ upd_same)
    have h3r : upd (upd (upd (upd H1 pl (.dK [])) c1 (.lst ((ys.take c).map V.str))) r1 (.lst (((ys.drop c).take r).map V.str))) o1 (.lst ((ys.drop (c + r)).map V.str)) r1 = some (.lst (((ys.drop c).take r).map V.str)) := e3 _ _ upd_same
    have h3o : upd (upd (upd (upd H1 pl (.dK [])) c1 (.lst ((ys.take c).map V.str))) r1 (.lst (((ys.drop c).take r).map V.str))) o1 (.lst ((ys.drop (c + r)).map V.str)) o1 = some (.lst ((ys.drop (c + r)).map V.str)) := upd_same
    have hpl0 : H pl = none := px1.fresh (k0 pl hpl).1 (k0 pl hpl).2 hpl
    have npl := k0 pl hpl
    generalize upd (upd (upd (upd H1 pl (.dK [])) c1 (.lst ((ys.take c).map V.str))) r1 (.lst (((ys.drop c).take r).map V.str))) o1 (.lst ((ys.drop (c + r)).map V.str)) = H3 at eA h3pl h3c h3r h3o
    clear e1 e2 e3 eP hc1 hr1 ho1
    have kv0 : ∃ kv, mergeK [] [((Sum.inr "cells" : Key), V.ref c1), (Sum.inr "rows", .ref r1), (Sum.inr "order", .ref o1)] = kv ∧ kv.length = 3 ∧ valV kv (Sum.inr "cells") = some (.ref c1) ∧ valV kv (Sum.inr "rows") = some (.ref r1) ∧ valV kv (Sum.inr "order") = some (.ref o1) := ⟨_, rfl, by rfl, by rfl, by rfl, by rfl⟩
    obtain ⟨kv, ekv, lkv, v1, v2, v3⟩ := kv0
    have ek : mergeK [] [((Sum.inr (Str.ofString "cells") : Key), V.ref c1), (Sum.inr (Str.ofString "rows"), V.ref r1), (Sum.inr (Str.ofString "order"), V.ref o1)] = kv := ekv
    rw [ek]
    have nD : ∀ {a : Addr} {zs : List Str}, H3 a = some (.lst (zs.map V.str)) → a ≠ pl := fun h e => by rw [e, h3pl] at h; cases h
    have g4 : upd H3 pl (.dK kv) pl = some (.dK kv) := upd_same
    have g4c := (upd_ne (o := .dK kv) (nD h3c)).trans h3c
    have g4r := (upd_ne (o := .dK kv) (nD h3r)).trans h3r
    have g4o := (upd_ne (o := .dK kv) (nD h3o)).trans h3o
    have px4 : Px p l H (upd H3 pl (.dK kv)) := (px1.trans (Px.of eA)).upd (.inr (.inr hpl0))
    have pen4 : Pen p l (b + (20 + 3 * Pn 4)) (upd H3 pl (.dK kv)) := (pen1.ex eA).upd npl.1 npl.2
    generalize upd H3 pl (.dK kv) = H4 at g4 g4c g4r g4o px4 pen4
    clear nD h3pl h3c h3r h3o
    have eall : ys.take c ++ (ys.drop c).take r ++ ys.drop (c + r) = ys := by
      rw [List.append_assoc, ← List.drop_drop, List.take_append_drop, List.take_append_drop]
    have hN : Nms (ys.take c) ((ys.drop c).take r) (ys.drop (c + r)) := by
      refine ⟨by rw [eall]; exact hok, ⟨?_, ?_, ?_⟩, fun e => ?_⟩
      · rw [List.length_take]; omega
      · rw [List.length_take, List.length_drop]; omega
      · rw [List.length_drop]; omega
      · have z := congrArg List.length e
        rw [List.length_drop] at z
        simp only [List.length_nil] at z
        omega
    generalize ys.take c = cs at *
    generalize (ys.drop c).take r = rs at *
    generalize ys.drop (c + r) = os at *
    dsimp only [gName, List.set]
    have no := strs_off pen4 g4o
    obtain ⟨hok2, hsz2, hne2⟩ := id hN
    -- the start
    refine ⟨.ref p, rfl, .ref pl, rfl, pl, .ref o1, rfl, .inl ⟨kv, Sum.inr "order", .inl g4, rfl, v3.symm⟩, p, l, o1, _, b + (10 + 3 * Pn 4), rfl, sq_of ((cut_at no.1 no.2).trans g4o), ⟨fun e => hne2 (List.map_eq_nil_iff.mp e), by rw [List.length_map]; omega⟩, pen4.less (by omega), fun v H5 hv px5 pen5 => ?_⟩
    obtain ⟨st, hst, rfl⟩ := List.mem_map.mp hv
    have nc := strs_off pen4 g4c
    have nr := strs_off pen4 g4r
    have g5 := px5.get npl.1 npl.2 g4
    have g5c := px5.get nc.1 nc.2 g4c
    have g5r := px5.get nr.1 nr.2 g4r
    have g5o := px5.get no.1 no.2 g4o
    refine ⟨.ref pl, rfl, pl, _, rfl, .inl ⟨kv, Sum.inr "start", g5, rfl, small1000 (by omega), rfl⟩, ?_⟩
    have nD : ∀ {a : Addr} {zs : List Str}, H5 a = some (.lst (zs.map V.str)) → a ≠ pl := fun h e => by rw [e, g5] at h; cases h
    have w1 : valV (putK kv (Sum.inr "start") (V.str st)) (Sum.inr "cells") = some (.ref c1) := by rw [valV_put, if_neg (by decide +kernel)]; exact v1
    have w2 : valV (putK kv (Sum.inr "start") (V.str st)) (Sum.inr "rows") = some (.ref r1) := by rw [valV_put, if_neg (by decide +kernel)]; exact v2
    have w3 : valV (putK kv (Sum.inr "start") (V.str st)) (Sum.inr "order") = some (.ref o1) := by rw [valV_put, if_neg (by decide +kernel)]; exact v3
    have w4 : valV (putK kv (Sum.inr "start") (V.str st)) (Sum.inr "start") = some (.str st) := by rw [valV_put, if_pos rfl]
    have lw := length_putK kv (Sum.inr "start") (V.str st)
    generalize putK kv (Sum.inr "start") (V.str st) = kw at w1 w2 w3 w4 lw ⊢
    have g6 : upd H5 pl (.dK kw) pl = some (.dK kw) := upd_same
    have g6c := (upd_ne (o := .dK kw) (nD g5c)).trans g5c
    have g6r := (upd_ne (o := .dK kw) (nD g5r)).trans g5r
    have g6o := (upd_ne (o := .dK kw) (nD g5o)).trans g5o
    have px6 : Px p l H (upd H5 pl (.dK kw)) := (px4.trans px5).upd (.inr (.inr hpl0))
    have pen6 : Pen p l (b + (10 + 3 * Pn 4)) (upd H5 pl (.dK kw)) := pen5.upd npl.1 npl.2
    generalize upd H5 pl (.dK kw) = H6 at g6 g6c g6r g6o px6 pen6
    clear nD
    -- the bodies
    intro bd hbd
    have nbd : bd ≠ p ∧ bd ≠ l := pen6.new hbd
    have eb := Ex.new (o := .dK []) hbd
    refine ⟨.ref pl, rfl, pl, _, rfl, .inl ⟨kw, Sum.inr "bodies", eb _ _ g6, rfl, small1000 (by omega), rfl⟩, ?_⟩
    have hbd0 : H bd = none := px6.fresh nbd.1 nbd.2 hbd
    have npb : bd ≠ pl := fun e => by rw [e, g6] at hbd; cases hbd
    have nD : ∀ {a : Addr} {zs : List Str}, H6 a = some (.lst (zs.map V.str)) → a ≠ pl := fun h e => by rw [e, g6] at h; cases h
    have x1 : valV (putK kw (Sum.inr "bodies") (V.ref bd)) (Sum.inr "cells") = some (.ref c1) := by rw [valV_put, if_neg (by decide +kernel)]; exact w1
    have x2 : valV (putK kw (Sum.inr "bodies") (V.ref bd)) (Sum.inr "rows") = some (.ref r1) := by rw [valV_put, if_neg (by decide +kernel)]; exact w2
    have x3 : valV (putK kw (Sum.inr "bodies") (V.ref bd)) (Sum.inr "order") = some (.ref o1) := by rw [valV_put, if_neg (by decide +kernel)]; exact w3
    have x4 : valV (putK kw (Sum.inr "bodies") (V.ref bd)) (Sum.inr "start") = some (.str st) := by rw [valV_put, if_neg (by decide +kernel)]; exact w4
    have x5 : valV (putK kw (Sum.inr "bodies") (V.ref bd)) (Sum.inr "bodies") = some (.ref bd) := by rw [valV_put, if_pos rfl]
    generalize putK kw (Sum.inr "bodies") (V.ref bd) = kx at x1 x2 x3 x4 x5 ⊢
    have g7 : upd (upd H6 bd (.dK [])) pl (.dK kx) pl = some (.dK kx) := upd_same
    have g7b : upd (upd H6 bd (.dK [])) pl (.dK kx) bd = some (.dK []) := (upd_ne npb).trans upd_same
    have g7c := (upd_ne (o := .dK kx) (nD g6c)).trans (eb _ _ g6c)
    have g7r := (upd_ne (o := .dK kx) (nD g6r)).trans (eb _ _ g6r)
    have g7o := (upd_ne (o := .dK kx) (nD g6o)).trans (eb _ _ g6o)
    have px7 : Px p l H (upd (upd H6 bd (.dK [])) pl (.dK kx)) := (px6.trans (Px.of eb)).upd (.inr (.inr hpl0))
    have pen7 : Pen p l (b + (10 + 3 * Pn 4)) (upd (upd H6 bd (.dK [])) pl (.dK kx)) := (pen6.ex eb).upd npl.1 npl.2
    generalize upd (upd H6 bd (.dK [])) pl (.dK kx) = H7 at g7 g7b g7c g7r g7o px7 pen7
    refine ⟨.ref pl, rfl, pl, .ref o1, rfl, .inl ⟨kx, Sum.inr "order", .inl g7, rfl, x3.symm⟩, o1, rfl, ⟨_, sq_of g7o⟩, ?_⟩
    have hok3 : NamesOk os := ⟨(List.nodup_append.mp hok2.1).2.1, fun y hy => hok2.2 y (List.mem_append_right _ hy)⟩
    refine for_list (xs := os.map V.str) (fun i σ' H' => ∃ bk bds v7, σ' = [some (.ref p), some (.int (c : Nat)), some (.int (r : Nat)), some (.int (m : Nat)), some (.int (room : Nat)), some (.ref q), some (.ref pl), v7] ∧ H' pl = some (.dK kx) ∧ H' bd = some (.dK bk) ∧ (H' c1 = some (.lst (cs.map V.str)) ∧ H' r1 = some (.lst (rs.map V.str)) ∧ H' o1 = some (.lst (os.map V.str))) ∧ bds.length = i ∧ bk.length ≤ i ∧
        (∀ (j : Nat) (z : Str) (ss : List PyData), os[j]? = some z → bds[j]? = some ss → ∃ a, valV bk (Sum.inr z) = some (.ref a) ∧ Dp K H' (.ref a) (.tuple ss)) ∧ (∀ ss ∈ bds, PartOk cs rs os 4 [] room ss) ∧ Px p l H H' ∧ Pen p l (b + (3 - i) * Pn 4) H')
      ⟨[], [], _, rfl, g7, g7b, ⟨g7c, g7r, g7o⟩, rfl, Nat.le_refl _, (fun j z ss _ h => nomatch h), (fun ss h => nomatch h), px7, pen7.less (by omega)⟩ (fun i σ' H' _ hI => ?_) (fun i x σ' H' hx hI => ?_) (fun σ' H' hI => ?_)
    · obtain ⟨bk, bds, v7, rfl, k1, k2, ⟨k3, k4, k5⟩, k6, k7, k8, k9, k10, k11⟩ := hI
      exact sq_of k5
    · obtain ⟨bk, bds, v7, rfl, k1, k2, ⟨k3, k4, k5⟩, k6, k7, k8, k9, k10, k11⟩ := hI
      rw [List.getElem?_map] at hx
      cases q1 : os[i]? with
      | none =>
        rw [q1] at hx
        cases hx
      | some z =>
        rw [q1] at hx
        cases hx
        have hi := (List.getElem?_eq_some_iff.mp q1).1
        have eqB : (3 - i) * Pn 4 = (3 - (i + 1)) * Pn 4 + Pn 4 := by
          obtain ⟨t, ht⟩ : ∃ t, 3 - i = t + 1 := ⟨3 - i - 1, by omega⟩
          rw [ht, show 3 - (i + 1) = t by omega, Nat.succ_mul]
        rw [eqB] at k11
        dsimp only [gName, List.set]
        refine ⟨.ref p, rfl, .ref pl, rfl, .int (room : Nat), rfl, p, l, pl, cs, rs, os, room, false, 0, [], b + (3 - (i + 1)) * Pn 4, rfl, ⟨kx, c1, r1, o1, k1, x1, x2, x3, k3, k4, k5⟩, hN, ⟨z5, by decide, rfl⟩, ⟨(fun h => nomatch h), (fun h => nomatch h), fun x h => nomatch h⟩, k11.less (by omega), fun a ss H8 px8 pen8 d8 ok8 => ?_⟩
        have n1 := strs_off k11 k3
        have n2 := strs_off k11 k4
        have n3 := strs_off k11 k5
        have m1 := px8.get npl.1 npl.2 k1
        have m2 := px8.get nbd.1 nbd.2 k2
        have m3 := px8.get n1.1 n1.2 k3
        have m4 := px8.get n2.1 n2.2 k4
        have m5 := px8.get n3.1 n3.2 k5
        have nE : ∀ {a : Addr} {zs : List Str}, H8 a = some (.lst (zs.map V.str)) → a ≠ bd := fun h e => by rw [e, m2] at h; cases h
        have ln := len_cnt' (n := 4) (ss := ss) (by decide)
        have fw := ok8.few
        have t8 : Tt 9 (.tuple ss) := .tup (by omega) ok8.tt
        refine ⟨.ref pl, rfl, pl, .ref bd, rfl, .inl ⟨kx, Sum.inr "bodies", .inl m1, rfl, x5.symm⟩, .str z, rfl, bd, _, rfl, .inl ⟨bk, Sum.inr z, m2, rfl, small1000 (by omega), rfl⟩, ?_⟩
        have lk := length_putK bk (Sum.inr z) (V.ref a)
        refine ⟨putK bk (Sum.inr z) (V.ref a), bds ++ [ss], _, rfl, (upd_ne (Ne.symm npb)).trans m1, upd_same, ⟨(upd_ne (nE m3)).trans m3, (upd_ne (nE m4)).trans m4, (upd_ne (nE m5)).trans m5⟩, by rw [List.length_append, k6]; rfl, by omega, fun j z' ss' hj hb => ?_, fun x hx => ?_, (k10.trans px8).upd (.inr (.inr hbd0)), pen8.upd nbd.1 nbd.2⟩
        · rcases Nat.lt_or_ge j bds.length with h | h
          · rw [List.getElem?_append_left h] at hb
            obtain ⟨a', ha', da'⟩ := k8 j z' ss' hj hb
            have hz : z' ≠ z := by
              intro e
              subst e
              obtain ⟨b1, b2⟩ := List.getElem?_eq_some_iff.mp hj
              obtain ⟨b3, b4⟩ := List.getElem?_eq_some_iff.mp q1
              exact (List.pairwise_iff_getElem.mp hok3.1) j i b1 b3 (by omega) (b2.trans b4.symm)
            refine ⟨a', ?_, ?_⟩
            · rw [valV_put, if_neg (fun e => hz (Sum.inr.inj e))]
              exact ha'
            · have hm := List.mem_of_getElem? hb
              have ok' := k9 ss' hm
              have ln' := len_cnt' (n := 4) (ss := ss') (by decide)
              have fw' := ok'.few
              exact dp_dk m2 (n := 9) (.tup (by omega) ok'.tt) (dp_px k11 px8 (m := 9) (.tup (by omega) ok'.tt) da')
          · rw [List.getElem?_append_right h] at hb
            have j0 : j - bds.length = 0 := by
              rcases Nat.eq_zero_or_pos (j - bds.length) with y | y
              · exact y
              · rw [List.getElem?_eq_none (show [ss].length ≤ j - bds.length from y)] at hb
                cases hb
            rw [j0] at hb
            cases hb
            have ji : j = i := by omega
            subst ji
            rw [q1] at hj
            cases hj
            exact ⟨a, by rw [valV_put, if_pos rfl], dp_dk m2 t8 d8⟩
        · rcases List.mem_append.mp hx with h | h
          · exact k9 x h
          · rw [List.mem_singleton.mp h]
            exact ok8
    · obtain ⟨bk, bds, v7, rfl, k1, k2, ⟨k3, k4, k5⟩, k6, k7, k8, k9, k10, k11⟩ := hI
      rw [List.length_map] at k6
      exact ⟨.ref pl, rfl, kk pl cs rs os st bds H' k10 (k11.less (by omega)) ⟨kx, c1, r1, o1, bd, bk, k1, x1, x2, x3, x4, x5, k3, k4, k5, k2, k6, k8, by rw [List.length_map] at k7; omega, npb⟩ ⟨hsz2, hok2, hst⟩ k9⟩

end
end K06
set_option Elab.async false
set_option linter.all false
set_option maxRecDepth 100000
set_option maxHeartbeats 8000000
namespace K06
open PySem PySem.Spec PyProof.Rows L2 He XH XV XR PEN TR Evl


def spDrawn (K : PySem.W.Frag) : Sp := fun vs H Q _ => ∃ p l room b, vs = [.ref p, .int (room : Nat)] ∧ room ≤ 14 ∧ Pen p l (b + (203 + 3 * Pn 4)) H ∧ ∀ pl cs rs os st bds H', Px p l H H' → Pen p l b H' → PlF K H' pl cs rs os st bds → Names cs rs os st → (∀ ss ∈ bds, BodV cs rs os ss) → Q (.ref pl) H'
def spCode (K : PySem.W.Frag) : Sp := fun vs H Q _ => ∃ pl cs rs os st bds, vs = [.ref pl] ∧ PlF K H pl cs rs os st bds ∧ Names cs rs os st ∧ (∀ ss ∈ bds, BodV cs rs os ss) ∧ ∀ a c r f fos H', Ex H H' → Cd K H' a c r f cs rs os st fos bds → Q (.ref a) H'
theorem PlF.mono {K : PySem.W.Frag} {H H' : Hp} {pl : Addr} {cs rs os : List Str} {st : Str} {bds : List (List PyData)} (e : Ex H H') (h : PlF K H pl cs rs os st bds) : PlF K H' pl cs rs os st bds := by
  obtain ⟨kvs, c, r, o, bd, bk, k1, k2, k3, k4, k5, k6, k7, k8, k9, k10, k11, k12⟩ := h
  refine ⟨kvs, c, r, o, bd, bk, e _ _ k1, k2, k3, k4, k5, k6, e _ _ k7, e _ _ k8, e _ _ k9, e _ _ k10, k11, fun i z ss h1 h2 => ?_, k12.2⟩
  obtain ⟨b, h3, h4⟩ := k12.1 i z ss h1 h2
  exact ⟨b, h3, dpM e _ _ h4⟩

section
variable {P : Program} {w : World} {K : PySem.W.Frag} {mg : Str → Option Value} {base : Heap}

theorem ok_law_drawn {fd : FuncData} (F : FnP K "_law_drawn" "_law_drawn" s_law_drawn (ga K "_law_drawn") fd) (T : Tx K w mg) (c_law_draw : Cl P w K mg base CX0 1 (ga K "_law_draw") ["_law_pen", "_law_many"] spDraw) (c_law_plan : Cl P w K mg base CX0 12 (ga K "_law_plan") ["_law_pen", "_law_cells", "_law_rows", "_law_many", "_law_room"] (spPlan K)) : FnOk P w K mg base CX0 (12 + 1) (ga K "_law_drawn") fd ["_law_pen", "_law_room"] (spDrawn K) := by
  obtain ⟨fd_law_draw, G_law_draw, b_law_draw, kp_law_draw⟩ := c_law_draw
  obtain ⟨fd_law_plan, G_law_plan, b_law_plan, kp_law_plan⟩ := c_law_plan
  refine FunD.ok F sc_law_drawn (fun vs H Q E h => ?_) (fun cdv A outer s H vs Q E hr h => ?_)
  · obtain ⟨p, l, room, b, rfl, _⟩ := h
    rfl
  · obtain ⟨p, l, room, b, rfl, hr5, hP, kk⟩ := h
    have g_law_plan := T.gl "_law_plan" (by decide +kernel)
    have g_law_draw := T.gl "_law_draw" (by decide +kernel)
    refine ⟨_, PSs.nox (pss_one (ps_ret (pe_call G_law_plan (hr.mono (by decide)) (by rfl) g_law_plan kp_law_plan b_law_plan .nil pass0 (pa_cons (pv 0) (pa_cons (pe_call G_law_draw (hr.mono (by decide)) (by rfl) g_law_draw kp_law_draw b_law_draw .nil pass0 (pa_cons (pv 0) (pa_cons pe_int pa_nil))) (pa_cons (pe_call G_law_draw (hr.mono (by decide)) (by rfl) g_law_draw kp_law_draw b_law_draw .nil pass0 (pa_cons (pv 0) (pa_cons pe_int pa_nil))) (pa_cons (pe_op op_add pe_int (pe_call G_law_draw (hr.mono (by decide)) (by rfl) g_law_draw kp_law_draw b_law_draw .nil pass0 (pa_cons (pv 0) (pa_cons pe_int pa_nil)))) (pa_cons (pv 1) pa_nil)))))))), ?_⟩
    refine ⟨.ref p, rfl, .ref p, rfl, p, l, 4, b + (202 + 3 * Pn 4), rfl, ⟨by decide, by decide⟩, hP, fun r1 H1 q1 px1 pen1 => ?_⟩
    refine ⟨.ref p, rfl, p, l, 3, b + (201 + 3 * Pn 4), rfl, ⟨by decide, by decide⟩, pen1, fun r2 H2 q2 px2 pen2 => ?_⟩
    refine ⟨.ref p, rfl, p, l, 3, b + (200 + 3 * Pn 4), rfl, ⟨by decide, by decide⟩, pen2, fun r3 H3 q3 px3 pen3 => ⟨1, r3, rfl, rfl, ?_⟩⟩
    obtain ⟨n1, rfl, l1⟩ := nat_of q1
    obtain ⟨n2, rfl, l2⟩ := nat_of q2
    obtain ⟨n3, rfl, l3⟩ := nat_of q3
    refine ⟨.int (room : Nat), rfl, p, l, n1, n2, 1 + n3, room, b, (by rw [show (((1 + n3 : Nat)) : Int) = 1 + (n3 : Int) by omega]; rfl), ⟨by omega, by omega, by omega, by omega, hr5⟩, pen3, fun pl cs rs os st bds H4 px4 pen4 hF hN hB => ?_⟩
    exact kk pl cs rs os st bds H4 (((px1.trans px2).trans px3).trans px4) pen4 hF hN fun ss hs => part_body (hB ss hs) hr5

theorem ok_law_code {fd : FuncData} (F : FnP K "_law_code" "_law_code" s_law_code (ga K "_law_code") fd) (T : Tx K w mg) (c_Function_init : Cl P w K mg base CX0 12 (ma K (ga K "Function") "__init__") ["self", "name", "body"] (spFI K)) (c_Code_init : Cl P w K mg base CX0 8 (ma K (ga K "Code") "__init__") ["self", "cells", "rows", "functions", "start"] (spCI K)) : FnOk P w K mg base CX0 (13 + 1) (ga K "_law_code") fd ["_law_plan_here"] (spCode K) := by
  obtain ⟨fd_Function_init, G_Function_init, b_Function_init, kp_Function_init⟩ := c_Function_init
  obtain ⟨fd_Code_init, G_Code_init, b_Code_init, kp_Code_init⟩ := c_Code_init
  refine FunD.ok F sc_law_code (fun vs H Q E h => ?_) (fun cdv A outer s H vs Q E hr h => ?_)
  · obtain ⟨pl, cs, rs, os, st, bds, rfl, _⟩ := h
    rfl
  · obtain ⟨pl, cs, rs, os, st, bds, rfl, hF, hN, hB, kk⟩ := h
    have g_Function := T.gl "Function" (by decide +kernel)
    have g_Code := T.gl "Code" (by decide +kernel)
    have n_list := T.fr "list" (by decide +kernel)
    refine ⟨_, PSs.nox (pss_cons (ps_setLc (i := 1) (own := [("_law_name_here", 2)]) (g := gName 2) (by rfl) sc_law_code.nd rfl rfl (sw_true rfl rfl rfl (by decide +kernel)) (pi_list (pe_dget (Nat.lt_of_le_of_lt (Nat.add_le_add_left (by decide) _) hr.units) (pv 0) pe_str (fun _ _ => rfl))) (blkOk_by (own := [("_law_name_here", 2)]) (N := ["_law_plan_here", "_law_functions", "_law_name_here"]) (sc := defScope s_law_code) (by decide +kernel)) (fun _ _ _ _ _ => (pg_name (i := 2) sc_law_code.nd rfl (Or.inl rfl))) (fun _ _ _ _ _ => pts_nil) (fun _ _ _ _ _ => (pe_make T.mf G_Function_init (hr.mono (by decide)) (by rfl) g_Function b_Function_init .nil pass0 (pa_cons (pv 2) (pa_cons (pe_dget (Nat.lt_of_le_of_lt (Nat.add_le_add_left (by decide) _) hr.units) (pe_dget (Nat.lt_of_le_of_lt (Nat.add_le_add_left (by decide) _) hr.units) (pv 0) pe_str (fun _ _ => rfl)) (pv 2) (fun _ _ => rfl)) pa_nil)))))
      (pss_one (ps_ret (pe_make T.mc G_Code_init (hr.mono (by decide)) (by rfl) g_Code b_Code_init .nil pass0 (pa_cons (pe_callTy call_list_of (by rfl) n_list (by decide +kernel) (pa_cons (pe_dget (Nat.lt_of_le_of_lt (Nat.add_le_add_left (by decide) _) hr.units) (pv 0) pe_str (fun _ _ => rfl)) pa_nil)) (pa_cons (pe_callTy call_list_of (by rfl) n_list (by decide +kernel) (pa_cons (pe_dget (Nat.lt_of_le_of_lt (Nat.add_le_add_left (by decide) _) hr.units) (pv 0) pe_str (fun _ _ => rfl)) pa_nil)) (pa_cons (pv 1) (pa_cons (pe_dget (Nat.lt_of_le_of_lt (Nat.add_le_add_left (by decide) _) hr.units) (pv 0) pe_str (fun _ _ => rfl)) pa_nil)))))))), ?_⟩
    obtain ⟨kvs, c, r, o, bd, bk, k1, k2, k3, k4, k5, k6, k7, k8, k9, k10, k11, k12⟩ := id hF
    have z := hN.sz
    refine ⟨.ref pl, rfl, pl, .ref o, rfl, .inl ⟨kvs, Sum.inr "order", .inl k1, rfl, k4.symm⟩, o, rfl, ⟨_, sq_of k9⟩, fun D hD => ?_⟩
    refine lc_list (xs := os.map V.str) (fun j H' => ∃ fos : List Addr, fos.length = j ∧ (∀ (k : Nat) (f : Addr) (z : Str) (ss : List PyData), fos[k]? = some f → os[k]? = some z → bds[k]? = some ss → Fn K H' f z ss) ∧ H' D = some (.lst (fos.map V.ref)) ∧ Ex H H')
      ⟨[], rfl, (fun k f z ss h => nomatch h), upd_same, Ex.new hD⟩ (fun j H' _ hJ => ?_) (fun j x H' hx hJ => ?_) (fun HC hJ => ?_)
    · obtain ⟨fos, e1, e2, e3, e4⟩ := hJ
      exact sq_of (e4 _ _ k9)
    · obtain ⟨fos, e1, e2, e3, e4⟩ := hJ
      rw [List.getElem?_map] at hx
      cases w1 : os[j]? with
      | none =>
        rw [w1] at hx
        cases hx
      | some y =>
        rw [w1] at hx
        cases hx
        have hj := (List.getElem?_eq_some_iff.mp w1).1
        have w2 : bds[j]? = some (bds[j]'(by rw [k11]; exact hj)) := List.getElem?_eq_getElem _
        generalize bds[j]'(by rw [k11]; exact hj) = ssj at w2
        obtain ⟨ba, hba, dba⟩ := k12.1 j y ssj w1 w2
        refine ⟨rfl, yes_go ⟨.str y, rfl, .ref pl, rfl, pl, .ref bd, rfl, .inl ⟨kvs, Sum.inr "bodies", .inl (e4 _ _ k1), rfl, k6.symm⟩, .str y, rfl, bd, .ref ba, rfl, .inl ⟨bk, Sum.inr y, .inl (e4 _ _ k10), rfl, hba.symm⟩, fun x dx hx hdx hne => ?_⟩⟩
        have hx2 : upd H' dx (.own x) x = none := (upd_ne (Ne.symm hne)).trans hx
        have e5 : Ex H' (upd (upd H' dx (.own x)) x (.ins (ga K "Function") dx [])) := (Ex.new hdx).trans (Ex.new hx2)
        have e6 := e4.trans e5
        refine ⟨x, y, ba, ssj, dx, rfl, upd_same, dpM e6 _ _ dba, (hB ssj (List.mem_of_getElem? w2)).1, fun H2 x2 hFn => ⟨rfl, ?_⟩⟩
        have e7 : Ex H' H2 := Xa.new e5 hx x2
        have hDl := e7 _ _ e3
        have fnu : ∀ {f : Addr} {z : Str} {ss : List PyData}, ss ∈ bds → Fn K H2 f z ss → Fn K (upd H2 D (.lst (fos.map V.ref ++ [.ref x]))) f z ss := by
          intro f z ss hm hf
          obtain ⟨dx2, b, n, g1, g2⟩ := hf
          obtain ⟨m, _, tt⟩ := (hB ss hm).1.1
          refine ⟨dx2, b, n, (upd_ne ?_).trans g1, dp_off hDl tt g2⟩
          rintro rfl
          rw [hDl] at g1
          cases g1
        refine ⟨_, hDl, ?_, fos ++ [x], ?_, ?_, ?_, (e4.trans e7).mut hD⟩
        · rw [List.length_map]
          exact small1000 (by omega)
        · rw [List.length_append, e1]
          rfl
        · intro k f z ss hk hz hb
          rcases Nat.lt_or_ge k fos.length with h | h
          · rw [List.getElem?_append_left h] at hk
            exact fnu (List.mem_of_getElem? hb) ((e2 k f z ss hk hz hb).mono e7)
          · rw [List.getElem?_append_right h] at hk
            have j0 : k - fos.length = 0 := by
              rcases Nat.eq_zero_or_pos (k - fos.length) with y0 | y0
              · exact y0
              · rw [List.getElem?_eq_none (show [x].length ≤ k - fos.length from y0)] at hk
                cases hk
            rw [j0] at hk
            cases hk
            have kj : k = j := by omega
            subst kj
            rw [w1] at hz
            rw [w2] at hb
            cases hz
            cases hb
            exact fnu (List.mem_of_getElem? w2) hFn
        · rw [upd_same, List.map_append]
          rfl
    obtain ⟨fos, e1, e2, e3, e4⟩ := hJ
    rw [List.length_map] at e1
    have hFs : Fns K HC fos os bds := ⟨e1, k11, e2⟩
    refine ⟨.ref pl, rfl, pl, .ref c, rfl, .inl ⟨kvs, Sum.inr "cells", .inl (e4 _ _ k1), rfl, k2.symm⟩, c, _, rfl, .inl (sq_of (e4 _ _ k7)), fun c2 hc2 => ?_⟩
    have a1 := Ex.new (o := .lst (cs.map V.str)) hc2
    refine ⟨.ref pl, rfl, pl, .ref r, rfl, .inl ⟨kvs, Sum.inr "rows", .inl (a1 _ _ (e4 _ _ k1)), rfl, k3.symm⟩, r, _, rfl, .inl (sq_of (a1 _ _ (e4 _ _ k8))), fun r2 hr2 => ?_⟩
    have a2 := a1.trans (Ex.new (o := .lst (rs.map V.str)) hr2)
    refine ⟨.ref D, rfl, .ref pl, rfl, pl, .str st, rfl, .inl ⟨kvs, Sum.inr "start", .inl (a2 _ _ (e4 _ _ k1)), rfl, k5.symm⟩, fun x dx hx hdx hne => ?_⟩
    have hx2 : upd (upd (upd HC c2 (.lst (cs.map V.str))) r2 (.lst (rs.map V.str))) dx (.own x) x = none := (upd_ne (Ne.symm hne)).trans hx
    have a3 := (Ex.new (o := .own x) hdx).trans (Ex.new (o := .ins (ga K "Code") dx []) hx2)
    have a4 := a2.trans a3
    refine ⟨x, c2, r2, D, cs, rs, os, st, fos, bds, dx, rfl, upd_same, a3 _ _ (Ex.new hr2 _ _ upd_same), a3 _ _ upd_same, a4 _ _ e3, hFs.mono a4, hN, hB, fun u1 u2 u3 H2 x2 hC => ⟨rfl, ?_⟩⟩
    exact kk x u1 u2 u3 fos H2 ((e4.trans a2).trans (Xa.new a3 hx x2)) hC

end
end K06
set_option Elab.async false
set_option linter.all false
set_option maxRecDepth 100000
set_option maxHeartbeats 8000000
namespace K06
open PySem PySem.Spec PyProof.Rows L2 He XH XV XR PEN TR Evl


/-! ### statements of any kind -/
def JW : List Str := ["jump", "copy"]
def kof (w : Str) : Option (List Str) := (ENT.find? fun p => decide (p.1 = w)).map (·.2)
theorem kof_ent : ∀ p ∈ ENT, kof p.1 = some p.2 := by decide +kernel
theorem kof_jw : ∀ w ∈ JW, kof w = none := by decide +kernel
theorem kof_mem {w : Str} {ks : List Str} (h : kof w = some ks) : (w, ks) ∈ ENT := by
  unfold kof at h
  cases hf : ENT.find? fun p => decide (p.1 = w) with
  | none =>
    rw [hf] at h
    cases h
  | some p =>
    rw [hf] at h
    cases h
    have m := List.mem_of_find?_eq_some hf
    have p0 := List.find?_some hf
    have e : p.1 = w := of_decide_eq_true p0
    rw [← e]
    exact m
def Wd (w : Str) : Prop := (∃ ks, (w, ks) ∈ ENT) ∨ w ∈ JW
/-- parts as the program takes them: tuples that stand where a part is due -/
def partsG : PyData → List PyData
  | .tuple (.str w :: args) => (match kof w with
    | some ks => ((args.zip ks).filter fun p => decide (p.2 = ("part" : Str)) && isP p.1).map (·.1)
    | none => [])
  | _ => []
/-- a statement: a word, known or not, and up to three texts and tuples; those of a known word with as many entries as it wants are texts and tuples where it wants them -/
def Sg (d : PyData) : Prop := ∃ w args, d = .tuple (.str w :: args) ∧ Wd w ∧ args.length ≤ 3 ∧ (∀ x ∈ args, isP x = true ∨ ∃ z, x = .str z) ∧
  ∀ ks, kof w = some ks → args.length = ks.length → ∀ (i : Nat) (k : Str) (x : PyData), ks[i]? = some k → args[i]? = some x → isP x = decide (k = ("part" : Str))
theorem partsG_sub {d x : PyData} (h : x ∈ partsG d) : x ∈ argsOf d ∧ isP x = true := by
  match d, h with
  | .tuple (.str w :: args), h =>
    unfold partsG at h
    cases hk : kof w with
    | none =>
      simp only [hk] at h
      cases h
    | some ks =>
      simp only [hk] at h
      obtain ⟨p, hp, e⟩ := List.mem_map.mp h
      obtain ⟨h1, h2⟩ := List.mem_filter.mp hp
      rw [Bool.and_eq_true] at h2
      rw [← e]
      exact ⟨(List.of_mem_zip h1).1, h2.2⟩
  | .tuple [], h => cases h
  | .tuple (.none :: _), h => cases h
  | .tuple (.bool _ :: _), h => cases h
  | .tuple (.int _ :: _), h => cases h
  | .tuple (.list _ :: _), h => cases h
  | .tuple (.tuple _ :: _), h => cases h
  | .tuple (.dict _ :: _), h => cases h
  | .none, h => cases h
  | .bool _, h => cases h
  | .int _, h => cases h
  | .str _, h => cases h
  | .list _, h => cases h
  | .dict _, h => cases h
theorem partsG_len {d : PyData} (h : Sg d) : (partsG d).length ≤ 3 := by
  obtain ⟨w, args, rfl, _, hl, _, _⟩ := h
  unfold partsG
  dsimp only
  split
  · rw [List.length_map]
    refine Nat.le_trans (List.length_filter_le _ _) ?_
    rw [List.length_zip]
    omega
  · exact Nat.zero_le _
def numsG : Nat → List PyData → List PyData → List (PyData × List PyData)
  | 0, _, _ => []
  | n + 1, ss, ar => ss.flatMap fun s => (s, ar) :: ((partsG s).zipIdx.flatMap fun p => numsG n (bodyOf p.1) (ar ++ [.tuple [wordOf s, .int (p.2 : Nat)]]))
def oneG (n : Nat) (as : List PyData) (s : PyData) (p : PyData × Nat) : List (PyData × List PyData) := numsG n (bodyOf p.1) (as ++ [.tuple [wordOf s, .int (p.2 : Nat)]])
def oneGS (n : Nat) (as : List PyData) (s : PyData) : List (PyData × List PyData) := (s, as) :: ((partsG s).zipIdx.flatMap (oneG n as s))
theorem numsG_S (n : Nat) (ss as : List PyData) : numsG (n + 1) ss as = ss.flatMap (oneGS n as) := rfl
def BodG : Nat → List PyData → Prop
  | 0, ss => ss = []
  | n + 1, ss => ∀ s ∈ ss, Sg s ∧ ∀ p ∈ argsOf s, isP p = true → ∃ ds, p = .tuple ds ∧ BodG n ds
def spKdG (K : PySem.W.Frag) : Sp := fun vs H Q _ => ∃ t w rest, vs = [.ref t] ∧ SqT K H t (.str w :: rest) ∧ Wd w ∧ (∀ ks, kof w = some ks → ∀ a H', (∀ H, SqT K H a (ks.map V.str)) → Ex H H' → Q (.ref a) H') ∧ (kof w = none → ∀ H', Ex H H' → Q .non H')
def spPtG (K : PySem.W.Frag) : Sp := fun vs H Q _ => ∃ v d n, vs = [v] ∧ Dp K H v d ∧ Tt n d ∧ Sg d ∧ ∀ q ys H', H q = none → Ex H H' → H' q = some (.lst ys) → DpAll K H' ys (partsG d) → Q (.ref q) H'
def spNumG (K : PySem.W.Frag) (n : Nat) : Sp := fun vs H Q _ => ∃ b ar ss as m m2, vs = [.ref b, .ref ar] ∧ Dp K H (.ref b) (.tuple ss) ∧ Dp K H (.ref ar) (.tuple as) ∧ Tts m ss ∧ Tts m2 as ∧ as.length + n ≤ 60 ∧ (numsG n ss as).length ≤ 1000 ∧ BodG n ss ∧
  ∀ q prs H', H q = none → Ex H H' → H' q = some (.lst (prs.map V.ref)) → Prs K H' prs (numsG n ss as) → Q (.ref q) H'

section
variable {P : Program} {w : World} {K : PySem.W.Frag} {mg : Str → Option Value} {base : Heap}

theorem ok_kindsG {fd : FuncData} (F : FnP K "kinds_of" "kinds_of" s_kinds_of (ga K "kinds_of") fd) (T : Tx K w mg) : FnOk P w K mg base CX0 (0 + 1) (ga K "kinds_of") fd ["statement"] (spKdG K) := by
  refine FunD.ok F sc_kinds_of (fun vs H Q E h => ?_) (fun cdv A outer s H vs Q E hr h => ?_)
  · obtain ⟨t, w, rest, rfl, _⟩ := h
    rfl
  · obtain ⟨t, wd, rest, rfl, ht, hw, kk, kn⟩ := h
    have n_isinstance := T.fr "isinstance" (by decide +kernel)
    have n_tuple := T.fr "tuple" (by decide +kernel)
    have n_str := T.fr "str" (by decide +kernel)
    have g_ENTRIES := T.gl "ENTRIES" (by decide +kernel)
    refine ⟨_, PSs.nox (pss_cons (ps_if (PW.pt (pw_and (pt_val (pe_callB call_isi (by rfl) n_isinstance (by decide +kernel) (pa_cons (pv 0) (pa_cons (pe_bltn (v := .ty "tuple") (by rfl) n_tuple (by decide +kernel) rfl) pa_nil)))) (pw_and (pt_truth (pv 0) (fun _ => rfl)) (pw_and1 (pt_val (pe_callB call_isi (by rfl) n_isinstance (by decide +kernel) (pa_cons (pe_ix ix_tup (pv 0) pe_int (fun _ _ => rfl)) (pa_cons (pe_bltn (v := .ty "str") (by rfl) n_str (by decide +kernel) rfl) pa_nil))))))))
      (pss_one (ps_ret (pe_kget (pe_glob (v := .ref _) (by rfl) g_ENTRIES rfl) (pe_ix ix_tup (pv 0) pe_int (fun _ _ => rfl)) ⟨rfl, rfl, rfl, rfl⟩)))
      pss_nil)
      (pss_one (ps_ret pe_non))), ?_⟩
    obtain ⟨es, n, hD, hE⟩ := T.en
    refine q_when (b := true) (et_is (et_and (et_B (ev_cb (ea_cons (ev_var rfl) (ea_cons ev_c ea_nil)) fun H1 e Q q => ⟨.ref t, .ty "tuple", .type "tuple", .type "tuple", true, rfl, .ty _, tyx_t (ex_t e ht), kit_ty (by decide +kernel), q H1 (Ex.refl _)⟩)) fun _ =>
      et_and (b := true) (a := true) (fun H1 e Q q => ev_var rfl H1 e _ fun H2 e2 => ⟨true, (show TruV K (.ref t) H2 true from Or.inr (Or.inl ⟨_, ex_t e2 (ex_t e ht), rfl⟩)), q H2 e2⟩) fun _ => et_B (ev_cb (ea_cons (ev_op (ev_var rfl) ev_c (rv_ixT ht (v := .str wd) (atI_nat (j := 0) rfl))) (ea_cons ev_c ea_nil)) isi_str)) rfl) (fun _ H1 e1 => ?_) (fun hb => nomatch hb)
    rcases hw with ⟨ks, hk⟩ | hj
    · obtain ⟨a, hN, hA⟩ := hE _ hk
      exact ⟨_, es, n, rfl, hD, .ref t, rfl, t, _, 0, .str wd, rfl, rfl, ex_t e1 ht, atI_nat (j := 0) rfl, wd, _, .ref a, rfl, hN, rfl, kk ks (kof_ent _ hk) a H1 hA e1⟩
    · exact ⟨_, es, n, rfl, hD, .ref t, rfl, t, _, 0, .str wd, rfl, rfl, ex_t e1 ht, atI_nat (j := 0) rfl, wd, _, .non, rfl, T.ej _ hj, rfl, kn (kof_jw _ hj) H1 e1⟩

theorem ok_partsG {fd : FuncData} (F : FnP K "parts_of" "parts_of" s_parts_of (ga K "parts_of") fd) (T : Tx K w mg) (c_kinds_of : Cl P w K mg base CX0 1 (ga K "kinds_of") ["statement"] (spKdG K)) : FnOk P w K mg base CX0 (1 + 1) (ga K "parts_of") fd ["statement"] (spPtG K) := by
  obtain ⟨fd_kinds_of, G_kinds_of, b_kinds_of, kp_kinds_of⟩ := c_kinds_of
  refine FunD.ok F sc_parts_of (fun vs H Q E h => ?_) (fun cdv A outer s H vs Q E hr h => ?_)
  · obtain ⟨v, d, n, rfl, _⟩ := h
    rfl
  · obtain ⟨v, d, n, rfl, hd, htt, hsh, kk⟩ := h
    have g_kinds_of := T.gl "kinds_of" (by decide +kernel)
    have n_zip := T.fr "zip" (by decide +kernel)
    have n_isinstance := T.fr "isinstance" (by decide +kernel)
    have n_tuple := T.fr "tuple" (by decide +kernel)
    refine ⟨_, PSs.nox (pss_cons (ps_set (i := 1) sc_parts_of.nd rfl (Or.inl rfl) (pe_call G_kinds_of (hr.mono (by decide)) (by rfl) g_kinds_of kp_kinds_of b_kinds_of .nil pass0 (pa_cons (pv 0) pa_nil)))
      (pss_cons (ps_if (pt_cmpR op_isN (pv 1) pe_non (nomark _))
      (pss_one (ps_ret (pe_lst pa_nil)))
      pss_nil)
      (pss_one (ps_ret (pe_lc (own := [("entry", 2), ("kind", 3)]) (g := _) (by rfl) sc_parts_of.nd (RZ.pi_zipA (by rfl) n_zip (pa_cons (pe_slice sl_tup (pv 0) (po_some pe_int) po_none) (pa_cons (pv 1) pa_nil))) (blkOk_by (own := [("entry", 2), ("kind", 3)]) (N := ["statement", "kinds", "entry", "kind"]) (sc := defScope s_parts_of) (by decide +kernel)) (fun _ _ _ _ _ => (pg_tupc (K := K) (n := 2) rfl rfl (pgs_cons (pg_name (i := 2) sc_parts_of.nd rfl (Or.inl rfl)) (pgs_cons (pg_name (i := 3) sc_parts_of.nd rfl (Or.inl rfl)) pgs_nil)))) (fun _ _ _ _ _ => (pts_one (PW.pt (pw_and (pt_cmpR op_eq (pv 3) pe_str (nomark _)) (pw_and1 (pt_val (pe_callB (call_isi : CallR _ _ (rIsi K)) (by rfl) n_isinstance (by decide +kernel) (pa_cons (pv 2) (pa_cons (pe_bltn (v := .ty "tuple") (by rfl) n_tuple (by decide +kernel) rfl) pa_nil))))))))) (fun _ _ _ _ _ => (pv 2))))))), ?_⟩
    obtain ⟨wd, args, rfl, hw, hl3, hst, hty⟩ := hsh
    cases htt with
    | @tup m _ hlen hts =>
      cases hts with
      | cons ht1 hts =>
        cases hd with
        | @tup a xs _ hx hxs =>
          cases hxs with
          | @cons v0 rest _ _ h0 hr' =>
            cases h0
            have lr := dpAll_len hr'
            refine ⟨.ref a, rfl, a, wd, rest, rfl, hx, hw, fun ks hk ak H1 hA e1 => ?_, fun hk H1 e1 => ?_⟩
            · have pG : partsG (.tuple (.str wd :: args)) = ((args.zip ks).filter fun p => decide (p.2 = ("part" : Str)) && isP p.1).map (·.1) := by
                unfold partsG
                simp only [hk]
              rw [pG] at kk
              dsimp only [gName, List.set]
              refine q_when (b := false) (et_test fun H2 e2 R q => ⟨.ref ak, rfl, rfl, q H2 (Ex.refl _)⟩) (fun hb => nomatch hb) (fun _ H2 e2 => ?_)
              have e12 := e1.trans e2
              refine ⟨.ref a, rfl, 1, rfl, a, _, rfl, ex_t e12 hx, ?_, fun p hp => ⟨.ref ak, rfl, p, ak, _, _, rfl, .inr ⟨st_of upd_same, hA _, fun D hD => ?_⟩⟩⟩
              · intro h
                have h1 := h.1
                rw [show ((1 : Int)) = ((1 : Nat) : Int) from rfl, HT.sIx_nat] at h1
                simp only [List.length_cons] at h1
                omega
              have hcut : cutV (V.str wd :: rest) (some 1) none = rest := by
                rw [show ((1 : Int)) = ((1 : Nat) : Int) from rfl, cut_drop]
                rfl
              rw [hcut] at hD ⊢
              have e3 := e12.trans ((Ex.new (o := .tup rest) hp).trans (Ex.new (o := .lst []) hD))
              refine lc_it (walk_zipT (xs := rest) (ys := ks.map V.str) rfl) (fun i H' => ∃ ys, ys.length ≤ i ∧ Ex (upd H2 p (.tup rest)) H' ∧ H' D = some (.lst ys) ∧ DpAll K H' ys ((((args.zip ks).take i).filter fun p => decide (p.2 = ("part" : Str)) && isP p.1).map (·.1))) ⟨[], Nat.le_refl _, Ex.new hD, upd_same, .nil⟩ (fun i H' _ hI => ?_) (fun i x H3 H4 hi hI hy => ?_) (fun H3 hI => ?_)
              · obtain ⟨ys, f1, f2, f3, f4⟩ := hI
                exact ⟨st_of (f2 _ _ upd_same), hA _⟩
              · obtain ⟨ys, f1, f2, f3, f4⟩ := hI
                obtain ⟨tq, x1, y1, rfl, hT, rfl, p1, p2⟩ := hy
                replace p1 : rest[i]? = some x1 := p1
                replace p2 : (ks.map V.str)[i]? = some y1 := p2
                obtain ⟨di, hdi, hxi⟩ := dpAll_at hr' p1
                rw [List.getElem?_map] at p2
                cases hki : ks[i]? with
                | none =>
                  rw [hki] at p2
                  cases p2
                | some k =>
                  rw [hki] at p2
                  cases p2
                  have tdi := hts.at di (List.mem_of_getElem? hdi)
                  have zi : (args.zip ks)[i]? = some (di, k) := by
                    rw [List.getElem?_zip_eq_some]
                    exact ⟨hdi, hki⟩
                  have f5 : Ex (upd H2 p (.tup rest)) (upd H3 tq (.tup [x1, .str k])) := f2.trans (Ex.new hT)
                  refine ⟨tq, [x1, .str k], rfl, st_of upd_same, rfl, x1, [.str k], rfl, .str k, [], rfl, rfl, rfl, ?_⟩
                  have tst : (decide (V.str k = V.str "part") && isP di) = (decide (k = ("part" : Str)) && isP di) := by
                    congr 1
                    exact decide_eq_decide.mpr ⟨fun h => V.str.inj h, fun h => by rw [h]⟩
                  have hx4 : Dp K (upd H3 tq (.tup [x1, .str k])) x1 di := dpM (e12.trans ((Ex.new hp).trans f5)) _ _ hxi
                  refine go_test (b := decide (k = ("part" : Str)) && isP di) (et_is (et_and (b := isP di) (et_test (ev_op (ev_var rfl) ev_c (rv_eq rfl))) fun hkp => et_B (ev_cb (ea_cons (ev_var rfl) (ea_cons ev_c ea_nil)) fun H5 e Q2 q2 => ?_)) tst) fun H5 e5 => ?_
                  · rcases hst di (List.mem_of_getElem? hdi) with hq | ⟨z, rfl⟩
                    · cases di with
                      | tuple es =>
                        cases dpM e _ _ hx4 with
                        | @tup b zs _ hzs _ => exact ⟨.ref b, .ty "tuple", .type "tuple", .type "tuple", true, rfl, .ty _, tyx_t hzs, kit_ty (by decide +kernel), q2 H5 (Ex.refl _)⟩
                      | none => cases hq
                      | bool _ => cases hq
                      | int _ => cases hq
                      | str _ => cases hq
                      | list _ => cases hq
                      | dict _ => cases hq
                    · cases hx4
                      exact ⟨.str z, .ty "tuple", .type "str", .type "tuple", false, rfl, .ty _, .base (.str z), kit_ty (by decide +kernel), q2 H5 (Ex.refl _)⟩
                  have g3 := e5 _ _ (Ex.new hT _ _ f3)
                  have g4 := dpMs ((Ex.new hT).trans e5) _ _ f4
                  have tk : (((args.zip ks).take (i + 1)).filter fun p => decide (p.2 = ("part" : Str)) && isP p.1).map (·.1) = (((args.zip ks).take i).filter fun p => decide (p.2 = ("part" : Str)) && isP p.1).map (·.1) ++ (if (decide (k = ("part" : Str)) && isP di) = true then [di] else []) := by
                    rw [take_more zi, List.filter_append, List.map_append]
                    congr 1
                    by_cases hq : (decide (k = ("part" : Str)) && isP di) = true
                    · rw [if_pos hq, List.filter_cons_of_pos (by exact hq)]
                      rfl
                    · rw [if_neg hq, List.filter_cons_of_neg (by exact hq)]
                      rfl
                  have off : ∀ y ∈ (((args.zip ks).take i).filter fun p => decide (p.2 = ("part" : Str)) && isP p.1).map (·.1), Tt m y := fun y hy => by
                    obtain ⟨pp, hpp, e⟩ := List.mem_map.mp hy
                    have h1 := List.mem_of_mem_take (List.mem_filter.mp hpp).1
                    rw [← e]
                    exact hts.at _ (List.of_mem_zip h1).1
                  refine ite2 (fun hq => ?_) (fun hq => ?_)
                  · refine ⟨x1, rfl, ys, g3, small1000 ?_, ys ++ [x1], ?_, (f5.trans e5).mut hD, upd_same, ?_⟩
                    · simp only [List.length_cons] at hlen
                      have hi2 := (List.getElem?_eq_some_iff.mp hdi).1
                      omega
                    · rw [List.length_append]
                      show ys.length + 1 ≤ i + 1
                      omega
                    · rw [tk, if_pos hq]
                      exact dpAll_add (dps_off g3 (n := m) (Tts.of off) g4) (dp_off g3 tdi (dpM e5 _ _ hx4))
                  · refine ⟨ys, by omega, f5.trans e5, g3, ?_⟩
                    rw [tk, if_neg hq, List.append_nil]
                    exact g4
              · obtain ⟨ys, f1, f2, f3, f4⟩ := hI
                rw [List.length_map, lr, show (args.zip ks).take (min args.length ks.length) = args.zip ks from List.take_of_length_le (by rw [List.length_zip]; exact Nat.le_refl _)] at f4
                exact kk D ys H3 (fresh_back (e12.trans (Ex.new hp)) hD) ((e12.trans (Ex.new hp)).trans f2) f3 f4
            · have pG : partsG (.tuple (.str wd :: args)) = [] := by
                unfold partsG
                simp only [hk]
              rw [pG] at kk
              dsimp only [gName, List.set]
              refine q_when (b := true) (et_test fun H2 e2 R q => ⟨.non, rfl, rfl, q H2 (Ex.refl _)⟩) (fun _ H2 e2 => ?_) (fun hb => nomatch hb)
              exact ⟨(show 0 ≤ sizeLine by decide), fun D hD => kk D [] _ (fresh_back (e1.trans e2) hD) ((e1.trans e2).trans (Ex.new hD)) upd_same .nil⟩

end
end K06
set_option Elab.async false
set_option linter.all false
set_option maxRecDepth 100000
set_option maxHeartbeats 8000000
namespace K06
open PySem PySem.Spec PyProof.Rows L2 He XH XV XR PEN TR Evl

section
variable {P : Program} {w : World} {K : PySem.W.Frag} {mg : Str → Option Value} {base : Heap}

theorem ok_numG0 {fd : FuncData} (F : FnP K "numbered" "numbered" s_numbered (ga K "numbered") fd) (T : Tx K w mg) : FnOk P w K mg base CX0 (0 + 1) (ga K "numbered") fd ["body", "around"] (spNumG K 0) := by
  refine FunD.ok F sc_numbered (fun vs H Q E h => ?_) (fun cdv A outer s H vs Q E hr h => ?_)
  · obtain ⟨b, ar, ss, as, m, m2, rfl, _⟩ := h
    rfl
  · obtain ⟨b, ar, ss, as, m, m2, rfl, hb, ha, hts, hta, _, _, hB, kk⟩ := h
    refine ⟨_, PSs.nox (pss_cons (ps_set (i := 2) sc_numbered.nd rfl (Or.inl rfl) (pe_lst pa_nil))
      (pss_cons (ps_for PassesOwn.never rfl (pi_tup (pv 0)) (pg_name (i := 3) sc_numbered.nd rfl (Or.inl rfl))
      (pss_cons ps_never
      (pss_one ps_never)))
      (pss_one (ps_ret (pv 2))))), ?_⟩
    have e0 : ss = [] := hB
    subst e0
    cases hb with
    | @tup _ xs _ hx hxs =>
      cases hxs
      refine q_asgL (el_lst ea_nil (by decide)) fun D H1 hD e1 h1 => ?_
      dsimp only [gName, List.set]
      refine ⟨.ref b, rfl, b, rfl, ⟨_, ex_t e1 hx⟩, ?_⟩
      refine for_tup (xs := []) (fun i σ' H' => σ' = _ ∧ H' = H1) ⟨rfl, rfl⟩ (fun i σ' H' _ hI => by rw [hI.2]; exact ex_t e1 hx) (fun i x σ' H' hx hI => nomatch hx) (fun σ' H' hI => ?_)
      rw [hI.1, hI.2]
      exact ⟨.ref D, rfl, kk D [] H1 hD e1 h1 .nil⟩

theorem ok_numGS {fd : FuncData} {n k : Nat} (hk2 : 2 ≤ k) (F : FnP K "numbered" "numbered" s_numbered (ga K "numbered") fd) (T : Tx K w mg) (c_parts_of : Cl P w K mg base CX0 2 (ga K "parts_of") ["statement"] (spPtG K)) (c_numbered : Cl P w K mg base CX0 k (ga K "numbered") ["body", "around"] (spNumG K n)) : FnOk P w K mg base CX0 (k + 1) (ga K "numbered") fd ["body", "around"] (spNumG K (n + 1)) := by
  obtain ⟨fd_parts_of, G_parts_of, b_parts_of, kp_parts_of⟩ := c_parts_of
  obtain ⟨fd_numbered, G_numbered, b_numbered, kp_numbered⟩ := c_numbered
  refine FunD.ok F sc_numbered (fun vs H Q E h => ?_) (fun cdv A outer s H vs Q E hr h => ?_)
  · obtain ⟨b, ar, ss, as, m, m2, rfl, _⟩ := h
    rfl
  · obtain ⟨b, ar, ss, as, m, m2, rfl, hb, ha, hts, hta, hal, tot0, hB, kk⟩ := h
    have n_enumerate := T.fr "enumerate" (by decide +kernel)
    have g_parts_of := T.gl "parts_of" (by decide +kernel)
    have g_numbered := T.gl "numbered" (by decide +kernel)
    refine ⟨_, PSs.nox (pss_cons (ps_set (i := 2) sc_numbered.nd rfl (Or.inl rfl) (pe_lst pa_nil))
      (pss_cons (ps_for PassesOwn.never rfl (pi_tup (pv 0)) (pg_name (i := 3) sc_numbered.nd rfl (Or.inl rfl))
      (pss_cons (ps_expr (pe_bm PySem.F.plainAttrs_list PySem.F.slot_list_append PySem.F.type_list_append mt_append (pv 2) (pa_cons (pe_tup (pa_cons (pv 3) (pa_cons (pv 1) pa_nil))) pa_nil)))
      (pss_one (ps_for PassesOwn.never rfl (pi_enum (by rfl) n_enumerate (pa_cons (pe_call G_parts_of (hr.mono hk2) (by rfl) g_parts_of kp_parts_of b_parts_of .nil pass0 (pa_cons (pv 3) pa_nil)) pa_nil)) (pg_tup rfl (pgs_cons (pg_name (i := 4) sc_numbered.nd rfl (Or.inl rfl)) (pgs_cons (pg_name (i := 5) sc_numbered.nd rfl (Or.inl rfl)) pgs_nil)))
      (pss_one (ps_expr (pe_bm PySem.F.plainAttrs_list PySem.F.slot_list_extend PySem.F.type_list_extend mt_extend (pv 2) (pa_cons (pe_call G_numbered (hr.mono (Nat.le_refl _)) (by rfl) g_numbered kp_numbered b_numbered .nil pass0 (pa_cons (pv 5) (pa_cons (pe_op op_cat2 (pv 1) (pe_tup (pa_cons (pe_tup (pa_cons (pe_ix ix_tup (pv 3) pe_int (fun _ _ => rfl)) (pa_cons (pv 4) pa_nil))) pa_nil))) pa_nil))) pa_nil))))))))
      (pss_one (ps_ret (pv 2))))), ?_⟩
    have tot : (ss.flatMap (oneGS n as)).length ≤ 1000 := tot0
    cases hb with
    | @tup _ xs _ hx hxs =>
      have lx := dpAll_len hxs
      refine q_asgL (el_lst ea_nil (by decide)) fun D H1 hD e1 h1 => ?_
      dsimp only [gName, List.set]
      refine ⟨.ref b, rfl, b, rfl, ⟨_, ex_t e1 hx⟩, ?_⟩
      refine for_tup (xs := xs) (fun i σ' H' => ∃ prs v3 v4 v5, σ' = [some (.ref b), some (.ref ar), some (.ref D), v3, v4, v5] ∧ H' D = some (.lst (prs.map V.ref)) ∧ Ex H H' ∧ Prs K H' prs ((ss.take i).flatMap (oneGS n as)))
        ⟨[], _, _, _, rfl, h1, e1, .nil⟩ (fun i σ' H' _ hI => ?_) (fun i x σ' H' hxi hI => ?_) (fun σ' H' hI => ?_)
      · obtain ⟨prs, v3, v4, v5, rfl, f1, f2, f3⟩ := hI
        exact ex_t f2 hx
      · obtain ⟨prs, v3, v4, v5, rfl, f1, f2, f3⟩ := hI
        obtain ⟨s, hs, hxs'⟩ := dpAll_at hxs hxi
        have hsm := List.mem_of_getElem? hs
        obtain ⟨shs, hps⟩ := hB s hsm
        have tts := hts.at s hsm
        have lp := f3.len
        have le1 := flat_le (oneGS n as) ss i
        dsimp only [gName, List.set]
        obtain ⟨wd, args, es, hwd, hl3, hst, hty⟩ := id shs
        subst es
        cases hxs' with
        | @tup t rest0 _ ht hrest =>
          cases hrest with
          | @cons v0 rest _ _ hv0 hrest =>
            cases hv0
            have hxs2 : Dp K H (.ref t) (.tuple (.str wd :: args)) := .tup ht (.cons (.str wd) hrest)
            generalize hS : PyData.tuple (.str wd :: args) = s at *
            have hw : wordOf s = .str wd := by rw [← hS]; rfl
            have tot1 : ((ss.take i).flatMap (oneGS n as)).length + (oneGS n as s).length ≤ 1000 := by
              have z := flat_le (oneGS n as) ss (i + 1)
              rw [flat_more (oneGS n as) hs, List.length_append] at z
              omega
            have one1 : (oneGS n as s).length = 1 + ((partsG s).zipIdx.flatMap (oneG n as s)).length := by
              show (_ :: _).length = _
              rw [List.length_cons]
              omega
            refine ⟨.ref D, rfl, .inl ⟨rfl, _, sq_of f1⟩, .ref t, rfl, .ref ar, rfl, (show 2 ≤ sizeLine by decide), fun p hp => ⟨D, prs.map V.ref, .ref p, rfl, rfl, Ex.new hp _ _ f1, ?_, ?_⟩⟩
            · rw [List.length_map, sizeLine_eq]
              omega
            have g1 := f2.trans (Ex.new (o := .tup [.ref t, .ref ar]) hp)
            have nb : Prs K (upd H' p (.tup [.ref t, .ref ar])) (prs ++ [p]) ((ss.take i).flatMap (oneGS n as) ++ [(s, as)]) := (f3.mono (Ex.new hp)).app (.cons upd_same (dpM g1 _ _ hxs2) (dpM g1 _ _ ha) tts (.tup (by omega) hta) .nil)
            have nb2 := nb.off (o := .lst (prs.map V.ref ++ [.ref p])) (Ex.new hp _ _ f1)
            have g2 : Ex H (upd (upd H' p (.tup [.ref t, .ref ar])) D (.lst (prs.map V.ref ++ [.ref p]))) := g1.mut hD
            have g3 : upd (upd H' p (.tup [.ref t, .ref ar])) D (.lst (prs.map V.ref ++ [.ref p])) D = some (.lst ((prs ++ [p]).map V.ref)) := by rw [upd_same, List.map_append]; rfl
            generalize upd (upd H' p (.tup [.ref t, .ref ar])) D (.lst (prs.map V.ref ++ [.ref p])) = H3 at nb2 g2 g3
            refine ⟨.ref t, rfl, .ref t, s, m, rfl, dpM g2 _ _ hxs2, tts, shs, fun q ys H4 hq e4 h4 hys => ⟨q, ys, rfl, sq_of h4, ?_⟩⟩
            have nqD : q ≠ D := fun e => by rw [e, g3] at hq; cases hq
            have lys := dpAll_len hys
            refine for_it (walk_enum (xs := ys)) (fun j σ' H' => ∃ prs2 v4' v5', σ' = [some (.ref b), some (.ref ar), some (.ref D), some (.ref t), v4', v5'] ∧ H' D = some (.lst (prs2.map V.ref)) ∧ Ex H H' ∧ (H' q = some (.lst ys) ∧ DpAll K H' ys (partsG s)) ∧ Prs K H' prs2 ((ss.take i).flatMap (oneGS n as) ++ ((s, as) :: ((partsG s).zipIdx.take j).flatMap (oneG n as s))))
              ⟨prs ++ [p], _, _, rfl, e4 _ _ g3, g2.trans e4, ⟨h4, hys⟩, nb2.mono e4⟩ (fun j σ' H' _ hI => ?_) (fun j x σ' H5 H6 hj hI hy => ?_) (fun σ' H' hI => ?_)
            · obtain ⟨prs2, v4', v5', rfl, k1, k2, k3, k4⟩ := hI
              exact sq_of k3.1
            · obtain ⟨prs2, v4', v5', rfl, k1, k2, ⟨k3, k3'⟩, k4⟩ := hI
              obtain ⟨tq, x1, y1, rfl, hT, rfl, p1, p2⟩ := hy
              cases p1
              replace p2 : ys[j]? = some y1 := p2
              obtain ⟨pd, hpd, hpv⟩ := dpAll_at k3' p2
              obtain ⟨ds, rfl, hbd⟩ := hps pd (partsG_sub (List.mem_of_getElem? hpd)).1 (partsG_sub (List.mem_of_getElem? hpd)).2
              have mz : (partsG s).zipIdx[j]? = some (.tuple ds, j) := by
                rw [List.getElem?_zipIdx, hpd]
                simp
              have g5 : Ex H (upd H5 tq (.tup [.int (j : Nat), y1])) := k2.trans (Ex.new hT)
              have g6 := g5
              cases hpv with
              | @tup pb pvs _ hpb hpvs =>
                have tpd : Tt m (.tuple ds) ∨ True := .inr True.intro
                obtain ⟨m', tds, wlen, mp, tps⟩ : ∃ m', Tts m' ds ∧ wd.length ≤ 1000 ∧ ∃ mp, Tts mp (partsG s) := by
                  have z := (List.mem_of_getElem? hpd)
                  have z2 : PyData.tuple ds ∈ args := by
                    have z4 := (partsG_sub z).1
                    rw [← hS] at z4
                    exact z4
                  rw [← hS] at tts
                  cases tts with
                  | tup _ q1 =>
                    cases q1 with
                    | cons q0 q2 =>
                      have z3 := q2.at _ z2
                      cases q0 with
                      | str q5 =>
                        cases z3 with
                        | tup _ z4 => exact ⟨_, z4, q5, _, Tts.of fun y hy => q2.at y (by have z5 := (partsG_sub hy).1; rw [← hS] at z5; exact z5)⟩
                refine ⟨tq, [.int (j : Nat), .ref pb], rfl, st_of upd_same, rfl, .int (j : Nat), [.ref pb], rfl, .ref pb, [], rfl, rfl, ?_⟩
                dsimp only [gName, List.set]
                have kD := Ex.new (o := .tup [.int (j : Nat), .ref pb]) hT _ _ k1
                refine ⟨.ref D, rfl, .inl ⟨rfl, _, sq_of kD⟩, .ref pb, rfl, .ref ar, rfl, .ref t, rfl, t, _, 0, .str wd, rfl, rfl, ex_t g5 ht, atI_nat (j := 0) rfl, .int (j : Nat), rfl, (show 2 ≤ sizeLine by decide), fun i1 hi1 => ⟨(show 1 ≤ sizeLine by decide), fun i2 hi2 => ?_⟩⟩
                have tot2 := flat_le (oneG n as s) (partsG s).zipIdx (j + 1)
                rw [flat_more (oneG n as s) mz, List.length_append] at tot2
                have g7 := (Ex.new (o := .tup [.str wd, .int (j : Nat)]) hi1).trans (Ex.new (o := .tup [.ref i1]) hi2)
                have dd : Dp K (upd (upd (upd H5 tq (.tup [.int (j : Nat), .ref pb])) i1 (.tup [.str wd, .int (j : Nat)])) i2 (.tup [.ref i1])) (.ref i1) (.tuple [wordOf s, .int (j : Nat)]) := by
                  rw [hw]
                  exact .tup (st_of (Ex.new hi2 _ _ upd_same)) (.cons (.str wd) (.cons (.int _) .nil))
                refine cat_go (K := K) (dpM (g5.trans g7) _ _ ha) (st_of upd_same) dd (by omega) fun av H7 e7 d7 => ?_
                have g8 := g7.trans e7
                have g9 : Ex H5 H7 := (Ex.new hT).trans g8
                refine ⟨pb, av, ds, as ++ [.tuple [wordOf s, .int (j : Nat)]], m', m2 + 1, rfl, dpM g9 _ _ (.tup hpb hpvs), d7, tds, ?_, (by rw [List.length_append]; show as.length + 1 + n ≤ 60; omega), (by show (oneG n as s (.tuple ds, j)).length ≤ 1000; omega), hbd, fun qn prs3 H8 hqn e8 h8 hP => ?_⟩
                · rw [hw]
                  exact hta.up.app (.cons (.tup (show 2 ≤ 100 by decide) (.cons (.str wlen) (.cons (.int _) .nil))) .nil)
                have kD8 := e8 _ _ (g8 _ _ kD)
                have l3 := hP.len
                have l4 := k4.len
                rw [List.length_append, List.length_cons] at l4
                have l3' : prs3.length = (oneG n as s (.tuple ds, j)).length := l3
                refine ⟨D, qn, prs2.map V.ref, prs3.map V.ref, rfl, rfl, kD8, h8, ?_, prs2 ++ prs3, _, _, rfl, by rw [upd_same, List.map_append], (k2.trans (g9.trans e8)).mut hD, ⟨?_, ?_⟩, ?_⟩
                · rw [List.length_map, List.length_map, sizeLine_eq]
                  omega
                · exact (upd_ne nqD).trans (e8 _ _ (g9 _ _ k3))
                · exact dps_off kD8 tps (dpMs (g9.trans e8) _ _ k3')
                · rw [show ((partsG s).zipIdx.take (j + 1)).flatMap (oneG n as s) = ((partsG s).zipIdx.take j).flatMap (oneG n as s) ++ oneG n as s (.tuple ds, j) from flat_more _ mz, ← List.cons_append, ← List.append_assoc]
                  exact ((k4.mono (g9.trans e8)).app hP).off kD8
            · obtain ⟨prs2, v4', v5', rfl, k1, k2, k3, k4⟩ := hI
              refine ⟨prs2, _, _, _, rfl, k1, k2, ?_⟩
              rw [show (partsG s).zipIdx.take ys.length = (partsG s).zipIdx from List.take_of_length_le (by rw [List.length_zipIdx]; omega)] at k4
              rw [flat_more (oneGS n as) hs]
              exact k4
      · obtain ⟨prs, v3, v4, v5, rfl, f1, f2, f3⟩ := hI
        rw [List.take_of_length_le (by omega)] at f3
        exact ⟨.ref D, rfl, kk D prs H' hD f2 f1 f3⟩

end
end K06
set_option Elab.async false
set_option linter.all false
set_option maxRecDepth 100000
set_option maxHeartbeats 8000000
namespace K06
open PySem PySem.Spec PyProof.Rows L2 He XH XV XR PEN TR Evl


def NB : Nat := 24
def BodTG (ss : List PyData) : Prop := Tt 50 (.tuple ss) ∧ BodG NB ss ∧ (numsG NB ss []).length ≤ 200
def spFIG (K : PySem.W.Frag) : Sp := fun vs H Q _ => ∃ a nm b ss dx, vs = [.ref a, .str nm, .ref b] ∧ H a = some (.ins (ga K "Function") dx []) ∧ Dp K H (.ref b) (.tuple ss) ∧ BodTG ss ∧ ∀ H', Xa a H H' → Fn K H' a nm ss → Q .non H'
def fitsB (cs rs fs : List Str) (k : Str) (x : PyData) : Bool := if k = ("part" : Str) then isP x else match x with
  | .str z => decide (z ∈ nmsOf cs rs fs k)
  | _ => false
def wfB (cs rs fs : List Str) : PyData → Bool
  | .tuple (.str w :: args) => (match kof w with
    | some ks => decide (args.length = ks.length) && ((args.zip ks).all fun p => fitsB cs rs fs p.2 p.1)
    | none => false)
  | _ => false
def misB (w : Str) (ps : List (Str × Nat)) : Bool := (decide (w ∈ RND) && !decide (("tries" : Str) ∈ ps.map (·.1))) || (decide ((("lastly" : Str), (1 : Nat)) ∈ ps) && !decide (w ∈ CHG))
def spFitsG (K : PySem.W.Frag) : Sp := fun vs H Q _ => ∃ x k nm d cs rs fs, vs = [x, .str k, .ref nm] ∧ Dp K H x d ∧ Nm K H nm cs rs fs ∧ (k = "part" ∨ k ∈ five) ∧ (isP d = true ∨ ∃ z, d = .str z) ∧ isP d = decide (k = ("part" : Str)) ∧ ∀ H', Ex H H' → Q (.bl (fitsB cs rs fs k d)) H'
def spWellG (K : PySem.W.Frag) : Sp := fun vs H Q _ => ∃ v nm d cs rs fs, vs = [v, .ref nm] ∧ Dp K H v d ∧ Nm K H nm cs rs fs ∧ Sg d ∧ ∀ H', Ex H H' → Q (.bl (wfB cs rs fs d)) H'
def spMisG (K : PySem.W.Frag) : Sp := fun vs H Q _ => ∃ w ar ps, vs = [.str w, .ref ar] ∧ Dp K H (.ref ar) (.tuple (ps.map blk)) ∧ (∀ p ∈ ps, p.1 ∈ words) ∧ ps.length ≤ 60 ∧ ∀ H', Ex H H' → Q (.bl (misB w ps)) H'
theorem eqv_blk2 (ps : List (Str × Nat)) : ((ps.map blk).any fun z => PyData.eqv z lst1) = decide ((("lastly" : Str), (1 : Nat)) ∈ ps) := by
  by_cases h : (("lastly" : Str), (1 : Nat)) ∈ ps
  · rw [decide_eq_true h, List.any_eq_true]
    exact ⟨blk ("lastly", 1), List.mem_map.mpr ⟨_, h, rfl⟩, by decide +kernel⟩
  · rw [decide_eq_false h, List.any_eq_false]
    intro z hz hz2
    obtain ⟨pp, hpp, rfl⟩ := List.mem_map.mp hz
    rw [eqv_blk pp hz2] at hpp
    exact h hpp

theorem el_words60 {K : PySem.W.Frag} {te : TE} {σ : L2.St} {H : Hp} {ar : Addr} {ps : List (Str × Nat)} {j : Nat} {vs : List Nat} (ht : Ev te σ H (.ref ar)) (hd : Dp K H (.ref ar) (.tuple (ps.map blk))) (hl : ps.length ≤ 60)
    (hw : ∀ x, wipe ((wipe σ vs).set j (some x)) vs = wipe σ vs) (hj : ∀ x, ((wipe σ vs).set j (some x))[j]? = some (some x)) : EvL (tLc (iTup K te) (gName j) tYes (tOp (rIxT K) (tVar j) (tC (.int 0))) vs) σ H ((ps.map (·.1)).map V.str) := fun H0 e Q q => ht H0 e _ fun H1 e1 => by
  cases dpM (e.trans e1) _ _ hd with
  | @tup _ xs _ hx hxs =>
    have lx := dpAll_len hxs
    refine ⟨ar, rfl, ⟨_, hx⟩, fun D hD => ?_⟩
    refine lc_tup (xs := xs) (fun i H' => Ex H1 H' ∧ H' D = some (.lst (((ps.take i).map (·.1)).map V.str))) ⟨Ex.new hD, upd_same⟩ (fun i H' _ hI => ex_t hI.1 hx) (fun i x H2 hxi hI => ?_) (fun H2 hI => ?_)
    · obtain ⟨e2, h2⟩ := hI
      obtain ⟨di, hdi, hxd⟩ := dpAll_at hxs hxi
      rw [List.getElem?_map] at hdi
      cases p1 : ps[i]? with
      | none =>
        rw [p1] at hdi
        cases hdi
      | some p =>
        rw [p1] at hdi
        cases hdi
        cases hxd with
        | @tup b zs _ hz hzs =>
          cases hzs with
          | cons h1 hr =>
            cases h1
            refine ⟨hw _, yes_go ⟨.ref b, hj _, b, _, 0, .str p.1, rfl, rfl, ex_t e2 hz, atI_nat (j := 0) rfl, _, h2, ?_, e2.mut hD, ?_⟩⟩
            · rw [List.length_map, List.length_map, List.length_take]
              exact small1000 (by omega)
            · rw [upd_same, take_more p1, List.map_append, List.map_append]
              rfl
    · obtain ⟨e2, h2⟩ := hI
      rw [lx, List.length_map, List.take_of_length_le (Nat.le_refl _)] at h2
      exact q D H2 (fresh_back e1 hD) (e1.trans e2) h2

section
variable {P : Program} {w : World} {K : PySem.W.Frag} {mg : Str → Option Value} {base : Heap}

theorem ok_finitG {fd : FuncData} {f : Addr} (F : FnP K "__init__" "Function.__init__" s_Function_init f fd) (T : Tx K w mg) (c_frozen : Cl P w K mg base CX0 51 (ga K "frozen") ["thing"] (spFr K 50)) (c_numbered : Cl P w K mg base CX0 51 (ga K "numbered") ["body", "around"] (spNumG K NB)) : FnOk P w K mg base CX0 (51 + 1) f fd ["self", "name", "body"] (spFIG K) := by
  obtain ⟨fd_frozen, G_frozen, b_frozen, kp_frozen⟩ := c_frozen
  obtain ⟨fd_numbered, G_numbered, b_numbered, kp_numbered⟩ := c_numbered
  refine FunD.ok F sc_Function_init (fun vs H Q E h => ?_) (fun cdv A outer s H vs Q E hr h => ?_)
  · obtain ⟨a, nm, b, ss, dx, rfl, _⟩ := h
    rfl
  · obtain ⟨a, nm, b, ss, dx, rfl, ha, hb, ⟨htt, hbod, hlen⟩, kk⟩ := h
    have g_frozen := T.gl "frozen" (by decide +kernel)
    have n_len := T.fr "len" (by decide +kernel)
    have g_numbered := T.gl "numbered" (by decide +kernel)
    refine ⟨_, PSs.nox (pss_cons (ps_fld (pv 0) (pv 1) rfl)
      (pss_cons (ps_fld (pv 0) (pe_call G_frozen (hr.mono (by decide)) (by rfl) g_frozen kp_frozen b_frozen .nil pass0 (pa_cons (pv 2) pa_nil)) rfl)
      (pss_one (ps_fld (pv 0) (pe_callB call_len_seq (by rfl) n_len (by decide +kernel) (pa_cons (pe_call G_numbered (hr.mono (by decide)) (by rfl) g_numbered kp_numbered b_numbered .nil pass0 (pa_cons (pe_fld (pv 0) rfl) (pa_cons (pe_tup pa_nil) pa_nil))) pa_nil)) rfl)))), ?_⟩
    refine ⟨.str nm, rfl, .ref a, rfl, a, _, dx, [], rfl, ha, T.cf, T.nf "name" (by decide +kernel), by decide, ?_⟩
    have e1 : upd H a (.ins (ga K "Function") dx (putF "name" (.str nm) [])) a = some (.ins (ga K "Function") dx [("name", .str nm)]) := upd_same
    generalize hH1 : upd H a (.ins (ga K "Function") dx (putF "name" (.str nm) [])) = H1 at e1
    have x1 : Xa a H H1 := by rw [← hH1]; exact Xa.upd
    have hb1 := dp_xa x1 ha _ _ hb
    refine ⟨.ref b, rfl, .ref b, .tuple ss, rfl, hb1, htt, fun u H2 e2 h2 => ?_⟩
    cases h2 with
    | @tup u xs _ hu2 hxs2 =>
    refine ⟨.ref a, rfl, a, _, dx, _, rfl, e2 _ _ e1, T.cf, T.nf "body" (by decide +kernel), (show 1 < 1000 by decide), ?_⟩
    rw [putF_tail (by decide +kernel)]
    have e3 : upd H2 a (.ins (ga K "Function") dx (("name", .str nm) :: putF "body" (.ref u) [])) a = some (.ins (ga K "Function") dx [("name", .str nm), ("body", .ref u)]) := upd_same
    generalize hH3 : upd H2 a (.ins (ga K "Function") dx (("name", .str nm) :: putF "body" (.ref u) [])) = H3 at e3
    have x3 : Xa a H2 H3 := by rw [← hH3]; exact Xa.upd
    have h3 : Dp K H3 (.ref u) (.tuple ss) := dp_xa x3 (e2 _ _ e1) _ _ (.tup hu2 hxs2)
    refine ⟨.ref a, rfl, a, _, dx, _, .ref u, rfl, e3, T.cf, T.nf "body" (by decide +kernel), rfl, (by decide), fun ar har => ?_⟩
    have e4 := Ex.new (o := .tup []) har
    have tss : Tts 49 ss := by
      cases htt with
      | tup _ q => exact q
    refine ⟨u, ar, ss, [], 49, 0, rfl, dpM e4 _ _ h3, .tup (st_of upd_same) .nil, tss, .nil, (by decide), (by omega), hbod, fun q prs H4 hq e5 h5 _ => ?_⟩
    refine ⟨q, _, rfl, .inl (sq_of h5), .ref a, rfl, a, _, dx, _, rfl, e5 _ _ (e4 _ _ e3), T.cf, T.nf "many" (by decide +kernel), (show 2 < 1000 by decide), ?_⟩
    rw [putF_tail (by decide +kernel), putF_tail (by decide +kernel)]
    have x4 : Xa a H3 H4 := Xa.of (e4.trans e5)
    exact kk _ (((x1.trans (Xa.of e2)).trans (x3.trans x4)).trans Xa.upd) ⟨dx, u, _, upd_same, dp_xa (C := ga K "Function") (dx := dx) Xa.upd (e5 _ _ (e4 _ _ e3)) _ _ (dpM (e4.trans e5) _ _ h3)⟩

theorem ok_fitsG {fd : FuncData} (F : FnP K "fits" "fits" s_fits (ga K "fits") fd) (T : Tx K w mg) : FnOk P w K mg base CX0 (0 + 1) (ga K "fits") fd ["entry", "kind", "names"] (spFitsG K) := by
  refine FunD.ok F sc_fits (fun vs H Q E h => ?_) (fun cdv A outer s H vs Q E hr h => ?_)
  · obtain ⟨x, k, nm, d, cs, rs, fs, rfl, _⟩ := h
    rfl
  · obtain ⟨x, k, nm, d, cs, rs, fs, rfl, hd, hN, hk, hst, hf, kk⟩ := h
    have n_isinstance := T.fr "isinstance" (by decide +kernel)
    have n_tuple := T.fr "tuple" (by decide +kernel)
    refine ⟨_, PSs.nox (pss_cons (ps_if (pt_cmpR op_eq (pv 1) pe_str (nomark _))
      (pss_one (ps_ret (pe_callB call_isi (by rfl) n_isinstance (by decide +kernel) (pa_cons (pv 0) (pa_cons (pe_bltn (v := .ty "tuple") (by rfl) n_tuple (by decide +kernel) rfl) pa_nil)))))
      pss_nil)
      (pss_one (ps_ret (pe_cmpR op_in_seq (pv 0) (pe_dget (Nat.lt_of_le_of_lt (Nat.add_le_add_left (by decide) _) hr.units) (pv 2) (pv 1) (fun _ _ => rfl)) (by rfl))))), ?_⟩
    unfold fitsB at kk
    refine q_when (b := decide (V.str k = V.str "part")) (et_test (ev_op (ev_var rfl) ev_c (rv_eq rfl))) (fun hb H1 e1 => ?_) (fun hb H1 e1 => ?_)
    · have e0 := of_decide_eq_true hb
      injection e0 with e0
      rw [decide_eq_true e0] at hf
      rw [if_pos e0, hf] at kk
      refine s_ret (ev_cb (ea_cons (ev_var rfl) (ea_cons ev_c ea_nil)) fun H2 e Q2 q2 => ?_) fun H2 e2 => kk H2 (e1.trans e2)
      cases d with
      | tuple es =>
        cases hd with
        | @tup b zs _ hzs _ => exact ⟨.ref b, .ty "tuple", .type "tuple", .type "tuple", true, rfl, .ty _, tyx_t (ex_t (e1.trans e) hzs), kit_ty (by decide +kernel), q2 H2 (Ex.refl _)⟩
      | none => cases hf
      | bool _ => cases hf
      | int _ => cases hf
      | str _ => cases hf
      | list _ => cases hf
      | dict _ => cases hf
    · have e0 := of_decide_eq_false hb
      have e3 : ¬ k = "part" := fun e => e0 (by rw [e])
      rw [decide_eq_false e3] at hf
      rw [if_neg e3] at kk
      obtain ⟨z, rfl⟩ := hst.resolve_left (by rw [hf]; exact Bool.false_ne_true)
      cases hd
      obtain ⟨kvs, g1, g2⟩ := hN
      obtain ⟨a, g3, g4⟩ := g2 k (hk.resolve_left e3)
      refine ⟨.str z, rfl, .ref nm, rfl, .str k, rfl, nm, .ref a, rfl, .inl ⟨kvs, Sum.inr k, .inl (e1 _ _ g1), rfl, g3.symm⟩, a, _, rfl, .inr (ex_t e1 g4), rfl, flat_strs _, ?_⟩
      show Q (.bl (if false = true then _ else inV (.str z) ((nmsOf cs rs fs k).map V.str))) H1
      rw [if_neg Bool.false_ne_true, inV_strs]
      exact kk H1 e1

theorem ok_wellG {fd : FuncData} (F : FnP K "well_formed" "well_formed" s_well_formed (ga K "well_formed") fd) (T : Tx K w mg) (c_kinds_of : Cl P w K mg base CX0 1 (ga K "kinds_of") ["statement"] (spKdG K)) (c_fits : Cl P w K mg base CX0 1 (ga K "fits") ["entry", "kind", "names"] (spFitsG K)) : FnOk P w K mg base CX0 (1 + 1) (ga K "well_formed") fd ["statement", "names"] (spWellG K) := by
  obtain ⟨fd_kinds_of, G_kinds_of, b_kinds_of, kp_kinds_of⟩ := c_kinds_of
  obtain ⟨fd_fits, G_fits, b_fits, kp_fits⟩ := c_fits
  refine FunD.ok F sc_well_formed (fun vs H Q E h => ?_) (fun cdv A outer s H vs Q E hr h => ?_)
  · obtain ⟨v, nm, d, cs, rs, fs, rfl, _⟩ := h
    rfl
  · obtain ⟨v, nm, d, cs, rs, fs, rfl, hd, hN, hW, kk⟩ := h
    have g_kinds_of := T.gl "kinds_of" (by decide +kernel)
    have n_len := T.fr "len" (by decide +kernel)
    have n_all := T.fr "all" (by decide +kernel)
    have n_zip := T.fr "zip" (by decide +kernel)
    have g_fits := T.gl "fits" (by decide +kernel)
    refine ⟨_, PSs.nox (pss_cons (ps_set (i := 2) sc_well_formed.nd rfl (Or.inl rfl) (pe_call G_kinds_of (hr.mono (by decide)) (by rfl) g_kinds_of kp_kinds_of b_kinds_of .nil pass0 (pa_cons (pv 0) pa_nil)))
      (pss_cons (ps_if (PW.pt (pw_or (pt_cmpR op_isN (pv 2) pe_non (nomark _)) (pw_or1 (pt_cmpR op_ne (pe_callB call_len_seq (by rfl) n_len (by decide +kernel) (pa_cons (pv 0) pa_nil)) (pe_op op_add pe_int (pe_callB call_len_seq (by rfl) n_len (by decide +kernel) (pa_cons (pv 2) pa_nil))) (nomark _)))))
      (pss_one (ps_ret pe_bl))
      pss_nil)
      (pss_one (ps_ret (pe_callB (cr_all rfl) (by rfl) n_all (by decide +kernel) (pa_cons (pe_lc (own := [("entry", 3), ("kind", 4)]) (g := _) (by rfl) sc_well_formed.nd (RZ.pi_zipA (by rfl) n_zip (pa_cons (pe_slice sl_tup (pv 0) (po_some pe_int) po_none) (pa_cons (pv 2) pa_nil))) (blkOk_by (own := [("entry", 3), ("kind", 4)]) (N := ["statement", "names", "kinds", "entry", "kind"]) (sc := defScope s_well_formed) (by decide +kernel)) (fun _ _ _ _ _ => (pg_tupc (K := K) (n := 2) rfl rfl (pgs_cons (pg_name (i := 3) sc_well_formed.nd rfl (Or.inl rfl)) (pgs_cons (pg_name (i := 4) sc_well_formed.nd rfl (Or.inl rfl)) pgs_nil)))) (fun _ _ _ _ _ => pts_nil) (fun _ _ _ _ _ => (pe_call G_fits (hr.mono (by decide)) (by rfl) g_fits kp_fits b_fits .nil pass0 (pa_cons (pv 3) (pa_cons (pv 4) (pa_cons (pv 1) pa_nil)))))) pa_nil)))))), ?_⟩
    obtain ⟨wd, args, rfl, hw, hl3, hst, hty⟩ := hW
    cases hd with
    | @tup a xs _ hx hxs =>
      cases hxs with
      | @cons v0 rest _ _ h0 hr' =>
        cases h0
        have lr := dpAll_len hr'
        have wE : ∀ o, kof wd = o → wfB cs rs fs (.tuple (.str wd :: args)) = (match o with | some ks => decide (args.length = ks.length) && ((args.zip ks).all fun p => fitsB cs rs fs p.2 p.1) | none => false) := fun o ho => by
          unfold wfB
          simp only [ho]
        refine ⟨.ref a, rfl, a, wd, rest, rfl, hx, hw, fun ks hk ak H1 hA e1 => ?_, fun hk H1 e1 => ?_⟩
        rotate_left
        · rw [wE none hk] at kk
          dsimp only [gName, List.set] at kk ⊢
          refine q_when (b := true) (et_or (a := true) (b := true) (et_test fun H2 e2 R q => ⟨.non, rfl, rfl, q H2 (Ex.refl _)⟩) (fun z => nomatch z)) (fun _ H2 e2 => ?_) (fun hb => nomatch hb)
          exact s_ret ev_c fun H3 e3 => kk H3 ((e1.trans e2).trans e3)
        rw [wE (some ks) hk] at kk
        dsimp only at kk
        dsimp only [gName, List.set]
        have hx1 := ex_t e1 hx
        have hkE := kof_mem hk
        have k3 := ent3 _ hkE
        refine q_when (b := !decide (args.length = ks.length)) (et_is (et_or (a := false) (b := !decide (args.length = ks.length)) (et_test fun H2 e2 R q => ⟨.ref ak, rfl, rfl, q H2 (Ex.refl _)⟩) fun _ => et_test (ev_is (ev_op (ev_cb (ea_cons (ev_var rfl) ea_nil) fun H2 e2 R q => ⟨a, _, rfl, .inr (ex_t e2 hx1), q H2 (Ex.refl _)⟩)
          (ev_op ev_c (ev_cb (ea_cons (ev_var rfl) ea_nil) fun H2 e2 R q => ⟨ak, _, rfl, .inr (hA _), q H2 (Ex.refl _)⟩) rv_I0) (rv_ne rfl)) ?_)) (Bool.false_or _)) (fun hb H2 e2 => ?_) (fun hb H2 e2 => ?_)
        · rw [List.length_map, List.length_cons, lr]
          refine congrArg (fun b => V.bl (!b)) (decide_eq_decide.mpr ⟨fun h => ?_, fun h => ?_⟩)
          · have := V.int.inj h
            omega
          · rw [h]
            exact congrArg V.int (by omega)
        · have hne : decide (args.length = ks.length) = false := by simpa using hb
          rw [hne] at kk
          exact s_ret ev_c fun H3 e3 => kk H3 ((e1.trans e2).trans e3)
        have hl : args.length = ks.length := by simpa using hb
        have hf := hty ks hk hl
        rw [decide_eq_true hl, Bool.true_and] at kk
        have e12 := e1.trans e2
        refine ⟨.ref a, rfl, 1, rfl, a, _, rfl, ex_t e12 hx, ?_, fun p hp => ⟨.ref ak, rfl, p, ak, _, _, rfl, .inr ⟨st_of upd_same, hA _, fun D hD => ?_⟩⟩⟩
        · intro h
          have h1 := h.1
          rw [show ((1 : Int)) = ((1 : Nat) : Int) from rfl, HT.sIx_nat] at h1
          simp only [List.length_cons] at h1
          omega
        have hcut : cutV (V.str wd :: rest) (some 1) none = rest := by
          rw [show ((1 : Int)) = ((1 : Nat) : Int) from rfl, cut_drop]
          rfl
        rw [hcut] at hD ⊢
        have e3 := e12.trans (Ex.new (o := .tup rest) hp)
        refine lc_it (walk_zipT (xs := rest) (ys := ks.map V.str) rfl) (fun i H' => Ex (upd H2 p (.tup rest)) H' ∧ H' D = some (.lst ((((args.zip ks).take i).map fun p => fitsB cs rs fs p.2 p.1).map V.bl))) ⟨Ex.new hD, upd_same⟩ (fun i H' _ hI => ?_) (fun i x H3 H4 hi hI hy => ?_) (fun H3 hI => ?_)
        · obtain ⟨f2, f3⟩ := hI
          exact ⟨st_of (f2 _ _ upd_same), hA _⟩
        · obtain ⟨f2, f3⟩ := hI
          obtain ⟨tq, x1, y1, rfl, hT, rfl, p1, p2⟩ := hy
          replace p1 : rest[i]? = some x1 := p1
          replace p2 : (ks.map V.str)[i]? = some y1 := p2
          obtain ⟨di, hdi, hxi⟩ := dpAll_at hr' p1
          rw [List.getElem?_map] at p2
          cases hki : ks[i]? with
          | none =>
            rw [hki] at p2
            cases p2
          | some k =>
            rw [hki] at p2
            cases p2
            have f5 : Ex (upd H2 p (.tup rest)) (upd H3 tq (.tup [x1, .str k])) := f2.trans (Ex.new hT)
            have f6 := e3.trans f5
            have hi3 := (List.getElem?_eq_some_iff.mp hki).1
            refine ⟨tq, [x1, .str k], rfl, st_of upd_same, rfl, x1, [.str k], rfl, .str k, [], rfl, rfl, rfl, yes_go ?_⟩
            refine ⟨x1, rfl, .str k, rfl, .ref nm, rfl, x1, k, nm, di, cs, rs, fs, rfl, dpM f6 _ _ hxi, hN.mono f6, kinds6 _ hkE k (List.mem_of_getElem? hki), hst di (List.mem_of_getElem? hdi), hf i k di hki hdi, fun H5 e5 => ⟨_, e5 _ _ (Ex.new hT _ _ f3), small1000 ?_, (f5.trans e5).mut hD, ?_⟩⟩
            · rw [List.length_map, List.length_map, List.length_take, List.length_zip]
              omega
            · have zi : (args.zip ks)[i]? = some (di, k) := by
                rw [List.getElem?_zip_eq_some]
                exact ⟨hdi, hki⟩
              rw [upd_same, take_more zi, List.map_append, List.map_append]
              rfl
        · obtain ⟨f2, f3⟩ := hI
          refine ⟨D, _, rfl, sq_of f3, ?_⟩
          rw [List.length_map, lr, show (args.zip ks).take (min args.length ks.length) = args.zip ks from List.take_of_length_le (by rw [List.length_zip]; exact Nat.le_refl _), List.all_map]
          exact kk H3 (e3.trans f2)

theorem ok_misG {fd : FuncData} (F : FnP K "misplaced" "misplaced" s_misplaced (ga K "misplaced") fd) (T : Tx K w mg) : FnOk P w K mg base CX0 (0 + 1) (ga K "misplaced") fd ["word", "around"] (spMisG K) := by
  refine FunD.ok F sc_misplaced (fun vs H Q E h => ?_) (fun cdv A outer s H vs Q E hr h => ?_)
  · obtain ⟨wd, ar, ps, rfl, _⟩ := h
    rfl
  · obtain ⟨wd, ar, ps, rfl, hd, hw, hl, kk⟩ := h
    have g_ROUND_WORDS := T.gl "ROUND_WORDS" (by decide +kernel)
    have g_CHANGE_WORDS := T.gl "CHANGE_WORDS" (by decide +kernel)
    refine ⟨_, PSs.nox (pss_cons (ps_if (PW.pt (pw_and (pt_cmpR op_in_seq (pv 0) (pe_glob (v := .ref _) (by rfl) g_ROUND_WORDS rfl) (by rfl)) (pw_and1 (pt_cmpR op_notIn_seq pe_str (pe_lc (own := [("block", 2)]) (g := gName 2) (by rfl) sc_misplaced.nd (pi_tup (pv 1)) (blkOk_by (own := [("block", 2)]) (N := ["word", "around", "block"]) (sc := defScope s_misplaced) (by decide +kernel)) (fun _ _ _ _ _ => (pg_name (i := 2) sc_misplaced.nd rfl (Or.inl rfl))) (fun _ _ _ _ _ => pts_nil) (fun _ _ _ _ _ => (pe_ix (ix_tup : IxR _ (rIxT K)) (pv 2) pe_int (fun _ _ => rfl)))) (by rfl)))))
      (pss_one (ps_ret pe_bl))
      pss_nil)
      (pss_one (ps_ret (pe_and (pe_cmpR (op_inDT (units65 hr)) (pe_tup (pa_cons pe_str (pa_cons pe_int pa_nil))) (pv 1) (by rfl)) (pe_one (pe_cmpR op_notIn_seq (pv 0) (pe_glob (v := .ref _) (by rfl) g_CHANGE_WORDS rfl) (by rfl))))))), ?_⟩
    refine q_when (b := decide (wd ∈ RND) && !decide (("tries" : Str) ∈ ps.map (·.1))) (et_and (et_test (by rw [← inV_strs]; exact ev_op (ev_var rfl) ev_c fun H1 e R q => ⟨_, RND.map V.str, rfl, .inr (T.ro _), rfl, flat_strs _, q H1 (Ex.refl _)⟩)) fun hr => et_test (ev_opL ev_c (el_words60 (ev_var rfl) hd hl (fun _ => rfl) (fun _ => rfl)) fun q H1 hq e => by
      rw [← inV_strs]
      exact rv_niL (K := K) (sq_of hq) rfl (flat_strs _))) (fun hb H1 e1 => ?_) (fun hb H1 e1 => ?_)
    · refine s_ret ev_c fun H2 e2 => ?_
      have := kk H2 (e1.trans e2)
      unfold misB at this
      rw [hb, Bool.true_or] at this
      exact this
    · unfold misB at kk
      rw [hb, Bool.false_or] at kk
      refine ⟨(by show 2 ≤ sizeLine; decide), fun p hp => ⟨.ref ar, rfl, lst1, ps.map blk, .tup (st_of upd_same) (.cons (.str _) (.cons (.int _) .nil)), dpM (e1.trans (Ex.new hp)) _ _ hd, by decide +kernel, shp_blks hw, _, rfl, ?_⟩⟩
      rw [eqv_blk2]
      refine ite2 (fun ha => ?_) (fun ha => ?_)
      · rw [ha, Bool.true_and] at kk
        refine ⟨.str wd, rfl, _, _, rfl, .inr (T.ch _), rfl, (flat_strs CHG), ?_⟩
        show Q (.bl (if true = true then !inV (.str wd) (CHG.map V.str) else _)) _
        rw [if_pos rfl, inV_strs]
        exact kk _ (e1.trans (Ex.new hp))
      · have ha2 : decide ((("lastly" : Str), (1 : Nat)) ∈ ps) = false := by simpa using ha
        rw [ha2, Bool.false_and] at kk
        exact kk _ (e1.trans (Ex.new hp))

end
end K06
set_option Elab.async false
set_option linter.all false
set_option maxRecDepth 100000
set_option maxHeartbeats 8000000
namespace K06
open PySem PySem.Spec PyProof.Rows L2 He XH XV XR PEN TR Evl


structure Tg (K : PySem.W.Frag) (w : World) (mg : Str → Option Value) : Prop extends Tx K w mg where
  tg : Bare K (ga K "TooGreat")
  ty : PySem.W.typeIn K (.ref (ga K "TooGreat")) = some (.type "type")
  bc : Own K (ga K "BadCode") (ma K (ga K "BadCode") "__init__") ["function", "number"]
inductive Flt where
  | bad (k : Nat)
  | great
def wd0 : PyData → Str
  | .tuple (.str w :: _) => w
  | _ => ""
def psOf (as : List PyData) : List (Str × Nat) := as.map fun d => match d with
  | .tuple [.str w, .int i] => (w, i.toNat)
  | _ => ("", 0)
theorem psOf_blk (ps : List (Str × Nat)) : psOf (ps.map blk) = ps := by
  unfold psOf
  rw [List.map_map]
  conv => rhs; rw [← List.map_id ps]
  refine List.map_congr_left fun p _ => ?_
  obtain ⟨a, n⟩ := p
  show (a, ((n : Nat) : Int).toNat) = _
  rw [show ((n : Nat) : Int).toNat = n by omega]
  rfl
/-- what is wrong with the statement of this number -/
def itemF (cs rs fs : List Str) (k : Nat) (q : PyData × List PyData) : Option Flt :=
  if k = 14 then some .great else if (!wfB cs rs fs q.1 || misB (wd0 q.1) (psOf q.2)) = true then some (.bad k) else if partsG q.1 ≠ [] ∧ 2 < q.2.length then some .great else none
def scanG (cs rs fs : List Str) : Nat → List (PyData × List PyData) → Option Flt
  | _, [] => none
  | k, q :: r => match itemF cs rs fs k q with
    | some f => some f
    | none => scanG cs rs fs (k + 1) r
theorem scan_hit {cs rs fs : List Str} : ∀ {L : List (PyData × List PyData)} {k i : Nat} {q : PyData × List PyData} {f : Flt}, (∀ j q', j < i → L[j]? = some q' → itemF cs rs fs (k + j) q' = none) → L[i]? = some q → itemF cs rs fs (k + i) q = some f → scanG cs rs fs k L = some f
  | [], _, _, _, _, _, h, _ => nomatch h
  | q0 :: r, k, 0, q, f, _, h, hf => by
    cases h
    unfold scanG
    rw [Nat.add_zero] at hf
    rw [hf]
  | q0 :: r, k, i + 1, q, f, hb, h, hf => by
    have h0 := hb 0 q0 (Nat.succ_pos i) rfl
    rw [Nat.add_zero] at h0
    unfold scanG
    rw [h0]
    exact scan_hit (i := i) (fun j q' hj hq => by
      have := hb (j + 1) q' (by omega) hq
      rwa [show k + (j + 1) = k + 1 + j by omega] at this) h (by rwa [show k + (i + 1) = k + 1 + i by omega] at hf)
theorem scan_none {cs rs fs : List Str} : ∀ {L : List (PyData × List PyData)} {k : Nat}, (∀ j q', L[j]? = some q' → itemF cs rs fs (k + j) q' = none) → scanG cs rs fs k L = none
  | [], _, _ => rfl
  | q0 :: r, k, hb => by
    have h0 := hb 0 q0 rfl
    rw [Nat.add_zero] at h0
    unfold scanG
    rw [h0]
    exact scan_none fun j q' hq => by
      have := hb (j + 1) q' hq
      rwa [show k + (j + 1) = k + 1 + j by omega] at this
/-- what stands in the list: statements, and blocks of known words around them -/
theorem nums_in : ∀ {n : Nat} {ss : List PyData} {ps : List (Str × Nat)}, BodG n ss → (∀ p ∈ ps, p.1 ∈ words) → ∀ q ∈ numsG n ss (ps.map blk), Sg q.1 ∧ ∃ ps' : List (Str × Nat), q.2 = ps'.map blk ∧ (∀ p ∈ ps', p.1 ∈ words) ∧ ps'.length ≤ ps.length + n
  | 0, _, _, _, _, q, hq => nomatch hq
  | n + 1, ss, ps, hB, hw, q, hq => by
    rw [numsG_S] at hq
    obtain ⟨s, hs, h2⟩ := List.mem_flatMap.mp hq
    obtain ⟨hsg, hps⟩ := hB s hs
    rcases List.mem_cons.mp h2 with rfl | h3
    · exact ⟨hsg, ps, rfl, hw, by omega⟩
    · obtain ⟨pj, hpj, h4⟩ := List.mem_flatMap.mp h3
      have hm : pj.1 ∈ partsG s := by
        obtain ⟨_, z2, z3⟩ := List.mem_zipIdx hpj
        rw [z3]
        exact List.getElem_mem _
      obtain ⟨m1, m2⟩ := partsG_sub hm
      obtain ⟨ds, e, hb⟩ := hps _ m1 m2
      obtain ⟨w, args, es, hwd, _, _, _⟩ := id hsg
      have hwk : w ∈ words := by
        rcases hwd with ⟨ks, hk⟩ | hj
        · exact List.mem_map.mpr ⟨_, hk, rfl⟩
        · rw [es] at hm
          unfold partsG at hm
          simp only [kof_jw _ hj] at hm
          cases hm
      have eb : ps.map blk ++ [.tuple [wordOf s, .int (pj.2 : Nat)]] = (ps ++ [(w, pj.2)]).map blk := by
        rw [List.map_append, es]
        rfl
      have h5 : q ∈ numsG n (bodyOf pj.1) (ps.map blk ++ [.tuple [wordOf s, .int (pj.2 : Nat)]]) := h4
      rw [eb, e] at h5
      obtain ⟨k1, ps', k2, k3, k4⟩ := nums_in (ps := ps ++ [(w, pj.2)]) hb (fun p hp => by
        rcases List.mem_append.mp hp with z | z
        · exact hw p z
        · rw [List.mem_singleton.mp z]
          exact hwk) q h5
      refine ⟨k1, ps', k2, k3, ?_⟩
      rw [List.length_append, List.length_singleton] at k4
      omega
def BadM (K : PySem.W.Frag) (E : XK) (z : Str) (k : Nat) (H : Hp) : Prop := ∀ d H', Ex H H' → H' d = some (.xd [("number", .int (k : Nat)), ("function", .str z)]) → E (.ref (ga K "BadCode")) (some d) H'
def spBodyG (K : PySem.W.Frag) : Sp := fun vs H Q E => ∃ f nm z ss cs rs os, vs = [.ref f, .ref nm] ∧ Fn K H f z ss ∧ Nm K H nm cs rs os ∧ BodTG ss ∧ (scanG cs rs os 0 (numsG NB ss []) = none → ∀ H', Ex H H' → Q .non H') ∧
  (∀ k, scanG cs rs os 0 (numsG NB ss []) = some (.bad k) → BadM K E z k H) ∧ (scanG cs rs os 0 (numsG NB ss []) = some .great → ∀ H', Ex H H' → E (.ref (ga K "TooGreat")) none H')
theorem bad_made2 {K : PySem.W.Frag} {C : Addr} {σ : L2.St} {H : Hp} {Q : XK} {t : TA} {y z : V} (U : OexC K C) (n1 : PySem.W.findIn K (.ref C) "function" = some none) (n2 : PySem.W.findIn K (.ref C) "number" = some none) (hA : EvA t σ H [y, z])
    (h : ∀ d H', Ex H H' → H' d = some (.xd [("number", z), ("function", y)]) → Q (.ref C) (some d) H') : tMkO C (spI2 K C "function" "number") [] t σ H Q := by
  refine hA H (Ex.refl _) _ fun H1 e1 => ⟨(show 2 ≤ 1000 by decide), fun a ha => ⟨a, y, z, rfl, U, n1, n2, upd_same, fun d hd hda => ⟨rfl, d, _, (upd_ne (Ne.symm hda)).trans upd_same, upd_same, ?_, h d _ ?_ upd_same⟩⟩⟩
  · exact (upd_ne hda).symm.trans hd
  · intro c o hc0
    have hc := e1 _ _ hc0
    have c1 : c ≠ a := ne_of_none hc ha
    have c2 : c ≠ d := ne_of_none hc ((upd_ne hda).symm.trans hd)
    rw [upd_ne c2, del_ne c1, upd_ne c2, upd_ne c1, upd_ne c2, upd_ne c1]
    exact hc

section
variable {P : Program} {w : World} {K : PySem.W.Frag} {mg : Str → Option Value} {base : Heap}

theorem ok_BadCode_init {C f : Addr} {fd : FuncData} (F : FnP K "__init__" "BadCode.__init__" s_BadCode_init f fd) : FnOk P w K mg base CX0 1 f fd ["self", "function", "number"] (spI2 K C "function" "number") := by
  refine FunD.ok F sc_BadCode_init (fun vs H Q E h => ?_) (fun cdv A outer s H vs Q E hr h => ?_)
  · obtain ⟨a, y, z, rfl, _⟩ := h
    rfl
  · obtain ⟨a, y, z, rfl, U, no, no2, ha, kk⟩ := h
    refine ⟨_, PSs.nox (pss_cons (ps_ost (pv 0) (pv 1)) (pss_one (ps_ost (pv 0) (pv 2)))), ?_⟩
    exact ⟨y, rfl, .ref a, rfl, a, C, rfl, U, no, .inl ⟨ha, fun dx h1 h2 => ⟨z, rfl, .ref a, rfl, a, C, rfl, U, no2, .inr ⟨dx, _, upd_same, (upd_ne h2).trans upd_same, by show 1 ≤ 900; decide, kk dx h1 h2⟩⟩⟩⟩

theorem ok_bodyG {fd : FuncData} (F : FnP K "check_body" "check_body" s_check_body (ga K "check_body") fd) (T : Tg K w mg) (c_numbered : Cl P w K mg base CX0 51 (ga K "numbered") ["body", "around"] (spNumG K NB)) (c_well_formed : Cl P w K mg base CX0 2 (ga K "well_formed") ["statement", "names"] (spWellG K)) (c_misplaced : Cl P w K mg base CX0 1 (ga K "misplaced") ["word", "around"] (spMisG K)) (c_parts_of : Cl P w K mg base CX0 2 (ga K "parts_of") ["statement"] (spPtG K)) (c_BadCode_init : Cl P w K mg base CX0 1 (ma K (ga K "BadCode") "__init__") ["self", "function", "number"] (spI2 K (ga K "BadCode") "function" "number")) : FnOk P w K mg base (L2.CX P w) (51 + 1) (ga K "check_body") fd ["function", "names"] (spBodyG K) := by
  obtain ⟨fd_numbered, G_numbered, b_numbered, kp_numbered⟩ := c_numbered
  obtain ⟨fd_well_formed, G_well_formed, b_well_formed, kp_well_formed⟩ := c_well_formed
  obtain ⟨fd_misplaced, G_misplaced, b_misplaced, kp_misplaced⟩ := c_misplaced
  obtain ⟨fd_parts_of, G_parts_of, b_parts_of, kp_parts_of⟩ := c_parts_of
  obtain ⟨fd_BadCode_init, G_BadCode_init, b_BadCode_init, kp_BadCode_init⟩ := c_BadCode_init
  refine FunD.ok F sc_check_body (fun vs H Q E h => ?_) (fun cdv A outer s H vs Q E hr h => ?_)
  · obtain ⟨f, nm, z, ss, cs, rs, os, rfl, _⟩ := h
    rfl
  · obtain ⟨f, nm, z, ss, cs, rs, os, rfl, hF, hN, hB, kk, kb, kg⟩ := h
    have n_enumerate := T.fr "enumerate" (by decide +kernel)
    have g_numbered := T.gl "numbered" (by decide +kernel)
    obtain ⟨tk_MOST_STATEMENTS, g_MOST_STATEMENTS⟩ := T.c_MOST_STATEMENTS
    have g_TooGreat := T.gl "TooGreat" (by decide +kernel)
    have g_well_formed := T.gl "well_formed" (by decide +kernel)
    have g_misplaced := T.gl "misplaced" (by decide +kernel)
    have g_BadCode := T.gl "BadCode" (by decide +kernel)
    have g_parts_of := T.gl "parts_of" (by decide +kernel)
    have n_len := T.fr "len" (by decide +kernel)
    obtain ⟨tk_MOST_BLOCKS_AROUND, g_MOST_BLOCKS_AROUND⟩ := T.c_MOST_BLOCKS_AROUND
    refine ⟨_, (pss_one (ps_for (passes_of rfl) rfl (pi_enum (by rfl) n_enumerate (pa_cons (pe_call G_numbered (hr.mono (by decide)) (by rfl) g_numbered kp_numbered b_numbered .nil pass0 (pa_cons (pe_fld (pv 0) rfl) (pa_cons (pe_tup pa_nil) pa_nil))) pa_nil)) (pg_tup rfl (pgs_cons (pg_name (i := 2) sc_check_body.nd rfl (Or.inl rfl)) (pgs_cons (pg_tup rfl (pgs_cons (pg_name (i := 3) sc_check_body.nd rfl (Or.inl rfl)) (pgs_cons (pg_name (i := 4) sc_check_body.nd rfl (Or.inl rfl)) pgs_nil))) pgs_nil)))
      (pss_cons (ps_if (pt_cmpR op_eq (pv 2) (pe_glob (v := .int _) (by rfl) g_MOST_STATEMENTS ⟨_, rfl⟩) (nomark _))
      (pss_one (ps_raise rfl (takes_of rfl rfl rfl rfl) (pmk0 PySem.F.excBase_ValueError T.tg.ex g_TooGreat T.tg.kC (raises_own T.tg.ec.hs T.ty) (by rfl))))
      pss_nil)
      (pss_cons (ps_if (PW.pt (pw_or (pt_not (pt_val (pe_call G_well_formed (hr.mono (by decide)) (by rfl) g_well_formed kp_well_formed b_well_formed .nil pass0 (pa_cons (pv 3) (pa_cons (pv 1) pa_nil))))) (pw_or1 (pt_val (pe_call G_misplaced (hr.mono (by decide)) (by rfl) g_misplaced kp_misplaced b_misplaced .nil pass0 (pa_cons (pe_ix ix_tup (pv 3) pe_int (fun _ _ => rfl)) (pa_cons (pv 4) pa_nil)))))))
      (pss_one (ps_raise rfl (takes_of rfl rfl rfl rfl) (pmk_oex T.bc.ox T.bc.iC T.bc.tI G_BadCode_init (hr.mono (by decide)) b_BadCode_init .nil pass0 (by rfl) g_BadCode (pa_cons (pe_fldc (K := K) rfl (pv 0) rfl) (pa_cons (pv 2) pa_nil)))))
      pss_nil)
      (pss_one (ps_if (PW.pt (pw_and (pt_truth (pe_call G_parts_of (hr.mono (by decide)) (by rfl) g_parts_of kp_parts_of b_parts_of .nil pass0 (pa_cons (pv 3) pa_nil)) (fun _ => rfl)) (pw_and1 (pt_cmpR op_gt (pe_callB call_len_seq (by rfl) n_len (by decide +kernel) (pa_cons (pv 4) pa_nil)) (pe_glob (v := .int _) (by rfl) g_MOST_BLOCKS_AROUND ⟨_, rfl⟩) (nomark _)))))
      (pss_one (ps_raise rfl (takes_of rfl rfl rfl rfl) (pmk0 PySem.F.excBase_ValueError T.tg.ex g_TooGreat T.tg.kC (raises_own T.tg.ec.hs T.ty) (by rfl))))
      pss_nil)))))), ?_⟩
    obtain ⟨dx, b, n, h1, h2⟩ := hF
    obtain ⟨htt, hbod, hlen⟩ := hB
    have tss : Tts 49 ss := by
      cases htt with
      | tup _ q => exact q
    refine ⟨.ref f, rfl, f, _, dx, _, .ref b, rfl, h1, T.cf, T.nf "body" (by decide +kernel), rfl, (by show 0 ≤ sizeLine; decide), fun ar har => ?_⟩
    have e1 := Ex.new (o := .tup []) har
    refine ⟨b, ar, ss, [], 49, 0, rfl, dpM e1 _ _ h2, .tup (st_of upd_same) .nil, tss, .nil, (by decide), (by omega), hbod, fun q prs H1 hq e2 g1 g3 => ?_⟩
    have lpr := g3.len
    refine ⟨q, prs.map V.ref, rfl, sq_of g1, ?_⟩
    refine for_it (walk_enum (xs := prs.map V.ref)) (fun i σ' H' => ∃ v2 v3 v4, σ' = [some (.ref f), some (.ref nm), v2, v3, v4] ∧ Ex H1 H' ∧ ∀ j q', j < i → (numsG NB ss [])[j]? = some q' → itemF cs rs os j q' = none) ⟨_, _, _, rfl, Ex.refl _, fun j q' hj => absurd hj (Nat.not_lt_zero j)⟩ (fun i σ' H' _ hI => ?_) (fun i x σ' H2 H3 hi hI hy => ?_) (fun σ' H' hI => ?_)
    · obtain ⟨v2, v3, v4, rfl, e3, _⟩ := hI
      exact sq_of (e3 _ _ g1)
    · obtain ⟨v2, v3, v4, rfl, e3, hno⟩ := hI
      obtain ⟨tq, x1, y1, rfl, hT, rfl, p1, p2⟩ := hy
      cases p1
      replace p2 : (prs.map V.ref)[i]? = some y1 := p2
      rw [List.getElem?_map] at p2
      cases p : prs[i]? with
      | none =>
        rw [p] at p2
        cases p2
      | some pr =>
        rw [p] at p2
        cases p2
        obtain ⟨s, as, sv, av, m1, m2, hq1, t1, t2, t3, tts, tta⟩ := prs_at g3 p
        obtain ⟨hsg, ps, hps, hpw, hpl⟩ := nums_in (ps := []) hbod (fun p hp => nomatch hp) _ (List.mem_of_getElem? hq1)
        simp only at hsg hps
        obtain ⟨w0, args, hs0, hwd, hl3, hst, hty⟩ := id hsg
        have e4 : Ex H1 (upd H2 tq (.tup [.int (i : Nat), .ref pr])) := e3.trans (Ex.new hT)
        rw [hs0] at t2
        cases t2 with
        | @tup t xs _ hx hxs =>
        cases hxs with
        | @cons v0 rest _ _ hv0 hrest =>
        cases hv0
        have t2' : Dp K H1 (.ref t) s := by
          rw [hs0]
          exact .tup hx (.cons (.str w0) hrest)
        have hw0 : wd0 s = w0 := by rw [hs0]; rfl
        subst hps
        have hit : ∀ fl, itemF cs rs os i (s, ps.map blk) = some fl → scanG cs rs os 0 (numsG NB ss []) = some fl := fun fl hf => scan_hit (k := 0) (i := i) (fun j q' hj hq => by rw [Nat.zero_add]; exact hno j q' hj hq) hq1 (by rw [Nat.zero_add]; exact hf)
        have iF : itemF cs rs os i (s, ps.map blk) = if i = 14 then some .great else if (!wfB cs rs os s || misB w0 ps) = true then some (.bad i) else if partsG s ≠ [] ∧ 2 < ps.length then some .great else none := by
          unfold itemF
          rw [psOf_blk, hw0, List.length_map]
        refine ⟨tq, _, rfl, st_of upd_same, rfl, .int (i : Nat), [.ref pr], rfl, .ref pr, [], rfl, pr, [.ref t, .ref av], rfl, st_of (e4 _ _ t1), rfl, .ref t, [.ref av], rfl, .ref av, [], rfl, rfl, rfl, ?_⟩
        dsimp only [gName, List.set]
        refine q_when (b := decide (i = 14)) (et_is (et_test (ev_op (ev_var rfl) ev_c (rv_eq rfl))) (decide_eq_decide.mpr ⟨fun h => by injection h with h; omega, fun h => by rw [h]; rfl⟩)) (fun hb H4 e5 => ?_) (fun hb H4 e5 => ?_)
        · rw [if_pos (of_decide_eq_true hb)] at iF
          exact kg (hit _ iF) H4 ((e1.trans e2).trans (e4.trans e5))
        have h14 : i ≠ 14 := of_decide_eq_false hb
        rw [if_neg h14] at iF
        have e6 := e4.trans e5
        have e06 := (e1.trans e2).trans e6
        refine q_when (b := !wfB cs rs os s || misB w0 ps) (et_or (a := !wfB cs rs os s) (b := misB w0 ps) (et_not (a := wfB cs rs os s) (et_B (ev_call (ea_cons (ev_var rfl) (ea_cons (ev_var rfl) ea_nil)) fun H5 e7 R q _ => ⟨.ref t, nm, s, cs, rs, os, rfl, dpM (e6.trans e7) _ _ t2', hN.mono (e06.trans e7), hsg, fun H6 e8 => q H6 e8⟩))) fun _ =>
          et_B (ev_call (ea_cons (ev_op (ev_var rfl) ev_c (rv_ixT (ex_t e6 hx) (v := .str w0) (atI_nat (j := 0) rfl))) (ea_cons (ev_var rfl) ea_nil)) fun H5 e7 R q _ => ⟨w0, av, ps, rfl, dpM (e6.trans e7) _ _ t3, hpw, by simp only [List.length_nil] at hpl; unfold NB at hpl; omega, fun H6 e8 => q H6 e8⟩)) (fun hb2 H5 e7 => ?_) (fun hb2 H5 e7 => ?_)
        · rw [if_pos hb2] at iF
          refine bad_made2 T.bc.ox (T.bc.no "function" (by decide +kernel)) (T.bc.no "number" (by decide +kernel)) (ea_cons (ev_fld (ev_var rfl) ((e06.trans e7) _ _ h1) T.cf (T.nf "name" (by decide +kernel)) rfl) (ea_cons (ev_var rfl) ea_nil)) fun d H6 e8 hd => ?_
          exact kb i (hit _ iF) d H6 ((e06.trans e7).trans e8) hd
        rw [if_neg (by rw [hb2]; exact Bool.false_ne_true)] at iF
        have e8 := e6.trans e7
        refine ⟨.ref t, rfl, .ref t, s, m1, rfl, dpM e8 _ _ t2', tts, hsg, fun s' ys H6 hs' e9 hS hys => ⟨!ys.isEmpty, (show TruV K (.ref s') H6 _ from Or.inl ⟨ys, sq_of hS, rfl⟩), ite2 (fun hne => ?_) (fun hne => ite_ff ⟨_, _, _, rfl, e8.trans e9, ?_⟩)⟩⟩
        rotate_left
        · have hpe : partsG s = [] := by
            cases ys with
            | nil =>
              have := dpAll_len hys
              exact List.length_eq_zero_iff.mp this.symm
            | cons a b => exact absurd rfl hne
          rw [if_neg (fun z => z.1 hpe)] at iF
          intro j q' hj hq'
          by_cases ej : j = i
          · subst ej
            rw [hq1] at hq'
            cases hq'
            exact iF
          · exact hno j q' (by omega) hq'
        have hpne : partsG s ≠ [] := by
          intro e
          rw [e] at hys
          cases hys
          cases hne
        refine go_test (b := decide ((2 : Int) < (ps.length : Int))) (et_test (ev_op (ev_cb (ea_cons (ev_var rfl) ea_nil) fun H7 e10 R q => ?_) ev_c (rv_I0 (i := (ps.length : Int))))) fun H7 e10 => ite2 (fun h2 => ?_) (fun h2 => ?_)
        · cases dpM ((e8.trans e9).trans e10) _ _ t3 with
          | @tup _ zs _ hz hzs =>
            have lz := dpAll_len hzs
            rw [List.length_map] at lz
            exact ⟨av, zs, rfl, .inr hz, by rw [lz]; exact q H7 (Ex.refl _)⟩
        · have h2' := of_decide_eq_true h2
          rw [if_pos ⟨hpne, by omega⟩] at iF
          exact kg (hit _ iF) H7 ((e1.trans e2).trans ((e8.trans e9).trans e10))
        · refine ⟨_, _, _, rfl, (e8.trans e9).trans e10, ?_⟩
          rw [if_neg (fun z => h2 (decide_eq_true (by omega)))] at iF
          intro j q' hj hq'
          by_cases ej : j = i
          · subst ej
            rw [hq1] at hq'
            cases hq'
            exact iF
          · exact hno j q' (by omega) hq'
    · obtain ⟨v2, v3, v4, rfl, e3, hno⟩ := hI
      refine kk (scan_none fun j q' hq => ?_) H' ((e1.trans e2).trans e3)
      rw [Nat.zero_add]
      exact hno j q' (by rw [List.length_map, lpr]; exact (List.getElem?_eq_some_iff.mp hq).1) hq

end
end K06
set_option Elab.async false
set_option linter.all false
set_option maxRecDepth 100000
set_option maxHeartbeats 8000000
namespace K06
open PySem PySem.Spec PyProof.Rows L2 He XH XV XR PEN TR Evl


theorem fs_hit {α β : Type} {f : α → Option β} : ∀ {l : List α} {i : Nat} {x : α} {b : β}, (∀ j y, j < i → l[j]? = some y → f y = none) → l[i]? = some x → f x = some b → l.findSome? f = some b
  | [], _, _, _, _, h, _ => nomatch h
  | a :: r, 0, x, b, _, h, hf => by
    cases h
    rw [List.findSome?_cons, hf]
  | a :: r, i + 1, x, b, hb, h, hf => by
    rw [List.findSome?_cons, hb 0 a (Nat.succ_pos i) rfl]
    exact fs_hit (i := i) (fun j y hj hy => hb (j + 1) y (by omega) hy) h hf
def itemB (cs rs os : List Str) (p : Str × List PyData) : Option (Str × Flt) := (scanG cs rs os 0 (numsG NB p.2 [])).map fun f => (p.1, f)
/-- the first fault of a code -/
def firstF (cs rs os : List Str) (bds : List (List PyData)) : Option (Str × Flt) := (os.zip bds).findSome? (itemB cs rs os)
def spCIG (K : PySem.W.Frag) : Sp := fun vs H Q E => ∃ a c r f cs rs os st fos bds dx, vs = [.ref a, .ref c, .ref r, .ref f, .str st] ∧ H a = some (.ins (ga K "Code") dx []) ∧ H c = some (.lst (cs.map V.str)) ∧ H r = some (.lst (rs.map V.str)) ∧ H f = some (.lst (fos.map V.ref)) ∧ Fns K H fos os bds ∧ Names cs rs os st ∧ (∀ ss ∈ bds, BodTG ss) ∧
  (firstF cs rs os bds = none → ∀ c r f H', Xa a H H' → Cd K H' a c r f cs rs os st fos bds → Q .non H') ∧
  (∀ z k, firstF cs rs os bds = some (z, .bad k) → ∀ d H', Xa a H H' → H' d = some (.xd [("number", .int (k : Nat)), ("function", .str z)]) → E (.ref (ga K "BadCode")) (some d) H') ∧
  (∀ z, firstF cs rs os bds = some (z, .great) → ∀ H', Xa a H H' → E (.ref (ga K "TooGreat")) none H')

section
variable {P : Program} {w : World} {K : PySem.W.Frag} {mg : Str → Option Value} {base : Heap}

theorem ok_CIG {fd : FuncData} {f : Addr} (F : FnP K "__init__" "Code.__init__" s_Code_init f fd) (T : Tg K w mg) (c_check_bounds : Cl P w K mg base CX0 1 (ga K "check_bounds") ["code"] (spOk K)) (c_check_names : Cl P w K mg base CX0 2 (ga K "check_names") ["code"] (spOk K)) (c_names_by_kind : Cl P w K mg base CX0 1 (ga K "names_by_kind") ["code"] (spByKind K)) (c_check_body : Cl P w K mg base (L2.CX P w) 52 (ga K "check_body") ["function", "names"] (spBodyG K)) : FnOk P w K mg base (L2.CX P w) (52 + 1) f fd ["self", "cells", "rows", "functions", "start"] (spCIG K) := by
  obtain ⟨fd_check_bounds, G_check_bounds, b_check_bounds, kp_check_bounds⟩ := c_check_bounds
  obtain ⟨fd_check_names, G_check_names, b_check_names, kp_check_names⟩ := c_check_names
  obtain ⟨fd_names_by_kind, G_names_by_kind, b_names_by_kind, kp_names_by_kind⟩ := c_names_by_kind
  obtain ⟨fd_check_body, G_check_body, b_check_body, kp_check_body⟩ := c_check_body
  refine FunD.ok F sc_Code_init (fun vs H Q E h => ?_) (fun cdv A outer s H vs Q E hr h => ?_)
  · obtain ⟨a, c, r, f, cs, rs, os, st, fos, bds, dx, rfl, _⟩ := h
    rfl
  · obtain ⟨a, c, r, f, cs, rs, os, st, fos, bds, dx, rfl, ha, hc, hr', hf, hF, hNm, hBd, kF, kB, kG⟩ := h
    have n_tuple := T.fr "tuple" (by decide +kernel)
    have g_check_bounds := T.gl "check_bounds" (by decide +kernel)
    have g_check_names := T.gl "check_names" (by decide +kernel)
    have g_names_by_kind := T.gl "names_by_kind" (by decide +kernel)
    have g_check_body := T.gl "check_body" (by decide +kernel)
    refine ⟨_, (pss_cons (ps_fld (pv 0) (pe_callTy call_tuple_of (by rfl) n_tuple (by decide +kernel) (pa_cons (pv 1) pa_nil)) rfl)
      (pss_cons (ps_fld (pv 0) (pe_callTy call_tuple_of (by rfl) n_tuple (by decide +kernel) (pa_cons (pv 2) pa_nil)) rfl)
      (pss_cons (ps_fld (pv 0) (pe_callTy call_tuple_of (by rfl) n_tuple (by decide +kernel) (pa_cons (pv 3) pa_nil)) rfl)
      (pss_cons (ps_fld (pv 0) (pv 4) rfl)
      (pss_cons (ps_expr (pe_call G_check_bounds (hr.mono (by decide)) (by rfl) g_check_bounds kp_check_bounds b_check_bounds .nil pass0 (pa_cons (pv 0) pa_nil)))
      (pss_cons (ps_expr (pe_call G_check_names (hr.mono (by decide)) (by rfl) g_check_names kp_check_names b_check_names .nil pass0 (pa_cons (pv 0) pa_nil)))
      (pss_cons (ps_set (i := 5) sc_Code_init.nd rfl (Or.inl rfl) (pe_call G_names_by_kind (hr.mono (by decide)) (by rfl) g_names_by_kind kp_names_by_kind b_names_by_kind .nil pass0 (pa_cons (pv 0) pa_nil)))
      (pss_one (ps_for (passes_of rfl) rfl (pi_tup (pe_fld (pv 0) rfl)) (pg_name (i := 6) sc_Code_init.nd rfl (Or.inl rfl))
      (pss_one (ps_expr (pe_call G_check_body (hr.mono (by decide)) (by rfl) g_check_body kp_check_body b_check_body .nil (passes_call (takes_of rfl rfl rfl rfl) (fun _ _ _ _ h => h)) (pa_cons (pv 6) (pa_cons (pv 5) pa_nil)))))))))))))), ?_⟩
    have nc : c ≠ a := fun e => by rw [e, ha] at hc; cases hc
    have nr : r ≠ a := fun e => by rw [e, ha] at hr'; cases hr'
    have nf : f ≠ a := fun e => by rw [e, ha] at hf; cases hf
    refine ⟨.ref c, rfl, c, _, rfl, .inl ⟨sq_of hc, fun u1 hu1 => ?_⟩⟩
    have n1 : u1 ≠ a := fun e => by rw [e, ha] at hu1; cases hu1
    refine ⟨.ref a, rfl, a, _, dx, [], rfl, (upd_ne (Ne.symm n1)).trans ha, T.cc, T.nc "cells" (by decide +kernel), by decide, ?_⟩
    have a1 : upd (upd H u1 (.tup (cs.map V.str))) a (.ins (ga K "Code") dx (putF "cells" (.ref u1) [])) a = some (.ins (ga K "Code") dx [("cells", .ref u1)]) := upd_same
    have b1 : upd (upd H u1 (.tup (cs.map V.str))) a (.ins (ga K "Code") dx (putF "cells" (.ref u1) [])) u1 = some (.tup (cs.map V.str)) := (upd_ne n1).trans upd_same
    have x1 : Xa a H (upd (upd H u1 (.tup (cs.map V.str))) a (.ins (ga K "Code") dx (putF "cells" (.ref u1) []))) := (Xa.of (Ex.new hu1)).trans Xa.upd
    generalize upd (upd H u1 (.tup (cs.map V.str))) a (.ins (ga K "Code") dx (putF "cells" (.ref u1) [])) = H1 at a1 b1 x1
    refine ⟨.ref r, rfl, r, _, rfl, .inl ⟨sq_of (x1 _ _ nr hr'), fun u2 hu2 => ?_⟩⟩
    have n2 : u2 ≠ a := fun e => by rw [e, a1] at hu2; cases hu2
    refine ⟨.ref a, rfl, a, _, dx, _, rfl, (upd_ne (Ne.symm n2)).trans a1, T.cc, T.nc "rows" (by decide +kernel), (show 1 < 1000 by decide), ?_⟩
    rw [putF_tail (by decide +kernel)]
    have a2 : upd (upd H1 u2 (.tup (rs.map V.str))) a (.ins (ga K "Code") dx (("cells", .ref u1) :: putF "rows" (.ref u2) [])) a = some (.ins (ga K "Code") dx [("cells", .ref u1), ("rows", .ref u2)]) := upd_same
    have b2 : upd (upd H1 u2 (.tup (rs.map V.str))) a (.ins (ga K "Code") dx (("cells", .ref u1) :: putF "rows" (.ref u2) [])) u2 = some (.tup (rs.map V.str)) := (upd_ne n2).trans upd_same
    have x2 : Xa a H1 (upd (upd H1 u2 (.tup (rs.map V.str))) a (.ins (ga K "Code") dx (("cells", .ref u1) :: putF "rows" (.ref u2) []))) := (Xa.of (Ex.new hu2)).trans Xa.upd
    generalize upd (upd H1 u2 (.tup (rs.map V.str))) a (.ins (ga K "Code") dx (("cells", .ref u1) :: putF "rows" (.ref u2) [])) = H2 at a2 b2 x2
    have b1' := x2 _ _ n1 b1
    refine ⟨.ref f, rfl, f, _, rfl, .inl ⟨sq_of (x2 _ _ nf (x1 _ _ nf hf)), fun u3 hu3 => ?_⟩⟩
    have n3 : u3 ≠ a := fun e => by rw [e, a2] at hu3; cases hu3
    refine ⟨.ref a, rfl, a, _, dx, _, rfl, (upd_ne (Ne.symm n3)).trans a2, T.cc, T.nc "functions" (by decide +kernel), (show 2 < 1000 by decide), ?_⟩
    rw [putF_tail (by decide +kernel), putF_tail (by decide +kernel)]
    have a3 : upd (upd H2 u3 (.tup (fos.map V.ref))) a (.ins (ga K "Code") dx (("cells", .ref u1) :: ("rows", .ref u2) :: putF "functions" (.ref u3) [])) a = some (.ins (ga K "Code") dx [("cells", .ref u1), ("rows", .ref u2), ("functions", .ref u3)]) := upd_same
    have b3 : upd (upd H2 u3 (.tup (fos.map V.ref))) a (.ins (ga K "Code") dx (("cells", .ref u1) :: ("rows", .ref u2) :: putF "functions" (.ref u3) [])) u3 = some (.tup (fos.map V.ref)) := (upd_ne n3).trans upd_same
    have x3 : Xa a H2 (upd (upd H2 u3 (.tup (fos.map V.ref))) a (.ins (ga K "Code") dx (("cells", .ref u1) :: ("rows", .ref u2) :: putF "functions" (.ref u3) []))) := (Xa.of (Ex.new hu3)).trans Xa.upd
    generalize upd (upd H2 u3 (.tup (fos.map V.ref))) a (.ins (ga K "Code") dx (("cells", .ref u1) :: ("rows", .ref u2) :: putF "functions" (.ref u3) [])) = H3 at a3 b3 x3
    refine ⟨.str st, rfl, .ref a, rfl, a, _, dx, _, rfl, a3, T.cc, T.nc "start" (by decide +kernel), (show 3 < 1000 by decide), ?_⟩
    rw [putF_tail (by decide +kernel), putF_tail (by decide +kernel), putF_tail (by decide +kernel)]
    have a4 : upd H3 a (.ins (ga K "Code") dx (("cells", .ref u1) :: ("rows", .ref u2) :: ("functions", .ref u3) :: putF "start" (.str st) [])) a = some (.ins (ga K "Code") dx [("cells", .ref u1), ("rows", .ref u2), ("functions", .ref u3), ("start", .str st)]) := upd_same
    have x4 : Xa a H3 (upd H3 a (.ins (ga K "Code") dx (("cells", .ref u1) :: ("rows", .ref u2) :: ("functions", .ref u3) :: putF "start" (.str st) []))) := Xa.upd
    generalize upd H3 a (.ins (ga K "Code") dx (("cells", .ref u1) :: ("rows", .ref u2) :: ("functions", .ref u3) :: putF "start" (.str st) [])) = H4 at a4 x4
    have xx : Xa a H H4 := ((x1.trans x2).trans x3).trans x4
    have hC : Cd K H4 a u1 u2 u3 cs rs os st fos bds := ⟨x4 _ _ n1 (x3 _ _ n1 b1'), x4 _ _ n2 (x3 _ _ n2 b2), x4 _ _ n3 b3, hF.xa xx ha, ⟨dx, a4⟩⟩
    refine ⟨.ref a, rfl, a, u1, u2, u3, cs, rs, os, st, fos, bds, rfl, hC, hNm, fun H5 e5 => ?_⟩
    refine ⟨.ref a, rfl, a, u1, u2, u3, cs, rs, os, st, fos, bds, rfl, hC.mono e5, hNm, fun H6 e6 => ?_⟩
    have e56 := e5.trans e6
    refine ⟨.ref a, rfl, a, u1, u2, u3, cs, rs, os, st, fos, bds, rfl, hC.mono e56, hNm, fun p H7 e7 hN7 => ?_⟩
    have e57 := e56.trans e7
    have hC7 := hC.mono e57
    obtain ⟨dx', hA7⟩ := hC7.at_
    refine ⟨.ref a, rfl, a, _, dx', _, .ref u3, rfl, hA7, T.cc, T.nc "functions" (by decide +kernel), rfl, u3, rfl, ⟨_, st_of hC7.fa⟩, ?_⟩
    refine for_tup (xs := fos.map V.ref) (fun i σ' H' => ∃ v6, σ' = [some (.ref a), some (.ref c), some (.ref r), some (.ref f), some (.str st), some (.ref p), v6] ∧ Ex H7 H' ∧ ∀ j y, j < i → (os.zip bds)[j]? = some y → itemB cs rs os y = none) ⟨_, rfl, Ex.refl _, fun j y hj => absurd hj (Nat.not_lt_zero j)⟩ (fun i σ' H' _ hI => ?_) (fun i x σ' H' hx hI => ?_) (fun σ' H' hI => ?_)
    · obtain ⟨v6, rfl, e8, _⟩ := hI
      exact st_of (e8 _ _ hC7.fa)
    · obtain ⟨v6, rfl, e8, hno⟩ := hI
      rw [List.getElem?_map] at hx
      cases p1 : fos[i]? with
      | none =>
        rw [p1] at hx
        cases hx
      | some t =>
        rw [p1] at hx
        cases hx
        obtain ⟨z, ss, ho, hb, hFn⟩ := hC7.fs.at p1
        have zi : (os.zip bds)[i]? = some (z, ss) := by
          rw [List.getElem?_zip_eq_some]
          exact ⟨ho, hb⟩
        have hit : ∀ fl, scanG cs rs os 0 (numsG NB ss []) = some fl → firstF cs rs os bds = some (z, fl) := fun fl hf => fs_hit hno zi (by unfold itemB; rw [hf]; rfl)
        refine ⟨.ref t, rfl, .ref p, rfl, t, p, z, ss, cs, rs, os, rfl, hFn.mono e8, hN7.mono e8, hBd ss (List.mem_of_getElem? hb), fun hn H9 e9 => ⟨_, rfl, e8.trans e9, fun j y hj hy => ?_⟩, fun k hk d H9 e9 hd => kB z k (hit _ hk) d H9 (xx.trans (Xa.of ((e57.trans e8).trans e9))) hd, fun hk H9 e9 => kG z (hit _ hk) H9 (xx.trans (Xa.of ((e57.trans e8).trans e9)))⟩
        by_cases ej : j = i
        · subst ej
          rw [zi] at hy
          cases hy
          unfold itemB
          rw [hn]
          rfl
        · exact hno j y (by omega) hy
    · obtain ⟨v6, rfl, e8, hno⟩ := hI
      refine kF ?_ u1 u2 u3 H' (xx.trans (Xa.of (e57.trans e8))) (hC7.mono e8)
      unfold firstF
      rw [List.findSome?_eq_none_iff]
      intro y hy
      obtain ⟨j, hj, e⟩ := List.getElem_of_mem hy
      refine hno j y ?_ (by rw [List.getElem?_eq_getElem hj, e])
      rw [List.length_map]
      rw [List.length_zip] at hj
      have := hF.1
      omega

end
end K06
set_option Elab.async false
set_option linter.all false
set_option maxRecDepth 100000
set_option maxHeartbeats 8000000
namespace K06
open PySem PySem.Spec PyProof.Rows L2 He XH XV XR PEN TR Evl


/-! ### the lines of a code -/
def strsD (d : PyData) : List Str := (argsOf d).filterMap fun x => match x with
  | .str z => some z
  | _ => none
theorem kinds9 : ∀ p ∈ ENT, p.2 ∈ [[], [("cell" : Str)], ["row"], ["how"], ["function"], ["end"], ["part"], ["part", "part"], ["cell", "part", "part"]] := by decide +kernel
theorem part_of {cs rs os : List Str} {x : PyData} (h : fitsP cs rs os "part" x) : ∃ ds, x = .tuple ds := by
  unfold fitsP at h
  rw [if_pos rfl] at h
  cases x with
  | tuple ds => exact ⟨ds, rfl⟩
  | none => cases h
  | bool _ => cases h
  | int _ => cases h
  | str _ => cases h
  | list _ => cases h
  | dict _ => cases h
theorem str_of {cs rs os : List Str} {k : Str} {x : PyData} (hk : ¬ k = "part") (h : fitsP cs rs os k x) : ∃ z, x = .str z ∧ z ∈ nmsOf cs rs os k := by
  unfold fitsP at h
  rw [if_neg hk] at h
  exact h
/-- the names of a statement stand ahead of its parts -/
theorem Wf.split {cs rs os : List Str} {d : PyData} (h : Wf cs rs os d) : argsOf d = (strsD d).map PyData.str ++ parts d := by
  obtain ⟨w, ks, args, rfl, hk, hl, hf⟩ := h
  have k9 := kinds9 _ hk
  simp only [List.mem_cons, List.not_mem_nil, or_false] at k9
  have one : ∀ k : Str, ¬ k = "part" → ks = [k] → argsOf (.tuple (.str w :: args)) = (strsD (.tuple (.str w :: args))).map PyData.str ++ parts (.tuple (.str w :: args)) := by
    intro k hkn e
    subst e
    match args, hl with
    | [x], _ =>
      obtain ⟨z, rfl, _⟩ := str_of hkn (hf 0 k x rfl rfl)
      rfl
  rcases k9 with e | e | e | e | e | e | e | e | e
  · subst e
    match args, hl with
    | [], _ => rfl
  · exact one _ (by decide +kernel) e
  · exact one _ (by decide +kernel) e
  · exact one _ (by decide +kernel) e
  · exact one _ (by decide +kernel) e
  · exact one _ (by decide +kernel) e
  · subst e
    match args, hl with
    | [x], _ =>
      obtain ⟨ds, rfl⟩ := part_of (hf 0 _ x rfl rfl)
      rfl
  · subst e
    match args, hl with
    | [x, y], _ =>
      obtain ⟨ds, rfl⟩ := part_of (hf 0 _ x rfl rfl)
      obtain ⟨es, rfl⟩ := part_of (hf 1 _ y rfl rfl)
      rfl
  · subst e
    match args, hl with
    | [x, y, z], _ =>
      obtain ⟨a, rfl, _⟩ := str_of (by decide +kernel) (hf 0 _ x rfl rfl)
      obtain ⟨ds, rfl⟩ := part_of (hf 1 _ y rfl rfl)
      obtain ⟨es, rfl⟩ := part_of (hf 2 _ z rfl rfl)
      rfl
def firstW (w : Str) : Str := if w = "lastly" then "do" else w
def secondW (w : Str) : Str := if w = "either" then "or" else if w = "told" then "else" else if w = "look" then "else" else if w = "guard" then "rescue" else "lastly"
def blank : Str := " "
def step : Str := "  "
/-- the lines of a body at a margin -/
def lns : Nat → Str → List PyData → List Str
  | 0, _, _ => []
  | n + 1, mg, ss => ss.flatMap fun s => (mg ++ Txt.join blank (firstW (wordS s) :: strsD s)) :: (parts s).zipIdx.flatMap fun p => (if p.2 = 1 then [mg ++ secondW (wordS s)] else []) ++ lns n (mg ++ step) (bodyOf p.1)
/-! ### a heading -/
def headL (w : Str) (zs : List Str) : Str := Txt.join blank ((w ++ (":" : Str)) :: zs)
def spHead (K : PySem.W.Frag) : Sp := fun vs H Q _ => ∃ (w : Str) (a : Addr) (zs : List Str), vs = [.str w, .ref a] ∧ (SqT K H a (zs.map V.str) ∨ SqL K H a (zs.map V.str)) ∧ w.length ≤ 100 ∧ (zs.length ≤ 10 ∧ ∀ z ∈ zs, z.length ≤ 100) ∧ ∀ H', Ex H H' → Q (.str (headL w zs)) H'
theorem empty_app (w : Str) : Str.empty ++ w = w := by
  obtain ⟨a⟩ := w
  show (⟨#[] ++ a⟩ : Str) = ⟨a⟩
  simp
theorem app_len (a b : Str) : (a ++ b).length = a.length + b.length := by
  obtain ⟨a⟩ := a
  obtain ⟨b⟩ := b
  show (a ++ b).size = a.size + b.size
  simp
theorem sum_lens {zs : List Str} {b : Nat} (h : ∀ z ∈ zs, z.length ≤ b) : (zs.map (·.length)).sum ≤ zs.length * b := sum_le h

section
variable {P : Program} {w : World} {K : PySem.W.Frag} {mg : Str → Option Value} {base : Heap}

theorem ok_heading {fd : FuncData} (F : FnP K "heading" "heading" s_heading (ga K "heading") fd) (T : Tx K w mg) : FnOk P w K mg base CX0 (0 + 1) (ga K "heading") fd ["word", "names"] (spHead K) := by
  refine FunD.ok F sc_heading (fun vs H Q E h => ?_) (fun cdv A outer s H vs Q E hr h => ?_)
  · obtain ⟨w, a, zs, rfl, _⟩ := h
    rfl
  · obtain ⟨wd, a, zs, rfl, ha, hw, ⟨hz1, hz2⟩, kk⟩ := h
    refine ⟨_, PSs.nox (pss_one (ps_ret (pe_join pe_str (pe_lst (pa_cons (pe_joined (PJ.cons (pe_fmt (pv 0)) (PJ.cons pe_str PJ.nil))) (StX.pa_star (pv 1) pa_nil)))))), ?_⟩
    have l1 : (wd ++ (":" : Str)).length = wd.length + 1 := app_len _ _
    refine ⟨⟨_, rfl⟩, .str wd, rfl, .inl ⟨wd, rfl, fits (by omega), wd, rfl, by rw [empty_app]; exact fits (by omega), ":", rfl, by rw [empty_app, l1]; exact fits (by omega), ?_⟩⟩
    rw [empty_app]
    refine ⟨.ref a, rfl, a, _, rfl, ha, ?_, fun q hq => ?_⟩
    · show (_ :: (zs.map V.str ++ [])).length ≤ sizeLine
      rw [List.append_nil, List.length_cons, List.length_map]
      exact fits (by omega)
    · refine ⟨blank, q, (wd ++ (":" : Str)) :: zs, rfl, rfl, .inl (sq_of (by rw [upd_same, List.append_nil]; rfl)), ?_, kk _ (Ex.new hq)⟩
      have k := sum_lens hz2
      have kb : (blank).length = 1 := by decide +kernel
      rw [List.map_cons, List.sum_cons, List.length_cons, kb, l1]
      have k2 : zs.length * 100 ≤ 10 * 100 := Nat.mul_le_mul_right _ hz1
      omega

end
end K06
set_option Elab.async false
set_option linter.all false
set_option maxRecDepth 100000
set_option maxHeartbeats 8000000
namespace K06
open PySem PySem.Spec PyProof.Rows L2 He XH XV XR PEN TR Evl


theorem sum_mono {α : Type} {f f' : α → Nat} : ∀ {l : List α}, (∀ x ∈ l, f x ≤ f' x) → (l.map f).sum ≤ (l.map f').sum
  | [], _ => Nat.le_refl _
  | x :: r, h => by
    have k := sum_mono (l := r) fun y hy => h y (List.mem_cons_of_mem _ hy)
    have k2 := h x List.mem_cons_self
    rw [List.map_cons, List.sum_cons, List.map_cons, List.sum_cons]
    omega
theorem sum_two {α : Type} {f : α → Nat} : ∀ {l : List α}, (l.map fun x => 2 * f x).sum = 2 * (l.map f).sum
  | [] => rfl
  | x :: r => by
    rw [List.map_cons, List.sum_cons, List.map_cons, List.sum_cons, sum_two (l := r)]
    omega


def LB (cs rs os : List Str) : Nat → List PyData → Prop
  | 0, ss => ss = []
  | n + 1, ss => ∀ s ∈ ss, Wf cs rs os s ∧ ∀ p ∈ parts s, ∃ ds, p = .tuple ds ∧ LB cs rs os n ds
def lnS (n : Nat) (mg : Str) (s : PyData) : List Str := (mg ++ Txt.join blank (firstW (wordS s) :: strsD s)) :: (parts s).zipIdx.flatMap fun p => (if p.2 = 1 then [mg ++ secondW (wordS s)] else []) ++ lns n (mg ++ step) (bodyOf p.1)
theorem lns_S (n : Nat) (mg : Str) (ss : List PyData) : lns (n + 1) mg ss = ss.flatMap (lnS n mg) := rfl
theorem zip_seconds {l : List PyData} {f : PyData → Nat} : (((l.zipIdx).map fun p => (if p.2 = 1 then 1 else 0) + f p.1)).sum ≤ 1 + (l.map f).sum := by
  match l with
  | [] => simp
  | [a] => simp
  | a :: b :: r =>
    have k : ∀ (r : List PyData) (j : Nat), 2 ≤ j → (((r.zipIdx j).map fun p => (if p.2 = 1 then 1 else 0) + f p.1)).sum = (r.map f).sum := by
      intro r
      induction r with
      | nil => intro j _; rfl
      | cons x r ih =>
        intro j hj
        rw [List.zipIdx_cons, List.map_cons, List.sum_cons, List.map_cons, List.sum_cons, ih (j + 1) (by omega)]
        show (if j = 1 then 1 else 0) + f x + _ = _
        rw [if_neg (by omega)]
        omega
    rw [List.zipIdx_cons, List.zipIdx_cons, List.map_cons, List.map_cons, List.sum_cons, List.sum_cons, k r 2 (by omega), List.map_cons, List.map_cons, List.sum_cons, List.sum_cons]
    show (if 0 = 1 then 1 else 0) + f a + ((if 0 + 1 = 1 then 1 else 0) + f b + _) ≤ _
    rw [if_neg (by decide), if_pos rfl]
    omega
theorem lns_len {cs rs os : List Str} : ∀ {n : Nat} {mg : Str} {ss : List PyData}, LB cs rs os n ss → (lns n mg ss).length ≤ 2 * cnt n ss
  | 0, _, _, _ => Nat.zero_le _
  | n + 1, mg, ss, h => by
    rw [lns_S, List.length_flatMap]
    show (ss.map _).sum ≤ 2 * (ss.map fun s => 1 + ((parts s).map fun p => cnt n (bodyOf p)).sum).sum
    have one : ∀ s ∈ ss, (lnS n mg s).length ≤ 2 * (1 + ((parts s).map fun p => cnt n (bodyOf p)).sum) := by
      intro s hs
      obtain ⟨_, hp⟩ := h s hs
      show (_ :: List.flatMap _ _).length ≤ _
      rw [List.length_cons, List.length_flatMap]
      have k1 : ∀ p ∈ (parts s).zipIdx, ((if p.2 = 1 then [mg ++ secondW (wordS s)] else []) ++ lns n (mg ++ step) (bodyOf p.1)).length ≤ (if p.2 = 1 then 1 else 0) + 2 * cnt n (bodyOf p.1) := by
        intro p hpm
        have hm : p.1 ∈ parts s := by
          obtain ⟨_, z2, z3⟩ := List.mem_zipIdx hpm
          rw [z3]
          exact List.getElem_mem _
        obtain ⟨ds, e, hb⟩ := hp _ hm
        have k := lns_len (mg := mg ++ step) hb
        rw [e]
        rw [List.length_append]
        show _ + (lns n (mg ++ step) ds).length ≤ _ + 2 * cnt n ds
        by_cases q : p.2 = 1
        · rw [if_pos q, if_pos q]
          show 1 + _ ≤ _
          omega
        · rw [if_neg q, if_neg q]
          show 0 + _ ≤ _
          omega
      have k2 := zip_seconds (l := parts s) (f := fun p => 2 * cnt n (bodyOf p))
      have k3 : ((parts s).zipIdx.map fun p => ((if p.2 = 1 then [mg ++ secondW (wordS s)] else []) ++ lns n (mg ++ step) (bodyOf p.1)).length).sum ≤ ((parts s).zipIdx.map fun p => (if p.2 = 1 then 1 else 0) + 2 * cnt n (bodyOf p.1)).sum := sum_mono k1
      have k4 : ((parts s).map fun p => 2 * cnt n (bodyOf p)).sum = 2 * ((parts s).map fun p => cnt n (bodyOf p)).sum := sum_two
      omega
    rw [← sum_two]
    exact sum_mono one

end K06
set_option Elab.async false
set_option linter.all false
set_option maxRecDepth 100000
set_option maxHeartbeats 8000000
namespace K06
open PySem PySem.Spec PyProof.Rows L2 He XH XV XR PEN TR Evl


def secs : List Str := ["either", "told", "look", "guard", "lastly"]
theorem two_words : ∀ p ∈ ENT, (p.2 = [("part" : Str), "part"] ∨ p.2 = [("cell" : Str), "part", "part"]) → p.1 ∈ secs := by decide +kernel
theorem two_secs {cs rs os : List Str} {s : PyData} (h : Wf cs rs os s) (k : 2 ≤ (parts s).length) : wordS s ∈ secs := by
  obtain ⟨w, ks, args, rfl, hk, hl, hf⟩ := h
  have k9 := kinds9 _ hk
  simp only [List.mem_cons, List.not_mem_nil, or_false] at k9
  have few : args.length ≤ 1 → False := fun e => by
    have z : ((args.filter isP)).length ≤ args.length := List.length_filter_le ..
    have k' : 2 ≤ (args.filter isP).length := k
    omega
  have e2 : ks = [("part" : Str), "part"] ∨ ks = [("cell" : Str), "part", "part"] := by
    rcases k9 with e | e | e | e | e | e | e | e | e
    · exact absurd (few (by rw [hl, e]; decide)) id
    · exact absurd (few (by rw [hl, e]; decide)) id
    · exact absurd (few (by rw [hl, e]; decide)) id
    · exact absurd (few (by rw [hl, e]; decide)) id
    · exact absurd (few (by rw [hl, e]; decide)) id
    · exact absurd (few (by rw [hl, e]; decide)) id
    · exact absurd (few (by rw [hl, e]; decide)) id
    · exact .inl e
    · exact .inr e
  exact two_words _ hk e2
theorem sec_word {K : PySem.W.Frag} {w : World} {mg : Str → Option Value} (T : Tx K w mg) {z : Str} (h : z ∈ secs) : KDct K w (ga K "SECOND_WORDS") z (.str (secondW z)) ∧ (secondW z).length ≤ 10 := by
  obtain ⟨es, n, D, hs⟩ := T.se
  unfold secs at h
  simp only [List.mem_cons, List.not_mem_nil, or_false] at h
  rcases h with rfl | rfl | rfl | rfl | rfl
  · obtain ⟨t, e⟩ := hs ("either", "or") (by simp)
    exact ⟨⟨es, n, _, D.at_, D.lit, e, ⟨t, rfl⟩⟩, by decide +kernel⟩
  · obtain ⟨t, e⟩ := hs ("told", "else") (by simp)
    exact ⟨⟨es, n, _, D.at_, D.lit, e, ⟨t, rfl⟩⟩, by decide +kernel⟩
  · obtain ⟨t, e⟩ := hs ("look", "else") (by simp)
    exact ⟨⟨es, n, _, D.at_, D.lit, e, ⟨t, rfl⟩⟩, by decide +kernel⟩
  · obtain ⟨t, e⟩ := hs ("guard", "rescue") (by simp)
    exact ⟨⟨es, n, _, D.at_, D.lit, e, ⟨t, rfl⟩⟩, by decide +kernel⟩
  · obtain ⟨t, e⟩ := hs ("lastly", "lastly") (by simp)
    exact ⟨⟨es, n, _, D.at_, D.lit, e, ⟨t, rfl⟩⟩, by decide +kernel⟩

end K06
set_option Elab.async false
set_option linter.all false
set_option maxRecDepth 100000
set_option maxHeartbeats 8000000
namespace K06
open PySem PySem.Spec PyProof.Rows L2 He XH XV XR PEN TR Evl


theorem joinL_len (S : List Nat) : ∀ ls : List (List Nat), (TL.joinL S ls).length ≤ (ls.map (·.length)).sum + ls.length * S.length
  | [] => Nat.zero_le _
  | [p] => by
    show p.length ≤ (p.length + 0) + 1 * S.length
    omega
  | p :: q :: r => by
    have k := joinL_len S (q :: r)
    show (p ++ (S ++ TL.joinL S (q :: r))).length ≤ _
    rw [List.length_append, List.length_append, List.map_cons, List.sum_cons, List.length_cons, Nat.succ_mul]
    omega
theorem join_len (a : Str) (ys : List Str) : (Txt.join a ys).length ≤ (ys.map (·.length)).sum + ys.length * a.length := by
  have z : TL.tl (Txt.join a ys) = TL.joinL (TL.tl a) (ys.map TL.tl) := by
    rw [TL.join_eq, TL.tl_join]
  have l1 : (Txt.join a ys).length = (TL.tl (Txt.join a ys)).length := len_codes _
  have l2 : a.length = (TL.tl a).length := len_codes _
  have l3 : (ys.map TL.tl).map (·.length) = ys.map (·.length) := by
    rw [List.map_map]
    exact List.map_congr_left fun y _ => (len_codes y).symm
  have k := joinL_len (TL.tl a) (ys.map TL.tl)
  rw [l3, List.length_map] at k
  rw [l1, z, l2]
  exact k
theorem dp_front {K : PySem.W.Frag} {H : Hp} : ∀ {zs : List Str} {vs : List V} {ds : List PyData}, DpAll K H vs (zs.map PyData.str ++ ds) → vs.take zs.length = zs.map V.str
  | [], _, _, _ => rfl
  | z :: r, _, _, h => by
    cases h with
    | cons h1 h2 =>
      cases h1
      show V.str z :: _ = V.str z :: _
      rw [dp_front h2]
def spPL (K : PySem.W.Frag) (n : Nat) : Sp := fun vs H Q _ => ∃ b mg ss m cs rs os, vs = [.ref b, .str mg] ∧ Dp K H (.ref b) (.tuple ss) ∧ Tts m ss ∧ LB cs rs os n ss ∧ cnt n ss ≤ 14 ∧ (∀ z ∈ cs ++ rs ++ os, z.length ≤ 12) ∧ mg.length + 2 * n ≤ 20 ∧ ∀ q H', H q = none → Ex H H' → H' q = some (.lst ((lns n mg ss).map V.str)) → Q (.ref q) H'
def spSL (K : PySem.W.Frag) (n : Nat) : Sp := fun vs H Q _ => ∃ v mg s m cs rs os, vs = [v, .str mg] ∧ Dp K H v s ∧ Tt m s ∧ Wf cs rs os s ∧ (∀ p ∈ parts s, ∃ ds, p = .tuple ds ∧ LB cs rs os n ds) ∧ cnt (n + 1) [s] ≤ 14 ∧ (∀ z ∈ cs ++ rs ++ os, z.length ≤ 12) ∧ mg.length + 2 * n ≤ 18 ∧ ∀ q H', H q = none → Ex H H' → H' q = some (.lst ((lnS n mg s).map V.str)) → Q (.ref q) H'
theorem nms_len {cs rs os : List Str} (h : ∀ z ∈ cs ++ rs ++ os, z.length ≤ 12) (k : Str) : ∀ z ∈ nmsOf cs rs os k, z.length ≤ 12 := by
  intro z hz
  unfold nmsOf at hz
  split at hz
  · exact h z (List.mem_append_left _ (List.mem_append_left _ hz))
  · split at hz
    · exact h z (List.mem_append_left _ (List.mem_append_right _ hz))
    · split at hz
      · exact h z (List.mem_append_right _ hz)
      · split at hz
        · exact (show ∀ z ∈ ([("copy" : Str), "view"] : List Str), z.length ≤ 12 by decide +kernel) z hz
        · split at hz
          · exact (show ∀ z ∈ ([("found" : Str), "none"] : List Str), z.length ≤ 12 by decide +kernel) z hz
          · cases hz
theorem strs_len {cs rs os : List Str} {s : PyData} (h : Wf cs rs os s) (hl : ∀ z ∈ cs ++ rs ++ os, z.length ≤ 12) : ∀ z ∈ strsD s, z.length ≤ 12 := by
  obtain ⟨w, ks, args, rfl, hk, hlen, hf⟩ := h
  intro z hz
  obtain ⟨x, hx, e⟩ := List.mem_filterMap.mp hz
  obtain ⟨i, hi⟩ := List.mem_iff_getElem?.mp hx
  have hi2 := (List.getElem?_eq_some_iff.mp hi).1
  have hki : ks[i]? = some (ks[i]'(by rw [← hlen]; exact hi2)) := List.getElem?_eq_getElem _
  have f := hf i _ x hki hi
  generalize ks[i]'(by rw [← hlen]; exact hi2) = k at hki f
  by_cases e2 : k = "part"
  · subst e2
    obtain ⟨ds, rfl⟩ := part_of f
    cases e
  · obtain ⟨y, rfl, hy⟩ := str_of e2 f
    cases e
    exact nms_len hl k z hy
theorem words_len : ∀ p ∈ ENT, p.1.length ≤ 12 := by
  have k : ∀ p ∈ ENT, decide (p.1.length ≤ 12) = true := by decide +kernel
  exact fun p h => of_decide_eq_true (k p h)

theorem mem_le_sum {α : Type} {f : α → Nat} {x : α} : ∀ {l : List α}, x ∈ l → f x ≤ (l.map f).sum
  | y :: r, h => by
    rw [List.map_cons, List.sum_cons]
    rcases List.mem_cons.mp h with e | k
    · rw [e]
      omega
    · have := mem_le_sum (f := f) k
      omega
theorem tts_tup {m : Nat} {ds : List PyData} (h : Tt m (.tuple ds)) : ∃ m', Tts m' ds := by
  cases h with
  | tup _ h => exact ⟨_, h⟩
theorem parts_tts {m : Nat} {s : PyData} (h : Tt m s) : ∃ m', Tts m' (parts s) := by
  cases h with
  | str _ => exact ⟨0, .nil⟩
  | int _ => exact ⟨0, .nil⟩
  | @tup m1 ds _ h =>
    refine ⟨m1, Tts.of fun d hd => h.at d ?_⟩
    cases ds with
    | nil => cases hd
    | cons x r => exact List.mem_cons_of_mem _ (List.mem_filter.mp hd).1
def lnP (n : Nat) (mg : Str) (s : PyData) (p : PyData × Nat) : List Str := (if p.2 = 1 then [mg ++ secondW (wordS s)] else []) ++ lns n (mg ++ step) (bodyOf p.1)

section
variable {P : Program} {w : World} {K : PySem.W.Frag} {mg : Str → Option Value} {base : Heap}

theorem ok_statement_lines {fd : FuncData} {n k : Nat} (hk2 : 2 ≤ k) (F : FnP K "statement_lines" "statement_lines" s_statement_lines (ga K "statement_lines") fd) (T : Tx K w mg) (c_parts_of : Cl P w K mg base CX0 2 (ga K "parts_of") ["statement"] (spPt K)) (c_part_lines : Cl P w K mg base CX0 k (ga K "part_lines") ["part", "margin"] (spPL K n)) : FnOk P w K mg base CX0 (k + 1) (ga K "statement_lines") fd ["statement", "margin"] (spSL K n) := by
  obtain ⟨fd_parts_of, G_parts_of, b_parts_of, kp_parts_of⟩ := c_parts_of
  obtain ⟨fd_part_lines, G_part_lines, b_part_lines, kp_part_lines⟩ := c_part_lines
  refine FunD.ok F sc_statement_lines (fun vs H Q E h => ?_) (fun cdv A outer s H vs Q E hr h => ?_)
  · obtain ⟨v, mg, s, m, cs, rs, os, rfl, _⟩ := h
    rfl
  · obtain ⟨v, mg, s, m, cs, rs, os, rfl, hd, htt, hwf, hpt, hc, hl12, hmg, kk⟩ := h
    have g_parts_of := T.gl "parts_of" (by decide +kernel)
    have n_len := T.fr "len" (by decide +kernel)
    have n_enumerate := T.fr "enumerate" (by decide +kernel)
    have g_SECOND_WORDS := T.gl "SECOND_WORDS" (by decide +kernel)
    have g_part_lines := T.gl "part_lines" (by decide +kernel)
    obtain ⟨tk_STEP, g_STEP⟩ := T.c_STEP
    refine ⟨_, PSs.nox (pss_cons (ps_set (i := 2) sc_statement_lines.nd rfl (Or.inl rfl) (pe_ix ix_tup (pv 0) pe_int (fun _ _ => rfl)))
      (pss_cons (ps_set (i := 3) sc_statement_lines.nd rfl (Or.inl rfl) (pe_call G_parts_of (hr.mono (by omega)) (by rfl) g_parts_of kp_parts_of b_parts_of .nil pass0 (pa_cons (pv 0) pa_nil)))
      (pss_cons (ps_set (i := 4) sc_statement_lines.nd rfl (Or.inl rfl) (pe_slice sl_tup (pv 0) (po_some pe_int) (po_some (pe_op op_sub (pe_callB call_len_seq (by rfl) n_len (by decide +kernel) (pa_cons (pv 0) pa_nil)) (pe_callB call_len_seq (by rfl) n_len (by decide +kernel) (pa_cons (pv 3) pa_nil))))))
      (pss_cons (ps_set (i := 5) sc_statement_lines.nd rfl (Or.inl rfl) (pe_ifExp (pt_cmpR op_eq (pv 2) pe_str (nomark _)) pe_str (pv 2)))
      (pss_cons (ps_set (i := 6) sc_statement_lines.nd rfl (Or.inl rfl) (pe_lst (pa_cons (pe_op op_add_str (pv 1) (pe_join pe_str (pe_lst (pa_cons (pv 5) (StX.pa_star (pv 4) pa_nil))))) pa_nil)))
      (pss_cons (ps_for PassesOwn.never rfl (pi_enum (by rfl) n_enumerate (pa_cons (pv 3) pa_nil)) (pg_tup rfl (pgs_cons (pg_name (i := 7) sc_statement_lines.nd rfl (Or.inl rfl)) (pgs_cons (pg_name (i := 8) sc_statement_lines.nd rfl (Or.inl rfl)) pgs_nil)))
      (pss_cons (ps_if (pt_cmpR op_eq (pv 7) pe_int (nomark _))
      (pss_one (ps_expr (pe_bm PySem.F.plainAttrs_list PySem.F.slot_list_append PySem.F.type_list_append mt_append (pv 6) (pa_cons (pe_op op_add_str (pv 1) (pe_ix ix_kdict (pe_glob (v := .ref _) (by rfl) g_SECOND_WORDS rfl) (pv 2) (fun _ _ => rfl))) pa_nil))))
      pss_nil)
      (pss_one (ps_expr (pe_bm PySem.F.plainAttrs_list PySem.F.slot_list_extend PySem.F.type_list_extend mt_extend (pv 6) (pa_cons (pe_call G_part_lines (hr.mono (by omega)) (by rfl) g_part_lines kp_part_lines b_part_lines .nil pass0 (pa_cons (pv 8) (pa_cons (pe_op op_add_str (pv 1) (pe_glob (v := .str _) (by rfl) g_STEP ⟨_, rfl⟩)) pa_nil))) pa_nil))))))
      (pss_one (ps_ret (pv 6))))))))), ?_⟩
    have hsp := hwf.split
    have zl := strs_len hwf hl12
    have hsh := hwf.sh
    have hp3 := parts3 hsh
    obtain ⟨wd, ks, args, es, hk, hkl, _⟩ := id hwf
    have hdw := hd
    rw [es] at hd
    cases hd with
    | @tup t xs _ hx hxs =>
      cases hxs with
      | @cons v0 rest _ _ hv0 hrest =>
        cases hv0
        have ew : wordS s = wd := by rw [es]; rfl
        have ea : argsOf s = args := by rw [es]; rfl
        rw [ea] at hsp
        have lrest := dpAll_len hrest
        have fr := hrest
        rw [hsp] at fr
        have front := dp_front fr
        have la : args.length = (strsD s).length + (parts s).length := by rw [hsp, List.length_append, List.length_map]
        have wl := words_len _ hk
        simp only at wl
        refine ⟨.ref t, rfl, t, _, 0, .str wd, rfl, rfl, hx, atI_nat (j := 0) rfl, ?_⟩
        dsimp only [gName, List.set]
        refine ⟨.ref t, rfl, .ref t, s, m, rfl, hdw, htt, hsh, fun q ys H1 hq e1 g1 d1 => ?_⟩
        have ly := dpAll_len d1
        dsimp only [gName, List.set]
        refine ⟨.ref t, rfl, 1, rfl, .ref t, rfl, t, _, rfl, .inr (ex_t e1 hx), .ref q, rfl, q, _, rfl, .inl (sq_of g1), _, _, rfl, rfl, _, rfl, t, _, rfl, ex_t e1 hx, ?_, fun nm hnm => ?_⟩
        · intro h
          have h1 := h.1
          rw [show ((1 : Int)) = ((1 : Nat) : Int) from rfl, HT.sIx_nat] at h1
          simp only [List.length_cons] at h1
          omega
        have eU : (((V.str wd :: rest).length : Nat) : Int) - ((ys.length : Nat) : Int) = ((1 + (strsD s).length : Nat) : Int) := by
          rw [List.length_cons]
          omega
        rw [eU, show ((1 : Int)) = ((1 : Nat) : Int) from rfl, cut_mid (by rw [List.length_cons]; omega)]
        have eN : (List.drop 1 (V.str wd :: rest)).take (strsD s).length = (strsD s).map V.str := front
        rw [eN]
        have e2 := e1.trans (Ex.new (o := .tup ((strsD s).map V.str)) hnm)
        have g2 : upd H1 nm (.tup ((strsD s).map V.str)) nm = some (.tup ((strsD s).map V.str)) := upd_same
        have g1' := Ex.new (o := .tup ((strsD s).map V.str)) hnm _ _ g1
        have d1' := dpMs (Ex.new (o := .tup ((strsD s).map V.str)) hnm) _ _ d1
        generalize upd H1 nm (.tup ((strsD s).map V.str)) = H2 at e2 g2 g1' d1'
        dsimp only [gName, List.set]
        refine q_asg (v := .str (firstW wd)) (ev_if (b := decide (V.str wd = V.str "lastly")) (et_test (ev_op (ev_var rfl) ev_c (rv_eq rfl))) (fun hb => ev_is ev_c ?_) (fun hb => ev_is (ev_var rfl) ?_)) fun H3 e3 => ?_
        · have e := of_decide_eq_true hb
          injection e with e
          unfold firstW
          rw [if_pos e]
        · have e := of_decide_eq_false hb
          unfold firstW
          rw [if_neg (fun x => e (by rw [x]))]
        have fl : (firstW wd).length ≤ 12 := by
          unfold firstW
          split
          · decide +kernel
          · omega
        have sl := sum_lens (b := 12) (zs := firstW wd :: strsD s) (fun z hz => by
          rcases List.mem_cons.mp hz with e | h
          · rw [e]; exact fl
          · exact zl z h)
        have kb : (blank).length = 1 := by decide +kernel
        have nzs : (strsD s).length ≤ 3 := by
          have k := ent3 _ hk
          simp only at k
          omega
        have jl := join_len blank (firstW wd :: strsD s)
        rw [kb] at jl
        rw [List.length_cons] at sl jl
        refine ⟨.str mg, rfl, ⟨_, rfl⟩, .str (firstW wd), rfl, .ref nm, rfl, nm, _, rfl, .inl (st_of (e3 _ _ g2)), ?_, fun jq hjq => ⟨blank, jq, firstW wd :: strsD s, rfl, rfl, .inl (sq_of (by rw [upd_same, List.append_nil]; rfl)), ?_, mg, _, rfl, rfl, fits ?_, (show 1 ≤ sizeLine by decide), fun Lq hLq => ?_⟩⟩
        · show (_ :: ((strsD s).map V.str ++ [])).length ≤ sizeLine
          rw [List.append_nil, List.length_cons, List.length_map]
          exact fits (by omega)
        · rw [kb, List.length_cons]
          omega
        · omega
        have e5 : Ex H3 (upd (upd H3 jq (.lst (.str (firstW wd) :: ((strsD s).map V.str ++ [])))) Lq (.lst [.str (mg ++ Txt.join blank (firstW wd :: strsD s))])) := (Ex.new hjq).trans (Ex.new hLq)
        have hLq0 : H Lq = none := fresh_back ((e2.trans e3).trans (Ex.new hjq)) hLq
        have gL : upd (upd H3 jq (.lst (.str (firstW wd) :: ((strsD s).map V.str ++ [])))) Lq (.lst [.str (mg ++ Txt.join blank (firstW wd :: strsD s))]) Lq = some (.lst ([(mg ++ Txt.join blank (firstW wd :: strsD s))].map V.str)) := upd_same
        have gq := e5 _ _ (e3 _ _ g1')
        have dq := dpMs (e3.trans e5) _ _ d1'
        have e6 := (e2.trans e3).trans e5
        have nqL : q ≠ Lq := ne_of_none (Ex.new (o := .lst (.str (firstW wd) :: ((strsD s).map V.str ++ []))) hjq _ _ (e3 _ _ g1')) hLq
        generalize upd (upd H3 jq (.lst (.str (firstW wd) :: ((strsD s).map V.str ++ [])))) Lq (.lst [.str (mg ++ Txt.join blank (firstW wd :: strsD s))]) = H4 at gL gq dq e6 ⊢
        clear e5
        have hLBs : LB cs rs os (n + 1) [s] := fun x hx => by
          rw [List.mem_singleton.mp hx]
          exact ⟨hwf, hpt⟩
        have tot := lns_len (mg := mg) hLBs
        rw [lns_S, List.flatMap_singleton] at tot
        have tot28 : (lnS n mg s).length ≤ 28 := by omega
        obtain ⟨mp, tps⟩ := parts_tts htt
        have c1 : ∀ p ∈ parts s, cnt n (bodyOf p) ≤ 14 := fun p hp => by
          have k := mem_le_sum (f := fun p => cnt n (bodyOf p)) hp
          rw [cnt_one] at hc
          omega
        have lst2 : step.length = 2 := by decide +kernel
        have bl := app_len mg step
        dsimp only [gName, List.set]
        refine ⟨.ref q, rfl, q, ys, rfl, sq_of gq, ?_⟩
        refine for_it (walk_enum (xs := ys)) (fun j σ' H' => ∃ zs v7 v8, σ' = [some (.ref t), some (.str mg), some (.str wd), some (.ref q), some (.ref nm), some (.str (firstW wd)), some (.ref Lq), v7, v8] ∧ H' Lq = some (.lst (zs.map V.str)) ∧ Ex H H' ∧ (H' q = some (.lst ys) ∧ DpAll K H' ys (parts s)) ∧ zs = (mg ++ Txt.join blank (firstW (wordS s) :: strsD s)) :: ((parts s).zipIdx.take j).flatMap (lnP n mg s))
          ⟨[mg ++ Txt.join blank (firstW wd :: strsD s)], _, _, rfl, gL, e6, ⟨gq, dq⟩, by rw [ew]; rfl⟩ (fun j σ' H' _ hI => ?_) (fun j x σ' H5 H6 hj hI hy => ?_) (fun σ' H' hI => ?_)
        · obtain ⟨zs, v7, v8, rfl, k1, k2, k3, k4⟩ := hI
          exact sq_of k3.1
        · obtain ⟨zs, v7, v8, rfl, k1, k2, ⟨k3, k3'⟩, k4⟩ := hI
          obtain ⟨tq, x1, y1, rfl, hT, rfl, p1, p2⟩ := hy
          cases p1
          replace p2 : ys[j]? = some y1 := p2
          obtain ⟨pd, hpd, hpv⟩ := dpAll_at k3' p2
          obtain ⟨ds, rfl, hLB⟩ := hpt pd (List.mem_of_getElem? hpd)
          obtain ⟨m', tds⟩ := tts_tup (tps.at _ (List.mem_of_getElem? hpd))
          have c2 : cnt n ds ≤ 14 := c1 _ (List.mem_of_getElem? hpd)
          have mz : (parts s).zipIdx[j]? = some (.tuple ds, j) := by
            rw [List.getElem?_zipIdx, hpd]
            simp
          cases hpv with
          | @tup pb pvs _ hpb hpvs =>
            refine ⟨tq, [.int (j : Nat), .ref pb], rfl, st_of upd_same, rfl, .int (j : Nat), [.ref pb], rfl, .ref pb, [], rfl, rfl, ?_⟩
            dsimp only [gName, List.set]
            have eT : Ex H5 (upd H5 tq (.tup [.int (j : Nat), .ref pb])) := Ex.new hT
            have ltj := flat_le (lnP n mg s) (parts s).zipIdx (j + 1)
            rw [flat_more (lnP n mg s) mz, List.length_append] at ltj
            have lS : (lnS n mg s).length = 1 + ((parts s).zipIdx.flatMap (lnP n mg s)).length := by
              show (_ :: (parts s).zipIdx.flatMap (lnP n mg s)).length = _
              rw [List.length_cons]
              omega
            have lzs : zs.length = 1 + (((parts s).zipIdx.take j).flatMap (lnP n mg s)).length := by
              rw [k4, List.length_cons]
              omega
            refine q_when (b := decide (V.int (j : Nat) = V.int 1)) (et_test (ev_op (ev_var rfl) ev_c (rv_eq rfl))) (fun hb H7 e7 => ?_) (fun hb H7 e7 => ?_)
            · have j1 : j = 1 := by
                have e := of_decide_eq_true hb
                injection e with e
                omega
              have two : 2 ≤ (parts s).length := by
                have k := (List.getElem?_eq_some_iff.mp hpd).1
                omega
              have sw := two_secs hwf two
              rw [ew] at sw
              obtain ⟨hsec, lsec⟩ := sec_word T sw
              have pj : lnP n mg s (.tuple ds, j) = [mg ++ secondW wd] ++ lns n (mg ++ step) ds := by
                unfold lnP
                rw [if_pos j1, ew]
                rfl
              rw [pj, List.length_append, List.length_singleton] at ltj
              have a2 := app_len mg (secondW wd)
              refine ⟨.ref Lq, rfl, .inl ⟨rfl, _, sq_of (e7 _ _ (eT _ _ k1))⟩, .str mg, rfl, .str wd, rfl, _, wd, .str (secondW wd), rfl, rfl, hsec, mg, _, rfl, rfl, fits (by omega), Lq, zs.map V.str, _, rfl, rfl, e7 _ _ (eT _ _ k1), ?_, ?_⟩
              · rw [List.length_map, sizeLine_eq]
                omega
              have hz : zs ++ [mg ++ secondW wd] ++ lns n (mg ++ step) ds = (mg ++ Txt.join blank (firstW (wordS s) :: strsD s)) :: ((parts s).zipIdx.take (j + 1)).flatMap (lnP n mg s) := by
                rw [flat_more (lnP n mg s) mz, pj, k4, List.append_assoc]
                rfl
              have L8 : upd H7 Lq (.lst (zs.map V.str ++ [.str (mg ++ secondW wd)])) Lq = some (.lst ((zs ++ [mg ++ secondW wd]).map V.str)) := by
                rw [upd_same, List.map_append]
                rfl
              have Q8 := (upd_ne (o := .lst (zs.map V.str ++ [.str (mg ++ secondW wd)])) nqL).trans (e7 _ _ (eT _ _ k3))
              have D8 := dps_off (o := .lst (zs.map V.str ++ [.str (mg ++ secondW wd)])) (e7 _ _ (eT _ _ k1)) tps (dpMs (eT.trans e7) _ _ k3')
              have B8 := dp_off (o := .lst (zs.map V.str ++ [.str (mg ++ secondW wd)])) (e7 _ _ (eT _ _ k1)) (tps.at _ (List.mem_of_getElem? hpd)) (dpM (eT.trans e7) _ _ (.tup hpb hpvs))
              have E8 : Ex H (upd H7 Lq (.lst (zs.map V.str ++ [.str (mg ++ secondW wd)]))) := (k2.trans (eT.trans e7)).mut hLq0
              refine ⟨.ref Lq, rfl, .inl ⟨rfl, _, sq_of L8⟩, .ref pb, rfl, .str mg, rfl, mg, step, rfl, rfl, fits (by omega), pb, mg ++ step, ds, m', cs, rs, os, rfl, B8, tds, hLB, c2, hl12, by omega, fun q2 H9 hq2 e9 h9 => ⟨Lq, q2, ((zs ++ [mg ++ secondW wd])).map V.str, (lns n (mg ++ step) ds).map V.str, rfl, rfl, e9 _ _ L8, h9, ?_, (zs ++ [mg ++ secondW wd]) ++ lns n (mg ++ step) ds, _, _, rfl, by rw [upd_same, ← List.map_append], (E8.trans e9).mut hLq0, ⟨(upd_ne nqL).trans (e9 _ _ Q8), dps_off (e9 _ _ L8) tps (dpMs e9 _ _ D8)⟩, hz⟩⟩
              rw [List.length_map, List.length_map, sizeLine_eq]
              have lz := congrArg List.length hz
              rw [List.length_append, flat_more (lnP n mg s) mz, pj, List.length_cons, List.length_append] at lz
              try simp only [List.length_append, List.length_singleton] at lz ⊢
              omega
            · have j1 : ¬ j = 1 := fun e => by
                rw [e] at hb
                exact absurd hb (by decide)
              have pj : lnP n mg s (.tuple ds, j) = lns n (mg ++ step) ds := by
                unfold lnP
                rw [if_neg j1]
                rfl
              rw [pj] at ltj
              have hz : zs ++ lns n (mg ++ step) ds = (mg ++ Txt.join blank (firstW (wordS s) :: strsD s)) :: ((parts s).zipIdx.take (j + 1)).flatMap (lnP n mg s) := by
                rw [flat_more (lnP n mg s) mz, pj, k4]
                rfl
              have L8 := e7 _ _ (eT _ _ k1)
              have Q8 := e7 _ _ (eT _ _ k3)
              have D8 := dpMs (eT.trans e7) _ _ k3'
              have B8 := dpM (eT.trans e7) _ _ (.tup hpb hpvs)
              have E8 := k2.trans (eT.trans e7)
              refine ⟨.ref Lq, rfl, .inl ⟨rfl, _, sq_of L8⟩, .ref pb, rfl, .str mg, rfl, mg, step, rfl, rfl, fits (by omega), pb, mg ++ step, ds, m', cs, rs, os, rfl, B8, tds, hLB, c2, hl12, by omega, fun q2 H9 hq2 e9 h9 => ⟨Lq, q2, (zs).map V.str, (lns n (mg ++ step) ds).map V.str, rfl, rfl, e9 _ _ L8, h9, ?_, zs ++ lns n (mg ++ step) ds, _, _, rfl, by rw [upd_same, ← List.map_append], (E8.trans e9).mut hLq0, ⟨(upd_ne nqL).trans (e9 _ _ Q8), dps_off (e9 _ _ L8) tps (dpMs e9 _ _ D8)⟩, hz⟩⟩
              rw [List.length_map, List.length_map, sizeLine_eq]
              have lz := congrArg List.length hz
              rw [List.length_append, flat_more (lnP n mg s) mz, pj, List.length_cons, List.length_append] at lz
              try simp only [List.length_append, List.length_singleton] at lz ⊢
              omega
        · obtain ⟨zs, v7, v8, rfl, k1, k2, k3, k4⟩ := hI
          rw [show (parts s).zipIdx.take ys.length = (parts s).zipIdx from List.take_of_length_le (by rw [List.length_zipIdx]; omega)] at k4
          exact ⟨.ref Lq, rfl, kk Lq _ hLq0 k2 (by rw [k1, k4]; rfl)⟩

end
end K06
set_option Elab.async false
set_option linter.all false
set_option maxRecDepth 100000
set_option maxHeartbeats 8000000
namespace K06
open PySem PySem.Spec PyProof.Rows L2 He XH XV XR PEN TR Evl


theorem lns_each {cs rs os : List Str} (hl : ∀ z ∈ cs ++ rs ++ os, z.length ≤ 12) : ∀ {n : Nat} {mg : Str} {ss : List PyData}, LB cs rs os n ss → ∀ z ∈ lns n mg ss, z.length ≤ mg.length + 2 * n + 52
  | 0, _, _, _, _, hz => nomatch hz
  | n + 1, mg, ss, h, z, hz => by
    rw [lns_S] at hz
    obtain ⟨s, hs, hz⟩ := List.mem_flatMap.mp hz
    obtain ⟨hwf, hpt⟩ := h s hs
    have zl := strs_len hwf hl
    have lst2 : step.length = 2 := by decide +kernel
    rcases List.mem_cons.mp hz with e | hz
    · rw [e, app_len]
      obtain ⟨wd, ks, args, es, hk, hkl, _⟩ := id hwf
      have wl := words_len _ hk
      simp only at wl
      have ew : wordS s = wd := by rw [es]; rfl
      have fl : (firstW (wordS s)).length ≤ 12 := by
        rw [ew]
        unfold firstW
        split
        · decide +kernel
        · omega
      have sl := sum_lens (b := 12) (zs := firstW (wordS s) :: strsD s) (fun z hz => by
        rcases List.mem_cons.mp hz with e | h
        · rw [e]; exact fl
        · exact zl z h)
      have la : args.length = (strsD s).length + (parts s).length := by
        have hsp := hwf.split
        have ea : argsOf s = args := by rw [es]; rfl
        rw [ea] at hsp
        rw [hsp, List.length_append, List.length_map]
      have k := ent3 _ hk
      simp only at k
      have jl := join_len blank (firstW (wordS s) :: strsD s)
      have kb : (blank).length = 1 := by decide +kernel
      rw [kb] at jl
      rw [List.length_cons] at sl jl
      omega
    · obtain ⟨p, hp, hz⟩ := List.mem_flatMap.mp hz
      rcases List.mem_append.mp hz with hz | hz
      · by_cases q : p.2 = 1
        · rw [if_pos q] at hz
          rw [List.mem_singleton.mp hz, app_len]
          have k : (secondW (wordS s)).length ≤ 10 := by
            unfold secondW
            split
            · decide +kernel
            · split
              · decide +kernel
              · split
                · decide +kernel
                · split <;> decide +kernel
          omega
        · rw [if_neg q] at hz
          cases hz
      · have hm : p.1 ∈ parts s := by
          obtain ⟨_, z2, z3⟩ := List.mem_zipIdx hp
          rw [z3]
          exact List.getElem_mem _
        obtain ⟨ds, e, hb⟩ := hpt _ hm
        rw [e] at hz
        have k := lns_each hl hb z hz
        rw [app_len] at k
        omega
theorem bod_hb : ∀ {n : Nat} {ss : List PyData}, Bod n ss → Hb n ss
  | 0, _, h => h
  | n + 1, ss, h => fun s hs => by
    obtain ⟨hs1, hs2⟩ := h.2 s hs
    obtain ⟨w, ks, args, e, _⟩ := hs1
    refine ⟨⟨_, args, e⟩, fun p hp => ?_⟩
    obtain ⟨ds, e2, hb⟩ := hs2 p hp
    exact ⟨ds, e2, bod_hb hb⟩
theorem bod_lb {cs rs os : List Str} : ∀ {n : Nat} {ss as : List PyData}, Bod n ss → (∀ q ∈ nums n ss as, Wf cs rs os q.1) → LB cs rs os n ss
  | 0, _, _, h, _ => h
  | n + 1, ss, as, h, k => fun s hs => by
    obtain ⟨hs1, hs2⟩ := h.2 s hs
    refine ⟨k (s, as) (List.mem_flatMap.mpr ⟨s, hs, List.mem_cons_self⟩), fun p hp => ?_⟩
    obtain ⟨ds, e2, hb⟩ := hs2 p hp
    obtain ⟨i, hi⟩ := List.mem_iff_getElem?.mp hp
    have mz : (p, i) ∈ (parts s).zipIdx := List.mem_of_getElem? (i := i) (by rw [List.getElem?_zipIdx, hi]; simp)
    refine ⟨ds, e2, bod_lb (as := as ++ [.tuple [wordOf s, .int (i : Nat)]]) hb fun q hq => k q (List.mem_flatMap.mpr ⟨s, hs, List.mem_cons_of_mem _ (List.mem_flatMap.mpr ⟨(p, i), mz, ?_⟩)⟩)⟩
    show q ∈ nums n (bodyOf p) _
    rw [e2]
    exact hq
theorem bodv_all {cs rs os : List Str} {ss : List PyData} (h : BodV cs rs os ss) : (∃ m, Tts m ss) ∧ LB cs rs os 4 ss ∧ cnt 4 ss ≤ 14 := by
  obtain ⟨⟨⟨m, _, tt⟩, hb⟩, hl, hq⟩ := h
  refine ⟨?_, bod_lb hb fun q hqm => (hq q hqm).1, ?_⟩
  · cases tt with
    | tup _ h => exact ⟨_, h⟩
  · rw [← nums_cnt (as := []) (bod_hb hb)]
    exact hl
def BodW (cs rs os : List Str) (ss : List PyData) : Prop := (∃ m, Tts m ss) ∧ LB cs rs os 4 ss ∧ cnt 4 ss ≤ 14
def txt (cs rs os : List Str) (st : Str) (bds : List (List PyData)) : List Str := [headL "cells" cs, headL "rows" rs, headL "start" [st]] ++ (os.zip bds).flatMap fun p => headL p.1 [] :: lns 4 step p.2
def nl : Str := "\n"
def spWr (K : PySem.W.Frag) : Sp := fun vs H Q _ => ∃ a c r f cs rs os st fos bds, vs = [.ref a] ∧ Cd K H a c r f cs rs os st fos bds ∧ Names cs rs os st ∧ (∀ ss ∈ bds, BodW cs rs os ss) ∧ ∀ H', Ex H H' → Q (.str (Txt.join nl (txt cs rs os st bds))) H'
theorem headL_len {w : Str} {zs : List Str} (hw : w.length ≤ 12) (hz : ∀ z ∈ zs, z.length ≤ 12) (hn : zs.length ≤ 3) : (headL w zs).length ≤ 60 := by
  have jl := join_len blank ((w ++ (":" : Str)) :: zs)
  have kb : (blank).length = 1 := by decide +kernel
  have k1 : ((":" : Str)).length = 1 := by decide +kernel
  have sl := sum_lens hz
  rw [kb, List.map_cons, List.sum_cons, List.length_cons, app_len, k1] at jl
  show (Txt.join blank _).length ≤ 60
  omega
theorem Names.l12 {cs rs os : List Str} {st : Str} (h : Names cs rs os st) : ∀ z ∈ cs ++ rs ++ os, z.length ≤ 12 := fun z hz => (h.ok.2 z hz).2.2
def fnL (p : Str × List PyData) : List Str := headL p.1 [] :: lns 4 step p.2

section
variable {P : Program} {w : World} {K : PySem.W.Frag} {mg : Str → Option Value} {base : Heap}

theorem ok_part_lines0 {fd : FuncData} (F : FnP K "part_lines" "part_lines" s_part_lines (ga K "part_lines") fd) (T : Tx K w mg) : FnOk P w K mg base CX0 (0 + 1) (ga K "part_lines") fd ["part", "margin"] (spPL K 0) := by
  refine FunD.ok F sc_part_lines (fun vs H Q E h => ?_) (fun cdv A outer s H vs Q E hr h => ?_)
  · obtain ⟨b, mg, ss, m, cs, rs, os, rfl, _⟩ := h
    rfl
  · obtain ⟨b, mg, ss, m, cs, rs, os, rfl, hb, hts, hLB, hc, hl12, hmg, kk⟩ := h
    refine ⟨_, PSs.nox (pss_cons (ps_set (i := 2) sc_part_lines.nd rfl (Or.inl rfl) (pe_lst pa_nil))
      (pss_cons (ps_for PassesOwn.never rfl (pi_tup (pv 0)) (pg_name (i := 3) sc_part_lines.nd rfl (Or.inl rfl))
      (pss_one ps_never))
      (pss_one (ps_ret (pv 2))))), ?_⟩
    have e0 : ss = [] := hLB
    subst e0
    cases hb with
    | @tup _ xs _ hx hxs =>
      cases hxs
      refine q_asgL (el_lst ea_nil (by decide)) fun D H1 hD e1 h1 => ?_
      dsimp only [gName, List.set]
      refine ⟨.ref b, rfl, b, rfl, ⟨_, ex_t e1 hx⟩, ?_⟩
      refine for_tup (xs := []) (fun i σ' H' => σ' = _ ∧ H' = H1) ⟨rfl, rfl⟩ (fun i σ' H' _ hI => by rw [hI.2]; exact ex_t e1 hx) (fun i x σ' H' hx hI => nomatch hx) (fun σ' H' hI => ?_)
      rw [hI.1, hI.2]
      exact ⟨.ref D, rfl, kk D H1 hD e1 h1⟩

theorem ok_part_linesS {fd : FuncData} {n k : Nat} (F : FnP K "part_lines" "part_lines" s_part_lines (ga K "part_lines") fd) (T : Tx K w mg) (c_statement_lines : Cl P w K mg base CX0 k (ga K "statement_lines") ["statement", "margin"] (spSL K n)) : FnOk P w K mg base CX0 (k + 1) (ga K "part_lines") fd ["part", "margin"] (spPL K (n + 1)) := by
  obtain ⟨fd_statement_lines, G_statement_lines, b_statement_lines, kp_statement_lines⟩ := c_statement_lines
  refine FunD.ok F sc_part_lines (fun vs H Q E h => ?_) (fun cdv A outer s H vs Q E hr h => ?_)
  · obtain ⟨b, mg, ss, m, cs, rs, os, rfl, _⟩ := h
    rfl
  · obtain ⟨b, mg, ss, m, cs, rs, os, rfl, hb, hts, hLB, hc, hl12, hmg, kk⟩ := h
    have g_statement_lines := T.gl "statement_lines" (by decide +kernel)
    refine ⟨_, PSs.nox (pss_cons (ps_set (i := 2) sc_part_lines.nd rfl (Or.inl rfl) (pe_lst pa_nil))
      (pss_cons (ps_for PassesOwn.never rfl (pi_tup (pv 0)) (pg_name (i := 3) sc_part_lines.nd rfl (Or.inl rfl))
      (pss_one (ps_expr (pe_bm PySem.F.plainAttrs_list PySem.F.slot_list_extend PySem.F.type_list_extend mt_extend (pv 2) (pa_cons (pe_call G_statement_lines (hr.mono (by omega)) (by rfl) g_statement_lines kp_statement_lines b_statement_lines .nil pass0 (pa_cons (pv 3) (pa_cons (pv 1) pa_nil))) pa_nil)))))
      (pss_one (ps_ret (pv 2))))), ?_⟩
    have tot := lns_len (mg := mg) hLB
    rw [lns_S] at tot
    cases hb with
    | @tup _ xs _ hx hxs =>
      have lx := dpAll_len hxs
      refine q_asgL (el_lst ea_nil (by decide)) fun D H1 hD e1 h1 => ?_
      dsimp only [gName, List.set]
      refine ⟨.ref b, rfl, b, rfl, ⟨_, ex_t e1 hx⟩, ?_⟩
      refine for_tup (xs := xs) (fun i σ' H' => ∃ zs v3, σ' = [some (.ref b), some (.str mg), some (.ref D), v3] ∧ H' D = some (.lst (zs.map V.str)) ∧ Ex H H' ∧ zs = (ss.take i).flatMap (lnS n mg)) ⟨[], _, rfl, h1, e1, rfl⟩ (fun i σ' H' _ hI => ?_) (fun i x σ' H' hxi hI => ?_) (fun σ' H' hI => ?_)
      · obtain ⟨zs, v3, rfl, f1, f2, f3⟩ := hI
        exact ex_t f2 hx
      · obtain ⟨zs, v3, rfl, f1, f2, f3⟩ := hI
        obtain ⟨s, hs, hxs'⟩ := dpAll_at hxs hxi
        have hsm := List.mem_of_getElem? hs
        obtain ⟨hwf, hpt⟩ := hLB s hsm
        have c1 : cnt (n + 1) [s] ≤ 14 := by
          have k := mem_le_sum (f := fun s => 1 + ((parts s).map fun p => cnt n (bodyOf p)).sum) hsm
          have k2 : cnt (n + 1) ss = (ss.map fun s => 1 + ((parts s).map fun p => cnt n (bodyOf p)).sum).sum := rfl
          rw [cnt_one]
          try simp only at k
          omega
        have lt := flat_le (lnS n mg) ss (i + 1)
        rw [flat_more (lnS n mg) hs, List.length_append, ← f3] at lt
        dsimp only [gName, List.set]
        refine ⟨.ref D, rfl, .inl ⟨rfl, _, sq_of f1⟩, x, rfl, .str mg, rfl, x, mg, s, m, cs, rs, os, rfl, dpM f2 _ _ hxs', hts.at s hsm, hwf, hpt, c1, hl12, by omega, fun q2 H9 hq2 e9 h9 => ⟨D, q2, zs.map V.str, (lnS n mg s).map V.str, rfl, rfl, e9 _ _ f1, h9, ?_, zs ++ lnS n mg s, _, rfl, by rw [upd_same, ← List.map_append], (f2.trans e9).mut hD, by rw [flat_more (lnS n mg) hs, f3]⟩⟩
        rw [List.length_map, List.length_map, sizeLine_eq]
        omega
      · obtain ⟨zs, v3, rfl, f1, f2, f3⟩ := hI
        rw [List.take_of_length_le (by omega)] at f3
        exact ⟨.ref D, rfl, kk D H' hD f2 (by rw [f1, f3]; rfl)⟩

theorem ok_written {fd : FuncData} {k : Nat} (hk1 : 1 ≤ k) (F : FnP K "written" "written" s_written (ga K "written") fd) (T : Tx K w mg) (c_heading : Cl P w K mg base CX0 1 (ga K "heading") ["word", "names"] (spHead K)) (c_part_lines : Cl P w K mg base CX0 k (ga K "part_lines") ["part", "margin"] (spPL K 4)) : FnOk P w K mg base CX0 (k + 1) (ga K "written") fd ["code"] (spWr K) := by
  obtain ⟨fd_heading, G_heading, b_heading, kp_heading⟩ := c_heading
  obtain ⟨fd_part_lines, G_part_lines, b_part_lines, kp_part_lines⟩ := c_part_lines
  refine FunD.ok F sc_written (fun vs H Q E h => ?_) (fun cdv A outer s H vs Q E hr h => ?_)
  · obtain ⟨a, c, r, f, cs, rs, os, st, fos, bds, rfl, _⟩ := h
    rfl
  · obtain ⟨a, c, r, f, cs, rs, os, st, fos, bds, rfl, hC, hN, hB, kk⟩ := h
    have g_heading := T.gl "heading" (by decide +kernel)
    have g_part_lines := T.gl "part_lines" (by decide +kernel)
    obtain ⟨tk_STEP, g_STEP⟩ := T.c_STEP
    refine ⟨_, PSs.nox (pss_cons (ps_set (i := 1) sc_written.nd rfl (Or.inl rfl) (pe_lst (pa_cons (pe_call G_heading (hr.mono (by omega)) (by rfl) g_heading kp_heading b_heading .nil pass0 (pa_cons pe_str (pa_cons (pe_fldc (K := K) rfl (pv 0) rfl) pa_nil))) (pa_cons (pe_call G_heading (hr.mono (by omega)) (by rfl) g_heading kp_heading b_heading .nil pass0 (pa_cons pe_str (pa_cons (pe_fldc (K := K) rfl (pv 0) rfl) pa_nil))) (pa_cons (pe_call G_heading (hr.mono (by omega)) (by rfl) g_heading kp_heading b_heading .nil pass0 (pa_cons pe_str (pa_cons (pe_lst (pa_cons (pe_fldc (K := K) rfl (pv 0) rfl) pa_nil)) pa_nil))) pa_nil)))))
      (pss_cons (ps_for PassesOwn.never rfl (pi_tup (pe_fldc (K := K) rfl (pv 0) rfl)) (pg_name (i := 2) sc_written.nd rfl (Or.inl rfl))
      (pss_cons (ps_expr (pe_bm PySem.F.plainAttrs_list PySem.F.slot_list_append PySem.F.type_list_append mt_append (pv 1) (pa_cons (pe_call G_heading (hr.mono (by omega)) (by rfl) g_heading kp_heading b_heading .nil pass0 (pa_cons (pe_fldc (K := K) rfl (pv 2) rfl) (pa_cons (pe_lst pa_nil) pa_nil))) pa_nil)))
      (pss_one (ps_expr (pe_bm PySem.F.plainAttrs_list PySem.F.slot_list_extend PySem.F.type_list_extend mt_extend (pv 1) (pa_cons (pe_call G_part_lines (hr.mono (by omega)) (by rfl) g_part_lines kp_part_lines b_part_lines .nil pass0 (pa_cons (pe_fldc (K := K) rfl (pv 2) rfl) (pa_cons (pe_glob (v := .str _) (by rfl) g_STEP ⟨_, rfl⟩) pa_nil))) pa_nil))))))
      (pss_one (ps_ret (pe_join pe_str (pv 1)))))), ?_⟩
    obtain ⟨dx, hA⟩ := hC.at_
    have l12 := hN.l12
    have z := hN.sz
    have lst : st.length ≤ 12 := l12 st (List.mem_append_right _ hN.st)
    have lc : ∀ z ∈ cs, z.length ≤ 12 := fun z hz => l12 z (List.mem_append_left _ (List.mem_append_left _ hz))
    have lr : ∀ z ∈ rs, z.length ≤ 12 := fun z hz => l12 z (List.mem_append_left _ (List.mem_append_right _ hz))
    have lo : ∀ z ∈ os, z.length ≤ 12 := fun z hz => l12 z (List.mem_append_right _ hz)
    have w1 : (("cells" : Str)).length ≤ 12 := by decide +kernel
    have w2 : (("rows" : Str)).length ≤ 12 := by decide +kernel
    have w3 : (("start" : Str)).length ≤ 12 := by decide +kernel
    refine ⟨.ref a, rfl, a, _, dx, _, .ref c, rfl, hA, T.cc, T.nc "cells" (by decide +kernel), rfl, "cells", c, cs, rfl, .inl (st_of hC.ca), by omega, ⟨by omega, fun z hz => Nat.le_trans (lc z hz) (by decide)⟩, fun H1 e1 => ?_⟩
    refine ⟨.ref a, rfl, a, _, dx, _, .ref r, rfl, e1 _ _ hA, T.cc, T.nc "rows" (by decide +kernel), rfl, "rows", r, rs, rfl, .inl (st_of (e1 _ _ hC.ra)), by omega, ⟨by omega, fun z hz => Nat.le_trans (lr z hz) (by decide)⟩, fun H2 e2 => ?_⟩
    refine ⟨.ref a, rfl, a, _, dx, _, .str st, rfl, e2 _ _ (e1 _ _ hA), T.cc, T.nc "start" (by decide +kernel), rfl, (show 1 ≤ sizeLine by decide), fun q hq => ⟨"start", q, [st], rfl, .inr (sq_of upd_same), by omega, ⟨by simp, fun z hz => by rw [List.mem_singleton.mp hz]; omega⟩, fun H3 e3 => ⟨(show 3 ≤ sizeLine by decide), fun D hD => ?_⟩⟩⟩
    have e4 := ((e1.trans e2).trans (Ex.new hq)).trans e3
    have hD0 := fresh_back e4 hD
    have e5 := e4.trans (Ex.new (o := .lst [.str (headL "cells" cs), .str (headL "rows" rs), .str (headL "start" [st])]) hD)
    dsimp only [gName, List.set]
    refine ⟨.ref a, rfl, a, _, dx, _, .ref f, rfl, e5 _ _ hA, T.cc, T.nc "functions" (by decide +kernel), rfl, f, rfl, ⟨_, st_of (e5 _ _ hC.fa)⟩, ?_⟩
    have each : ∀ z ∈ txt cs rs os st bds, z.length ≤ 80 := by
      intro z hz
      rcases List.mem_append.mp hz with hz | hz
      · simp only [List.mem_cons, List.not_mem_nil, or_false] at hz
        rcases hz with e | e | e
        · rw [e]
          exact Nat.le_trans (headL_len w1 lc (by omega)) (by decide)
        · rw [e]
          exact Nat.le_trans (headL_len w2 lr (by omega)) (by decide)
        · rw [e]
          exact Nat.le_trans (headL_len w3 (fun z hz => by rw [List.mem_singleton.mp hz]; omega) (by simp)) (by decide)
      · obtain ⟨p, hp, hz⟩ := List.mem_flatMap.mp hz
        obtain ⟨p1, p2⟩ := p
        have m1 := (List.of_mem_zip hp).1
        have m2 := (List.of_mem_zip hp).2
        rcases List.mem_cons.mp hz with e | hz
        · rw [e]
          exact Nat.le_trans (headL_len (lo _ m1) (fun z hz => nomatch hz) (by simp)) (by decide)
        · obtain ⟨_, hL, hc⟩ := (hB _ m2)
          have k := lns_each l12 hL z hz
          have lst2 : step.length = 2 := by decide +kernel
          omega
    have few : (txt cs rs os st bds).length ≤ 100 := by
      show (_ ++ List.flatMap _ _).length ≤ 100
      rw [List.length_append, List.length_flatMap]
      have k := sum_le (l := os.zip bds) (f := fun p => (headL p.1 [] :: lns 4 step p.2).length) (b := 29) fun p hp => by
        obtain ⟨p1, p2⟩ := p
        obtain ⟨_, hL, hc⟩ := (hB _ (List.of_mem_zip hp).2)
        have k := lns_len (mg := step) hL
        show (_ :: lns 4 step p2).length ≤ 29
        rw [List.length_cons]
        omega
      have k2 : (os.zip bds).length ≤ 3 := by
        rw [List.length_zip]
        omega
      simp only [List.length_cons, List.length_nil] at k ⊢
      have k3 : (os.zip bds).length * 29 ≤ 3 * 29 := Nat.mul_le_mul_right _ k2
      omega
    refine for_tup (xs := fos.map V.ref) (fun i σ' H' => ∃ zs v2, σ' = [some (.ref a), some (.ref D), v2] ∧ H' D = some (.lst (zs.map V.str)) ∧ Ex H H' ∧ zs = [headL "cells" cs, headL "rows" rs, headL "start" [st]] ++ ((os.zip bds).take i).flatMap fnL)
      ⟨[headL "cells" cs, headL "rows" rs, headL "start" [st]], _, rfl, upd_same, e5, rfl⟩ (fun i σ' H' _ hI => ?_) (fun i x σ' H' hx hI => ?_) (fun σ' H' hI => ?_)
    · obtain ⟨zs, v2, rfl, f1, f2, f3⟩ := hI
      exact st_of (f2 _ _ hC.fa)
    · obtain ⟨zs, v2, rfl, f1, f2, f3⟩ := hI
      rw [List.getElem?_map] at hx
      cases p : fos[i]? with
      | none =>
        rw [p] at hx
        cases hx
      | some t =>
        rw [p] at hx
        cases hx
        obtain ⟨y, ss, ho, hb, hFn⟩ := hC.fs.at p
        have mz : (os.zip bds)[i]? = some (y, ss) := by
          rw [List.getElem?_zip_eq_some]
          exact ⟨ho, hb⟩
        obtain ⟨⟨m, hts⟩, hL, hc⟩ := (hB ss (List.mem_of_getElem? hb))
        have ly := lo y (List.mem_of_getElem? ho)
        have lt := flat_le fnL (os.zip bds) (i + 1)
        rw [flat_more fnL mz, List.length_append] at lt
        have few2 : 3 + ((os.zip bds).flatMap fnL).length ≤ 100 := by
          have k := few
          unfold txt at k
          rw [List.length_append] at k
          exact k
        have lfn : (fnL (y, ss)).length = 1 + (lns 4 step ss).length := by
          show (_ :: lns 4 step ss).length = _
          rw [List.length_cons]
          omega
        have lzs : zs.length = 3 + (((os.zip bds).take i).flatMap fnL).length := by
          rw [f3, List.length_append]
          rfl
        obtain ⟨dxf, b, mn, g1, g2⟩ := hFn
        dsimp only [gName, List.set]
        refine ⟨.ref D, rfl, .inl ⟨rfl, _, sq_of f1⟩, .ref t, rfl, t, _, dxf, _, .str y, rfl, f2 _ _ g1, T.cf, T.nf "name" (by decide +kernel), rfl, (show 0 ≤ sizeLine by decide), fun q hq => ⟨y, q, [], rfl, .inr (sq_of upd_same), by omega, ⟨by simp, fun z hz => nomatch hz⟩, fun H3 e3 => ?_⟩⟩
        have e6 := (Ex.new (o := .lst []) hq).trans e3
        refine ⟨D, zs.map V.str, _, rfl, rfl, e6 _ _ f1, ?_, ?_⟩
        · rw [List.length_map, sizeLine_eq]
          omega
        have L8 : upd H3 D (.lst (zs.map V.str ++ [.str (headL y [])])) D = some (.lst ((zs ++ [headL y []]).map V.str)) := by
          rw [upd_same, List.map_append]
          rfl
        have E8 : Ex H (upd H3 D (.lst (zs.map V.str ++ [.str (headL y [])]))) := (f2.trans e6).mut hD0
        refine ⟨.ref D, rfl, .inl ⟨rfl, _, sq_of L8⟩, .ref t, rfl, t, _, dxf, _, .ref b, rfl, E8 _ _ g1, T.cf, T.nf "body" (by decide +kernel), rfl, b, step, ss, m, cs, rs, os, rfl, dpM E8 _ _ g2, hts, hL, hc, l12, (by decide +kernel), fun q2 H9 hq2 e9 h9 => ⟨D, q2, (zs ++ [headL y []]).map V.str, (lns 4 step ss).map V.str, rfl, rfl, e9 _ _ L8, h9, ?_, zs ++ [headL y []] ++ lns 4 step ss, _, rfl, by rw [upd_same, ← List.map_append], (E8.trans e9).mut hD0, ?_⟩⟩
        · rw [List.length_map, List.length_map, List.length_append, List.length_singleton, sizeLine_eq]
          omega
        · rw [flat_more fnL mz, f3, List.append_assoc, List.append_assoc]
          rfl
    · obtain ⟨zs, v2, rfl, f1, f2, f3⟩ := hI
      have lf : (os.zip bds).length = fos.length := by
        rw [List.length_zip, hC.fs.1, hC.fs.2.1, Nat.min_self]
      rw [List.length_map, List.take_of_length_le (by omega)] at f3
      have f4 : zs = txt cs rs os st bds := f3
      refine ⟨⟨_, rfl⟩, .ref D, rfl, nl, D, zs, rfl, rfl, .inl (sq_of f1), ?_, ?_⟩
      · have k := sum_lens each
        rw [← f4] at k few
        have kn : nl.length = 1 := by decide +kernel
        rw [kn]
        have k2 : zs.length * 80 ≤ 100 * 80 := Nat.mul_le_mul_right _ few
        omega
      · rw [f4]
        exact kk H' f2

end
end K06
set_option Elab.async false
set_option linter.all false
set_option maxRecDepth 100000
set_option maxHeartbeats 8000000
namespace K06
open PySem PySem.Spec PyProof.Rows L2 He XH XV XR PEN TR Evl


def strO : PyData → Option Str
  | .str z => some z
  | _ => none
theorem strsD_eq (s : PyData) : strsD s = (argsOf s).filterMap strO := by
  unfold strsD
  congr 1
theorem fm_more {α β : Type} {l : List α} {i : Nat} {x : α} (f : α → Option β) (h : l[i]? = some x) : (l.take (i + 1)).filterMap f = (l.take i).filterMap f ++ (f x).toList := by
  rw [take_more h, List.filterMap_append]
  cases q : f x <;> simp [q]
def rJoin (K : PySem.W.Frag) : V → List V → Hp → VK → Prop := fun x xs H Q => ∃ a p, ∃ ys : List Str, x = .str a ∧ xs = [.ref p] ∧ (SqL K H p (ys.map V.str) ∨ SqT K H p (ys.map V.str)) ∧
      (ys.map (·.length)).sum + ys.length * a.length ≤ 16777216 ∧ Q (.str (Txt.join a ys)) H
theorem ev_join {K : PySem.W.Frag} {σ : L2.St} {H : Hp} {to te : TE} {sep : Str} {a : Addr} {zs : List Str} (h1 : Ev to σ H (.str sep)) (h2 : Ev te σ H (.ref a)) (ha : H a = some (.lst (zs.map V.str))) (hs : (zs.map (·.length)).sum + zs.length * sep.length ≤ 16777216) : Ev (tM1 (rJoin K) to te) σ H (.str (Txt.join sep zs)) := fun H1 e Q q =>
  h1 H1 e _ fun H2 e2 => ⟨⟨_, rfl⟩, h2 H2 (e.trans e2) _ fun H3 e3 => ⟨sep, a, zs, rfl, rfl, .inl (sq_of (e3 _ _ (e2 _ _ (e _ _ ha)))), hs, q H3 (e2.trans e3)⟩⟩
theorem et_isP {K : PySem.W.Frag} {σ : L2.St} {H : Hp} {i m : Nat} {v : V} {d : PyData} (hσ : σ[i]? = some (some v)) (ht : Tt m d) (hd : Dp K H v d) : EvT (tB (tCB (rIsi K) (tCons (tVar i) (tCons (tC (.ty "tuple")) tNil)))) σ H (isP d) := by
  refine et_B (ev_cb (ea_cons (ev_var hσ) (ea_cons ev_c ea_nil)) fun H5 e Q2 q2 => ?_)
  cases d with
  | tuple es =>
    cases dpM e _ _ hd with
    | @tup bb zs _ hzs _ => exact ⟨.ref bb, .ty "tuple", .type "tuple", .type "tuple", true, rfl, .ty _, tyx_t hzs, kit_ty (by decide +kernel), q2 H5 (Ex.refl _)⟩
  | str z =>
    cases hd
    exact ⟨.str z, .ty "tuple", .type "str", .type "tuple", false, rfl, .ty _, .base (.str z), kit_ty (by decide +kernel), q2 H5 (Ex.refl _)⟩
  | int z =>
    cases hd
    exact ⟨.int z, .ty "tuple", .type "int", .type "tuple", false, rfl, .ty _, .base (.int z), kit_ty (by decide +kernel), q2 H5 (Ex.refl _)⟩
  | none => cases ht
  | bool _ => cases ht
  | list _ => cases ht
  | dict _ => cases ht
def seckv : List (Key × V) := mergeK [] [(Sum.inr "either", .str "or"), (Sum.inr "told", .str "else"), (Sum.inr "look", .str "else"), (Sum.inr "guard", .str "rescue"), (Sum.inr "lastly", .str "lastly")]
theorem sec_val {z : Str} (h : z ∈ secs) : valV seckv (Sum.inr z) = some (.str (secondW z)) := by
  unfold secs at h
  simp only [List.mem_cons, List.not_mem_nil, or_false] at h
  rcases h with rfl | rfl | rfl | rfl | rfl <;> rfl
theorem sec_len (z : Str) : (secondW z).length ≤ 10 := by
  unfold secondW
  split
  · decide +kernel
  · split
    · decide +kernel
    · split
      · decide +kernel
      · split <;> decide +kernel
theorem last_parts : ∀ p ∈ ENT, p.1 = ("lastly" : Str) → p.2 = [("part" : Str), "part"] := by decide +kernel
theorem last_strs {cs rs os : List Str} {s : PyData} (h : Wf cs rs os s) (e : wordS s = "lastly") : strsD s = [] := by
  obtain ⟨w, ks, args, rfl, hk, hl, hf⟩ := h
  have e2 : w = "lastly" := e
  have e3 := last_parts _ hk e2
  simp only at e3
  subst e3
  match args, hl with
  | [x, y], _ =>
    obtain ⟨ds, rfl⟩ := part_of (hf 0 _ x rfl rfl)
    obtain ⟨es, rfl⟩ := part_of (hf 1 _ y rfl rfl)
    rfl
theorem str_ext {a b : Str} (h : a.cps.toList = b.cps.toList) : a = b := by
  obtain ⟨x⟩ := a
  obtain ⟨y⟩ := b
  have e : x = y := Array.toList_inj.mp h
  rw [e]
theorem app_codes (a b : Str) : (a ++ b).cps.toList = a.cps.toList ++ b.cps.toList := by
  obtain ⟨x⟩ := a
  obtain ⟨y⟩ := b
  show (x ++ y).toList = _
  simp
def mrg (n : Nat) : Str := repS blank n
theorem mrg_step (n : Nat) : mrg (n + 2) = mrg n ++ step := by
  refine str_ext ?_
  rw [app_codes]
  have k1 := repS_codes blank (n + 2)
  have k2 := repS_codes blank n
  have kb : blank.cps.toList = [32] := by decide +kernel
  have ks : step.cps.toList = [32, 32] := by decide +kernel
  have f : ∀ n, (List.replicate n [32]).flatten = List.replicate n 32 := by
    intro n
    induction n with
    | zero => rfl
    | succ n ih => rw [List.replicate_succ, List.flatten_cons, ih, List.replicate_succ]; rfl
  rw [kb, f] at k1 k2
  show (repS blank (n + 2)).cps.toList = (repS blank n).cps.toList ++ step.cps.toList
  rw [k1, k2, ks, ← List.replicate_append_replicate]
  rfl
theorem mrg_len (n : Nat) : (mrg n).length = n := by
  have z := repS_len blank n
  have e : blank.length = 1 := by decide +kernel
  rw [e, Nat.mul_one] at z
  exact z
def spLL (K : PySem.W.Frag) (n : Nat) : Sp := fun vs H Q _ => ∃ b wide ss m cs rs os, vs = [.ref b, .int (wide : Nat)] ∧ Dp K H (.ref b) (.tuple ss) ∧ Tts m ss ∧ LB cs rs os n ss ∧ cnt n ss ≤ 14 ∧ (∀ z ∈ cs ++ rs ++ os, z.length ≤ 12) ∧ (1 ≤ wide ∧ wide + 2 * n ≤ 20) ∧ ∀ q H', H q = none → Ex H H' → H' q = some (.lst ((lns n (mrg wide) ss).map V.str)) → Q (.ref q) H'

section
variable {P : Program} {w : World} {K : PySem.W.Frag} {mg : Str → Option Value} {base : Heap}

theorem ok_law_lines0 {fd : FuncData} (F : FnP K "_law_lines" "_law_lines" s_law_lines (ga K "_law_lines") fd) (T : Tx K w mg) : FnOk P w K mg base CX0 (0 + 1) (ga K "_law_lines") fd ["_law_body", "_law_wide"] (spLL K 0) := by
  refine FunD.ok F sc_law_lines (fun vs H Q E h => ?_) (fun cdv A outer s H vs Q E hr h => ?_)
  · obtain ⟨b, wide, ss, m, cs, rs, os, rfl, _⟩ := h
    rfl
  · obtain ⟨b, wide, ss, m, cs, rs, os, rfl, hd, hts, hLB, hc, hl12, hw, kk⟩ := h
    refine ⟨_, PSs.nox (pss_cons (ps_set (i := 2) sc_law_lines.nd rfl (Or.inl rfl) (pe_disp (pps_cons pe_str pe_str (pps_cons pe_str pe_str (pps_cons pe_str pe_str (pps_cons pe_str pe_str (pps_cons pe_str pe_str pps_nil))))) rfl rfl (by simp) (by decide)))
      (pss_cons (ps_set (i := 3) sc_law_lines.nd rfl (Or.inl rfl) (pe_lst pa_nil))
      (pss_cons (ps_for PassesOwn.never rfl (pi_tup (pv 0)) (pg_name (i := 4) sc_law_lines.nd rfl (Or.inl rfl))
      (pss_cons ps_never
      (pss_cons ps_never
      (pss_cons ps_never
      (pss_cons ps_never
      (pss_cons ps_never
      (pss_one ps_never)))))))
      (pss_one (ps_ret (pv 3)))))), ?_⟩
    have e0 : ss = [] := hLB
    subst e0
    cases hd with
    | @tup _ xs _ hx hxs =>
      cases hxs
      intro S hS
      have e1 : Ex H (upd (upd H S (.dK [])) S (.dK seckv)) := (Ex.new hS).mut hS
      refine ⟨upd_same, [(Sum.inr "either", .str "or"), (Sum.inr "told", .str "else"), (Sum.inr "look", .str "else"), (Sum.inr "guard", .str "rescue"), (Sum.inr "lastly", .str "lastly")], rfl, (show 5 ≤ 15 by decide), ?_⟩
      have gS : upd (upd H S (.dK [])) S (.dK seckv) S = some (.dK seckv) := upd_same
      refine q_asgL (el_lst ea_nil (by decide)) fun D H1 hD e2 h1 => ?_
      dsimp only [gName, List.set]
      refine ⟨.ref b, rfl, b, rfl, ⟨_, ex_t e2 (ex_t e1 hx)⟩, ?_⟩
      refine for_tup (xs := []) (fun i σ' H' => σ' = _ ∧ H' = H1) ⟨rfl, rfl⟩ (fun i σ' H' _ hI => by rw [hI.2]; exact ex_t e2 (ex_t e1 hx)) (fun i x σ' H' hx hI => nomatch hx) (fun σ' H' hI => ?_)
      rw [hI.1, hI.2]
      exact ⟨.ref D, rfl, kk D H1 (fresh_back e1 hD) (e1.trans e2) h1⟩

theorem ok_law_linesS {fd : FuncData} {n k : Nat} (F : FnP K "_law_lines" "_law_lines" s_law_lines (ga K "_law_lines") fd) (T : Tx K w mg) (c_law_lines : Cl P w K mg base CX0 k (ga K "_law_lines") ["_law_body", "_law_wide"] (spLL K n)) : FnOk P w K mg base CX0 (k + 1) (ga K "_law_lines") fd ["_law_body", "_law_wide"] (spLL K (n + 1)) := by
  obtain ⟨fd_law_lines, G_law_lines, b_law_lines, kp_law_lines⟩ := c_law_lines
  refine FunD.ok F sc_law_lines (fun vs H Q E h => ?_) (fun cdv A outer s H vs Q E hr h => ?_)
  · obtain ⟨b, wide, ss, m, cs, rs, os, rfl, _⟩ := h
    rfl
  · obtain ⟨b, wide, ss, m, cs, rs, os, rfl, hd, hts, hLB, hc, hl12, hw, kk⟩ := h
    have n_isinstance := T.fr "isinstance" (by decide +kernel)
    have n_tuple := T.fr "tuple" (by decide +kernel)
    have n_range := T.fr "range" (by decide +kernel)
    have n_len := T.fr "len" (by decide +kernel)
    have g_law_lines := T.gl "_law_lines" (by decide +kernel)
    refine ⟨_, PSs.nox (pss_cons (ps_set (i := 2) sc_law_lines.nd rfl (Or.inl rfl) (pe_disp (pps_cons pe_str pe_str (pps_cons pe_str pe_str (pps_cons pe_str pe_str (pps_cons pe_str pe_str (pps_cons pe_str pe_str pps_nil))))) rfl rfl (by simp) (by decide)))
      (pss_cons (ps_set (i := 3) sc_law_lines.nd rfl (Or.inl rfl) (pe_lst pa_nil))
      (pss_cons (ps_for PassesOwn.never rfl (pi_tup (pv 0)) (pg_name (i := 4) sc_law_lines.nd rfl (Or.inl rfl))
      (pss_cons (ps_set (i := 5) sc_law_lines.nd rfl (Or.inl rfl) (pe_ix ix_tup (pv 4) pe_int (fun _ _ => rfl)))
      (pss_cons (ps_setLc (i := 6) (own := [("_law_part_here", 10)]) (g := gName 10) (by rfl) sc_law_lines.nd rfl rfl (sw_true rfl rfl rfl (by decide +kernel)) (pi_tup (pe_slice sl_tup (pv 4) (po_some pe_int) po_none)) (blkOk_by (own := [("_law_part_here", 10)]) (N := ["_law_body", "_law_wide", "_law_seconds", "_law_found", "_law_statement", "_law_word_here", "_law_parts", "_law_plain", "_law_head", "_law_k", "_law_part_here"]) (sc := defScope s_law_lines) (by decide +kernel)) (fun _ _ _ _ _ => (pg_name (i := 10) sc_law_lines.nd rfl (Or.inl rfl))) (fun _ _ _ _ _ => (pts_one (pt_val (pe_callB (call_isi : CallR _ _ (rIsi K)) (by rfl) n_isinstance (by decide +kernel) (pa_cons (pv 10) (pa_cons (pe_bltn (v := .ty "tuple") (by rfl) n_tuple (by decide +kernel) rfl) pa_nil)))))) (fun _ _ _ _ _ => (pv 10)))
      (pss_cons (ps_setLc (i := 7) (own := [("_law_part_here", 10)]) (g := gName 10) (by rfl) sc_law_lines.nd rfl rfl (sw_true rfl rfl rfl (by decide +kernel)) (pi_tup (pv 4)) (blkOk_by (own := [("_law_part_here", 10)]) (N := ["_law_body", "_law_wide", "_law_seconds", "_law_found", "_law_statement", "_law_word_here", "_law_parts", "_law_plain", "_law_head", "_law_k", "_law_part_here"]) (sc := defScope s_law_lines) (by decide +kernel)) (fun _ _ _ _ _ => (pg_name (i := 10) sc_law_lines.nd rfl (Or.inl rfl))) (fun _ _ _ _ _ => (pts_one (pt_not (pt_val (pe_callB (call_isi : CallR _ _ (rIsi K)) (by rfl) n_isinstance (by decide +kernel) (pa_cons (pv 10) (pa_cons (pe_bltn (v := .ty "tuple") (by rfl) n_tuple (by decide +kernel) rfl) pa_nil))))))) (fun _ _ _ _ _ => (pv 10)))
      (pss_cons (ps_set (i := 8) sc_law_lines.nd rfl (Or.inl rfl) (pe_ifExp (pt_cmpR op_eq (pv 5) pe_str (nomark _)) pe_str (pe_join pe_str (pv 7))))
      (pss_cons (ps_expr (pe_bm PySem.F.plainAttrs_list PySem.F.slot_list_append PySem.F.type_list_append mt_append (pv 3) (pa_cons (pe_op op_add_str (pe_op op_mulS pe_str (pv 1)) (pv 8)) pa_nil)))
      (pss_one (ps_for PassesOwn.never rfl (pi_range1 (by rfl) n_range (pa_cons (pe_callB call_len_seq (by rfl) n_len (by decide +kernel) (pa_cons (pv 6) pa_nil)) pa_nil)) (pg_name (i := 9) sc_law_lines.nd rfl (Or.inl rfl))
      (pss_cons (ps_if (pt_cmpR op_eq (pv 9) pe_int (nomark _))
      (pss_one (ps_expr (pe_bm PySem.F.plainAttrs_list PySem.F.slot_list_append PySem.F.type_list_append mt_append (pv 3) (pa_cons (pe_op op_add_str (pe_op op_mulS pe_str (pv 1)) (pe_dget (Nat.lt_of_le_of_lt (Nat.add_le_add_left (by decide) _) hr.units) (pv 2) (pv 5) (fun _ _ => rfl))) pa_nil))))
      pss_nil)
      (pss_one (ps_set (i := 3) sc_law_lines.nd rfl (Or.inl rfl) (pe_op op_cat (pv 3) (pe_call G_law_lines (hr.mono (by omega)) (by rfl) g_law_lines kp_law_lines b_law_lines .nil pass0 (pa_cons (pe_ix ix_list (pv 6) (pv 9) (fun _ _ => rfl)) (pa_cons (pe_op op_add (pv 1) pe_int) pa_nil)))))))))))))))
      (pss_one (ps_ret (pv 3)))))), ?_⟩
    have tot := lns_len (mg := mrg wide) hLB
    rw [lns_S] at tot
    have lm := mrg_len wide
    cases hd with
    | @tup _ xs _ hx hxs =>
      have lx := dpAll_len hxs
      intro S hS
      have e1 : Ex H (upd (upd H S (.dK [])) S (.dK seckv)) := (Ex.new hS).mut hS
      refine ⟨upd_same, [(Sum.inr "either", .str "or"), (Sum.inr "told", .str "else"), (Sum.inr "look", .str "else"), (Sum.inr "guard", .str "rescue"), (Sum.inr "lastly", .str "lastly")], rfl, (show 5 ≤ 15 by decide), ?_⟩
      have gS : upd (upd H S (.dK [])) S (.dK seckv) S = some (.dK seckv) := upd_same
      refine q_asgL (el_lst ea_nil (by decide)) fun F0 H1 hF0 e2 h1 => ?_
      have e12 := e1.trans e2
      dsimp only [gName, List.set]
      refine ⟨.ref b, rfl, b, rfl, ⟨_, ex_t e12 hx⟩, ?_⟩
      refine for_tup (xs := xs) (fun i σ' H' => ∃ F zs v4 v5 v6 v7 v8 v9, σ' = [some (.ref b), some (.int (wide : Nat)), some (.ref S), some (.ref F), v4, v5, v6, v7, v8, v9, none] ∧ H F = none ∧ Ex H H' ∧ H' F = some (.lst (zs.map V.str)) ∧ H' S = some (.dK seckv) ∧ zs = (ss.take i).flatMap (lnS n (mrg wide)))
        ⟨F0, [], _, _, _, _, _, _, rfl, fresh_back e1 hF0, e12, h1, e2 _ _ gS, rfl⟩ (fun i σ' H' _ hI => ?_) (fun i x σ' H2 hxi hI => ?_) (fun σ' H' hI => ?_)
      · obtain ⟨F, zs, v4, v5, v6, v7, v8, v9, rfl, f0, f1, f2, f3, f4⟩ := hI
        exact ex_t f1 hx
      · obtain ⟨F, zs, v4, v5, v6, v7, v8, v9, rfl, f0, f1, f2, f3, f4⟩ := hI
        obtain ⟨s, hs, hxs'⟩ := dpAll_at hxs hxi
        have hsm := List.mem_of_getElem? hs
        obtain ⟨hwf, hpt⟩ := hLB s hsm
        have c1 : cnt (n + 1) [s] ≤ 14 := by
          have k := mem_le_sum (f := fun s => 1 + ((parts s).map fun p => cnt n (bodyOf p)).sum) hsm
          have k2 : cnt (n + 1) ss = (ss.map fun s => 1 + ((parts s).map fun p => cnt n (bodyOf p)).sum).sum := rfl
          rw [cnt_one]
          try simp only at k
          omega
        rw [cnt_one] at c1
        have lt := flat_le (lnS n (mrg wide)) ss (i + 1)
        rw [flat_more (lnS n (mrg wide)) hs, List.length_append, ← f4] at lt
        have hsp := hwf.split
        have zl := strs_len hwf hl12
        have hsh := hwf.sh
        have hp3 := parts3 hsh
        have tts := hts.at s hsm
        obtain ⟨mp, tps⟩ := parts_tts tts
        obtain ⟨wd, ks, args, es, hk, hkl, _⟩ := id hwf
        have ew : wordS s = wd := by rw [es]; rfl
        have ea : argsOf s = args := by rw [es]; rfl
        rw [ea] at hsp
        have wl := words_len _ hk
        simp only at wl
        have targs : ∃ m', Tts m' args := by
          rw [es] at tts
          cases tts with
          | tup _ h =>
            cases h with
            | cons _ h => exact ⟨_, h⟩
        obtain ⟨ma, targs⟩ := targs
        have la : args.length = (strsD s).length + (parts s).length := by rw [hsp, List.length_append, List.length_map]
        have l3 := ent3 _ hk
        simp only at l3
        rw [es] at hxs'
        cases hxs' with
        | @tup t xs2 _ hx2 hxs2 =>
          cases hxs2 with
          | @cons v0 rest _ _ hv0 hrest =>
            cases hv0
            have lr := dpAll_len hrest
            dsimp only [gName, List.set]
            refine ⟨.ref t, rfl, t, _, 0, .str wd, rfl, rfl, ex_t f1 hx2, atI_nat (j := 0) rfl, ?_⟩
            dsimp only [gName, List.set]
            refine ⟨.ref t, rfl, 1, rfl, t, _, rfl, ex_t f1 hx2, ?_, fun p hp => ⟨p, rfl, ⟨_, st_of upd_same⟩, fun D hD => ?_⟩⟩
            · intro h
              have h1 := h.1
              rw [show ((1 : Int)) = ((1 : Nat) : Int) from rfl, HT.sIx_nat] at h1
              simp only [List.length_cons] at h1
              omega
            have hcut : cutV (V.str wd :: rest) (some 1) none = rest := by
              rw [show ((1 : Int)) = ((1 : Nat) : Int) from rfl, cut_drop]
              rfl
            rw [hcut] at hD ⊢
            have ep := Ex.new (o := .tup rest) hp
            have eD := ep.trans (Ex.new (o := .lst []) hD)
            have hD2 : H2 D = none := fresh_back ep hD
            refine lc_tup (xs := rest) (fun j H' => ∃ vs', H' p = some (.tup rest) ∧ Ex H2 H' ∧ H' D = some (.lst vs') ∧ DpAll K H' vs' ((args.take j).filter isP)) ⟨[], Ex.new hD _ _ upd_same, eD, upd_same, .nil⟩ (fun j H3 _ hJ => ?_) (fun j y H3 hyj hJ => ?_) (fun H3 hJ => ?_)
            · obtain ⟨vs', k1, k2, k3, k4⟩ := hJ
              exact st_of k1
            · obtain ⟨vs', k1, k2, k3, k4⟩ := hJ
              obtain ⟨di, hdi, hyd⟩ := dpAll_at hrest hyj
              have hj := (List.getElem?_eq_some_iff.mp hdi).1
              have tdi := targs.at di (List.mem_of_getElem? hdi)
              have tk : (args.take (j + 1)).filter isP = (args.take j).filter isP ++ (if isP di = true then [di] else []) := by
                rw [take_more hdi, List.filter_append]
                cases hq : isP di <;> simp [hq]
              refine ⟨rfl, go_test (b := isP di) (et_isP rfl tdi (dpM (f1.trans k2) _ _ hyd)) fun H5 e5 => ?_⟩
              have ll := dpAll_len k4
              have lf : ((args.take j).filter isP).length ≤ j := Nat.le_trans (List.length_filter_le ..) (by rw [List.length_take]; omega)
              refine ite2 (fun hq => ?_) (fun hq => ?_)
              · refine ⟨y, rfl, vs', e5 _ _ k3, small1000 (by omega), vs' ++ [y], ?_, (k2.trans e5).mut hD2, upd_same, ?_⟩
                · exact (upd_ne (fun e => by rw [e, k3] at k1; cases k1)).trans (e5 _ _ k1)
                · rw [tk, if_pos hq]
                  exact dps_off (e5 _ _ k3) (Tts.of fun d hd => by
                    rcases List.mem_append.mp hd with h | h
                    · exact targs.at d (List.mem_of_mem_take (List.mem_filter.mp h).1)
                    · rw [List.mem_singleton.mp h]
                      exact tdi) (dpAll_add (dpMs e5 _ _ k4) (dpM ((f1.trans k2).trans e5) _ _ hyd))
              · refine ⟨vs', e5 _ _ k1, k2.trans e5, e5 _ _ k3, ?_⟩
                rw [tk, if_neg hq, List.append_nil]
                exact dpMs e5 _ _ k4
            obtain ⟨vs', _, a2, a3, a4⟩ := hJ
            have ep2 : (args.take rest.length).filter isP = parts s := by
              rw [lr, List.take_of_length_le (Nat.le_refl _)]
              show _ = (argsOf s).filter isP
              rw [ea]
            rw [ep2] at a4
            have lvs := dpAll_len a4
            have nDF : D ≠ F := fun e => by rw [e, f2] at hD2; cases hD2
            dsimp only [gName, List.set]
            -- the words
            refine ⟨.ref t, rfl, t, rfl, ⟨_, ex_t (f1.trans a2) hx2⟩, fun D2 hD2' => ?_⟩
            have eD2 := Ex.new (o := .lst []) hD2'
            refine lc_tup (xs := .str wd :: rest) (fun j H' => Ex H3 H' ∧ H' D2 = some (.lst ((((PyData.str wd :: args).take j).filterMap strO).map V.str))) ⟨eD2, upd_same⟩ (fun j H4 _ hJ => ex_t ((f1.trans a2).trans hJ.1) hx2) (fun j y H4 hyj hJ => ?_) (fun H4 hJ => ?_)
            · obtain ⟨k1, k2⟩ := hJ
              obtain ⟨di, hdi, hyd⟩ := dpAll_at (DpAll.cons (K := K) (H := H) (.str wd) hrest) hyj
              have hj := (List.getElem?_eq_some_iff.mp hdi).1
              have cas : (∃ z, di = .str z) ∨ ∃ ds, di = .tuple ds := by
                rcases List.mem_cons.mp (List.mem_of_getElem? hdi) with e | h
                · exact .inl ⟨_, e⟩
                · rw [hsp] at h
                  rcases List.mem_append.mp h with h | h
                  · obtain ⟨z, _, e⟩ := List.mem_map.mp h
                    exact .inl ⟨z, e.symm⟩
                  · obtain ⟨ds, e, _⟩ := hpt di h
                    exact .inr ⟨ds, e⟩
              have tdi : ∃ m', Tt m' di := by
                rcases List.mem_cons.mp (List.mem_of_getElem? hdi) with e | h
                · exact ⟨0, by rw [e]; exact .str (by omega)⟩
                · exact ⟨_, targs.at di h⟩
              obtain ⟨m', tdi⟩ := tdi
              refine ⟨rfl, go_test (b := !isP di) (et_not (et_isP rfl tdi (dpM ((f1.trans a2).trans k1) _ _ hyd))) fun H5 e5 => ?_⟩
              have lf : (((PyData.str wd :: args).take j).filterMap strO).length ≤ j := Nat.le_trans (List.length_filterMap_le ..) (by rw [List.length_take]; omega)
              rw [fm_more strO hdi]
              rcases cas with ⟨z, rfl⟩ | ⟨ds, rfl⟩
              · cases hyd
                refine iteT ⟨.str z, rfl, _, e5 _ _ k2, ?_, (k1.trans e5).mut hD2', ?_⟩
                · rw [List.length_map]
                  rw [List.length_cons] at hj
                  exact small1000 (by omega)
                · rw [upd_same, List.map_append]
                  rfl
              · refine iteF ⟨k1.trans e5, ?_⟩
                show _ = some (HO.lst ((_ ++ []).map V.str))
                rw [List.append_nil]
                exact e5 _ _ k2
            obtain ⟨b1, b2⟩ := hJ
            have ewds : ((PyData.str wd :: args).take (V.str wd :: rest).length).filterMap strO = wd :: strsD s := by
              rw [List.take_of_length_le (by rw [List.length_cons, List.length_cons]; omega), strsD_eq, ea]
              rfl
            rw [ewds] at b2
            have eB := a2.trans b1
            have f2B := eB _ _ f2
            have f3B := eB _ _ f3
            have a3B := b1 _ _ a3
            have a4B := dpMs b1 _ _ a4
            have f1B := f1.trans eB
            have nSF : S ≠ F := fun e => by rw [e, f2] at f3; cases f3
            clear eD2 eD ep a2 a3 a4 b1
            have fl : (firstW wd).length ≤ 12 := by
              unfold firstW
              split
              · decide +kernel
              · omega
            have sl := sum_lens (b := 12) (zs := wd :: strsD s) (fun z hz => by
              rcases List.mem_cons.mp hz with e | h
              · rw [e]; exact wl
              · exact zl z h)
            have sl2 := sum_lens (b := 12) (zs := firstW wd :: strsD s) (fun z hz => by
              rcases List.mem_cons.mp hz with e | h
              · rw [e]; exact fl
              · exact zl z h)
            have kb : (blank).length = 1 := by decide +kernel
            have jl := join_len blank (firstW wd :: strsD s)
            rw [kb] at jl
            rw [List.length_cons] at sl sl2 jl
            dsimp only [gName, List.set]
            refine q_asg (v := .str (Txt.join blank (firstW wd :: strsD s))) (ev_if (b := decide (V.str wd = V.str "lastly")) (et_test (ev_op (ev_var rfl) ev_c (rv_eq rfl))) (fun hb => ev_is ev_c ?_) (fun hb => ev_is (ev_join (zs := wd :: strsD s) ev_c (ev_var rfl) b2 ?_) ?_)) fun H5 e5 => ?_
            · have e := of_decide_eq_true hb
              injection e with e
              rw [last_strs hwf (by rw [ew, e])]
              unfold firstW
              rw [if_pos e]
              exact congrArg V.str (by decide +kernel)
            · rw [show ((" " : Str)).length = 1 by decide +kernel, List.length_cons]
              omega
            · have e := of_decide_eq_false hb
              unfold firstW
              rw [if_neg (fun x => e (by rw [x]))]
              rfl
            dsimp only [gName, List.set]
            have am := app_len (mrg wide) (Txt.join blank (firstW wd :: strsD s))
            refine ⟨.ref F, rfl, .inl ⟨rfl, _, sq_of (e5 _ _ f2B)⟩, .int (wide : Nat), rfl, blank, wide, rfl, rfl, ⟨by omega, by omega⟩, ⟨by decide +kernel, by decide +kernel⟩, .str (Txt.join blank (firstW wd :: strsD s)), rfl, mrg wide, _, rfl, rfl, fits (by omega), F, zs.map V.str, _, rfl, rfl, e5 _ _ f2B, ?_, ?_⟩
            · rw [List.length_map, sizeLine_eq]
              omega
            have lS : (lnS n (mrg wide) s).length = 1 + ((parts s).zipIdx.flatMap (lnP n (mrg wide) s)).length := by
              show (_ :: (parts s).zipIdx.flatMap (lnP n (mrg wide) s)).length = _
              rw [List.length_cons]
              omega
            have hd1 : zs ++ [mrg wide ++ Txt.join blank (firstW wd :: strsD s)] = zs ++ (mrg wide ++ Txt.join blank (firstW (wordS s) :: strsD s)) :: ((parts s).zipIdx.take 0).flatMap (lnP n (mrg wide) s) := by
              rw [ew]
              rfl
            dsimp only [gName, List.set]
            refine ⟨.ref D, rfl, D, vs', rfl, .inl (sq_of ((upd_ne nDF).trans (e5 _ _ a3B))), ((vs'.length : Nat) : Int), rfl, by omega, by omega, ?_⟩
            refine for_range (lo := 0) (n := ((vs'.length : Nat) : Int).toNat) (fun j σ' H' => ∃ G gs v9', σ' = [some (.ref b), some (.int (wide : Nat)), some (.ref S), some (.ref G), some (.ref t), some (.str wd), some (.ref D), some (.ref D2), some (.str (Txt.join blank (firstW wd :: strsD s))), v9', none] ∧ H G = none ∧ Ex H H' ∧ H' G = some (.lst (gs.map V.str)) ∧ H' S = some (.dK seckv) ∧ (H' D = some (.lst vs') ∧ D ≠ G ∧ DpAll K H' vs' (parts s)) ∧ gs = zs ++ (mrg wide ++ Txt.join blank (firstW (wordS s) :: strsD s)) :: ((parts s).zipIdx.take j).flatMap (lnP n (mrg wide) s))
              ⟨F, zs ++ [mrg wide ++ Txt.join blank (firstW wd :: strsD s)], _, rfl, f0, (f1B.trans e5).mut f0, by rw [upd_same, List.map_append]; rfl, (upd_ne nSF).trans (e5 _ _ f3B), ⟨(upd_ne nDF).trans (e5 _ _ a3B), nDF, dps_off (e5 _ _ f2B) tps (dpMs e5 _ _ a4B)⟩, hd1⟩ (fun j σ' H6 hj hJ => ?_) (fun σ' H' hJ => ?_)
            · obtain ⟨G, gs, v9', rfl, k1, k2, k3, k4, ⟨k5, k6, k7⟩, k8⟩ := hJ
              have hj2 : j < vs'.length := by omega
              obtain ⟨pd, hpd, hpv⟩ := dpAll_at k7 (List.getElem?_eq_getElem hj2)
              obtain ⟨ds, rfl, hLB2⟩ := hpt pd (List.mem_of_getElem? hpd)
              obtain ⟨m', tds⟩ := tts_tup (tps.at _ (List.mem_of_getElem? hpd))
              have c2 : cnt n ds ≤ 14 := by
                have k := mem_le_sum (f := fun p => cnt n (bodyOf p)) (List.mem_of_getElem? hpd)
                have k2 : cnt n (bodyOf (.tuple ds)) = cnt n ds := rfl
                try simp only at k
                omega
              have mz : (parts s).zipIdx[j]? = some (.tuple ds, j) := by
                rw [List.getElem?_zipIdx, hpd]
                simp
              generalize hgv : vs'[j] = pv0 at hpv
              cases hpv with
              | @tup pb pvs _ hpb hpvs =>
                have hix : vs'[j]? = some (.ref pb) := by rw [List.getElem?_eq_getElem hj2, hgv]
                have ltj := flat_le (lnP n (mrg wide) s) (parts s).zipIdx (j + 1)
                rw [flat_more (lnP n (mrg wide) s) mz, List.length_append] at ltj
                have lgs : gs.length = zs.length + (1 + (((parts s).zipIdx.take j).flatMap (lnP n (mrg wide) s)).length) := by
                  rw [k8, List.length_append, List.length_cons]
                  omega
                have ms := mrg_step wide
                have j0 : (0 : Int) + (j : Int) = (j : Int) := Int.zero_add _
                dsimp only [gName, List.set]
                refine q_when (b := decide (V.int (0 + (j : Nat)) = V.int 1)) (et_test (ev_op (ev_var rfl) ev_c (rv_eq rfl))) (fun hb H7 e7 => ?_) (fun hb H7 e7 => ?_)
                · have j1 : j = 1 := by
                    have e := of_decide_eq_true hb
                    injection e with e
                    omega
                  have two : 2 ≤ (parts s).length := by
                    have k := (List.getElem?_eq_some_iff.mp hpd).1
                    omega
                  have sw := two_secs hwf two
                  rw [ew] at sw
                  have lsec := sec_len wd
                  have pj : lnP n (mrg wide) s (.tuple ds, j) = [mrg wide ++ secondW wd] ++ lns n (mrg wide ++ step) ds := by
                    unfold lnP
                    rw [if_pos j1, ew]
                    rfl
                  rw [pj, List.length_append, List.length_singleton] at ltj
                  have a2 := app_len (mrg wide) (secondW wd)
                  refine ⟨.ref G, rfl, .inl ⟨rfl, _, sq_of (e7 _ _ k3)⟩, .int (wide : Nat), rfl, blank, wide, rfl, rfl, ⟨by omega, by omega⟩, ⟨by decide +kernel, by decide +kernel⟩, .ref S, rfl, .str wd, rfl, S, .str (secondW wd), rfl, .inl ⟨seckv, Sum.inr wd, .inl (e7 _ _ k4), rfl, (sec_val sw).symm⟩, mrg wide, _, rfl, rfl, fits (by omega), G, gs.map V.str, _, rfl, rfl, e7 _ _ k3, ?_, ?_⟩
                  · rw [List.length_map, sizeLine_eq]
                    omega
                  have hz : gs ++ [mrg wide ++ secondW wd] ++ lns n (mrg wide ++ step) ds = zs ++ (mrg wide ++ Txt.join blank (firstW (wordS s) :: strsD s)) :: ((parts s).zipIdx.take (j + 1)).flatMap (lnP n (mrg wide) s) := by
                    rw [flat_more (lnP n (mrg wide) s) mz, pj, k8]
                    simp only [List.append_assoc, List.cons_append]
                  have L8 : upd H7 G (.lst (gs.map V.str ++ [.str (mrg wide ++ secondW wd)])) G = some (.lst ((gs ++ [mrg wide ++ secondW wd]).map V.str)) := by
                    rw [upd_same, List.map_append]
                    rfl
                  have S8 := (upd_ne (o := .lst (gs.map V.str ++ [.str (mrg wide ++ secondW wd)])) (show S ≠ G from fun e => by rw [e, k3] at k4; cases k4)).trans (e7 _ _ k4)
                  have Q8 := (upd_ne (o := .lst (gs.map V.str ++ [.str (mrg wide ++ secondW wd)])) k6).trans (e7 _ _ k5)
                  have D8 := dps_off (o := .lst (gs.map V.str ++ [.str (mrg wide ++ secondW wd)])) (e7 _ _ k3) tps (dpMs e7 _ _ k7)
                  have B8 := dp_off (o := .lst (gs.map V.str ++ [.str (mrg wide ++ secondW wd)])) (e7 _ _ k3) (tps.at _ (List.mem_of_getElem? hpd)) (dpM e7 _ _ (.tup hpb hpvs))
                  have E8 : Ex H (upd H7 G (.lst (gs.map V.str ++ [.str (mrg wide ++ secondW wd)]))) := (k2.trans e7).mut k1
                  try dsimp only [gName, List.set]
                  refine ⟨.ref G, rfl, .ref D, rfl, .int (0 + (j : Nat)), rfl, D, vs', _, .ref pb, rfl, rfl, sq_of Q8, (by rw [j0]; exact atI_nat hix), .int (wide : Nat), rfl, (wide : Nat), 2, rfl, rfl, pb, wide + 2, ds, m', cs, rs, os, (by rw [show (((wide + 2 : Nat)) : Int) = (wide : Int) + 2 by omega]; rfl), B8, tds, hLB2, c2, hl12, ⟨by omega, by omega⟩, fun q2 H9 hq2 e9 h9 => ?_⟩
                  rw [ms] at h9
                  refine ⟨G, q2, ((gs ++ [mrg wide ++ secondW wd])).map V.str, (lns n (mrg wide ++ step) ds).map V.str, rfl, rfl, e9 _ _ L8, h9, fits ?_, fun G2 hG2 => ⟨G2, (gs ++ [mrg wide ++ secondW wd]) ++ lns n (mrg wide ++ step) ds, _, rfl, fresh_back (E8.trans e9) hG2, (E8.trans e9).trans (Ex.new hG2), by rw [upd_same, ← List.map_append], Ex.new hG2 _ _ (e9 _ _ S8), ⟨Ex.new hG2 _ _ (e9 _ _ Q8), ne_of_none (e9 _ _ Q8) hG2, dpMs (e9.trans (Ex.new hG2)) _ _ D8⟩, hz⟩⟩
                  rw [List.length_map, List.length_map]
                  have lz := congrArg List.length hz
                  rw [List.length_append, List.length_append, flat_more (lnP n (mrg wide) s) mz, pj, List.length_cons, List.length_append] at lz
                  try simp only [List.length_append, List.length_singleton] at lz ⊢
                  omega
                · have j1 : ¬ j = 1 := fun e => by
                    rw [e] at hb
                    exact absurd hb (by decide)
                  have pj : lnP n (mrg wide) s (.tuple ds, j) = lns n (mrg wide ++ step) ds := by
                    unfold lnP
                    rw [if_neg j1]
                    rfl
                  rw [pj] at ltj
                  have hz : gs ++ lns n (mrg wide ++ step) ds = zs ++ (mrg wide ++ Txt.join blank (firstW (wordS s) :: strsD s)) :: ((parts s).zipIdx.take (j + 1)).flatMap (lnP n (mrg wide) s) := by
                    rw [flat_more (lnP n (mrg wide) s) mz, pj, k8]
                    simp only [List.append_assoc, List.cons_append]
                  have L8 := e7 _ _ k3
                  have S8 := e7 _ _ k4
                  have Q8 := e7 _ _ k5
                  have D8 := dpMs e7 _ _ k7
                  have B8 := dpM e7 _ _ (.tup hpb hpvs)
                  have E8 := k2.trans e7
                  try dsimp only [gName, List.set]
                  refine ⟨.ref G, rfl, .ref D, rfl, .int (0 + (j : Nat)), rfl, D, vs', _, .ref pb, rfl, rfl, sq_of Q8, (by rw [j0]; exact atI_nat hix), .int (wide : Nat), rfl, (wide : Nat), 2, rfl, rfl, pb, wide + 2, ds, m', cs, rs, os, (by rw [show (((wide + 2 : Nat)) : Int) = (wide : Int) + 2 by omega]; rfl), B8, tds, hLB2, c2, hl12, ⟨by omega, by omega⟩, fun q2 H9 hq2 e9 h9 => ?_⟩
                  rw [ms] at h9
                  refine ⟨G, q2, (gs).map V.str, (lns n (mrg wide ++ step) ds).map V.str, rfl, rfl, e9 _ _ L8, h9, fits ?_, fun G2 hG2 => ⟨G2, gs ++ lns n (mrg wide ++ step) ds, _, rfl, fresh_back (E8.trans e9) hG2, (E8.trans e9).trans (Ex.new hG2), by rw [upd_same, ← List.map_append], Ex.new hG2 _ _ (e9 _ _ S8), ⟨Ex.new hG2 _ _ (e9 _ _ Q8), ne_of_none (e9 _ _ Q8) hG2, dpMs (e9.trans (Ex.new hG2)) _ _ D8⟩, hz⟩⟩
                  rw [List.length_map, List.length_map]
                  have lz := congrArg List.length hz
                  rw [List.length_append, List.length_append, flat_more (lnP n (mrg wide) s) mz, pj, List.length_cons, List.length_append] at lz
                  try simp only [List.length_append, List.length_singleton] at lz ⊢
                  omega
            · obtain ⟨G, gs, v9', rfl, k1, k2, k3, k4, k5, k8⟩ := hJ
              refine ⟨G, gs, _, _, _, _, _, _, rfl, k1, k2, k3, k4, ?_⟩
              rw [k8, flat_more (lnS n (mrg wide)) hs, f4, show (parts s).zipIdx.take (((vs'.length : Nat) : Int).toNat) = (parts s).zipIdx from List.take_of_length_le (by rw [List.length_zipIdx]; omega)]
              rfl
      · obtain ⟨F, zs, v4, v5, v6, v7, v8, v9, rfl, f0, f1, f2, f3, f4⟩ := hI
        rw [List.take_of_length_le (by omega)] at f4
        exact ⟨.ref F, rfl, kk F H' f0 f1 (by rw [f2, f4]; rfl)⟩

end
end K06
set_option Elab.async false
set_option linter.all false
set_option maxRecDepth 100000
set_option maxHeartbeats 8000000
namespace K06
open PySem PySem.Spec PyProof.Rows L2 He XH XV XR PEN TR Evl


theorem join_one (a x : Str) : Txt.join a [x] = x := by
  refine str_ext ?_
  have z : TL.tl (Txt.join a [x]) = TL.joinL (TL.tl a) ([x].map TL.tl) := by
    rw [TL.join_eq, TL.tl_join]
  exact z
theorem join_two (a x y : Str) : Txt.join a [x, y] = x ++ a ++ y := by
  refine str_ext ?_
  have z : TL.tl (Txt.join a [x, y]) = TL.joinL (TL.tl a) ([x, y].map TL.tl) := by
    rw [TL.join_eq, TL.tl_join]
  rw [app_codes, app_codes, List.append_assoc]
  exact z
theorem headL_one (y : Str) : y ++ (":" : Str) = headL y [] := (join_one _ _).symm
theorem headL_start (st : Str) : ("start: " : Str) ++ st = headL "start" [st] := by
  show _ = Txt.join blank [("start" : Str) ++ (":" : Str), st]
  rw [join_two]
  have e : ("start" : Str) ++ (":" : Str) ++ blank = ("start: " : Str) := by decide +kernel
  rw [e]
theorem mrg2 : mrg 2 = step := by decide +kernel
theorem txt_each {cs rs os : List Str} {st : Str} {bds : List (List PyData)} (hN : Names cs rs os st) (hB : ∀ ss ∈ bds, BodV cs rs os ss) : ∀ z ∈ txt cs rs os st bds, z.length ≤ 80 := by
  have l12 := hN.l12
  have z := hN.sz
  have lst : st.length ≤ 12 := l12 st (List.mem_append_right _ hN.st)
  have lc : ∀ z ∈ cs, z.length ≤ 12 := fun z hz => l12 z (List.mem_append_left _ (List.mem_append_left _ hz))
  have lr : ∀ z ∈ rs, z.length ≤ 12 := fun z hz => l12 z (List.mem_append_left _ (List.mem_append_right _ hz))
  have lo : ∀ z ∈ os, z.length ≤ 12 := fun z hz => l12 z (List.mem_append_right _ hz)
  have w1 : (("cells" : Str)).length ≤ 12 := by decide +kernel
  have w2 : (("rows" : Str)).length ≤ 12 := by decide +kernel
  have w3 : (("start" : Str)).length ≤ 12 := by decide +kernel
  intro z hz
  rcases List.mem_append.mp hz with hz | hz
  · simp only [List.mem_cons, List.not_mem_nil, or_false] at hz
    rcases hz with e | e | e
    · rw [e]
      exact Nat.le_trans (headL_len w1 lc (by omega)) (by decide)
    · rw [e]
      exact Nat.le_trans (headL_len w2 lr (by omega)) (by decide)
    · rw [e]
      exact Nat.le_trans (headL_len w3 (fun z hz => by rw [List.mem_singleton.mp hz]; omega) (by simp)) (by decide)
  · obtain ⟨p, hp, hz⟩ := List.mem_flatMap.mp hz
    obtain ⟨p1, p2⟩ := p
    have m1 := (List.of_mem_zip hp).1
    have m2 := (List.of_mem_zip hp).2
    rcases List.mem_cons.mp hz with e | hz
    · rw [e]
      exact Nat.le_trans (headL_len (lo _ m1) (fun z hz => nomatch hz) (by simp)) (by decide)
    · obtain ⟨_, hL, hc⟩ := bodv_all (hB _ m2)
      have k := lns_each l12 hL z hz
      have lst2 : step.length = 2 := by decide +kernel
      omega
theorem txt_few {cs rs os : List Str} {st : Str} {bds : List (List PyData)} (hN : Names cs rs os st) (hB : ∀ ss ∈ bds, BodV cs rs os ss) : 3 + ((os.zip bds).flatMap fnL).length ≤ 100 := by
  have z := hN.sz
  have k := sum_le (l := os.zip bds) (f := fun p => (headL p.1 [] :: lns 4 step p.2).length) (b := 29) fun p hp => by
    obtain ⟨p1, p2⟩ := p
    obtain ⟨_, hL, hc⟩ := bodv_all (hB _ (List.of_mem_zip hp).2)
    have k := lns_len (mg := step) hL
    show (_ :: lns 4 step p2).length ≤ 29
    rw [List.length_cons]
    omega
  have k2 : (os.zip bds).length ≤ 3 := by
    rw [List.length_zip]
    omega
  have k3 : (os.zip bds).length * 29 ≤ 3 * 29 := Nat.mul_le_mul_right _ k2
  rw [List.length_flatMap]
  have k4 : ((os.zip bds).map fun p => (fnL p).length).sum = ((os.zip bds).map fun p => (headL p.1 [] :: lns 4 step p.2).length).sum := rfl
  rw [k4]
  omega
def spTx (K : PySem.W.Frag) : Sp := fun vs H Q _ => ∃ pl cs rs os st bds, vs = [.ref pl] ∧ PlF K H pl cs rs os st bds ∧ Names cs rs os st ∧ (∀ ss ∈ bds, BodV cs rs os ss) ∧ ∀ q H', H q = none → Ex H H' → H' q = some (.lst ((txt cs rs os st bds).map V.str)) → Q (.ref q) H'
def spLaw (K : PySem.W.Frag) : Sp := fun vs H Q _ => ∃ (a : Addr) (ns : List Int), vs = [.ref a] ∧ SqL K H a (ns.map V.int) ∧ ns.length ≤ 63 ∧ ∀ H', Q (.bl true) H'

section
variable {P : Program} {w : World} {K : PySem.W.Frag} {mg : Str → Option Value} {base : Heap}

theorem ok_law_text {fd : FuncData} {k : Nat} (F : FnP K "_law_text" "_law_text" s_law_text (ga K "_law_text") fd) (T : Tx K w mg) (c_law_lines : Cl P w K mg base CX0 k (ga K "_law_lines") ["_law_body", "_law_wide"] (spLL K 4)) : FnOk P w K mg base CX0 (k + 1) (ga K "_law_text") fd ["_law_plan_here"] (spTx K) := by
  obtain ⟨fd_law_lines, G_law_lines, b_law_lines, kp_law_lines⟩ := c_law_lines
  refine FunD.ok F sc_law_text (fun vs H Q E h => ?_) (fun cdv A outer s H vs Q E hr h => ?_)
  · obtain ⟨pl, cs, rs, os, st, bds, rfl, _⟩ := h
    rfl
  · obtain ⟨pl, cs, rs, os, st, bds, rfl, hF, hN, hB, kk⟩ := h
    have g_law_lines := T.gl "_law_lines" (by decide +kernel)
    refine ⟨_, PSs.nox (pss_cons (ps_set (i := 1) sc_law_text.nd rfl (Or.inl rfl) (pe_lst (pa_cons (pe_join pe_str (pe_op op_cat (pe_lst (pa_cons pe_str pa_nil)) (pe_dget (Nat.lt_of_le_of_lt (Nat.add_le_add_left (by decide) _) hr.units) (pv 0) pe_str (fun _ _ => rfl)))) (pa_cons (pe_join pe_str (pe_op op_cat (pe_lst (pa_cons pe_str pa_nil)) (pe_dget (Nat.lt_of_le_of_lt (Nat.add_le_add_left (by decide) _) hr.units) (pv 0) pe_str (fun _ _ => rfl)))) (pa_cons (pe_op op_add_str pe_str (pe_dget (Nat.lt_of_le_of_lt (Nat.add_le_add_left (by decide) _) hr.units) (pv 0) pe_str (fun _ _ => rfl))) pa_nil)))))
      (pss_cons (ps_for PassesOwn.never rfl (pi_list (pe_dget (Nat.lt_of_le_of_lt (Nat.add_le_add_left (by decide) _) hr.units) (pv 0) pe_str (fun _ _ => rfl))) (pg_name (i := 2) sc_law_text.nd rfl (Or.inl rfl))
      (pss_one (ps_set (i := 1) sc_law_text.nd rfl (Or.inl rfl) (pe_op op_cat (pe_op op_cat (pv 1) (pe_lst (pa_cons (pe_op op_add_str (pv 2) pe_str) pa_nil))) (pe_call G_law_lines (hr.mono (by omega)) (by rfl) g_law_lines kp_law_lines b_law_lines .nil pass0 (pa_cons (pe_dget (Nat.lt_of_le_of_lt (Nat.add_le_add_left (by decide) _) hr.units) (pe_dget (Nat.lt_of_le_of_lt (Nat.add_le_add_left (by decide) _) hr.units) (pv 0) pe_str (fun _ _ => rfl)) (pv 2) (fun _ _ => rfl)) (pa_cons pe_int pa_nil)))))))
      (pss_one (ps_ret (pv 1))))), ?_⟩
    obtain ⟨kvs, c, r, o, bd, bk, k1, k2, k3, k4, k5, k6, k7, k8, k9, k10, k11, k12⟩ := id hF
    have l12 := hN.l12
    have z := hN.sz
    have lc : ∀ z ∈ cs, z.length ≤ 12 := fun z hz => l12 z (List.mem_append_left _ (List.mem_append_left _ hz))
    have lr : ∀ z ∈ rs, z.length ≤ 12 := fun z hz => l12 z (List.mem_append_left _ (List.mem_append_right _ hz))
    have lo : ∀ z ∈ os, z.length ≤ 12 := fun z hz => l12 z (List.mem_append_right _ hz)
    have lst : st.length ≤ 12 := lo st hN.st
    have few := txt_few hN hB
    have sc := sum_lens lc
    have sr := sum_lens lr
    have b1 : (blank).length = 1 := by decide +kernel
    have b2 : (("cells:" : Str)).length = 6 := by decide +kernel
    have b3 : (("rows:" : Str)).length = 5 := by decide +kernel
    have b4 : (("start: " : Str)).length = 7 := by decide +kernel
    have b5 : ((":" : Str)).length = 1 := by decide +kernel
    refine ⟨⟨_, rfl⟩, (show 1 ≤ sizeLine by decide), fun l1 hl1 => ?_⟩
    have e1 := Ex.new (o := .lst [.str "cells:"]) hl1
    refine ⟨.ref pl, rfl, pl, .ref c, rfl, .inl ⟨kvs, Sum.inr "cells", .inl (e1 _ _ k1), rfl, k2.symm⟩, l1, c, _, _, rfl, rfl, upd_same, e1 _ _ k7, fits (by show 1 + (cs.map V.str).length ≤ 1000; rw [List.length_map]; omega), fun p1 hp1 => ?_⟩
    have e2 := e1.trans (Ex.new (o := .lst ([.str "cells:"] ++ cs.map V.str)) hp1)
    refine ⟨blank, p1, ("cells:" : Str) :: cs, rfl, rfl, .inl (sq_of upd_same), by rw [List.map_cons, List.sum_cons, List.length_cons, b1, b2]; omega, ?_⟩
    refine ⟨⟨_, rfl⟩, (show 1 ≤ sizeLine by decide), fun l2 hl2 => ?_⟩
    have e3 := e2.trans (Ex.new (o := .lst [.str "rows:"]) hl2)
    refine ⟨.ref pl, rfl, pl, .ref r, rfl, .inl ⟨kvs, Sum.inr "rows", .inl (e3 _ _ k1), rfl, k3.symm⟩, l2, r, _, _, rfl, rfl, upd_same, e3 _ _ k8, fits (by show 1 + (rs.map V.str).length ≤ 1000; rw [List.length_map]; omega), fun p2 hp2 => ?_⟩
    have e4 := e3.trans (Ex.new (o := .lst ([.str "rows:"] ++ rs.map V.str)) hp2)
    refine ⟨blank, p2, ("rows:" : Str) :: rs, rfl, rfl, .inl (sq_of upd_same), by rw [List.map_cons, List.sum_cons, List.length_cons, b1, b3]; omega, ?_⟩
    refine ⟨.ref pl, rfl, pl, .str st, rfl, .inl ⟨kvs, Sum.inr "start", .inl (e4 _ _ k1), rfl, k5.symm⟩, ("start: " : Str), st, rfl, rfl, fits (by omega), (show 3 ≤ sizeLine by decide), fun F hF0 => ?_⟩
    have hc1 : Txt.join blank (("cells:" : Str) :: cs) = headL "cells" cs := rfl
    have hc2 : Txt.join blank (("rows:" : Str) :: rs) = headL "rows" rs := rfl
    have hF0' := hF0
    dsimp only [gName, List.set]
    have gF : ∀ HX : Hp, upd HX F (.lst [.str (Txt.join blank (("cells:" : Str) :: cs)), .str (Txt.join blank (("rows:" : Str) :: rs)), .str (("start: " : Str) ++ st)]) F = some (.lst ([headL "cells" cs, headL "rows" rs, headL "start" [st]].map V.str)) := fun HX => by
      rw [upd_same, headL_start, hc1, hc2]
      rfl
    have e5 := e4.trans (Ex.new (o := .lst [.str (Txt.join blank (("cells:" : Str) :: cs)), .str (Txt.join blank (("rows:" : Str) :: rs)), .str (("start: " : Str) ++ st)]) hF0)
    refine ⟨.ref pl, rfl, pl, .ref o, rfl, .inl ⟨kvs, Sum.inr "order", .inl (e5 _ _ k1), rfl, k4.symm⟩, o, rfl, ⟨_, sq_of (e5 _ _ k9)⟩, ?_⟩
    refine for_list (xs := os.map V.str) (fun i σ' H' => ∃ G zs v2, σ' = [some (.ref pl), some (.ref G), v2] ∧ H G = none ∧ Ex H H' ∧ H' G = some (.lst (zs.map V.str)) ∧ zs = [headL "cells" cs, headL "rows" rs, headL "start" [st]] ++ ((os.zip bds).take i).flatMap fnL)
      ⟨F, [headL "cells" cs, headL "rows" rs, headL "start" [st]], _, rfl, fresh_back e4 hF0, e5, gF _, rfl⟩ (fun i σ' H' _ hI => ?_) (fun i x σ' H' hx hI => ?_) (fun σ' H' hI => ?_)
    · obtain ⟨G, zs, v2, rfl, f0, f1, f2, f3⟩ := hI
      exact sq_of (f1 _ _ k9)
    · obtain ⟨G, zs, v2, rfl, f0, f1, f2, f3⟩ := hI
      rw [List.getElem?_map] at hx
      cases w1 : os[i]? with
      | none =>
        rw [w1] at hx
        cases hx
      | some y =>
        rw [w1] at hx
        cases hx
        have hi := (List.getElem?_eq_some_iff.mp w1).1
        have w2 : bds[i]? = some (bds[i]'(by rw [k11]; exact hi)) := List.getElem?_eq_getElem _
        generalize bds[i]'(by rw [k11]; exact hi) = ss at w2
        obtain ⟨ba, hba, dba⟩ := k12.1 i y ss w1 w2
        have mz : (os.zip bds)[i]? = some (y, ss) := by
          rw [List.getElem?_zip_eq_some]
          exact ⟨w1, w2⟩
        obtain ⟨⟨m, hts⟩, hL, hc⟩ := bodv_all (hB ss (List.mem_of_getElem? w2))
        have ly := lo y (List.mem_of_getElem? w1)
        have lt := flat_le fnL (os.zip bds) (i + 1)
        rw [flat_more fnL mz, List.length_append] at lt
        have lfn : (fnL (y, ss)).length = 1 + (lns 4 step ss).length := by
          show (_ :: lns 4 step ss).length = _
          rw [List.length_cons]
          omega
        have lzs : zs.length = 3 + (((os.zip bds).take i).flatMap fnL).length := by
          rw [f3, List.length_append]
          rfl
        dsimp only [gName, List.set]
        refine ⟨.ref G, rfl, .str y, rfl, y, (":" : Str), rfl, rfl, fits (by omega), (show 1 ≤ sizeLine by decide), fun q1 hq1 => ?_⟩
        have e6 := Ex.new (o := .lst [.str (y ++ (":" : Str))]) hq1
        refine ⟨G, q1, zs.map V.str, [.str (y ++ (":" : Str))], rfl, rfl, e6 _ _ f2, upd_same, fits (by rw [List.length_map]; show zs.length + 1 ≤ 1000; omega), fun q2 hq2 => ?_⟩
        have e7 := e6.trans (Ex.new (o := .lst (zs.map V.str ++ [.str (y ++ (":" : Str))])) hq2)
        have fe := f1.trans e7
        refine ⟨.ref pl, rfl, pl, .ref bd, rfl, .inl ⟨kvs, Sum.inr "bodies", .inl (fe _ _ k1), rfl, k6.symm⟩, .str y, rfl, bd, .ref ba, rfl, .inl ⟨bk, Sum.inr y, .inl (fe _ _ k10), rfl, hba.symm⟩, ba, 2, ss, m, cs, rs, os, rfl, dpM fe _ _ dba, hts, hL, hc, l12, ⟨by decide, by decide⟩, fun q3 H9 hq3 e9 h9 => ?_⟩
        rw [mrg2] at h9
        refine ⟨q2, q3, _, _, rfl, rfl, e9 _ _ upd_same, h9, fits ?_, fun G2 hG2 => ⟨G2, zs ++ [y ++ (":" : Str)] ++ lns 4 step ss, _, rfl, fresh_back (fe.trans e9) hG2, (fe.trans e9).trans (Ex.new hG2), ?_, ?_⟩⟩
        · rw [List.length_append, List.length_map, List.length_map]
          show zs.length + 1 + (lns 4 step ss).length ≤ 1000
          omega
        · rw [upd_same, List.map_append, List.map_append]
          rfl
        · rw [flat_more fnL mz, f3, headL_one, List.append_assoc, List.append_assoc]
          rfl
    · obtain ⟨G, zs, v2, rfl, f0, f1, f2, f3⟩ := hI
      have lf : (os.zip bds).length = os.length := by
        rw [List.length_zip, k11, Nat.min_self]
      rw [List.length_map, List.take_of_length_le (by omega)] at f3
      exact ⟨.ref G, rfl, kk G H' f0 f1 (by rw [f2, f3]; rfl)⟩

end
end K06
set_option Elab.async false
set_option linter.all false
set_option maxRecDepth 100000
set_option maxHeartbeats 8000000
namespace K06
open PySem PySem.Spec PyProof.Rows L2 He XH XV XR PEN TR Evl

theorem e_str {w z : Str} : decide (V.str w = V.str z) = decide (w = z) := by
  rw [decide_eq_decide]
  exact ⟨fun h => by injection h, fun h => by rw [h]⟩
theorem rv_eqS {H : Hp} {w z : Str} : RV rEq (.str w) (.str z) H (.bl (decide (w = z))) := by
  rw [← e_str]
  exact rv_eq rfl


/-! ### a text cut again -/
theorem blank_tl : TL.tl blank = [32] := by decide +kernel
theorem nl_tl : TL.tl nl = [10] := by decide +kernel
theorem step_tl : TL.tl step = [32, 32] := by decide +kernel
theorem split_blank {zs : List Str} (hne : zs ≠ []) (h : ∀ z ∈ zs, 32 ∉ TL.tl z) : Txt.split (Txt.join blank zs) blank = zs := TL.split_join blank_tl (by decide +kernel) hne h
theorem split_nl {zs : List Str} (hne : zs ≠ []) (h : ∀ z ∈ zs, 10 ∉ TL.tl z) : Txt.split (Txt.join nl zs) nl = zs := TL.split_join nl_tl (by decide +kernel) hne h
theorem starts_eq (l m : Str) : Txt.startswith l m = ((TL.tl l).take m.length == TL.tl m) := by
  unfold Txt.startswith
  rw [PySem.StrLaws.subAt_eq, List.drop_zero]
  show (decide (0 + m.length ≤ l.length) && ((TL.tl l).take m.length == TL.tl m)) = _
  cases h : ((TL.tl l).take m.length == TL.tl m) with
  | false => rw [Bool.and_false]
  | true =>
    have e := eq_of_beq h
    have k := congrArg List.length e
    rw [List.length_take] at k
    have l1 := TL.len_tl l
    have l2 := TL.len_tl m
    rw [decide_eq_true (by omega)]
    rfl
theorem starts_app (a x : Str) : Txt.startswith (a ++ x) a = true := by
  rw [starts_eq, TL.tl_append, TL.len_tl a, List.take_left]
  exact beq_self_eq_true _
/-- a margin -/
def mgn : Nat → Str
  | 0 => ""
  | n + 1 => mgn n ++ step
theorem mgn_tl : ∀ n : Nat, TL.tl (mgn n) = List.replicate (2 * n) 32
  | 0 => by decide +kernel
  | n + 1 => by
    show TL.tl (mgn n ++ step) = _
    rw [TL.tl_append, mgn_tl n, step_tl, show 2 * (n + 1) = 2 * n + 2 by omega, ← List.replicate_append_replicate]
    rfl
theorem mgn_len (n : Nat) : (mgn n).length = 2 * n := by
  rw [TL.len_tl, mgn_tl, List.length_replicate]
theorem mgn_one : mgn 1 = step := by decide +kernel
/-- no blank at the head -/
def NoB (x : Str) : Prop := ∀ c, (TL.tl x)[0]? = some c → c ≠ 32
theorem starts_gt {d e : Nat} {x : Str} (h : d < e) (hx : NoB x) : Txt.startswith (mgn d ++ x) (mgn e) = false := by
  rw [starts_eq, TL.tl_append, mgn_tl, mgn_tl, mgn_len]
  refine beq_eq_false_iff_ne.mpr fun q => ?_
  have k := congrArg (fun l => l[2 * d]?) q
  try simp only at k
  rw [List.getElem?_take, if_pos (by omega), List.getElem?_append_right (by rw [List.length_replicate]; exact Nat.le_refl _), List.length_replicate, Nat.sub_self, List.getElem?_replicate, if_pos (by omega)] at k
  exact hx 32 k rfl
theorem cut_app (a x : Str) : cutS (a ++ x) (some ((a.length : Nat) : Int)) none = x := by
  refine TL.ext_tl ?_
  unfold cutS
  rw [HT.sIx_nat, HT.sIx_none, TL.tl_mk, app_len]
  show ((TL.tl (a ++ x)).drop _).take _ = _
  have m : min a.length (a.length + x.length) = a.length := by omega
  rw [m, TL.tl_append]
  have l1 := TL.len_tl a
  have l2 := TL.len_tl x
  rw [l1, List.drop_left]
  exact List.take_of_length_le (by omega)
theorem cut_last (a : Str) (c : Str) (hc : c.length = 1) : cutS (a ++ c) none (some (-1)) = a := by
  refine TL.ext_tl ?_
  have l1 := TL.len_tl a
  have e1 : HT.sIx (a ++ c).length 0 none = 0 := by rw [HT.sIx_none]
  have e2 : HT.sIx (a ++ c).length (a ++ c).length (some (-1)) = a.length := by
    rw [app_len, hc]
    simp [HT.sIx]
    omega
  unfold cutS
  rw [e1, e2, TL.tl_mk]
  show ((TL.tl (a ++ c)).drop 0).take (a.length - 0) = _
  rw [List.drop_zero, Nat.sub_zero, TL.tl_append, l1, List.take_left]
theorem ends_app (a c : Str) : Txt.endswith (a ++ c) c = true := by
  unfold Txt.endswith
  rw [PySem.StrLaws.subAt_eq, app_len]
  show (decide (0 + c.length ≤ a.length + c.length) && (((TL.tl (a ++ c)).drop (a.length + c.length - c.length)).take c.length == TL.tl c)) = true
  have l1 := TL.len_tl a
  have l2 := TL.len_tl c
  rw [decide_eq_true (by omega), Nat.add_sub_cancel, TL.tl_append, l1, List.drop_left, l2, List.take_length]
  exact beq_self_eq_true _
/-! ### what is in a line -/
theorem words_let : ∀ p ∈ ENT, (TL.tl p.1).all (fun c => decide (97 ≤ c) && decide (c ≤ 122)) = true := by decide +kernel
theorem let_of {z : Str} (h : (TL.tl z).all (fun c => decide (97 ≤ c) && decide (c ≤ 122)) = true) : Let z := fun c hc => by
  have k := List.all_eq_true.mp h c hc
  rw [Bool.and_eq_true] at k
  exact ⟨of_decide_eq_true k.1, of_decide_eq_true k.2⟩
theorem ent_let {p : Str × List Str} (h : p ∈ ENT) : Let p.1 := let_of (words_let p h)
theorem let_free {z : Str} (h : Let z) {c : Nat} (hc : c < 97) : c ∉ TL.tl z := fun hm => by
  have k := h c hm
  omega
theorem let_nob {z : Str} (h : Let z) : NoB z := fun c hc e => by
  have k := h c (List.mem_of_getElem? hc)
  omega
theorem let_first {w : Str} (h : Let w) : Let (firstW w) := by
  unfold firstW
  split
  · exact let_of (by decide +kernel)
  · exact h
theorem join_cons (z : Str) (zs : List Str) : ∃ y : Str, Txt.join blank (z :: zs) = z ++ y := by
  match zs with
  | [] =>
    refine ⟨"", TL.ext_tl ?_⟩
    rw [TL.join_eq, TL.tl_join, TL.tl_append]
    show TL.tl z = TL.tl z ++ []
    rw [List.append_nil]
  | q :: r =>
    refine ⟨blank ++ Str.join blank (q :: r), TL.ext_tl ?_⟩
    rw [TL.join_eq, TL.tl_join, TL.tl_append, TL.tl_append, TL.tl_join]
    rfl
theorem nob_app {z y : Str} (h : NoB z) (hl : 1 ≤ z.length) : NoB (z ++ y) := fun c hc => by
  have l1 := TL.len_tl z
  rw [TL.tl_append, List.getElem?_append_left (by omega)] at hc
  exact h c hc
def LetS (zs : List Str) : Prop := ∀ z ∈ zs, Let z ∧ 1 ≤ z.length ∧ z.length ≤ 12

theorem rv_kd {K : PySem.W.Frag} {d : Addr} {H : Hp} {z : Str} {r : Option Value} (h : PySem.W.nsIn K d z = some r) : RV (fun x y H Q => ∃ (z : Str) (r : Option Value), x = .str z ∧ y = .ref d ∧ PySem.W.nsIn K d z = some r ∧ Q (.bl r.isSome) H) (.str z) (.ref d) H (.bl r.isSome) := fun H1 _ Q q => ⟨z, r, rfl, rfl, h, q H1 (Ex.refl _)⟩
theorem rv_nkd {K : PySem.W.Frag} {d : Addr} {H : Hp} {z : Str} {r : Option Value} (h : PySem.W.nsIn K d z = some r) : RV (fun x y H Q => ∃ (z : Str) (r : Option Value), x = .str z ∧ y = .ref d ∧ PySem.W.nsIn K d z = some r ∧ Q (.bl (!r.isSome)) H) (.str z) (.ref d) H (.bl (!r.isSome)) := fun H1 _ Q q => ⟨z, r, rfl, rfl, h, q H1 (Ex.refl _)⟩


section
variable {K : PySem.W.Frag} {σ : L2.St} {H : Hp}
theorem ev_m1 {r : V → List V → Hp → VK → Prop} {ta tb : TE} {a : Str} {y z : V} (h : Ev ta σ H (.str a)) (h2 : Ev tb σ H y) (hr : ∀ H1, Ex H H1 → ∀ Q : VK, Q z H1 → r (.str a) [y] H1 Q) : Ev (tM1 r ta tb) σ H z := fun H1 e Q q =>
  h H1 e _ fun H2 e2 => ⟨⟨a, rfl⟩, h2 H2 (e.trans e2) _ fun H3 e3 => hr H3 ((e.trans e2).trans e3) Q (q H3 (e2.trans e3))⟩
theorem ev_slS {te : TE} {tl th : TO} {lo hi : Option Int} {z : Str} (h : Ev te σ H (.str z)) (h1 : EvO tl σ H lo) (h2 : EvO th σ H hi) (hz : z.length ≤ 1000) : Ev (L2.tSl rSlS te tl th) σ H (.str (cutS z lo hi)) := fun H1 e Q q =>
  h H1 e _ fun H2 e2 => h1 H2 (e.trans e2) _ fun H3 e3 => h2 H3 ((e.trans e2).trans e3) _ fun H4 e4 => ⟨z, rfl, fits hz, q H4 ((e2.trans e3).trans e4)⟩
theorem el_lcT {a : Addr} {xs : List V} {tl te : TE} {t : TT} {j : Nat} {vs : List Nat} (f : Nat → Bool) (v : Nat → V) (h : Ev tl σ H (.ref a)) (hx : ∀ H1, Ex H H1 → SqT K H1 a xs) (hz : xs.length ≤ 40000) (hw : ∀ x, wipe ((wipe σ vs).set j (some x)) vs = wipe σ vs)
    (ht : ∀ (i : Nat) (x : V) H1, Ex H H1 → xs[i]? = some x → EvT t ((wipe σ vs).set j (some x)) H1 (f i)) (he : ∀ (i : Nat) (x : V) H1, Ex H H1 → xs[i]? = some x → f i = true → Ev te ((wipe σ vs).set j (some x)) H1 (v i)) :
    EvL (tLc (iTup K tl) (gName j) t te vs) σ H (given xs.length f v) := fun H0 e Q q => h H0 e _ fun H1 e1 => ⟨a, rfl, ⟨xs, hx _ (e.trans e1)⟩, fun Dl hD =>
  lc_tup (xs := xs) (Cw H1 f v Dl) ⟨hD, Ex.new hD, upd_same⟩ (fun i H' _ p => hx _ ((e.trans e1).trans p.2.1)) (fun i x H' hi p => ⟨hw x, cw_turn p (by have := (List.getElem?_eq_some_iff.mp hi).1; omega) (ht i x H1 (e.trans e1) hi) (fun hf => he i x H1 (e.trans e1) hi hf)⟩)
    (fun H' p => q Dl H' (fresh_back e1 p.1) (e1.trans p.2.1) p.2.2)⟩
theorem given_all : ∀ n : Nat, given n (fun _ => true) (fun _ => V.bl true) = (List.replicate n true).map V.bl
  | 0 => rfl
  | n + 1 => by
    rw [given_yes rfl, given_all n, List.replicate_succ', List.map_append]
    rfl
theorem ev_all {te : TE} {n : Nat} (h : EvL te σ H (given n (fun _ => true) (fun _ => V.bl true))) : Ev (tCB (rAll K) (tCons te tNil)) σ H (.bl true) := fun H1 e Q q => h H1 e _ fun p H2 hp e2 g =>
  ⟨p, List.replicate n true, rfl, sq_of (by rw [g, given_all]), by
    rw [show (List.replicate n true).all id = true by simp [List.all_replicate]]
    exact q H2 e2⟩
theorem given_filter {α : Type} (p : α → Bool) (g : α → V) (d : α) (l : List α) : ∀ n : Nat, n ≤ l.length → given n (fun i => p (l.getD i d)) (fun i => g (l.getD i d)) = ((l.take n).filter p).map g
  | 0, _ => rfl
  | n + 1, h => by
    have e : l[n]? = some (l.getD n d) := by
      rw [List.getD_eq_getElem?_getD, List.getElem?_eq_getElem (by omega)]
      rfl
    rw [List.take_add_one, e]
    show _ = ((l.take n ++ [l.getD n d]).filter p).map g
    rw [List.filter_append, List.map_append, ← given_filter p g d l n (by omega)]
    cases hp : p (l.getD n d) with
    | true =>
      rw [given_yes hp, List.filter_cons, if_pos hp]
      rfl
    | false =>
      rw [given_no hp, List.filter_cons, if_neg (by rw [hp]; exact Bool.false_ne_true)]
      show _ = _ ++ []
      rw [List.append_nil]
end

theorem rv_neSS {H : Hp} {w z : Str} : RV rNe (.str w) (.str z) H (.bl (!decide (w = z))) := by
  rw [← e_str]
  exact rv_ne rfl
theorem rv_neII {H : Hp} {i j : Int} : RV rNe (.int i) (.int j) H (.bl (!decide (i = j))) := by
  have e : decide (V.int i = V.int j) = decide (i = j) := by
    rw [decide_eq_decide]
    exact ⟨fun h => by injection h, fun h => by rw [h]⟩
  rw [← e]
  exact rv_ne rfl

theorem rv_eqI {H : Hp} {i j : Int} : RV rEq (.int i) (.int j) H (.bl (decide (i = j))) := by
  have e : decide (V.int i = V.int j) = decide (i = j) := by
    rw [decide_eq_decide]
    exact ⟨fun h => by injection h, fun h => by rw [h]⟩
  rw [← e]
  exact rv_eq rfl


def np (k : Str) : Bool := !decide (k = "part")
/-! ### the reader, as functions -/
def wordOfL (first : Str) : Str := if first = "lastly" then "" else if first = "do" then "lastly" else first
def readsB (z k : Str) : Bool := if k = "how" then decide (z ∈ [("copy" : Str), "view"]) else if k = "end" then decide (z ∈ [("found" : Str), "none"]) else goodN z
def rdW (w : Str) (rest : List Str) : Option (Str × List Str) := match kof w with
  | none => none
  | some ks => if rest.length = (ks.filter np).length ∧ (List.zipWith readsB rest (ks.filter np)).all id = true then some (w, rest) else none
theorem rdW_none {w : Str} {rest : List Str} (h : kof w = none) : rdW w rest = none := by
  unfold rdW
  rw [h]
theorem rdW_some {w : Str} {rest ks : List Str} (h : kof w = some ks) : rdW w rest = if rest.length = (ks.filter np).length ∧ (List.zipWith readsB rest (ks.filter np)).all id = true then some (w, rest) else none := by
  unfold rdW
  rw [h]
def rdTail (x : Str) : Option (Str × List Str) := match Txt.split x blank with
  | [] => none
  | first :: rest => rdW (wordOfL first) rest
theorem rdTail_eq {x first : Str} {rest : List Str} (h : Txt.split x blank = first :: rest) : rdTail x = rdW (wordOfL first) rest := by
  unfold rdTail
  rw [h]
def rdHead (line mg : Str) : Option (Str × List Str) :=
  if (decide (8 < mg.length) || !Txt.startswith line mg) = true then none else rdTail (cutS line (some ((mg.length : Nat) : Int)) none)
def npar (w : Str) : Nat := match kof w with
  | some ks => ks.countP fun y => decide (y = ("part" : Str))
  | none => 0
abbrev Rd := Except Nat (List PyData × Nat)
def rdLoop (hd : Nat → Option (Str × List Str)) (prt : Str → Nat → Rd) : Nat → Nat → Rd
  | 0, a => .ok ([], a)
  | k + 1, a => match hd a with
    | none => .ok ([], a)
    | some (w, ns) => match prt w (a + 1) with
      | .error l => .error l
      | .ok (ps, a1) => match rdLoop hd prt k a1 with
        | .error l => .error l
        | .ok (ss, a2) => .ok (.tuple (.str w :: ns.map PyData.str ++ ps) :: ss, a2)
def rdPP (ls : List Str) (mg w : Str) (inner : Nat → Rd) (a0 : Nat) : Nat → Rd
  | 0 => .ok ([], a0)
  | j + 1 => match rdPP ls mg w inner a0 j with
    | .error l => .error l
    | .ok (ps, a) => if j = 1 ∧ ls.getD a "" ≠ mg ++ secondW w then .error (a + 1) else
      match inner (if j = 1 then a + 1 else a) with
      | .error l => .error l
      | .ok (b, a2) => .ok (ps ++ [.tuple b], a2)
def rdPart (ls : List Str) : Nat → Nat → Rd
  | 0, a => .ok ([], a)
  | n + 1, a => rdLoop (fun a => rdHead (ls.getD a "") (mgn (4 - n))) (fun w a1 => rdPP ls (mgn (4 - n)) w (rdPart ls n) a1 (npar w)) (ls.length + 1) a
/-! ### the reader's small functions, of any text -/
def spLine (K : PySem.W.Frag) : Sp := fun vs H Q _ => ∃ (L : Addr) (ls : List Str) (i : Nat), vs = [.ref L, .int (i : Nat)] ∧ H L = some (.lst (ls.map V.str)) ∧ ∀ H', Ex H H' → Q (.str (ls.getD i "")) H'
def spWordOf : Sp := fun vs H Q _ => ∃ z, vs = [.str z] ∧ ∀ H', Ex H H' → Q (.str (wordOfL z)) H'
def spReads : Sp := fun vs H Q _ => ∃ z k, vs = [.str z, .str k] ∧ z.length ≤ 1000 ∧ k ∈ five ∧ ∀ H', Ex H H' → Q (.bl (readsB z k)) H'
structure Td (K : PySem.W.Frag) (w : World) (mg : Str → Option Value) : Prop extends Tg K w mg where
  fj : ∀ x ∈ [("cell" : Str), "row", "function"], PySem.W.nsIn K (ga K "FIXED_WORDS") x = some none
  ed : ∀ p ∈ ENT, ∃ a, PySem.W.nsIn K (ga K "ENTRIES") p.1 = some (some (.ref a)) ∧ (∀ H, SqT K H a (p.2.map V.str)) ∧ ∃ o, K.lookup a = some o ∧ o.cls = .type "tuple" ∧ o.dict = none
  bt : Own K (ga K "BadText") (ma K (ga K "BadText") "__init__") ["line"]
theorem five_cases {k : Str} (h : k ∈ five) : k = "how" ∨ k = "end" ∨ (k ∈ [("cell" : Str), "row", "function"] ∧ k ≠ "how" ∧ k ≠ "end") := by
  unfold five at h
  simp only [List.mem_cons, List.not_mem_nil, or_false] at h
  rcases h with rfl | rfl | rfl | rfl | rfl
  · exact .inr (.inr ⟨by simp, by decide +kernel, by decide +kernel⟩)
  · exact .inr (.inr ⟨by simp, by decide +kernel, by decide +kernel⟩)
  · exact .inr (.inr ⟨by simp, by decide +kernel, by decide +kernel⟩)
  · exact .inl rfl
  · exact .inr (.inl rfl)

section
variable {P : Program} {w : World} {K : PySem.W.Frag} {mg : Str → Option Value} {base : Heap}

theorem ok_line_at {fd : FuncData} (F : FnP K "line_at" "line_at" s_line_at (ga K "line_at") fd) (T : Tx K w mg) : FnOk P w K mg base CX0 (0 + 1) (ga K "line_at") fd ["lines", "at"] (spLine K) := by
  refine FunD.ok F sc_line_at (fun vs H Q E h => ?_) (fun cdv A outer s H vs Q E hr h => ?_)
  · obtain ⟨l, ls, i, rfl, _⟩ := h
    rfl
  · obtain ⟨l, ls, i, rfl, hl, kk⟩ := h
    have n_len := T.fr "len" (by decide +kernel)
    refine ⟨_, PSs.nox (pss_one (ps_ret (pe_ifExp (pt_cmpR op_lt (pv 1) (pe_callB call_len_seq (by rfl) n_len (by decide +kernel) (pa_cons (pv 0) pa_nil)) (nomark _)) (pe_ix ix_list (pv 0) (pv 1) (fun _ _ => rfl)) pe_str))), ?_⟩
    refine s_ret (v := .str (ls.getD i "")) (ev_if (b := decide ((i : Int) < ((ls.map V.str).length : Nat))) (et_test (ev_op (ev_var rfl) (ev_len (K := K) (ev_var rfl) (sq_of hl)) rv_I0)) (fun hb => ?_) (fun hb => ?_)) fun H1 e1 => kk H1 e1
    · have h := of_decide_eq_true hb
      rw [List.length_map] at h
      have hi : i < ls.length := by omega
      have e : ls[i]? = some (ls.getD i "") := by
        rw [List.getD_eq_getElem?_getD, List.getElem?_eq_getElem hi]
        rfl
      exact ev_op (ev_var rfl) (ev_var rfl) (rv_ixL (sq_of hl) (atI_nat (by rw [List.getElem?_map, e]; rfl)))
    · have h := of_decide_eq_false hb
      rw [List.length_map] at h
      rw [List.getD_eq_getElem?_getD, List.getElem?_eq_none (by omega)]
      exact ev_c

theorem ok_word_of {fd : FuncData} (F : FnP K "word_of" "word_of" s_word_of (ga K "word_of") fd) (T : Tx K w mg) : FnOk P w K mg base CX0 (0 + 1) (ga K "word_of") fd ["first"] spWordOf := by
  refine FunD.ok F sc_word_of (fun vs H Q E h => ?_) (fun cdv A outer s H vs Q E hr h => ?_)
  · obtain ⟨z, rfl, _⟩ := h
    rfl
  · obtain ⟨z, rfl, kk⟩ := h
    refine ⟨_, PSs.nox (pss_cons (ps_if (pt_cmpR op_eq (pv 0) pe_str (nomark _))
      (pss_one (ps_ret pe_str))
      pss_nil)
      (pss_one (ps_ret (pe_ifExp (pt_cmpR op_eq (pv 0) pe_str (nomark _)) pe_str (pv 0))))), ?_⟩
    refine q_when (b := decide (z = "lastly")) (et_test (ev_op (ev_var rfl) ev_c rv_eqS)) (fun hb H1 e1 => ?_) (fun hb H1 e1 => ?_)
    · have e : wordOfL z = "" := by
        unfold wordOfL
        rw [if_pos (of_decide_eq_true hb)]
      exact s_ret (v := .str (wordOfL z)) (ev_is ev_c (by rw [e])) fun H2 e2 => kk H2 (e1.trans e2)
    · refine s_ret (v := .str (wordOfL z)) (ev_if (b := decide (z = "do")) (et_test (ev_op (ev_var rfl) ev_c rv_eqS)) (fun hb2 => ev_is ev_c ?_) (fun hb2 => ev_is (ev_var rfl) ?_)) fun H2 e2 => kk H2 (e1.trans e2)
      · unfold wordOfL
        rw [if_neg (of_decide_eq_false hb), if_pos (of_decide_eq_true hb2)]
      · unfold wordOfL
        rw [if_neg (of_decide_eq_false hb), if_neg (of_decide_eq_false hb2)]

theorem ok_reads_as {fd : FuncData} (F : FnP K "reads_as" "reads_as" s_reads_as (ga K "reads_as") fd) (T : Td K w mg) (c_is_name : Cl P w K mg base CX0 1 (ga K "is_name") ["word"] spIsName) : FnOk P w K mg base CX0 (1 + 1) (ga K "reads_as") fd ["entry", "kind"] spReads := by
  obtain ⟨fd_is_name, G_is_name, b_is_name, kp_is_name⟩ := c_is_name
  refine FunD.ok F sc_reads_as (fun vs H Q E h => ?_) (fun cdv A outer s H vs Q E hr h => ?_)
  · obtain ⟨z, k, rfl, _⟩ := h
    rfl
  · obtain ⟨z, k, rfl, hz, hk, kk⟩ := h
    have g_FIXED_WORDS := T.gl "FIXED_WORDS" (by decide +kernel)
    have g_is_name := T.gl "is_name" (by decide +kernel)
    obtain ⟨es, n, fa, fb, DF, ⟨fh1, fh2⟩, fe1, fe2⟩ := T.fx
    refine ⟨_, PSs.nox (pss_cons (ps_if (pt_cmpR (op_in_kd DF) (pv 1) (pe_glob (v := .ref _) (by rfl) g_FIXED_WORDS rfl) (by rfl))
      (pss_one (ps_ret (pe_cmpR (op_in_seq : OpR _ _ (rIn K false)) (pv 0) (pe_ix ix_kdict (pe_glob (v := .ref _) (by rfl) g_FIXED_WORDS rfl) (pv 1) (fun _ _ => rfl)) (by rfl))))
      pss_nil)
      (pss_one (ps_ret (pe_call G_is_name (hr.mono (by decide)) (by rfl) g_is_name kp_is_name b_is_name .nil pass0 (pa_cons (pv 0) pa_nil))))), ?_⟩
    have DF2 := DF
    rcases five_cases hk with rfl | rfl | ⟨hk, n1, n2⟩
    · refine q_when (b := true) (et_is (et_test (ev_op (ev_var rfl) ev_c (rv_kd fh1))) rfl) (fun _ H1 e1 => ?_) (fun h => nomatch h)
      refine s_ret (v := .bl (readsB z "how")) (ev_is (ev_op (ev_var rfl) (ev_op (z := .ref fa) ev_c (ev_var rfl) (fun H2 _ Q q => ⟨_, "how", .ref fa, rfl, rfl, ⟨es, n, _, DF2.at_, DF2.lit, fh1, rfl⟩, q H2 (Ex.refl _)⟩)) (rv_inT (neg := false) (fh2 _) rfl rfl)) ?_) fun H2 e2 => kk H2 (e1.trans e2)
      show V.bl (inV (.str z) ([("copy" : Str), "view"].map V.str)) = _
      rw [inV_strs]
      rfl
    · refine q_when (b := true) (et_is (et_test (ev_op (ev_var rfl) ev_c (rv_kd fe1))) rfl) (fun _ H1 e1 => ?_) (fun h => nomatch h)
      refine s_ret (v := .bl (readsB z "end")) (ev_is (ev_op (ev_var rfl) (ev_op (z := .ref fb) ev_c (ev_var rfl) (fun H2 _ Q q => ⟨_, "end", .ref fb, rfl, rfl, ⟨es, n, _, DF2.at_, DF2.lit, fe1, rfl⟩, q H2 (Ex.refl _)⟩)) (rv_inT (neg := false) (fe2 _) rfl rfl)) ?_) fun H2 e2 => kk H2 (e1.trans e2)
      show V.bl (inV (.str z) ([("found" : Str), "none"].map V.str)) = _
      rw [inV_strs]
      rfl
    · refine q_when (b := false) (et_is (et_test (ev_op (ev_var rfl) ev_c (rv_kd (T.fj k hk)))) rfl) (fun h => nomatch h) (fun _ H1 e1 => ?_)
      have e : readsB z k = goodN z := by
        unfold readsB
        rw [if_neg n1, if_neg n2]
      refine s_ret (v := .bl (readsB z k)) (ev_call (ea_cons (ev_var rfl) ea_nil) fun H2 e2 R q _ => ⟨z, rfl, hz, fun H3 e3 => by rw [e] at q; exact q H3 e3⟩) fun H2 e2 => kk H2 (e1.trans e2)

end
end K06
set_option Elab.async false
set_option linter.all false
set_option maxRecDepth 100000
set_option maxHeartbeats 8000000
namespace K06
open PySem PySem.Spec PyProof.Rows L2 He XH XV XR PEN TR Evl


def Short (ls : List Str) : Prop := ∀ z ∈ ls, z.length ≤ 900
theorem short_at {ls : List Str} (h : Short ls) (i : Nat) : (ls.getD i "").length ≤ 900 := by
  rw [List.getD_eq_getElem?_getD]
  cases q : ls[i]? with
  | none => decide +kernel
  | some z => exact h z (List.mem_of_getElem? q)
def rdHeading (line w : Str) : Option (List Str) := match Txt.split line blank with
  | [] => none
  | first :: names => if first = w ++ (":" : Str) ∧ (names.map goodN).all id = true then some names else none
def rdName (line : Str) : Option Str := if Txt.endswith line (":" : Str) = true ∧ goodN (cutS line none (some (-1))) = true then some (cutS line none (some (-1))) else none
def BadT (K : PySem.W.Frag) (E : XK) (l : Nat) (H : Hp) : Prop := ∀ d H', Ex H H' → H' d = some (.xd [("line", .int (l : Nat))]) → E (.ref (ga K "BadText")) (some d) H'
theorem BadT.mono {K : PySem.W.Frag} {E : XK} {l : Nat} {H H' : Hp} (e : Ex H H') (h : BadT K E l H) : BadT K E l H' := fun d H2 e2 hd => h d H2 (e.trans e2) hd
theorem bt_made {K : PySem.W.Frag} {C : Addr} {σ : L2.St} {H : Hp} {Q : XK} {t : TA} {y : V} (U : OexC K C) (n1 : PySem.W.findIn K (.ref C) "line" = some none) (hA : EvA t σ H [y])
    (h : ∀ d H', Ex H H' → H' d = some (.xd [("line", y)]) → Q (.ref C) (some d) H') : tMkO C (spI1 K C "line") [] t σ H Q := by
  refine hA H (Ex.refl _) _ fun H1 e1 => ⟨(show 1 ≤ 1000 by decide), fun a ha => ⟨a, y, rfl, U, n1, upd_same, fun d hd hda => ⟨rfl, d, _, upd_same, (upd_ne hda).trans upd_same, (upd_ne hda).symm.trans hd, h d _ ?_ upd_same⟩⟩⟩
  intro c o hc0
  have hc := e1 _ _ hc0
  have c1 : c ≠ a := ne_of_none hc ha
  have c2 : c ≠ d := ne_of_none hc ((upd_ne hda).symm.trans hd)
  rw [upd_ne c2, del_ne c1, upd_ne c1, upd_ne c2, upd_ne c1]
  exact hc
theorem ev_allL {K : PySem.W.Frag} {σ : L2.St} {H : Hp} {te : TE} {bs : List Bool} (h : EvL te σ H (bs.map V.bl)) : Ev (tCB (rAll K) (tCons te tNil)) σ H (.bl (bs.all id)) := fun H1 e Q q => h H1 e _ fun p H2 hp e2 g => ⟨p, bs, rfl, sq_of g, q H2 e2⟩
theorem given_map {α : Type} (f : α → Bool) (d : α) (l : List α) : given l.length (fun _ => true) (fun i => V.bl (f (l.getD i d))) = (l.map f).map V.bl := by
  have k := given_filter (fun _ => true) (fun x => V.bl (f x)) d l l.length (Nat.le_refl _)
  rw [List.take_length, List.filter_eq_self.mpr (fun _ _ => rfl)] at k
  rw [List.map_map]
  exact k
def HeadV (K : PySem.W.Frag) (H : Hp) (hd : Addr) : Option (Str × List Str) → Prop
  | none => H hd = some (.tup [])
  | some (w, ns) => H hd = some (.tup (.str w :: ns.map V.str))
theorem HeadV.mono {K : PySem.W.Frag} {H H' : Hp} (e : Ex H H') {hd : Addr} : ∀ {o : Option (Str × List Str)}, HeadV K H hd o → HeadV K H' hd o
  | none, h => e _ _ h
  | some (_, _), h => e _ _ h
def spHd (K : PySem.W.Frag) : Sp := fun vs H Q _ => ∃ line mg : Str, vs = [.str line, .str mg] ∧ line.length ≤ 900 ∧ mg.length ≤ 20 ∧ ∀ q H', H q = none → Ex H H' → HeadV K H' q (rdHead line mg) → Q (.ref q) H'
def spRHead (K : PySem.W.Frag) : Sp := fun vs H Q E => ∃ (L : Addr) (ls : List Str) (i : Nat) (w : Str), vs = [.ref L, .int (i : Nat), .str w] ∧ H L = some (.lst (ls.map V.str)) ∧ Short ls ∧ w.length ≤ 12 ∧ (∀ zs, rdHeading (ls.getD i "") w = some zs → ∀ q H', H q = none → Ex H H' → H' q = some (.lst (zs.map V.str)) → Q (.ref q) H') ∧ (rdHeading (ls.getD i "") w = none → BadT K E (i + 1) H)
def spRName (K : PySem.W.Frag) : Sp := fun vs H Q E => ∃ (L : Addr) (ls : List Str) (i : Nat), vs = [.ref L, .int (i : Nat)] ∧ H L = some (.lst (ls.map V.str)) ∧ Short ls ∧ i < ls.length ∧ (∀ z, rdName (ls.getD i "") = some z → ∀ H', Ex H H' → Q (.str z) H') ∧ (rdName (ls.getD i "") = none → BadT K E (i + 1) H)
theorem kof_none {w : Str} (h : kof w = none) : w ∉ ENT.map (·.1) := fun hm => by
  obtain ⟨p, hp, e⟩ := List.mem_map.mp hm
  rw [← e, kof_ent p hp] at h
  cases h
theorem split_ne (x : Str) : ∃ a r, Txt.split x blank = a :: r := by
  have k := PyProof.Rows.split_pos x blank
  match h : Txt.split x blank, k with
  | a :: r, _ => exact ⟨a, r, rfl⟩

section
variable {P : Program} {w : World} {K : PySem.W.Frag} {mg : Str → Option Value} {base : Heap}

theorem ok_read_name {fd : FuncData} (F : FnP K "read_name" "read_name" s_read_name (ga K "read_name") fd) (T : Td K w mg) (c_is_name : Cl P w K mg base CX0 1 (ga K "is_name") ["word"] spIsName) (c_BadText_init : Cl P w K mg base CX0 1 (ma K (ga K "BadText") "__init__") ["self", "line"] (spI1 K (ga K "BadText") "line")) : FnOk P w K mg base (L2.CX P w) (2 + 1) (ga K "read_name") fd ["lines", "at"] (spRName K) := by
  obtain ⟨fd_is_name, G_is_name, b_is_name, kp_is_name⟩ := c_is_name
  obtain ⟨fd_BadText_init, G_BadText_init, b_BadText_init, kp_BadText_init⟩ := c_BadText_init
  refine FunD.ok F sc_read_name (fun vs H Q E h => ?_) (fun cdv A outer s H vs Q E hr h => ?_)
  · obtain ⟨l, ls, i, rfl, _⟩ := h
    rfl
  · obtain ⟨l, ls, i, rfl, hl, hsh, hi, kk, kb⟩ := h
    have g_is_name := T.gl "is_name" (by decide +kernel)
    have g_BadText := T.gl "BadText" (by decide +kernel)
    refine ⟨_, (pss_cons (ps_set (i := 2) sc_read_name.nd rfl (Or.inl rfl) (pe_ix ix_list (pv 0) (pv 1) (fun _ _ => rfl)))
      (pss_cons (ps_if (PW.pt (pw_or (pt_not (pt_val (pe_m1 PySem.F.slot_str_endswith PySem.F.type_str_endswith mt_endswith (pv 2) pe_str))) (pw_or1 (pt_not (pt_val (pe_call G_is_name (hr.mono (by decide)) (by rfl) g_is_name kp_is_name b_is_name .nil pass0 (pa_cons (pe_slice sl_str (pv 2) po_none (po_some (pe_un un_neg pe_int))) pa_nil)))))))
      (pss_one (ps_raise rfl (takes_of rfl rfl rfl rfl) (pmk_oex T.bt.ox T.bt.iC T.bt.tI G_BadText_init (hr.mono (by decide)) b_BadText_init .nil pass0 (by rfl) g_BadText (pa_cons (pe_op op_add (pv 1) pe_int) pa_nil))))
      pss_nil)
      (pss_one (ps_ret (pe_slice sl_str (pv 2) po_none (po_some (pe_un un_neg pe_int))))))), ?_⟩
    have zl := short_at hsh i
    have hget : ls[i]? = some (ls.getD i "") := by
      rw [List.getD_eq_getElem?_getD, List.getElem?_eq_getElem hi]
      rfl
    generalize ls.getD i "" = line at zl hget kk kb
    have cl : ∀ {σ : L2.St} {H1 : Hp}, σ[2]? = some (some (.str line)) → Ev (L2.tSl rSlS (tVar 2) tNoPart (tPart (tUn (rU fun i => .int (-i)) (tC (.int 1))))) σ H1 (.str (cutS line none (some (-1)))) := fun h => ev_slS (ev_var h) eo_none (eo_some (ev_un (x := .int 1) ev_c (fun H1 _ Q q => ⟨1, rfl, q H1 (Ex.refl _)⟩))) (by omega)
    have cz := cutS_length line none (some (-1))
    refine q_asg (v := .str line) (ev_op (ev_var rfl) (ev_var rfl) (rv_ixL (sq_of hl) (atI_nat (by rw [List.getElem?_map, hget]; rfl)))) fun H1 e1 => ?_
    try dsimp only [gName, List.set]
    refine q_when (b := !Txt.endswith line (":" : Str) || !goodN (cutS line none (some (-1)))) (et_or (et_not (et_B (ev_m1 (ev_var rfl) ev_c fun H2 e2 Q q => ⟨_, _, rfl, rfl, q⟩))) fun _ => et_not (et_B (ev_call (ea_cons (cl rfl) ea_nil) fun H2 e2 R q _ => ⟨_, rfl, by omega, fun H3 e3 => q H3 e3⟩))) (fun hb H2 e2 => ?_) (fun hb H2 e2 => ?_)
    · refine bt_made T.bt.ox (T.bt.no "line" (by decide)) (ea_cons (ev_op (ev_var rfl) ev_c rv_I0) ea_nil) fun d H3 e3 hd => kb ?_ d H3 ((e1.trans e2).trans e3) hd
      unfold rdName
      rw [if_neg]
      rintro ⟨h1, h2⟩
      rw [h1, h2] at hb
      cases hb
    · refine s_ret (cl rfl) fun H3 e3 => kk _ ?_ H3 ((e1.trans e2).trans e3)
      unfold rdName
      rw [if_pos]
      rw [Bool.or_eq_false_iff, Bool.not_eq_false', Bool.not_eq_false'] at hb
      exact hb

theorem ok_read_heading {fd : FuncData} (F : FnP K "read_heading" "read_heading" s_read_heading (ga K "read_heading") fd) (T : Td K w mg) (c_line_at : Cl P w K mg base CX0 1 (ga K "line_at") ["lines", "at"] (spLine K)) (c_is_name : Cl P w K mg base CX0 1 (ga K "is_name") ["word"] spIsName) (c_BadText_init : Cl P w K mg base CX0 1 (ma K (ga K "BadText") "__init__") ["self", "line"] (spI1 K (ga K "BadText") "line")) : FnOk P w K mg base (L2.CX P w) (2 + 1) (ga K "read_heading") fd ["lines", "at", "word"] (spRHead K) := by
  obtain ⟨fd_line_at, G_line_at, b_line_at, kp_line_at⟩ := c_line_at
  obtain ⟨fd_is_name, G_is_name, b_is_name, kp_is_name⟩ := c_is_name
  obtain ⟨fd_BadText_init, G_BadText_init, b_BadText_init, kp_BadText_init⟩ := c_BadText_init
  refine FunD.ok F sc_read_heading (fun vs H Q E h => ?_) (fun cdv A outer s H vs Q E hr h => ?_)
  · obtain ⟨l, ls, i, wd, rfl, _⟩ := h
    rfl
  · obtain ⟨l, ls, i, wd, rfl, hl, hsh, hw, kk, kb⟩ := h
    have g_line_at := T.gl "line_at" (by decide +kernel)
    have n_all := T.fr "all" (by decide +kernel)
    have g_is_name := T.gl "is_name" (by decide +kernel)
    have g_BadText := T.gl "BadText" (by decide +kernel)
    refine ⟨_, (pss_cons (ps_asg (pe_split (pe_call G_line_at (hr.mono (by decide)) (by rfl) g_line_at kp_line_at b_line_at .nil pass0 (pa_cons (pv 0) (pa_cons (pv 1) pa_nil))) pe_str) (SU.pg_star1 rfl (pgs_cons (pg_name (i := 3) sc_read_heading.nd rfl (Or.inl rfl)) (SU.pgs_consS (pg_name (i := 4) sc_read_heading.nd rfl (Or.inl rfl)) pgs_nil))))
      (pss_cons (ps_if (PW.pt (pw_or (pt_cmpR op_ne (pv 3) (pe_joined (PJ.cons (pe_fmt (pv 2)) (PJ.cons pe_str PJ.nil))) (nomark _)) (pw_or1 (pt_not (pt_val (pe_callB (cr_all rfl) (by rfl) n_all (by decide +kernel) (pa_cons (pe_lc (own := [("name", 5)]) (g := gName 5) (by rfl) sc_read_heading.nd (pi_list (pv 4)) (blkOk_by (own := [("name", 5)]) (N := ["lines", "at", "word", "first", "names", "name"]) (sc := defScope s_read_heading) (by decide +kernel)) (fun _ _ _ _ _ => (pg_name (i := 5) sc_read_heading.nd rfl (Or.inl rfl))) (fun _ _ _ _ _ => pts_nil) (fun _ _ _ _ _ => (pe_call G_is_name (hr.mono (by decide)) (by rfl) g_is_name kp_is_name b_is_name .nil pass0 (pa_cons (pv 5) pa_nil)))) pa_nil)))))))
      (pss_one (ps_raise rfl (takes_of rfl rfl rfl rfl) (pmk_oex T.bt.ox T.bt.iC T.bt.tI G_BadText_init (hr.mono (by decide)) b_BadText_init .nil pass0 (by rfl) g_BadText (pa_cons (pe_op op_add (pv 1) pe_int) pa_nil))))
      pss_nil)
      (pss_one (ps_ret (pv 4))))), ?_⟩
    have l1 : (wd ++ (":" : Str)).length = wd.length + 1 := by
      rw [app_len]
      rfl
    have zl := short_at hsh i
    refine ⟨.ref l, rfl, .int (i : Nat), rfl, l, ls, i, rfl, hl, fun H1 e1 => ⟨⟨_, rfl⟩, _, blank, rfl, rfl, rfl, fits (by omega), fun p hp => ?_⟩⟩
    generalize ls.getD i "" = line at zl kk kb
    obtain ⟨fi, zs, es⟩ := split_ne line
    have eh : rdHeading line wd = if fi = wd ++ (":" : Str) ∧ (zs.map goodN).all id = true then some zs else none := by
      unfold rdHeading
      rw [es]
    have zls : ∀ z ∈ zs, z.length ≤ 900 := fun z hz => Nat.le_trans (PyProof.Rows.part_short (x := line) (y := blank) (by rw [es]; exact List.mem_cons_of_mem _ hz)) zl
    have zn := PyProof.Rows.split_le line blank
    rw [es, List.length_cons] at zn
    rw [es]
    refine ⟨p, .str fi, zs.map V.str, rfl, sq_of upd_same, by rw [List.length_map]; omega, fun D hD => ⟨_, _, rfl, _, _, rfl, rfl, ?_⟩⟩
    have e2 := e1.trans ((Ex.new (o := .lst ((fi :: zs).map V.str)) hp).trans (Ex.new (o := .lst (zs.map V.str)) hD))
    have hD0 : H D = none := fresh_back (e1.trans (Ex.new hp)) hD
    have gD : upd (upd H1 p (.lst ((fi :: zs).map V.str))) D (.lst (zs.map V.str)) D = some (.lst (zs.map V.str)) := upd_same
    generalize upd (upd H1 p (.lst ((fi :: zs).map V.str))) D (.lst (zs.map V.str)) = H2 at e2 gD
    try dsimp only [gName, List.set]
    refine q_when (b := !decide (fi = wd ++ (":" : Str)) || !(zs.map goodN).all id) (et_or (et_test (ev_op (y := .str (wd ++ (":" : Str))) (ev_var rfl) (fun H3 e3 Q q => ⟨.str wd, rfl, .inl ⟨wd, rfl, fits (by omega), wd, rfl, by rw [empty_app]; exact fits (by omega), ":", rfl, by rw [empty_app, l1]; exact fits (by omega), by rw [empty_app]; exact q H3 (Ex.refl _)⟩⟩) rv_neSS)) fun _ => et_not (et_B (ev_allL ?_))) (fun hb H3 e3 => ?_) (fun hb H3 e3 => ?_)
    · rw [← given_map goodN "" zs, show zs.length = (zs.map V.str).length by rw [List.length_map]]
      refine el_lcL (fun _ => true) _ (ev_var rfl) (sq_of gD) (by rw [List.length_map]; omega) (fun _ => rfl) (fun _ _ _ _ _ => fun H3 _ Q q => q H3 (Ex.refl H3)) (fun j x H3 e3 hx _ => ?_)
      rw [List.getElem?_map] at hx
      cases hz : zs[j]? with
      | none =>
        rw [hz] at hx
        cases hx
      | some z =>
        rw [hz] at hx
        cases hx
        have ez : zs.getD j "" = z := by
          rw [List.getD_eq_getElem?_getD, hz]
          rfl
        rw [ez]
        exact ev_call (ea_cons (ev_var rfl) ea_nil) fun H4 e4 R q _ => ⟨z, rfl, Nat.le_trans (zls z (List.mem_of_getElem? hz)) (by decide), fun H5 e5 => q H5 e5⟩
    · refine bt_made T.bt.ox (T.bt.no "line" (by decide)) (ea_cons (ev_op (ev_var rfl) ev_c rv_I0) ea_nil) fun d H4 e4 hd => kb ?_ d H4 ((e2.trans e3).trans e4) hd
      rw [eh, if_neg]
      rintro ⟨h1, h2⟩
      rw [decide_eq_true h1, h2] at hb
      cases hb
    · rw [Bool.or_eq_false_iff, Bool.not_eq_false', Bool.not_eq_false'] at hb
      exact ⟨.ref D, rfl, kk zs (by rw [eh, if_pos ⟨of_decide_eq_true hb.1, hb.2⟩]) D H3 hD0 (e2.trans e3) (e3 _ _ gD)⟩

end
end K06
set_option Elab.async false
set_option linter.all false
set_option maxRecDepth 100000
set_option maxHeartbeats 8000000
namespace K06
open PySem PySem.Spec PyProof.Rows L2 He XH XV XR PEN TR Evl


theorem np_five : ∀ p ∈ ENT, ∀ k ∈ p.2, np k = true → k ∈ five := by decide +kernel
theorem zw_take {α β : Type} {f : α → β → Bool} : ∀ {xs : List α} {ys : List β} {i : Nat} {x : α} {y : β}, xs[i]? = some x → ys[i]? = some y → (List.zipWith f xs ys).take (i + 1) = (List.zipWith f xs ys).take i ++ [f x y]
  | a :: xs, b :: ys, 0, x, y, h1, h2 => by
    cases h1
    cases h2
    rfl
  | a :: xs, b :: ys, i + 1, x, y, h1, h2 => by
    show f a b :: (List.zipWith f xs ys).take (i + 1) = f a b :: ((List.zipWith f xs ys).take i ++ [f x y])
    rw [zw_take (xs := xs) (ys := ys) h1 h2]

section
variable {P : Program} {w : World} {K : PySem.W.Frag} {mg : Str → Option Value} {base : Heap}

theorem ok_read_head {fd : FuncData} (F : FnP K "read_head" "read_head" s_read_head (ga K "read_head") fd) (T : Td K w mg) (c_word_of : Cl P w K mg base CX0 1 (ga K "word_of") ["first"] spWordOf) (c_reads_as : Cl P w K mg base CX0 2 (ga K "reads_as") ["entry", "kind"] spReads) : FnOk P w K mg base CX0 (2 + 1) (ga K "read_head") fd ["line", "margin"] (spHd K) := by
  obtain ⟨fd_word_of, G_word_of, b_word_of, kp_word_of⟩ := c_word_of
  obtain ⟨fd_reads_as, G_reads_as, b_reads_as, kp_reads_as⟩ := c_reads_as
  refine FunD.ok F sc_read_head (fun vs H Q E h => ?_) (fun cdv A outer s H vs Q E hr h => ?_)
  · obtain ⟨line, mg, rfl, _⟩ := h
    rfl
  · obtain ⟨line, mg, rfl, hl, hm, kk⟩ := h
    have n_len := T.fr "len" (by decide +kernel)
    obtain ⟨tk_WIDEST_MARGIN, g_WIDEST_MARGIN⟩ := T.c_WIDEST_MARGIN
    have g_word_of := T.gl "word_of" (by decide +kernel)
    have g_ENTRIES := T.gl "ENTRIES" (by decide +kernel)
    have n_all := T.fr "all" (by decide +kernel)
    have n_zip := T.fr "zip" (by decide +kernel)
    have g_reads_as := T.gl "reads_as" (by decide +kernel)
    obtain ⟨esE, nE, DE, hE⟩ := T.en
    refine ⟨_, PSs.nox (pss_cons (ps_if (PW.pt (pw_or (pt_cmpR op_gt (pe_callB call_len_str (by rfl) n_len (by decide +kernel) (pa_cons (pv 1) pa_nil)) (pe_glob (v := .int _) (by rfl) g_WIDEST_MARGIN ⟨_, rfl⟩) (nomark _)) (pw_or1 (pt_not (pt_val (pe_m1 PySem.F.slot_str_startswith PySem.F.type_str_startswith mt_startswith (pv 0) (pv 1)))))))
      (pss_one (ps_ret (pe_tup pa_nil)))
      pss_nil)
      (pss_cons (ps_asg (pe_split (pe_slice sl_str (pv 0) (po_some (pe_callB call_len_str (by rfl) n_len (by decide +kernel) (pa_cons (pv 1) pa_nil))) po_none) pe_str) (SU.pg_star1 rfl (pgs_cons (pg_name (i := 2) sc_read_head.nd rfl (Or.inl rfl)) (SU.pgs_consS (pg_name (i := 3) sc_read_head.nd rfl (Or.inl rfl)) pgs_nil))))
      (pss_cons (ps_set (i := 4) sc_read_head.nd rfl (Or.inl rfl) (pe_call G_word_of (hr.mono (by decide)) (by rfl) g_word_of kp_word_of b_word_of .nil pass0 (pa_cons (pv 2) pa_nil)))
      (pss_cons (ps_if (pt_cmpR (op_notIn_kd DE) (pv 4) (pe_glob (v := .ref _) (by rfl) g_ENTRIES rfl) (by rfl))
      (pss_one (ps_ret (pe_tup pa_nil)))
      pss_nil)
      (pss_cons (ps_setLc (i := 5) (own := [("kind", 6)]) (g := gName 6) (by rfl) sc_read_head.nd rfl rfl (sw_true rfl rfl rfl (by decide +kernel)) (pi_tup (pe_ix ix_kdict (pe_glob (v := .ref _) (by rfl) g_ENTRIES rfl) (pv 4) (fun _ _ => rfl))) (blkOk_by (own := [("kind", 6)]) (N := ["line", "margin", "first", "rest", "word", "kinds", "kind", "entry"]) (sc := defScope s_read_head) (by decide +kernel)) (fun _ _ _ _ _ => (pg_name (i := 6) sc_read_head.nd rfl (Or.inl rfl))) (fun _ _ _ _ _ => (pts_one (pt_cmpR op_ne (pv 6) pe_str (nomark _)))) (fun _ _ _ _ _ => (pv 6)))
      (pss_cons (ps_if (PW.pt (pw_or (pt_cmpR op_ne (pe_callB call_len_seq (by rfl) n_len (by decide +kernel) (pa_cons (pv 3) pa_nil)) (pe_callB call_len_seq (by rfl) n_len (by decide +kernel) (pa_cons (pv 5) pa_nil)) (nomark _)) (pw_or1 (pt_not (pt_val (pe_callB (cr_all rfl) (by rfl) n_all (by decide +kernel) (pa_cons (pe_lc (own := [("entry", 7), ("kind", 6)]) (g := _) (by rfl) sc_read_head.nd (RZ.pi_zipA (by rfl) n_zip (pa_cons (pv 3) (pa_cons (pv 5) pa_nil))) (blkOk_by (own := [("entry", 7), ("kind", 6)]) (N := ["line", "margin", "first", "rest", "word", "kinds", "kind", "entry"]) (sc := defScope s_read_head) (by decide +kernel)) (fun _ _ _ _ _ => (pg_tupc (K := K) (n := 2) rfl rfl (pgs_cons (pg_name (i := 7) sc_read_head.nd rfl (Or.inl rfl)) (pgs_cons (pg_name (i := 6) sc_read_head.nd rfl (Or.inl rfl)) pgs_nil)))) (fun _ _ _ _ _ => pts_nil) (fun _ _ _ _ _ => (pe_call G_reads_as (hr.mono (by decide)) (by rfl) g_reads_as kp_reads_as b_reads_as .nil pass0 (pa_cons (pv 7) (pa_cons (pv 6) pa_nil))))) pa_nil)))))))
      (pss_one (ps_ret (pe_tup pa_nil)))
      pss_nil)
      (pss_one (ps_ret (pe_tup (pa_cons (pv 4) (StX.pa_star (pv 3) pa_nil))))))))))), ?_⟩
    have lenE : ∀ {σ : L2.St} {H1 : Hp}, σ[1]? = some (some (.str mg)) → Ev (tCB (fun xs H Q => ∃ z : Str, xs = [.str z] ∧ z.length ≤ sizeLine ∧ Q (.int (z.length : Nat)) H) (tCons (tVar 1) tNil)) σ H1 (.int (mg.length : Nat)) := fun h => ev_cb (ea_cons (ev_var h) ea_nil) fun H2 _ Q q => ⟨mg, rfl, fits (by omega), q H2 (Ex.refl _)⟩
    have t0 : ∀ {σ : L2.St} {H1 : Hp}, σ[0]? = some (some (.str line)) → σ[1]? = some (some (.str mg)) → EvT (tNot (tB (tM1 (fun x xs H Q => ∃ a b, x = .str a ∧ xs = [.str b] ∧ Q (.bl (Txt.startswith a b)) H) (tVar 0) (tVar 1)))) σ H1 (!Txt.startswith line mg) := fun h0 h1 => et_not (et_B (ev_m1 (ev_var h0) (ev_var h1) fun H2 e2 Q q => ⟨_, _, rfl, rfl, q⟩))
    have ret0 : ∀ {D : Ends} {σ : L2.St} {H1 : Hp}, D.rt = Q → Ex H H1 → rdHead line mg = none → tRet (tTup tNil) D σ H1 := fun hD e hr => s_retU (eu_tup ea_nil (by decide)) fun q H2 hq e2 g => by
      rw [hD]
      exact kk q H2 (fresh_back e hq) (e.trans e2) (by rw [hr]; exact g)
    have b1 : decide ((8 : Int) < (mg.length : Nat)) = decide (8 < mg.length) := decide_eq_decide.mpr (by omega)
    refine q_when (b := decide (8 < mg.length) || !Txt.startswith line mg) (et_or (et_is (et_test (ev_op (lenE rfl) ev_c rv_I0)) b1) fun _ => t0 rfl rfl) (fun hb H1 e1 => ?_) (fun hb H1 e1 => ?_)
    · refine ret0 rfl e1 ?_
      unfold rdHead
      rw [if_pos hb]
    have er : rdHead line mg = rdTail (cutS line (some ((mg.length : Nat) : Int)) none) := by
      unfold rdHead
      rw [if_neg (by rw [hb]; exact Bool.false_ne_true)]
    have cz := cutS_length line (some ((mg.length : Nat) : Int)) none
    refine (ev_slS (ev_var rfl) (eo_some (lenE rfl)) eo_none (by omega)) H1 (Ex.refl _) _ fun H2 e2 => ⟨⟨_, rfl⟩, _, blank, rfl, rfl, rfl, fits (by omega), fun p hp => ?_⟩
    generalize cutS line (some ((mg.length : Nat) : Int)) none = cl at cz er
    obtain ⟨fi, zs, es⟩ := split_ne cl
    have zls : ∀ z ∈ zs, z.length ≤ 900 := fun z hz => Nat.le_trans (PyProof.Rows.part_short (x := cl) (y := blank) (by rw [es]; exact List.mem_cons_of_mem _ hz)) (by omega)
    have zn := PyProof.Rows.split_le cl blank
    rw [es, List.length_cons] at zn
    rw [rdTail_eq es] at er
    rw [es]
    refine ⟨p, .str fi, zs.map V.str, rfl, sq_of upd_same, by rw [List.length_map]; omega, fun D hD => ⟨_, _, rfl, _, _, rfl, rfl, ?_⟩⟩
    have e3 := (e1.trans e2).trans ((Ex.new (o := .lst ((fi :: zs).map V.str)) hp).trans (Ex.new (o := .lst (zs.map V.str)) hD))
    have gD : upd (upd H2 p (.lst ((fi :: zs).map V.str))) D (.lst (zs.map V.str)) D = some (.lst (zs.map V.str)) := upd_same
    generalize upd (upd H2 p (.lst ((fi :: zs).map V.str))) D (.lst (zs.map V.str)) = H3 at e3 gD
    try dsimp only [gName, List.set]
    refine q_asg (v := .str (wordOfL fi)) (ev_call (ea_cons (ev_var rfl) ea_nil) fun H4 e4 R q _ => ⟨fi, rfl, fun H5 e5 => q H5 e5⟩) fun H4 e4 => ?_
    try dsimp only [gName, List.set]
    generalize wordOfL fi = wd at er
    cases hk : kof wd with
    | none =>
      rw [rdW_none hk] at er
      refine q_when (b := true) (et_is (et_test (ev_op (ev_var rfl) ev_c (rv_nkd (T.ek wd (kof_none hk))))) rfl) (fun _ H5 e5 => ?_) (fun h => nomatch h)
      exact ret0 rfl (e3.trans (e4.trans e5)) er
    | some ks =>
      rw [rdW_some hk] at er
      have hke := kof_mem hk
      have hnp := np_five _ hke
      simp only at hnp
      have k3 := ent3 _ hke
      simp only at k3
      have lf : (ks.filter np).length ≤ ks.length := List.length_filter_le ..
      obtain ⟨ak, hak, hat⟩ := hE _ hke
      refine q_when (b := false) (et_is (et_test (ev_op (ev_var rfl) ev_c (rv_nkd hak))) rfl) (fun h => nomatch h) (fun _ H5 e5 => ?_)
      refine q_asgL (xs := (ks.filter np).map V.str) ?_ fun Kd H6 hKd e6 gK => ?_
      · have z := el_lcT (K := K) (σ := [some (.str line), some (.str mg), some (.str fi), some (.ref D), some (.str wd), none, none, none]) (H := H5) (tl := tOp (rIxD K w) (tC (.ref (ga K "ENTRIES"))) (tVar 4)) (te := tVar 6) (t := tTest (tOp rNe (tVar 6) (tC (.str "part")))) (j := 6) (vs := [6]) (a := ak) (xs := ks.map V.str) (fun i => np (ks.getD i "")) (fun i => V.str (ks.getD i "")) (ev_op ev_c (ev_var rfl) fun H6 _ Q q => ⟨_, wd, .ref ak, rfl, rfl, ⟨esE, nE, _, DE.at_, DE.lit, hak, rfl⟩, q H6 (Ex.refl _)⟩) (fun H6 _ => hat H6) (by rw [List.length_map]; omega) (fun _ => rfl) ?_ ?_
        · rw [List.length_map] at z
          rw [given_filter np V.str "" ks ks.length (Nat.le_refl _), List.take_length] at z
          exact z
        · intro i x H6 e6 hx
          rw [List.getElem?_map] at hx
          cases hki : ks[i]? with
          | none =>
            rw [hki] at hx
            cases hx
          | some k =>
            rw [hki] at hx
            cases hx
            have ek : ks.getD i "" = k := by
              rw [List.getD_eq_getElem?_getD, hki]
              rfl
            rw [ek]
            exact et_test (ev_op (ev_var rfl) ev_c (rv_neSS))
        · intro i x H6 e6 hx _
          rw [List.getElem?_map] at hx
          cases hki : ks[i]? with
          | none =>
            rw [hki] at hx
            cases hx
          | some k =>
            rw [hki] at hx
            cases hx
            have ek : ks.getD i "" = k := by
              rw [List.getD_eq_getElem?_getD, hki]
              rfl
            rw [ek]
            exact ev_var rfl
      have e46 := (e4.trans e5).trans e6
      have gD6 := e46 _ _ gD
      have eLn : (!decide ((((zs.map V.str).length : Nat) : Int) = (((ks.filter np).map V.str).length : Nat))) = !decide (zs.length = (ks.filter np).length) := by
        rw [List.length_map, List.length_map]
        congr 1
        exact decide_eq_decide.mpr (by omega)
      try dsimp only [gName, List.set]
      refine q_when (b := !decide (zs.length = (ks.filter np).length) || !(List.zipWith readsB zs (ks.filter np)).all id) (et_or (et_is (et_test (ev_op (ev_len (K := K) (ev_var rfl) (sq_of gD6)) (ev_len (K := K) (ev_var rfl) (sq_of gK)) rv_neII)) eLn) fun hle => et_not (et_B fun H7 e7 Q q => ?_)) (fun hb2 H7 e7 => ?_) (fun hb2 H7 e7 => ?_)
      · have hle2 : zs.length = (ks.filter np).length := by
          rw [Bool.not_eq_false'] at hle
          exact of_decide_eq_true hle
        refine ⟨.ref D, rfl, .ref Kd, rfl, D, Kd, _, _, rfl, .inl ⟨sq_of (e7 _ _ gD6), sq_of (e7 _ _ gK), fun A hA => ?_⟩⟩
        refine lc_it (walk_zip (xs := zs.map V.str) (ys := (ks.filter np).map V.str) rfl) (fun i H' => Ex H7 H' ∧ H' A = some (.lst (((List.zipWith readsB zs (ks.filter np)).take i).map V.bl))) ⟨Ex.new hA, upd_same⟩ (fun i H' _ hI => ?_) (fun i x H8 H9 hi hI hy => ?_) (fun H8 hI => ?_)
        · exact ⟨sq_of (hI.1 _ _ (e7 _ _ gD6)), sq_of (hI.1 _ _ (e7 _ _ gK))⟩
        · obtain ⟨f2, f3⟩ := hI
          obtain ⟨tq, x1, y1, rfl, hT, rfl, p1, p2⟩ := hy
          replace p1 : (zs.map V.str)[i]? = some x1 := p1
          replace p2 : ((ks.filter np).map V.str)[i]? = some y1 := p2
          rw [List.getElem?_map] at p1 p2
          cases hz : zs[i]? with
          | none =>
            rw [hz] at p1
            cases p1
          | some z =>
            cases hki : (ks.filter np)[i]? with
            | none =>
              rw [hki] at p2
              cases p2
            | some k =>
              rw [hz] at p1
              rw [hki] at p2
              cases p1
              cases p2
              have hi3 := (List.getElem?_eq_some_iff.mp hz).1
              obtain ⟨km1, km2⟩ := List.mem_filter.mp (List.mem_of_getElem? hki)
              refine ⟨tq, [.str z, .str k], rfl, st_of upd_same, rfl, .str z, [.str k], rfl, .str k, [], rfl, rfl, rfl, yes_go ?_⟩
              refine ⟨.str z, rfl, .str k, rfl, z, k, rfl, Nat.le_trans (zls z (List.mem_of_getElem? hz)) (by decide), hnp k km1 km2, fun H10 e10 => ⟨_, e10 _ _ (Ex.new hT _ _ f3), small1000 ?_, ((f2.trans (Ex.new hT)).trans e10).mut hA, ?_⟩⟩
              · rw [List.length_map, List.length_take]
                omega
              · rw [upd_same, zw_take hz hki, List.map_append]
                rfl
        · obtain ⟨f2, f3⟩ := hI
          refine ⟨A, List.zipWith readsB zs (ks.filter np), rfl, sq_of ?_, q H8 f2⟩
          rw [f3, List.take_of_length_le (by rw [List.length_zipWith, List.length_map, List.length_map]; exact Nat.le_refl _)]
      · refine ret0 rfl ((e3.trans e46).trans e7) ?_
        rw [er, if_neg]
        rintro ⟨h1, h2⟩
        rw [decide_eq_true h1, h2] at hb2
        cases hb2
      · rw [Bool.or_eq_false_iff, Bool.not_eq_false', Bool.not_eq_false'] at hb2
        have er2 : rdHead line mg = some (wd, zs) := by rw [er, if_pos ⟨of_decide_eq_true hb2.1, hb2.2⟩]
        have gD7 := e7 _ _ gD6
        have e17 := (e3.trans e46).trans e7
        refine ⟨.str wd, rfl, .ref D, rfl, D, _, rfl, .inr (sq_of gD7), ?_, fun q hq => kk q _ (fresh_back e17 hq) (e17.trans (Ex.new hq)) (by
          rw [er2]
          show upd _ _ _ _ = _
          rw [upd_same, List.append_nil])⟩
        show (_ :: (zs.map V.str ++ [])).length ≤ sizeLine
        rw [List.append_nil, List.length_cons, List.length_map]
        have k1 := of_decide_eq_true hb2.1
        exact fits (by omega)

end
end K06
set_option Elab.async false
set_option linter.all false
set_option maxRecDepth 100000
set_option maxHeartbeats 8000000
namespace K06
open PySem PySem.Spec PyProof.Rows L2 He XH XV XR PEN TR Evl


/-! ### sizes of what is read -/
theorem rdW_is {w w' : Str} {rest ns : List Str} (h : rdW w rest = some (w', ns)) : w' = w ∧ ns = rest ∧ ∃ ks, (w, ks) ∈ ENT ∧ rest.length = (ks.filter np).length ∧ (List.zipWith readsB rest (ks.filter np)).all id = true := by
  cases hk : kof w with
  | none =>
    rw [rdW_none hk] at h
    cases h
  | some ks =>
    rw [rdW_some hk] at h
    split at h
    · rename_i hc
      cases h
      exact ⟨rfl, rfl, ks, kof_mem hk, hc.1, hc.2⟩
    · cases h
theorem rdHead_is {line mg w : Str} {ns : List Str} (h : rdHead line mg = some (w, ns)) : mg.length ≤ 8 ∧ Txt.startswith line mg = true ∧ ∃ first, Txt.split (cutS line (some ((mg.length : Nat) : Int)) none) blank = first :: ns ∧ w = wordOfL first ∧ ∃ ks, (w, ks) ∈ ENT ∧ ns.length = (ks.filter np).length ∧ (List.zipWith readsB ns (ks.filter np)).all id = true := by
  unfold rdHead at h
  split at h
  · cases h
  · rename_i hc
    have hc2 : (decide (8 < mg.length) || !Txt.startswith line mg) = false := by
      cases q : (decide (8 < mg.length) || !Txt.startswith line mg) with
      | true => exact absurd q hc
      | false => rfl
    rw [Bool.or_eq_false_iff, Bool.not_eq_false'] at hc2
    obtain ⟨fi, rest, es⟩ := split_ne (cutS line (some ((mg.length : Nat) : Int)) none)
    rw [rdTail_eq es] at h
    obtain ⟨e1, e2, ks, h1, h2, h3⟩ := rdW_is h
    subst e2
    subst e1
    exact ⟨by have := of_decide_eq_false hc2.1; omega, hc2.2, fi, es, rfl, ks, h1, h2, h3⟩
theorem head_short {line mg w : Str} {ns : List Str} (h : rdHead line mg = some (w, ns)) (hl : line.length ≤ 900) : w.length ≤ 12 ∧ ns.length ≤ 3 ∧ ∀ z ∈ ns, z.length ≤ 900 := by
  obtain ⟨_, _, fi, es, _, ks, hk, h2, _⟩ := rdHead_is h
  have wl := words_len _ hk
  have k3 := ent3 _ hk
  have lf : (ks.filter np).length ≤ ks.length := List.length_filter_le ..
  have cz := cutS_length line (some ((mg.length : Nat) : Int)) none
  simp only at wl k3
  exact ⟨wl, by omega, fun z hz => Nat.le_trans (PyProof.Rows.part_short (x := cutS line (some ((mg.length : Nat) : Int)) none) (y := blank) (by rw [es]; exact List.mem_cons_of_mem _ hz)) (by omega)⟩
theorem npar2 : ∀ p ∈ ENT, npar p.1 ≤ 2 := by decide +kernel
theorem starts_empty {e : Nat} (h : 1 ≤ e) : Txt.startswith "" (mgn e) = false := by
  have k := starts_gt (d := 0) (e := e) (x := "") (by omega) (fun c hc => by
    have e : TL.tl ("" : Str) = [] := by decide +kernel
    rw [e] at hc
    cases hc)
  exact k
theorem head_in {ls : List Str} {a e : Nat} {w : Str} {ns : List Str} (he : 1 ≤ e) (h : rdHead (ls.getD a "") (mgn e) = some (w, ns)) : a < ls.length := by
  rcases Nat.lt_or_ge a ls.length with q | q
  · exact q
  · rw [List.getD_eq_getElem?_getD, List.getElem?_eq_none q] at h
    have k := (rdHead_is h).2.1
    rw [show (none : Option Str).getD "" = "" from rfl, starts_empty he] at k
    cases k
theorem loop_ok {hd : Nat → Option (Str × List Str)} {prt : Str → Nat → Rd} {N m : Nat} (h1 : ∀ a w ns, hd a = some (w, ns) → a < N ∧ w.length ≤ 12 ∧ ns.length ≤ 3 ∧ ∀ z ∈ ns, z.length ≤ 900) (h2 : ∀ a w ns, hd a = some (w, ns) → ∀ a1 ps a2, prt w a1 = .ok (ps, a2) → a1 ≤ a2 ∧ ps.length ≤ 3 ∧ Tts m ps) :
    ∀ k a ss a2, rdLoop hd prt k a = .ok (ss, a2) → a ≤ a2 ∧ ss.length ≤ N - a ∧ Tts (m + 1) ss
  | 0, a, ss, a2, h => by
    cases h
    exact ⟨Nat.le_refl _, Nat.zero_le _, .nil⟩
  | k + 1, a, ss, a2, h => by
    unfold rdLoop at h
    cases q : hd a with
    | none =>
      rw [q] at h
      cases h
      exact ⟨Nat.le_refl _, Nat.zero_le _, .nil⟩
    | some wn =>
      obtain ⟨w, ns⟩ := wn
      rw [q] at h
      simp only at h
      cases q2 : prt w (a + 1) with
      | error l =>
        rw [q2] at h
        cases h
      | ok pa =>
        obtain ⟨ps, a1⟩ := pa
        rw [q2] at h
        simp only at h
        cases q3 : rdLoop hd prt k a1 with
        | error l =>
          rw [q3] at h
          cases h
        | ok sa =>
          obtain ⟨s2, a3⟩ := sa
          rw [q3] at h
          simp only at h
          cases h
          obtain ⟨b1, b2, b3, b4⟩ := h1 a w ns q
          obtain ⟨c1, c2, c3⟩ := h2 a w ns q _ _ _ q2
          obtain ⟨d1, d2, d3⟩ := loop_ok h1 h2 k a1 s2 a2 q3
          refine ⟨by omega, by rw [List.length_cons]; omega, .cons (.tup ?_ (.cons (.str (by omega)) (Tts.app (Tts.of fun d hd => ?_) c3))) d3⟩
          · rw [List.cons_append, List.length_cons, List.length_append, List.length_map]
            omega
          · obtain ⟨z, hz, rfl⟩ := List.mem_map.mp hd
            exact .str (Nat.le_trans (b4 z hz) (by decide))
theorem pp_ok {ls : List Str} {mg w : Str} {inner : Nat → Rd} {m : Nat} (h : ∀ a ss a2, inner a = .ok (ss, a2) → a ≤ a2 ∧ ss.length ≤ 100 ∧ Tts m ss) {a0 : Nat} : ∀ j ps a, rdPP ls mg w inner a0 j = .ok (ps, a) → a0 ≤ a ∧ ps.length = j ∧ Tts (m + 1) ps
  | 0, ps, a, q => by
    cases q
    exact ⟨Nat.le_refl _, rfl, .nil⟩
  | j + 1, ps, a, q => by
    unfold rdPP at q
    cases q1 : rdPP ls mg w inner a0 j with
    | error l =>
      rw [q1] at q
      cases q
    | ok pa =>
      obtain ⟨p0, a1⟩ := pa
      rw [q1] at q
      simp only at q
      split at q
      · cases q
      · cases q2 : inner (if j = 1 then a1 + 1 else a1) with
        | error l =>
          rw [q2] at q
          cases q
        | ok ba =>
          obtain ⟨b, a3⟩ := ba
          rw [q2] at q
          simp only at q
          cases q
          obtain ⟨c1, c2, c3⟩ := pp_ok h j p0 a1 q1
          obtain ⟨d1, d2, d3⟩ := h _ _ _ q2
          refine ⟨?_, by rw [List.length_append, c2]; rfl, c3.app (.cons (.tup d2 d3) .nil)⟩
          split at d1 <;> omega
theorem rd_ok {ls : List Str} (hsh : Short ls) (hl : ls.length ≤ 100) : ∀ n, n ≤ 4 → ∀ a ss a2, rdPart ls n a = .ok (ss, a2) → a ≤ a2 ∧ ss.length ≤ 100 ∧ Tts (2 * n) ss
  | 0, _, a, ss, a2, h => by
    cases h
    exact ⟨Nat.le_refl _, Nat.zero_le _, .nil⟩
  | n + 1, hn, a, ss, a2, h => by
    have ih := rd_ok hsh hl n (by omega)
    have h' : rdLoop (fun a => rdHead (ls.getD a "") (mgn (4 - n))) (fun w a1 => rdPP ls (mgn (4 - n)) w (rdPart ls n) a1 (npar w)) (ls.length + 1) a = .ok (ss, a2) := h
    obtain ⟨c1, c2, c3⟩ := loop_ok (N := ls.length) (m := 2 * n + 1) (fun a w ns q => ⟨head_in (by omega) q, head_short q (short_at hsh a)⟩) (fun a w ns q a1 ps a2 q2 => by
      obtain ⟨d1, d2, d3⟩ := pp_ok ih _ _ _ q2
      obtain ⟨_, _, _, _, _, ks, hk, _⟩ := rdHead_is q
      have k2 := npar2 _ hk
      simp only at k2
      exact ⟨d1, by omega, d3⟩) _ _ _ _ h'
    exact ⟨c1, by omega, c3⟩
def spPart3 (K : PySem.W.Frag) (n : Nat) : Sp := fun vs H Q E => ∃ (L : Addr) (ls : List Str) (i : Nat), vs = [.ref L, .int (i : Nat), .str (mgn (5 - n))] ∧ H L = some (.lst (ls.map V.str)) ∧ Short ls ∧ ls.length ≤ 100 ∧ n ≤ 4 ∧
  (∀ ss a, rdPart ls n i = .ok (ss, a) → ∀ t b H', Ex H H' → SqT K H' t [.ref b, .int (a : Nat)] → Dp K H' (.ref b) (.tuple ss) → Q (.ref t) H') ∧ (∀ l, rdPart ls n i = .error l → BadT K E l H)
def spParts3 (K : PySem.W.Frag) (n : Nat) : Sp := fun vs H Q E => ∃ (L : Addr) (ls : List Str) (i : Nat) (w : Str) (ks : List Str), vs = [.ref L, .int (i : Nat), .str (mgn (4 - n)), .str w] ∧ H L = some (.lst (ls.map V.str)) ∧ Short ls ∧ ls.length ≤ 100 ∧ n ≤ 3 ∧ (w, ks) ∈ ENT ∧
  (∀ ps a, rdPP ls (mgn (4 - n)) w (rdPart ls n) i (npar w) = .ok (ps, a) → ∀ t b H', Ex H H' → SqT K H' t [.ref b, .int (a : Nat)] → Dp K H' (.ref b) (.tuple ps) → Q (.ref t) H') ∧ (∀ l, rdPP ls (mgn (4 - n)) w (rdPart ls n) i (npar w) = .error l → BadT K E l H)

end K06
set_option Elab.async false
set_option linter.all false
set_option maxRecDepth 100000
set_option maxHeartbeats 8000000
namespace K06
open PySem PySem.Spec PyProof.Rows L2 He XH XV XR PEN TR Evl


section
variable {ls : List Str} {mg w : Str} {inner : Nat → Rd} {a0 : Nat}
theorem pp_step {j a a2 : Nat} {ps b : List PyData} (h : rdPP ls mg w inner a0 j = .ok (ps, a)) (hc : ¬ (j = 1 ∧ ls.getD a "" ≠ mg ++ secondW w)) (hi : inner (if j = 1 then a + 1 else a) = .ok (b, a2)) : rdPP ls mg w inner a0 (j + 1) = .ok (ps ++ [.tuple b], a2) := by
  unfold rdPP
  rw [h]
  simp only
  rw [if_neg hc, hi]
theorem pp_bad {j a : Nat} {ps : List PyData} (h : rdPP ls mg w inner a0 j = .ok (ps, a)) (hc : j = 1 ∧ ls.getD a "" ≠ mg ++ secondW w) : rdPP ls mg w inner a0 (j + 1) = .error (a + 1) := by
  unfold rdPP
  rw [h]
  simp only
  rw [if_pos hc]
theorem pp_err {j a l : Nat} {ps : List PyData} (h : rdPP ls mg w inner a0 j = .ok (ps, a)) (hc : ¬ (j = 1 ∧ ls.getD a "" ≠ mg ++ secondW w)) (hi : inner (if j = 1 then a + 1 else a) = .error l) : rdPP ls mg w inner a0 (j + 1) = .error l := by
  unfold rdPP
  rw [h]
  simp only
  rw [if_neg hc, hi]
theorem pp_stay {j l : Nat} (h : rdPP ls mg w inner a0 j = .error l) : ∀ i, rdPP ls mg w inner a0 (j + i) = .error l
  | 0 => h
  | i + 1 => by
    have k := pp_stay h i
    show rdPP ls mg w inner a0 ((j + i) + 1) = _
    unfold rdPP
    rw [k]
theorem pp_le {j m l : Nat} (h : rdPP ls mg w inner a0 j = .error l) (hm : j ≤ m) : rdPP ls mg w inner a0 m = .error l := by
  have k := pp_stay h (m - j)
  rw [show j + (m - j) = m by omega] at k
  exact k
end

section
variable {P : Program} {w : World} {K : PySem.W.Frag} {mg : Str → Option Value} {base : Heap}

theorem ok_read_parts {fd : FuncData} {n k : Nat} (hk1 : 2 ≤ k) (F : FnP K "read_parts" "read_parts" s_read_parts (ga K "read_parts") fd) (T : Td K w mg) (c_line_at : Cl P w K mg base CX0 1 (ga K "line_at") ["lines", "at"] (spLine K)) (c_read_part : Cl P w K mg base (L2.CX P w) k (ga K "read_part") ["lines", "at", "margin"] (spPart3 K n)) (c_BadText_init : Cl P w K mg base CX0 1 (ma K (ga K "BadText") "__init__") ["self", "line"] (spI1 K (ga K "BadText") "line")) : FnOk P w K mg base (L2.CX P w) (k + 1) (ga K "read_parts") fd ["lines", "at", "margin", "word"] (spParts3 K n) := by
  obtain ⟨fd_line_at, G_line_at, b_line_at, kp_line_at⟩ := c_line_at
  obtain ⟨fd_read_part, G_read_part, b_read_part, kp_read_part⟩ := c_read_part
  obtain ⟨fd_BadText_init, G_BadText_init, b_BadText_init, kp_BadText_init⟩ := c_BadText_init
  refine FunD.ok F sc_read_parts (fun vs H Q E h => ?_) (fun cdv A outer s H vs Q E hr h => ?_)
  · obtain ⟨l, ls, i, wd, ks, rfl, _⟩ := h
    rfl
  · obtain ⟨l, ls, i, wd, ks, rfl, hl, hsh, hlen, hn, hk, kk, kb⟩ := h
    have n_range := T.fr "range" (by decide +kernel)
    have g_ENTRIES := T.gl "ENTRIES" (by decide +kernel)
    have g_line_at := T.gl "line_at" (by decide +kernel)
    have g_SECOND_WORDS := T.gl "SECOND_WORDS" (by decide +kernel)
    have g_BadText := T.gl "BadText" (by decide +kernel)
    have g_read_part := T.gl "read_part" (by decide +kernel)
    obtain ⟨tk_STEP, g_STEP⟩ := T.c_STEP
    have n_tuple := T.fr "tuple" (by decide +kernel)
    obtain ⟨esE, nE, DE, hE⟩ := T.en
    refine ⟨_, (pss_cons (ps_set (i := 4) sc_read_parts.nd rfl (Or.inl rfl) (pe_lst pa_nil))
      (pss_cons (ps_for (passes_of rfl) rfl (pi_range1 (by rfl) n_range (pa_cons (pe_bm PySem.F.plainAttrs_tuple PySem.F.slot_tuple_count PySem.F.type_tuple_count (SU.mt_tcount hr.units) (pe_ix ix_kdict (pe_glob (v := .ref _) (by rfl) g_ENTRIES rfl) (pv 3) (fun _ _ => rfl)) (pa_cons pe_str pa_nil)) pa_nil)) (pg_name (i := 5) sc_read_parts.nd rfl (Or.inl rfl))
      (pss_cut (ps_if (pt_cmpR op_eq (pv 5) pe_int (nomark _))
      (pss_cons (ps_if (pt_cmpR op_ne (pe_call G_line_at (hr.mono (by omega)) (by rfl) g_line_at kp_line_at b_line_at .nil pass0 (pa_cons (pv 0) (pa_cons (pv 1) pa_nil))) (pe_op op_add_str (pv 2) (pe_ix ix_kdict (pe_glob (v := .ref _) (by rfl) g_SECOND_WORDS rfl) (pv 3) (fun _ _ => rfl))) (nomark _))
      (pss_one (ps_raise rfl (takes_of rfl rfl rfl rfl) (pmk_oex T.bt.ox T.bt.iC T.bt.tI G_BadText_init (hr.mono (by omega)) b_BadText_init .nil pass0 (by rfl) g_BadText (pa_cons (pe_op op_add (pv 1) pe_int) pa_nil))))
      pss_nil)
      (pss_one (ps_aug (i := 1) sc_read_parts.nd rfl (Or.inl rfl) pe_int ip_add)))
      pss_nil)
      (pss_cons (ps_asg (pe_call G_read_part (hr.mono (by omega)) (by rfl) g_read_part kp_read_part b_read_part .nil (passes_call (takes_of rfl rfl rfl rfl) (fun _ _ _ _ h => h)) (pa_cons (pv 0) (pa_cons (pv 1) (pa_cons (pe_op op_add_str (pv 2) (pe_glob (v := .str _) (by rfl) g_STEP ⟨_, rfl⟩)) pa_nil)))) (pg_tup rfl (pgs_cons (pg_name (i := 6) sc_read_parts.nd rfl (Or.inl rfl)) (pgs_cons (pg_name (i := 1) sc_read_parts.nd rfl (Or.inl rfl)) pgs_nil))))
      (pss_one (ps_expr (pe_bm PySem.F.plainAttrs_list PySem.F.slot_list_append PySem.F.type_list_append mt_append (pv 4) (pa_cons (pv 6) pa_nil)))))))
      (pss_one (ps_ret (pe_tup (pa_cons (pe_callTy call_tuple_of (by rfl) n_tuple (by decide +kernel) (pa_cons (pv 4) pa_nil)) (pa_cons (pv 1) pa_nil))))))), ?_⟩
    obtain ⟨ak, hak, hat, ok_, ho1, ho2, ho3⟩ := T.ed _ hk
    have hpc : (ks.countP fun y => decide (y = ("part" : Str))) = npar wd := by
      unfold npar
      rw [kof_ent _ hk]
    have hp2 := npar2 _ hk
    simp only at hp2
    have ml := mgn_len (4 - n)
    have sl : step.length = 2 := by decide +kernel
    have rdk := rd_ok hsh hlen n (by omega)
    refine q_asgL (el_lst ea_nil (by decide)) fun D H1 hD e1 g1 => ?_
    try dsimp only [gName, List.set]
    refine q_forR1 (n := (npar wd : Nat)) (ea_cons (fun H2 e2 Q q => ⟨.str wd, rfl, _, wd, .ref ak, rfl, rfl, ⟨esE, nE, _, DE.at_, DE.lit, hak, rfl⟩, .inr (.inl ⟨rfl, ok_, ho1, ho2, ho3⟩), ak, ks, "part", rfl, rfl, hat _, by rw [hpc]; exact q H2 (Ex.refl _)⟩) ea_nil) ⟨by omega, by omega⟩
      (fun j σ' H' => ∃ (v5 v6 : Option V) (vs : List V) (ps : List PyData) (a : Nat), rdPP ls (mgn (4 - n)) wd (rdPart ls n) i j = .ok (ps, a) ∧ σ' = [some (.ref l), some (.int (a : Nat)), some (.str (mgn (4 - n))), some (.str wd), some (.ref D), v5, v6] ∧ H' D = some (.lst vs) ∧ DpAll K H' vs ps ∧ Ex H H')
      (fun H2 e2 => ⟨_, _, [], [], i, rfl, rfl, e2 _ _ g1, .nil, e1.trans e2⟩) (fun j σ' H2 hj hI => ?_) (fun σ' H2 hI => ?_)
    · obtain ⟨v5, v6, vs, ps, a, hR, rfl, gD, dvs, e2⟩ := hI
      have hj2 : j < npar wd := by omega
      obtain ⟨_, lps, tps⟩ := pp_ok rdk _ _ _ hR
      have lvs := dpAll_len dvs
      try dsimp only [gName, List.set]
      refine q_cut (M := fun σ' H' => σ' = [some (.ref l), some (.int ((if j = 1 then a + 1 else a : Nat) : Int)), some (.str (mgn (4 - n))), some (.str wd), some (.ref D), some (.int (j : Nat)), v6] ∧ Ex H2 H' ∧ ¬ (j = 1 ∧ ls.getD a "" ≠ mgn (4 - n) ++ secondW wd)) ?_ fun σ3 H3 hM => ?_
      · refine s_when (b := decide ((j : Int) = 1)) (et_test (ev_op (ev_var rfl) ev_c rv_eqI)) (fun hb H3 e3 => ?_) (fun hb H3 e3 => ?_)
        · have j1 : j = 1 := by have := of_decide_eq_true hb; omega
          obtain ⟨hsec, lsec⟩ := sec_word T.toTx (z := wd) (by
            have k : ∀ p ∈ ENT, 2 ≤ npar p.1 → p.1 ∈ secs := by decide +kernel
            exact k _ hk (by show 2 ≤ npar wd; omega))
          refine q_when (b := !decide (ls.getD a "" = mgn (4 - n) ++ secondW wd)) (et_test (ev_op (ev_call (z := .str (ls.getD a "")) (ea_cons (ev_var rfl) (ea_cons (ev_var rfl) ea_nil)) fun H4 e4 R q _ => ⟨l, ls, a, rfl, (e2.trans (e3.trans e4)) _ _ hl, fun H5 e5 => q H5 e5⟩) (y := .str (mgn (4 - n) ++ secondW wd)) (fun H4 e4 Q q => ⟨.str (mgn (4 - n)), rfl, .str wd, rfl, _, wd, .str (secondW wd), rfl, rfl, hsec, mgn (4 - n), _, rfl, rfl, fits (by omega), q H4 (Ex.refl _)⟩) rv_neSS)) (fun hb2 H4 e4 => ?_) (fun hb2 H4 e4 => ?_)
          · rw [Bool.not_eq_true'] at hb2
            have hne := of_decide_eq_false hb2
            refine bt_made T.bt.ox (T.bt.no "line" (by decide)) (ea_cons (ev_op (ev_var rfl) ev_c rv_I0) ea_nil) fun d H5 e5 hd => kb (a + 1) (pp_le (pp_bad hR ⟨j1, hne⟩) hj2) d H5 (((e2.trans e3).trans e4).trans e5) hd
          · rw [Bool.not_eq_false'] at hb2
            have heq := of_decide_eq_true hb2
            refine s_aug (f := fun a b => a + b) rfl ev_c fun H5 e5 => ⟨?_, (e3.trans e4).trans e5, fun h => h.2 heq⟩
            rw [if_pos j1]
            rfl
        · have j1 : ¬ j = 1 := fun h => by have := of_decide_eq_false hb; omega
          refine ⟨?_, e3, fun h => j1 h.1⟩
          rw [if_neg j1]
      obtain ⟨rfl, e3, hnb⟩ := hM
      have e23 := e2.trans e3
      generalize hB : (if j = 1 then a + 1 else a) = B
      refine ⟨.ref l, rfl, .int (B : Nat), rfl, .str (mgn (4 - n)), rfl, mgn (4 - n), step, rfl, rfl, fits (by omega), l, ls, B, (by rw [show 5 - n = (4 - n) + 1 by omega]; rfl), e23 _ _ hl, hsh, hlen, by omega, fun ss a2 hr2 t b H4 e4 ht db => ?_, fun l2 hr2 => BadT.mono e23 (kb l2 (pp_le (pp_err hR hnb (by rw [hB]; exact hr2)) hj2))⟩
      have hR2 := pp_step hR hnb (by rw [hB]; exact hr2)
      obtain ⟨_, _, tps2⟩ := pp_ok rdk _ _ _ hR2
      refine ⟨t, [.ref b, .int (a2 : Nat)], rfl, ht, rfl, .ref b, [.int (a2 : Nat)], rfl, .int (a2 : Nat), [], rfl, rfl, ?_⟩
      try dsimp only [gName, List.set]
      have gD4 := e4 _ _ (e3 _ _ gD)
      have dv4 := dpMs (e3.trans e4) _ _ dvs
      refine ⟨.ref D, rfl, .inl ⟨rfl, _, sq_of gD4⟩, .ref b, rfl, D, vs, .ref b, rfl, rfl, gD4, small1000 (by omega), some (.int (j : Nat)), some (.ref b), vs ++ [.ref b], ps ++ [.tuple ss], a2, hR2, rfl, upd_same, dpAll_add (dps_off gD4 tps dv4) (dp_off gD4 (tps2.at _ (List.mem_append_right _ (List.mem_singleton.mpr rfl))) db), (e23.trans e4).mut hD⟩
    · obtain ⟨v5, v6, vs, ps, a, hR, rfl, gD, dvs, e2⟩ := hI
      rw [Int.toNat_natCast] at hR
      refine ⟨.ref D, rfl, D, vs, rfl, .inl ⟨sq_of gD, fun u hu => ⟨.int _, rfl, (show 2 ≤ sizeLine by decide), fun t ht => kk ps a hR t u _ (e2.trans ((Ex.new hu).trans (Ex.new ht))) (st_of upd_same) (dpM (Ex.new ht) _ _ (.tup (st_of upd_same) (dpMs (Ex.new hu) _ _ dvs)))⟩⟩⟩

end
end K06
set_option Elab.async false
set_option linter.all false
set_option maxRecDepth 100000
set_option maxHeartbeats 8000000
namespace K06
open PySem PySem.Spec PyProof.Rows L2 He XH XV XR PEN TR Evl


def addPre (pre : List PyData) : Rd → Rd
  | .error l => .error l
  | .ok (ss, a) => .ok (pre ++ ss, a)
theorem addPre_nil : ∀ r : Rd, addPre [] r = r
  | .error _ => rfl
  | .ok (_, _) => rfl
theorem addPre_app (p q : List PyData) : ∀ r : Rd, addPre p (addPre q r) = addPre (p ++ q) r
  | .error _ => rfl
  | .ok (ss, a) => by
    show Except.ok (p ++ (q ++ ss), a) = Except.ok (p ++ q ++ ss, a)
    rw [List.append_assoc]
section
variable {hd : Nat → Option (Str × List Str)} {prt : Str → Nat → Rd} {a a1 k : Nat} {w : Str} {ns : List Str} {ps : List PyData}
theorem loop_none (h : hd a = none) : rdLoop hd prt k a = .ok ([], a) := by
  cases k with
  | zero => rfl
  | succ k =>
    unfold rdLoop
    rw [h]
theorem loop_err {l : Nat} (h : hd a = some (w, ns)) (h2 : prt w (a + 1) = .error l) : rdLoop hd prt (k + 1) a = .error l := by
  unfold rdLoop
  rw [h]
  simp only
  rw [h2]
theorem loop_more (h : hd a = some (w, ns)) (h2 : prt w (a + 1) = .ok (ps, a1)) : rdLoop hd prt (k + 1) a = addPre [.tuple (.str w :: ns.map PyData.str ++ ps)] (rdLoop hd prt k a1) := by
  rw [show rdLoop hd prt (k + 1) a = (match hd a with
    | none => Except.ok ([], a)
    | some (w, ns) => match prt w (a + 1) with
      | .error l => .error l
      | .ok (ps, a1) => match rdLoop hd prt k a1 with
        | .error l => .error l
        | .ok (ss, a2) => .ok (PyData.tuple (.str w :: ns.map PyData.str ++ ps) :: ss, a2)) from rfl, h]
  simp only
  rw [h2]
  simp only
  cases rdLoop hd prt k a1 with
  | error l => rfl
  | ok sa => rfl
end

theorem dp_strsA {K : PySem.W.Frag} {H : Hp} : ∀ zs : List Str, DpAll K H (zs.map V.str) (zs.map PyData.str)
  | [] => .nil
  | z :: r => .cons (.str z) (dp_strsA r)
section
variable {P : Program} {w : World} {K : PySem.W.Frag} {mg : Str → Option Value} {base : Heap}

theorem ok_read_part0 {fd : FuncData} (F : FnP K "read_part" "read_part" s_read_part (ga K "read_part") fd) (T : Td K w mg) (c_line_at : Cl P w K mg base CX0 1 (ga K "line_at") ["lines", "at"] (spLine K)) (c_read_head : Cl P w K mg base CX0 3 (ga K "read_head") ["line", "margin"] (spHd K)) : FnOk P w K mg base (L2.CX P w) (3 + 1) (ga K "read_part") fd ["lines", "at", "margin"] (spPart3 K 0) := by
  obtain ⟨fd_line_at, G_line_at, b_line_at, kp_line_at⟩ := c_line_at
  obtain ⟨fd_read_head, G_read_head, b_read_head, kp_read_head⟩ := c_read_head
  refine FunD.ok F sc_read_part (fun vs H Q E h => ?_) (fun cdv A outer s H vs Q E hr h => ?_)
  · obtain ⟨l, ls, i, rfl, _⟩ := h
    rfl
  · obtain ⟨l, ls, i, rfl, hl, hsh, hlen, hn, kk, kb⟩ := h
    have g_read_head := T.gl "read_head" (by decide +kernel)
    have g_line_at := T.gl "line_at" (by decide +kernel)
    have n_tuple := T.fr "tuple" (by decide +kernel)
    refine ⟨_, (pss_cons (ps_set (i := 3) sc_read_part.nd rfl (Or.inl rfl) (pe_lst pa_nil))
      (pss_cons (ps_set (i := 4) sc_read_part.nd rfl (Or.inl rfl) (pe_call G_read_head (hr.mono (by decide)) (by rfl) g_read_head kp_read_head b_read_head .nil pass0 (pa_cons (pe_call G_line_at (hr.mono (by decide)) (by rfl) g_line_at kp_line_at b_line_at .nil pass0 (pa_cons (pv 0) (pa_cons (pv 1) pa_nil))) (pa_cons (pv 2) pa_nil))))
      (pss_cons (ps_while (passes_of rfl) (pt_truth (pv 4) (fun _ => rfl))
      (pss_cons ps_never (pss_cons ps_never (pss_one ps_never))))
      (pss_one (ps_ret (pe_tup (pa_cons (pe_callTy call_tuple_of (by rfl) n_tuple (by decide +kernel) (pa_cons (pv 3) pa_nil)) (pa_cons (pv 1) pa_nil)))))))), ?_⟩
    have ml := mgn_len (5 - 0)
    have hdE : ∀ {σ : L2.St} {H1 : Hp} {Q' : VK} {a : Nat} {E1 E2 : XK}, Ex H H1 → σ[0]? = some (some (.ref l)) → σ[1]? = some (some (.int (a : Nat))) → σ[2]? = some (some (.str (mgn (5 - 0)))) → (∀ q H2, H1 q = none → Ex H1 H2 → HeadV K H2 q (rdHead (ls.getD a "") (mgn (5 - 0))) → Q' (.ref q) H2) → tCall (spHd K) [] E1 (tCons (tCall (spLine K) [] E2 (tCons (tVar 0) (tCons (tVar 1) tNil))) (tCons (tVar 2) tNil)) σ H1 Q' := by
      intro σ H1 Q' a E1 E2 ex s0 s1 s2 kq
      exact ⟨.ref l, s0, .int (a : Nat), s1, l, ls, a, rfl, ex _ _ hl, fun H2 e2 => ⟨.str (mgn (5 - 0)), s2, ls.getD a "", mgn (5 - 0), rfl, short_at hsh a, by omega, fun q H3 hq e3 g => kq q H3 (fresh_back e2 hq) (e2.trans e3) g⟩⟩
    have hnone : rdHead (ls.getD i "") (mgn (5 - 0)) = none := by
      unfold rdHead
      rw [if_pos]
      rw [ml]
      rfl
    refine q_asgL (el_lst ea_nil (by decide)) fun D H1 hD e1 g1 => ?_
    try dsimp only [gName, List.set]
    refine hdE (σ := [some (.ref l), some (.int (i : Nat)), some (.str (mgn (5 - 0))), some (.ref D), none, none]) (a := i) e1 rfl rfl rfl fun q H2 hq e2 hok => ?_
    rw [hnone] at hok
    have hok2 : H2 q = some (.tup []) := hok
    try dsimp only [gName, List.set]
    refine q_while (fun m' σ' H' => σ' = [some (.ref l), some (.int (i : Nat)), some (.str (mgn (5 - 0))), some (.ref D), some (.ref q), none] ∧ Ex H2 H') 0 ⟨rfl, Ex.refl _⟩ (fun m' σ' H' hW => ?_)
    obtain ⟨rfl, e3⟩ := hW
    refine ⟨false, fun H4 e4 Q' k => ⟨.ref q, rfl, false, .inr (.inl ⟨[], st_of (e4 _ _ (e3 _ _ hok2)), rfl⟩), k H4 (Ex.refl _)⟩, (fun h => nomatch h), fun _ H4 e4 => ?_⟩
    have gD := e4 _ _ (e3 _ _ (e2 _ _ g1))
    have ex := (e1.trans e2).trans (e3.trans e4)
    exact ⟨.ref D, rfl, D, [], rfl, .inl ⟨sq_of gD, fun u hu => ⟨.int _, rfl, (show 2 ≤ sizeLine by decide), fun t ht => kk [] i rfl t u _ (ex.trans ((Ex.new hu).trans (Ex.new ht))) (st_of upd_same) (dpM (Ex.new ht) _ _ (.tup (st_of upd_same) .nil))⟩⟩⟩

theorem ok_read_partS {fd : FuncData} {n k : Nat} (hk3 : 3 ≤ k) (F : FnP K "read_part" "read_part" s_read_part (ga K "read_part") fd) (T : Td K w mg) (c_line_at : Cl P w K mg base CX0 1 (ga K "line_at") ["lines", "at"] (spLine K)) (c_read_head : Cl P w K mg base CX0 3 (ga K "read_head") ["line", "margin"] (spHd K)) (c_read_parts : Cl P w K mg base (L2.CX P w) k (ga K "read_parts") ["lines", "at", "margin", "word"] (spParts3 K n)) : FnOk P w K mg base (L2.CX P w) (k + 1) (ga K "read_part") fd ["lines", "at", "margin"] (spPart3 K (n + 1)) := by
  obtain ⟨fd_line_at, G_line_at, b_line_at, kp_line_at⟩ := c_line_at
  obtain ⟨fd_read_head, G_read_head, b_read_head, kp_read_head⟩ := c_read_head
  obtain ⟨fd_read_parts, G_read_parts, b_read_parts, kp_read_parts⟩ := c_read_parts
  refine FunD.ok F sc_read_part (fun vs H Q E h => ?_) (fun cdv A outer s H vs Q E hr h => ?_)
  · obtain ⟨l, ls, i, rfl, _⟩ := h
    rfl
  · obtain ⟨l, ls, i, rfl, hl, hsh, hlen, hn, kk, kb⟩ := h
    have g_read_head := T.gl "read_head" (by decide +kernel)
    have g_line_at := T.gl "line_at" (by decide +kernel)
    have g_read_parts := T.gl "read_parts" (by decide +kernel)
    have n_tuple := T.fr "tuple" (by decide +kernel)
    refine ⟨_, (pss_cons (ps_set (i := 3) sc_read_part.nd rfl (Or.inl rfl) (pe_lst pa_nil))
      (pss_cons (ps_set (i := 4) sc_read_part.nd rfl (Or.inl rfl) (pe_call G_read_head (hr.mono (by omega)) (by rfl) g_read_head kp_read_head b_read_head .nil pass0 (pa_cons (pe_call G_line_at (hr.mono (by omega)) (by rfl) g_line_at kp_line_at b_line_at .nil pass0 (pa_cons (pv 0) (pa_cons (pv 1) pa_nil))) (pa_cons (pv 2) pa_nil))))
      (pss_cons (ps_while (passes_of rfl) (pt_truth (pv 4) (fun _ => rfl))
      (pss_cons (ps_asg (pe_call G_read_parts (hr.mono (by omega)) (by rfl) g_read_parts kp_read_parts b_read_parts .nil (passes_call (takes_of rfl rfl rfl rfl) (fun _ _ _ _ h => h)) (pa_cons (pv 0) (pa_cons (pe_op op_add (pv 1) pe_int) (pa_cons (pv 2) (pa_cons (pe_ix ix_tup (pv 4) pe_int (fun _ _ => rfl)) pa_nil))))) (pg_tup rfl (pgs_cons (pg_name (i := 5) sc_read_part.nd rfl (Or.inl rfl)) (pgs_cons (pg_name (i := 1) sc_read_part.nd rfl (Or.inl rfl)) pgs_nil))))
      (pss_cons (ps_expr (pe_bm PySem.F.plainAttrs_list PySem.F.slot_list_append PySem.F.type_list_append mt_append (pv 3) (pa_cons (pe_op PZ.op_cat2 (pv 4) (pv 5)) pa_nil)))
      (pss_one (ps_set (i := 4) sc_read_part.nd rfl (Or.inl rfl) (pe_call G_read_head (hr.mono (by omega)) (by rfl) g_read_head kp_read_head b_read_head .nil pass0 (pa_cons (pe_call G_line_at (hr.mono (by omega)) (by rfl) g_line_at kp_line_at b_line_at .nil pass0 (pa_cons (pv 0) (pa_cons (pv 1) pa_nil))) (pa_cons (pv 2) pa_nil))))))))
      (pss_one (ps_ret (pe_tup (pa_cons (pe_callTy call_tuple_of (by rfl) n_tuple (by decide +kernel) (pa_cons (pv 3) pa_nil)) (pa_cons (pv 1) pa_nil)))))))), ?_⟩
    have en : 5 - (n + 1) = 4 - n := by omega
    have ml := mgn_len (5 - (n + 1))
    have hdE : ∀ {σ : L2.St} {H1 : Hp} {Q' : VK} {a : Nat} {E1 E2 : XK}, Ex H H1 → σ[0]? = some (some (.ref l)) → σ[1]? = some (some (.int (a : Nat))) → σ[2]? = some (some (.str (mgn (5 - (n + 1))))) → (∀ q H2, H1 q = none → Ex H1 H2 → HeadV K H2 q (rdHead (ls.getD a "") (mgn (5 - (n + 1)))) → Q' (.ref q) H2) → tCall (spHd K) [] E1 (tCons (tCall (spLine K) [] E2 (tCons (tVar 0) (tCons (tVar 1) tNil))) (tCons (tVar 2) tNil)) σ H1 Q' := by
      intro σ H1 Q' a E1 E2 ex s0 s1 s2 kq
      exact ⟨.ref l, s0, .int (a : Nat), s1, l, ls, a, rfl, ex _ _ hl, fun H2 e2 => ⟨.str (mgn (5 - (n + 1))), s2, ls.getD a "", mgn (5 - (n + 1)), rfl, short_at hsh a, by omega, fun q H3 hq e3 g => kq q H3 (fresh_back e2 hq) (e2.trans e3) g⟩⟩
    rw [en] at hdE
    have hR0 : rdPart ls (n + 1) i = rdLoop (fun a => rdHead (ls.getD a "") (mgn (4 - n))) (fun w a1 => rdPP ls (mgn (4 - n)) w (rdPart ls n) a1 (npar w)) (ls.length + 1) i := rfl
    have rdk := rd_ok hsh hlen n (by omega)
    rw [en]
    generalize hHD : (fun a => rdHead (ls.getD a "") (mgn (4 - n))) = HD at hR0
    generalize hPRT : (fun w a1 => rdPP ls (mgn (4 - n)) w (rdPart ls n) a1 (npar w)) = PRT at hR0
    have hHD2 : ∀ a, HD a = rdHead (ls.getD a "") (mgn (4 - n)) := fun a => by rw [← hHD]
    have hPRT2 : ∀ w a1, PRT w a1 = rdPP ls (mgn (4 - n)) w (rdPart ls n) a1 (npar w) := fun w a1 => by rw [← hPRT]
    refine q_asgL (el_lst ea_nil (by decide)) fun D H1 hD e1 g1 => ?_
    try dsimp only [gName, List.set]
    refine hdE (σ := [some (.ref l), some (.int (i : Nat)), some (.str (mgn (4 - n))), some (.ref D), none, none]) (a := i) e1 rfl rfl rfl fun q H2 hq e2 hok => ?_
    try dsimp only [gName, List.set]
    have hD0 : H D = none := hD
    refine q_while (fun m' σ' H' => ∃ (k a : Nat) (pre : List PyData) (vs : List V) (hd : Addr) (v5 : Option V), k + pre.length = ls.length + 1 ∧ ls.length < k + a ∧ rdPart ls (n + 1) i = addPre pre (rdLoop HD PRT k a) ∧ m' = k ∧ σ' = [some (.ref l), some (.int (a : Nat)), some (.str (mgn (4 - n))), some (.ref D), some (.ref hd), v5] ∧ H' D = some (.lst vs) ∧ DpAll K H' vs pre ∧ Tts (2 * n + 2) pre ∧ Ex H H' ∧ HeadV K H' hd (rdHead (ls.getD a "") (mgn (4 - n)))) (ls.length + 1)
      ⟨ls.length + 1, i, [], [], q, none, rfl, by omega, by rw [addPre_nil]; exact hR0, rfl, rfl, e2 _ _ g1, .nil, .nil, e1.trans e2, hok⟩ (fun m' σ' H' hW => ?_)
    obtain ⟨k0, a, pre, vs, hd, v5, hk1, hk2, hR, rfl, rfl, gD, dvs, tpre, eH, hok2⟩ := hW
    have lvs := dpAll_len dvs
    cases hh : rdHead (ls.getD a "") (mgn (4 - n)) with
    | none =>
      rw [hh] at hok2
      have hok3 : H' hd = some (.tup []) := hok2
      refine ⟨false, fun H4 e4 Q' k => ⟨.ref hd, rfl, false, .inr (.inl ⟨[], st_of (e4 _ _ hok3), rfl⟩), k H4 (Ex.refl _)⟩, (fun h => nomatch h), fun _ H4 e4 => ?_⟩
      have hR2 : rdPart ls (n + 1) i = .ok (pre, a) := by
        rw [hR, loop_none (by rw [hHD2]; exact hh)]
        show Except.ok (pre ++ [], a) = _
        rw [List.append_nil]
      refine ⟨.ref D, rfl, D, vs, rfl, .inl ⟨sq_of (e4 _ _ gD), fun u hu => ⟨.int _, rfl, (show 2 ≤ sizeLine by decide), fun t ht => kk pre a hR2 t u _ ((eH.trans e4).trans ((Ex.new hu).trans (Ex.new ht))) (st_of upd_same) (dpM (Ex.new ht) _ _ (.tup (st_of upd_same) (dpMs (e4.trans (Ex.new hu)) _ _ dvs)))⟩⟩⟩
    | some wn =>
      obtain ⟨w, ns⟩ := wn
      rw [hh] at hok2
      have hok3 : H' hd = some (.tup (.str w :: ns.map V.str)) := hok2
      have hin := head_in (by omega) hh
      obtain ⟨s1, s2, s3⟩ := head_short hh (short_at hsh a)
      obtain ⟨_, _, _, _, _, ks, hke, _⟩ := rdHead_is hh
      obtain ⟨k1, rfl⟩ : ∃ k1, m' = k1 + 1 := ⟨m' - 1, by omega⟩
      have np2 := npar2 _ hke
      simp only at np2
      refine ⟨true, fun H4 e4 Q' k => ⟨.ref hd, rfl, true, .inr (.inl ⟨_, st_of (e4 _ _ hok3), rfl⟩), k H4 (Ex.refl _)⟩, fun _ H3 e3 => ?_, (fun h => nomatch h)⟩
      refine ⟨fun σ' H' => ∃ (a : Nat) (pre : List PyData) (vs : List V) (hd : Addr) (v5 : Option V), k1 + pre.length = ls.length + 1 ∧ ls.length < k1 + a ∧ rdPart ls (n + 1) i = addPre pre (rdLoop HD PRT k1 a) ∧ σ' = [some (.ref l), some (.int (a : Nat)), some (.str (mgn (4 - n))), some (.ref D), some (.ref hd), v5] ∧ H' D = some (.lst vs) ∧ DpAll K H' vs pre ∧ Tts (2 * n + 2) pre ∧ Ex H H' ∧ HeadV K H' hd (rdHead (ls.getD a "") (mgn (4 - n))), fun σ' H' h => ?_, ?_⟩
      · obtain ⟨a, pre, vs, hd, v5, h1, h2, h3, h4⟩ := h
        exact ⟨k1, Nat.lt_succ_self _, k1, a, pre, vs, hd, v5, h1, h2, h3, rfl, h4⟩
      try dsimp only [gName, List.set]
      have eH3 := eH.trans e3
      have hh3 := e3 _ _ hok3
      refine ⟨.ref l, rfl, .int (a : Nat), rfl, (a : Nat), 1, rfl, rfl, .str (mgn (4 - n)), rfl, .ref hd, rfl, hd, _, 0, .str w, rfl, rfl, st_of hh3, atI_nat (j := 0) rfl, l, ls, a + 1, w, ks, rfl, eH3 _ _ hl, hsh, hlen, by omega, hke, fun ps a1 hr2 t b H4 e4 ht db => ?_, fun l2 hr2 => BadT.mono eH3 (kb l2 (by rw [hR, loop_err (by rw [hHD2]; exact hh) (by rw [hPRT2]; exact hr2)]; rfl))⟩
      obtain ⟨c1, c2, c3⟩ := pp_ok rdk _ _ _ hr2
      refine ⟨t, [.ref b, .int (a1 : Nat)], rfl, ht, rfl, .ref b, [.int (a1 : Nat)], rfl, .int (a1 : Nat), [], rfl, rfl, ?_⟩
      try dsimp only [gName, List.set]
      have gD4 := e4 _ _ (e3 _ _ gD)
      refine ⟨.ref D, rfl, .inl ⟨rfl, _, sq_of gD4⟩, ?_⟩
      refine (PZ.ed_cat (PZ.ed_of (ev_var rfl) (.tup (st_of (e4 _ _ hh3)) (.cons (.str _) (dp_strsA ns)))) (PZ.ed_of (ev_var rfl) db) (by rw [List.length_cons, List.length_map]; omega)) H4 (Ex.refl _) _ fun v H5 e5 dv => ?_
      have gD5 := e5 _ _ gD4
      have tst : Tt (2 * n + 2) (.tuple (.str w :: ns.map PyData.str ++ ps)) := by
        refine .tup ?_ (.cons (.str (by omega)) (Tts.app (Tts.of fun d hd => ?_) c3))
        · rw [List.cons_append, List.length_cons, List.length_append, List.length_map]
          omega
        · obtain ⟨z, hz, rfl⟩ := List.mem_map.mp hd
          exact .str (Nat.le_trans (s3 z hz) (by decide))
      refine ⟨D, vs, v, rfl, rfl, gD5, small1000 (by omega), ?_⟩
      have eH5 := (eH3.trans (e4.trans e5)).mut (p := D) (o := .lst (vs ++ [v])) hD0
      have dv6 : DpAll K (upd H5 D (.lst (vs ++ [v]))) (vs ++ [v]) (pre ++ [.tuple (.str w :: ns.map PyData.str ++ ps)]) :=
        dpAll_add (dps_off gD5 tpre (dpMs ((e3.trans e4).trans e5) _ _ dvs)) (dp_off gD5 tst dv)
      refine hdE (σ := [some (.ref l), some (.int (a1 : Nat)), some (.str (mgn (4 - n))), some (.ref D), some (.ref hd), some (.ref b)]) (a := a1) eH5 rfl rfl rfl fun q2 H6 hq2 e6 hok6 => ?_
      try dsimp only [gName, List.set]
      exact ⟨a1, pre ++ [.tuple (.str w :: ns.map PyData.str ++ ps)], vs ++ [v], q2, some (.ref b), by rw [List.length_append]; show k1 + (pre.length + 1) = _; omega, by omega, by rw [hR, loop_more (by rw [hHD2]; exact hh) (by rw [hPRT2]; exact hr2), addPre_app], rfl, e6 _ _ upd_same, dpMs e6 _ _ dv6, tpre.app (.cons tst .nil), eH5.trans e6, hok6⟩

end
end K06
set_option Elab.async false
set_option linter.all false
set_option maxRecDepth 100000
set_option maxHeartbeats 8000000
namespace K06
open PySem PySem.Spec PyProof.Rows L2 He XH XV XR PEN TR Evl

def great (cs rs os : List Str) : Bool := decide ((3 : Int) < (cs.length : Int)) || (decide ((2 : Int) < (rs.length : Int)) || decide ((3 : Int) < (os.length : Int)))
def okN (ns : List Str) : Prop := ∀ (i : Nat) (z : Str), ns[i]? = some z → goodN z = true ∧ z ∉ ns.take i
def fine (cs rs os : List Str) (st : Str) : Prop := okN (cs ++ rs ++ os) ∧ st ∈ os
def short (ns : List Str) : Prop := ∀ z ∈ ns, z.length ≤ 1000
def BadE (K : PySem.W.Frag) (H : Hp) (E : XK) (F : Hp → Prop) : Prop := ∀ d H', F H' → H' d = some (.xd [("number", .non), ("function", .non)]) → E (.ref (ga K "BadCode")) (some d) H'
def spBounds6 (K : PySem.W.Frag) : Sp := fun vs H Q E => ∃ a c r f cs rs os st fos bds, vs = [.ref a] ∧ Cd K H a c r f cs rs os st fos bds ∧ ∀ H', Ex H H' → (great cs rs os = true → E (.ref (ga K "TooGreat")) none H') ∧ (great cs rs os = false → Q .non H')
def spChk6 (K : PySem.W.Frag) : Sp := fun vs H Q E => ∃ a c r f cs rs os st fos bds, vs = [.ref a] ∧ Cd K H a c r f cs rs os st fos bds ∧ (cs.length ≤ 40 ∧ rs.length ≤ 40 ∧ os.length ≤ 40) ∧ short (cs ++ rs ++ os) ∧ (fine cs rs os st → ∀ H', Ex H H' → Q .non H') ∧ (¬ fine cs rs os st → BadE K H E fun H' => Ex H H')
def spCI6 (K : PySem.W.Frag) : Sp := fun vs H Q E => ∃ a c r f cs rs os st fos bds dx, vs = [.ref a, .ref c, .ref r, .ref f, .str st] ∧ H a = some (.ins (ga K "Code") dx []) ∧ H c = some (.lst (cs.map V.str)) ∧ H r = some (.lst (rs.map V.str)) ∧ H f = some (.lst (fos.map V.ref)) ∧ Fns K H fos os bds ∧ short (cs ++ rs ++ os) ∧ (∀ ss ∈ bds, BodTG ss) ∧
  (Names cs rs os st → firstF cs rs os bds = none → ∀ c r f H', Xa a H H' → Cd K H' a c r f cs rs os st fos bds → Q .non H') ∧
  (∀ d y z H', Xa a H H' → H' d = some (.xd [("number", y), ("function", z)]) → E (.ref (ga K "BadCode")) (some d) H') ∧
  (∀ H', Xa a H H' → E (.ref (ga K "TooGreat")) none H')
theorem bad_made {K : PySem.W.Frag} {C : Addr} {σ : L2.St} {H : Hp} {Q : XK} (U : OexC K C) (n1 : PySem.W.findIn K (.ref C) "function" = some none) (n2 : PySem.W.findIn K (.ref C) "number" = some none)
    (h : ∀ d H', Ex H H' → H' d = some (.xd [("number", .non), ("function", .non)]) → Q (.ref C) (some d) H') : tMkO C (spI2 K C "function" "number") [] (tCons (tC .non) (tCons (tC .non) tNil)) σ H Q := by
  refine ⟨(show 2 ≤ 1000 by decide), fun a ha => ⟨a, .non, .non, rfl, U, n1, n2, upd_same, fun d hd hda => ⟨rfl, d, _, (upd_ne (Ne.symm hda)).trans upd_same, upd_same, ?_, h d _ ?_ upd_same⟩⟩⟩
  · exact (upd_ne hda).symm.trans hd
  · intro c o hc
    have c1 : c ≠ a := ne_of_none hc ha
    have c2 : c ≠ d := ne_of_none hc ((upd_ne hda).symm.trans hd)
    rw [upd_ne c2, del_ne c1, upd_ne c2, upd_ne c1, upd_ne c2, upd_ne c1]
    exact hc

theorem good_let {z : Str} (h : goodN z = true) : Let z ∧ 1 ≤ z.length ∧ z.length ≤ 12 := by
  unfold goodN at h
  rw [Bool.and_eq_true, Bool.and_eq_true] at h
  refine ⟨fun c hc => ?_, of_decide_eq_true h.1, of_decide_eq_true h.2.1⟩
  have k := List.all_eq_true.mp h.2.2 c hc
  have m := of_decide_eq_true k
  have q : ∀ c ∈ alphabet.cps.toList, 97 ≤ c ∧ c ≤ 122 := by decide +kernel
  exact q c m
theorem fine_names {cs rs os : List Str} {st : Str} (hg : great cs rs os = false) (hf : fine cs rs os st) : Names cs rs os st := by
  unfold great at hg
  rw [Bool.or_eq_false_iff, Bool.or_eq_false_iff] at hg
  have a := of_decide_eq_false hg.1
  have b := of_decide_eq_false hg.2.1
  have c := of_decide_eq_false hg.2.2
  refine ⟨⟨by omega, by omega, by omega⟩, ⟨List.pairwise_iff_getElem.mpr fun i j hi hj hij e => ?_, fun y hy => ?_⟩, hf.2⟩
  · refine (hf.1 j _ (List.getElem?_eq_getElem hj)).2 ?_
    rw [← e]
    exact List.mem_iff_getElem?.mpr ⟨i, by rw [List.getElem?_take, if_pos hij, List.getElem?_eq_getElem hi]⟩
  · obtain ⟨i, hi⟩ := List.mem_iff_getElem?.mp hy
    exact good_let (hf.1 i y hi).1

section
variable {P : Program} {w : World} {K : PySem.W.Frag} {mg : Str → Option Value} {base : Heap}

theorem ok_check_bounds6 {fd : FuncData} (F : FnP K "check_bounds" "check_bounds" s_check_bounds (ga K "check_bounds") fd) (T : Td K w mg) : FnOk P w K mg base (L2.CX P w) (0 + 1) (ga K "check_bounds") fd ["code"] (spBounds6 K) := by
  refine FunD.ok F sc_check_bounds (fun vs H Q E h => ?_) (fun cdv A outer s H vs Q E hr h => ?_)
  · obtain ⟨a, c, r, f, cs, rs, os, st, fos, bds, rfl, _⟩ := h
    rfl
  · obtain ⟨a, c, r, f, cs, rs, os, st, fos, bds, rfl, hC, kk⟩ := h
    have n_len := T.fr "len" (by decide +kernel)
    obtain ⟨tk_MOST_CELLS, g_MOST_CELLS⟩ := T.c_MOST_CELLS
    obtain ⟨tk_MOST_ROWS, g_MOST_ROWS⟩ := T.c_MOST_ROWS
    obtain ⟨tk_MOST_FUNCTIONS, g_MOST_FUNCTIONS⟩ := T.c_MOST_FUNCTIONS
    have g_TooGreat := T.gl "TooGreat" (by decide +kernel)
    refine ⟨_, (pss_one (ps_if (PW.pt (pw_or (pt_cmpR op_gt (pe_callB call_len_seq (by rfl) n_len (by decide +kernel) (pa_cons (pe_fld (pv 0) rfl) pa_nil)) (pe_glob (v := .int _) (by rfl) g_MOST_CELLS ⟨_, rfl⟩) (nomark _)) (pw_or (pt_cmpR op_gt (pe_callB call_len_seq (by rfl) n_len (by decide +kernel) (pa_cons (pe_fld (pv 0) rfl) pa_nil)) (pe_glob (v := .int _) (by rfl) g_MOST_ROWS ⟨_, rfl⟩) (nomark _)) (pw_or1 (pt_cmpR op_gt (pe_callB call_len_seq (by rfl) n_len (by decide +kernel) (pa_cons (pe_fld (pv 0) rfl) pa_nil)) (pe_glob (v := .int _) (by rfl) g_MOST_FUNCTIONS ⟨_, rfl⟩) (nomark _))))))
      (pss_one (ps_raise rfl (takes_of rfl rfl rfl rfl) (pmk0 PySem.F.excBase_ValueError T.tg.ex g_TooGreat T.tg.kC (raises_own T.tg.ec.hs T.ty) (by rfl))))
      pss_nil)), ?_⟩
    obtain ⟨dx, hA⟩ := hC.at_
    refine s_when (b := great cs rs os) (et_or (et_test (ev_op (ev_cb (ea_cons (ev_fld (ev_var rfl) hA T.cc (T.nc "cells" (by decide +kernel)) rfl) ea_nil) fun H2 e2 R q => ⟨c, _, rfl, .inr (st_of (e2 _ _ hC.ca)), q H2 (Ex.refl _)⟩) ev_c (by rw [List.length_map]; exact rv_I0))) fun _ =>
      et_or (et_test (ev_op (ev_cb (ea_cons (ev_fld (ev_var rfl) hA T.cc (T.nc "rows" (by decide +kernel)) rfl) ea_nil) fun H2 e2 R q => ⟨r, _, rfl, .inr (st_of (e2 _ _ hC.ra)), q H2 (Ex.refl _)⟩) ev_c (by rw [List.length_map]; exact rv_I0))) fun _ =>
      et_test (ev_op (ev_cb (ea_cons (ev_fld (ev_var rfl) hA T.cc (T.nc "functions" (by decide +kernel)) rfl) ea_nil) fun H2 e2 R q => ⟨f, _, rfl, .inr (st_of (e2 _ _ hC.fa)), q H2 (Ex.refl _)⟩) ev_c (by rw [List.length_map, hC.fs.1]; exact rv_I0))) (fun hb H1 e1 => ?_) (fun hb H1 e1 => ?_)
    · exact (kk H1 e1).1 hb
    · exact (kk H1 e1).2 hb

theorem ok_check_names6 {fd : FuncData} (F : FnP K "check_names" "check_names" s_check_names (ga K "check_names") fd) (T : Td K w mg) (c_is_name : Cl P w K mg base CX0 1 (ga K "is_name") ["word"] spIsName) (c_BadCode_init : Cl P w K mg base CX0 1 (ma K (ga K "BadCode") "__init__") ["self", "function", "number"] (spI2 K (ga K "BadCode") "function" "number")) : FnOk P w K mg base (L2.CX P w) (2 + 1) (ga K "check_names") fd ["code"] (spChk6 K) := by
  obtain ⟨fd_is_name, G_is_name, b_is_name, kp_is_name⟩ := c_is_name
  obtain ⟨fd_BadCode_init, G_BadCode_init, b_BadCode_init, kp_BadCode_init⟩ := c_BadCode_init
  refine FunD.ok F sc_check_names (fun vs H Q E h => ?_) (fun cdv A outer s H vs Q E hr h => ?_)
  · obtain ⟨a, c, r, f, cs, rs, os, st, fos, bds, rfl, _⟩ := h
    rfl
  · obtain ⟨a, c, r, f, cs, rs, os, st, fos, bds, rfl, hC, hsz0, hs, k1, k2⟩ := h
    have g_is_name := T.gl "is_name" (by decide +kernel)
    have g_BadCode := T.gl "BadCode" (by decide +kernel)
    refine ⟨_, (pss_cons (ps_setLc (i := 1) (own := [("function", 4)]) (g := gName 4) (by rfl) sc_check_names.nd rfl rfl (sw_true rfl rfl rfl (by decide +kernel)) (pi_tup (pe_fld (pv 0) rfl)) (blkOk_by (own := [("function", 4)]) (N := ["code", "called", "seen", "name", "function"]) (sc := defScope s_check_names) (by decide +kernel)) (fun _ _ _ _ _ => (pg_name (i := 4) sc_check_names.nd rfl (Or.inl rfl))) (fun _ _ _ _ _ => pts_nil) (fun _ _ _ _ _ => (pe_fldc (K := K) rfl (pv 4) rfl)))
      (pss_cons (ps_set (i := 2) sc_check_names.nd rfl (Or.inl rfl) (pe_lst pa_nil))
      (pss_cons (ps_for (passes_of rfl) rfl (pi_list (pe_lst (StX.pa_star (pe_fld (pv 0) rfl) (StX.pa_star (pe_fld (pv 0) rfl) (StX.pa_star (pv 1) pa_nil))))) (pg_name (i := 3) sc_check_names.nd rfl (Or.inl rfl))
      (pss_cons (ps_if (PW.pt (pw_or (pt_not (pt_val (pe_call G_is_name (hr.mono (by decide)) (by rfl) g_is_name kp_is_name b_is_name .nil pass0 (pa_cons (pv 3) pa_nil)))) (pw_or1 (pt_cmpR op_in_seq (pv 3) (pv 2) (by rfl)))))
      (pss_one (ps_raise rfl (takes_of rfl rfl rfl rfl) (pmk_oex T.bc.ox T.bc.iC T.bc.tI G_BadCode_init (hr.mono (by decide)) b_BadCode_init .nil pass0 (by rfl) g_BadCode (pa_cons pe_non (pa_cons pe_non pa_nil)))))
      pss_nil)
      (pss_one (ps_expr (pe_bm PySem.F.plainAttrs_list PySem.F.slot_list_append PySem.F.type_list_append mt_append (pv 2) (pa_cons (pv 3) pa_nil))))))
      (pss_one (ps_if (pt_cmpR op_notIn_seq (pe_fld (pv 0) rfl) (pv 1) (by rfl))
      (pss_one (ps_raise rfl (takes_of rfl rfl rfl rfl) (pmk_oex T.bc.ox T.bc.iC T.bc.tI G_BadCode_init (hr.mono (by decide)) b_BadCode_init .nil pass0 (by rfl) g_BadCode (pa_cons pe_non (pa_cons pe_non pa_nil)))))
      pss_nil))))), ?_⟩
    obtain ⟨dx, hA⟩ := hC.at_
    obtain ⟨z1, z2, z3⟩ := hsz0
    refine q_asgL (el_called (te := tFld K (tVar 0) "functions") (σ := L2.start ["code", "called", "seen", "name", "function"] [V.ref a]) (j := 4) (vs := [4]) T.toTx (ev_fld (ev_var rfl) hA T.cc (T.nc "functions" (by decide +kernel)) rfl) hC.fa hC.fs z3 (fun _ => by rfl) (fun _ => by rfl)) fun q H1 hq e1 g1 => ?_
    refine q_asgL (el_lst ea_nil (by decide)) fun D H2 hD e2 g2 => ?_
    have e3 := e1.trans e2
    have hD0 : H D = none := fresh_back e1 hD
    have gq := e2 _ _ g1
    have hsz : (cs ++ rs ++ os).length ≤ 120 := by
      rw [List.length_append, List.length_append]
      omega
    have en : cs.map V.str ++ (rs.map V.str ++ (os.map V.str ++ [])) = (cs ++ rs ++ os).map V.str := by
      simp
    refine ⟨.ref a, rfl, a, _, dx, _, .ref c, rfl, e3 _ _ hA, T.cc, T.nc "cells" (by decide +kernel), rfl, c, _, rfl, .inl (st_of (e3 _ _ hC.ca)), ?_⟩
    refine ⟨.ref a, rfl, a, _, dx, _, .ref r, rfl, e3 _ _ hA, T.cc, T.nc "rows" (by decide +kernel), rfl, r, _, rfl, .inl (st_of (e3 _ _ hC.ra)), ?_⟩
    refine ⟨.ref q, rfl, q, _, rfl, .inr (sq_of gq), ?_⟩
    show (cs.map V.str ++ (rs.map V.str ++ (os.map V.str ++ []))).length ≤ sizeLine ∧ _
    rw [en]
    refine ⟨by rw [List.length_map, sizeLine_eq]; omega, fun p hp => ⟨p, rfl, ⟨_, sq_of upd_same⟩, ?_⟩⟩
    have e4 := e3.trans (Ex.new (o := .lst ((cs ++ rs ++ os).map V.str)) hp)
    have hpD : p ≠ D := fun e => by rw [e, g2] at hp; cases hp
    refine for_list (xs := (cs ++ rs ++ os).map V.str) (fun i σ' H' => ∃ v3 v4, σ' = [some (.ref a), some (.ref q), some (.ref D), v3, v4] ∧ H' D = some (.lst (((cs ++ rs ++ os).take i).map V.str)) ∧ Ex H H' ∧ H' p = some (.lst ((cs ++ rs ++ os).map V.str)) ∧ H' q = some (.lst (os.map V.str)) ∧
        ∀ (j : Nat) (z : Str), j < i → (cs ++ rs ++ os)[j]? = some z → goodN z = true ∧ z ∉ (cs ++ rs ++ os).take j)
      ⟨_, _, rfl, (upd_ne (Ne.symm hpD)).trans g2, e4, upd_same, Ex.new hp _ _ gq, fun j z hj => absurd hj (Nat.not_lt_zero j)⟩ (fun i σ' H' _ hI => ?_) (fun i x σ' H' hx hI => ?_) (fun σ' H' hI => ?_)
    · obtain ⟨v3, v4, rfl, g3, e5, g4, g5, ok⟩ := hI
      exact sq_of g4
    · obtain ⟨v3, v4, rfl, g3, e5, g4, g5, ok⟩ := hI
      rw [List.getElem?_map] at hx
      cases p1 : (cs ++ rs ++ os)[i]? with
      | none =>
        rw [p1] at hx
        cases hx
      | some z =>
        rw [p1] at hx
        cases hx
        have hi := (List.getElem?_eq_some_iff.mp p1).1
        have hz := hs z (List.mem_of_getElem? p1)
        dsimp only [gName, List.set]
        refine q_when (b := !goodN z || decide (z ∈ (cs ++ rs ++ os).take i)) (et_or (et_not (et_B (ev_call (ea_cons (ev_var rfl) ea_nil) fun H5 e7 R q _ => ⟨z, rfl, hz, fun H6 e8 => q H6 e8⟩))) fun _ =>
          et_test (ev_op (ev_var rfl) (ev_var rfl) (by rw [← inV_strs]; exact rv_isL (sq_of g3) rfl (flat_strs _)))) (fun hb H5 e7 => ?_) (fun hb H5 e7 => ?_)
        · refine bad_made T.bc.ox (T.bc.no _ (by decide +kernel)) (T.bc.no _ (by decide +kernel)) fun d H6 e8 hd => k2 (fun hf => ?_) d H6 ((e5.trans e7).trans e8) hd
          obtain ⟨y1, y2⟩ := hf.1 i z p1
          rw [y1, decide_eq_false y2] at hb
          cases hb
        · rw [Bool.or_eq_false_iff] at hb
          have y1 : goodN z = true := by
            cases y : goodN z with
            | true => rfl
            | false =>
              rw [y] at hb
              cases hb.1
          refine s_app (e7 _ _ g3) (ev_var rfl) (ev_var rfl) (by rw [List.length_map, List.length_take]; omega) fun H6 e8 => ?_
          have hDn : p ≠ D := hpD
          have nq : q ≠ D := fun e => by rw [e, hD] at g1; cases g1
          refine ⟨_, _, rfl, ?_, ((e5.trans e7).trans e8).mut hD0, (upd_ne hDn).trans (e8 _ _ (e7 _ _ g4)), (upd_ne nq).trans (e8 _ _ (e7 _ _ g5)), fun j z' hj hz' => ?_⟩
          · rw [upd_same, take_more p1, List.map_append]
            rfl
          · rcases Nat.lt_succ_iff_lt_or_eq.mp hj with h | h
            · exact ok j z' h hz'
            · subst h
              rw [p1] at hz'
              cases hz'
              exact ⟨y1, of_decide_eq_false hb.2⟩
    · obtain ⟨v3, v4, rfl, g3, e5, g4, g5, ok⟩ := hI
      rw [List.length_map] at ok
      have okA : okN (cs ++ rs ++ os) := fun i z hz => ok i z (List.getElem?_eq_some_iff.mp hz).1 hz
      dsimp only
      refine s_when (b := !decide (st ∈ os)) (et_test (ev_op (ev_fld (ev_var rfl) (e5 _ _ hA) T.cc (T.nc "start" (by decide +kernel)) rfl) (ev_var rfl) (by rw [← inV_strs]; exact rv_niL (K := K) (sq_of g5) rfl (flat_strs _)))) (fun hb H5 e7 => ?_) (fun hb H5 e7 => ?_)
      · refine bad_made T.bc.ox (T.bc.no _ (by decide +kernel)) (T.bc.no _ (by decide +kernel)) fun d H6 e8 hd => k2 (fun hf => ?_) d H6 ((e5.trans e7).trans e8) hd
        rw [decide_eq_true hf.2] at hb
        cases hb
      · refine k1 ⟨okA, ?_⟩ H5 (e5.trans e7)
        rw [Bool.not_eq_false'] at hb
        exact of_decide_eq_true hb

theorem ok_CI6 {fd : FuncData} {f : Addr} (F : FnP K "__init__" "Code.__init__" s_Code_init f fd) (T : Td K w mg) (c_check_bounds : Cl P w K mg base (L2.CX P w) 1 (ga K "check_bounds") ["code"] (spBounds6 K)) (c_check_names : Cl P w K mg base (L2.CX P w) 3 (ga K "check_names") ["code"] (spChk6 K)) (c_names_by_kind : Cl P w K mg base CX0 1 (ga K "names_by_kind") ["code"] (spByKind K)) (c_check_body : Cl P w K mg base (L2.CX P w) 52 (ga K "check_body") ["function", "names"] (spBodyG K)) : FnOk P w K mg base (L2.CX P w) (52 + 1) f fd ["self", "cells", "rows", "functions", "start"] (spCI6 K) := by
  obtain ⟨fd_check_bounds, G_check_bounds, b_check_bounds, kp_check_bounds⟩ := c_check_bounds
  obtain ⟨fd_check_names, G_check_names, b_check_names, kp_check_names⟩ := c_check_names
  obtain ⟨fd_names_by_kind, G_names_by_kind, b_names_by_kind, kp_names_by_kind⟩ := c_names_by_kind
  obtain ⟨fd_check_body, G_check_body, b_check_body, kp_check_body⟩ := c_check_body
  refine FunD.ok F sc_Code_init (fun vs H Q E h => ?_) (fun cdv A outer s H vs Q E hr h => ?_)
  · obtain ⟨a, c, r, f, cs, rs, os, st, fos, bds, dx, rfl, _⟩ := h
    rfl
  · obtain ⟨a, c, r, f, cs, rs, os, st, fos, bds, dx, rfl, ha, hc, hr', hf, hF, hshort, hBd, kF, kB, kG⟩ := h
    have n_tuple := T.fr "tuple" (by decide +kernel)
    have g_check_bounds := T.gl "check_bounds" (by decide +kernel)
    have g_check_names := T.gl "check_names" (by decide +kernel)
    have g_names_by_kind := T.gl "names_by_kind" (by decide +kernel)
    have g_check_body := T.gl "check_body" (by decide +kernel)
    refine ⟨_, (pss_cons (ps_fld (pv 0) (pe_callTy call_tuple_of (by rfl) n_tuple (by decide +kernel) (pa_cons (pv 1) pa_nil)) rfl)
      (pss_cons (ps_fld (pv 0) (pe_callTy call_tuple_of (by rfl) n_tuple (by decide +kernel) (pa_cons (pv 2) pa_nil)) rfl)
      (pss_cons (ps_fld (pv 0) (pe_callTy call_tuple_of (by rfl) n_tuple (by decide +kernel) (pa_cons (pv 3) pa_nil)) rfl)
      (pss_cons (ps_fld (pv 0) (pv 4) rfl)
      (pss_cons (ps_expr (pe_call G_check_bounds (hr.mono (by decide)) (by rfl) g_check_bounds kp_check_bounds b_check_bounds .nil (passes_call (takes_of rfl rfl rfl rfl) (fun _ _ _ _ h => h)) (pa_cons (pv 0) pa_nil)))
      (pss_cons (ps_expr (pe_call G_check_names (hr.mono (by decide)) (by rfl) g_check_names kp_check_names b_check_names .nil (passes_call (takes_of rfl rfl rfl rfl) (fun _ _ _ _ h => h)) (pa_cons (pv 0) pa_nil)))
      (pss_cons (ps_set (i := 5) sc_Code_init.nd rfl (Or.inl rfl) (pe_call G_names_by_kind (hr.mono (by decide)) (by rfl) g_names_by_kind kp_names_by_kind b_names_by_kind .nil pass0 (pa_cons (pv 0) pa_nil)))
      (pss_one (ps_for (passes_of rfl) rfl (pi_tup (pe_fld (pv 0) rfl)) (pg_name (i := 6) sc_Code_init.nd rfl (Or.inl rfl))
      (pss_one (ps_expr (pe_call G_check_body (hr.mono (by decide)) (by rfl) g_check_body kp_check_body b_check_body .nil (passes_call (takes_of rfl rfl rfl rfl) (fun _ _ _ _ h => h)) (pa_cons (pv 6) (pa_cons (pv 5) pa_nil)))))))))))))), ?_⟩
    have nc : c ≠ a := fun e => by rw [e, ha] at hc; cases hc
    have nr : r ≠ a := fun e => by rw [e, ha] at hr'; cases hr'
    have nf : f ≠ a := fun e => by rw [e, ha] at hf; cases hf
    refine ⟨.ref c, rfl, c, _, rfl, .inl ⟨sq_of hc, fun u1 hu1 => ?_⟩⟩
    have n1 : u1 ≠ a := fun e => by rw [e, ha] at hu1; cases hu1
    refine ⟨.ref a, rfl, a, _, dx, [], rfl, (upd_ne (Ne.symm n1)).trans ha, T.cc, T.nc "cells" (by decide +kernel), by decide, ?_⟩
    have a1 : upd (upd H u1 (.tup (cs.map V.str))) a (.ins (ga K "Code") dx (putF "cells" (.ref u1) [])) a = some (.ins (ga K "Code") dx [("cells", .ref u1)]) := upd_same
    have b1 : upd (upd H u1 (.tup (cs.map V.str))) a (.ins (ga K "Code") dx (putF "cells" (.ref u1) [])) u1 = some (.tup (cs.map V.str)) := (upd_ne n1).trans upd_same
    have x1 : Xa a H (upd (upd H u1 (.tup (cs.map V.str))) a (.ins (ga K "Code") dx (putF "cells" (.ref u1) []))) := (Xa.of (Ex.new hu1)).trans Xa.upd
    generalize upd (upd H u1 (.tup (cs.map V.str))) a (.ins (ga K "Code") dx (putF "cells" (.ref u1) [])) = H1 at a1 b1 x1
    refine ⟨.ref r, rfl, r, _, rfl, .inl ⟨sq_of (x1 _ _ nr hr'), fun u2 hu2 => ?_⟩⟩
    have n2 : u2 ≠ a := fun e => by rw [e, a1] at hu2; cases hu2
    refine ⟨.ref a, rfl, a, _, dx, _, rfl, (upd_ne (Ne.symm n2)).trans a1, T.cc, T.nc "rows" (by decide +kernel), (show 1 < 1000 by decide), ?_⟩
    rw [putF_tail (by decide +kernel)]
    have a2 : upd (upd H1 u2 (.tup (rs.map V.str))) a (.ins (ga K "Code") dx (("cells", .ref u1) :: putF "rows" (.ref u2) [])) a = some (.ins (ga K "Code") dx [("cells", .ref u1), ("rows", .ref u2)]) := upd_same
    have b2 : upd (upd H1 u2 (.tup (rs.map V.str))) a (.ins (ga K "Code") dx (("cells", .ref u1) :: putF "rows" (.ref u2) [])) u2 = some (.tup (rs.map V.str)) := (upd_ne n2).trans upd_same
    have x2 : Xa a H1 (upd (upd H1 u2 (.tup (rs.map V.str))) a (.ins (ga K "Code") dx (("cells", .ref u1) :: putF "rows" (.ref u2) []))) := (Xa.of (Ex.new hu2)).trans Xa.upd
    generalize upd (upd H1 u2 (.tup (rs.map V.str))) a (.ins (ga K "Code") dx (("cells", .ref u1) :: putF "rows" (.ref u2) [])) = H2 at a2 b2 x2
    have b1' := x2 _ _ n1 b1
    refine ⟨.ref f, rfl, f, _, rfl, .inl ⟨sq_of (x2 _ _ nf (x1 _ _ nf hf)), fun u3 hu3 => ?_⟩⟩
    have n3 : u3 ≠ a := fun e => by rw [e, a2] at hu3; cases hu3
    refine ⟨.ref a, rfl, a, _, dx, _, rfl, (upd_ne (Ne.symm n3)).trans a2, T.cc, T.nc "functions" (by decide +kernel), (show 2 < 1000 by decide), ?_⟩
    rw [putF_tail (by decide +kernel), putF_tail (by decide +kernel)]
    have a3 : upd (upd H2 u3 (.tup (fos.map V.ref))) a (.ins (ga K "Code") dx (("cells", .ref u1) :: ("rows", .ref u2) :: putF "functions" (.ref u3) [])) a = some (.ins (ga K "Code") dx [("cells", .ref u1), ("rows", .ref u2), ("functions", .ref u3)]) := upd_same
    have b3 : upd (upd H2 u3 (.tup (fos.map V.ref))) a (.ins (ga K "Code") dx (("cells", .ref u1) :: ("rows", .ref u2) :: putF "functions" (.ref u3) [])) u3 = some (.tup (fos.map V.ref)) := (upd_ne n3).trans upd_same
    have x3 : Xa a H2 (upd (upd H2 u3 (.tup (fos.map V.ref))) a (.ins (ga K "Code") dx (("cells", .ref u1) :: ("rows", .ref u2) :: putF "functions" (.ref u3) []))) := (Xa.of (Ex.new hu3)).trans Xa.upd
    generalize upd (upd H2 u3 (.tup (fos.map V.ref))) a (.ins (ga K "Code") dx (("cells", .ref u1) :: ("rows", .ref u2) :: putF "functions" (.ref u3) [])) = H3 at a3 b3 x3
    refine ⟨.str st, rfl, .ref a, rfl, a, _, dx, _, rfl, a3, T.cc, T.nc "start" (by decide +kernel), (show 3 < 1000 by decide), ?_⟩
    rw [putF_tail (by decide +kernel), putF_tail (by decide +kernel), putF_tail (by decide +kernel)]
    have a4 : upd H3 a (.ins (ga K "Code") dx (("cells", .ref u1) :: ("rows", .ref u2) :: ("functions", .ref u3) :: putF "start" (.str st) [])) a = some (.ins (ga K "Code") dx [("cells", .ref u1), ("rows", .ref u2), ("functions", .ref u3), ("start", .str st)]) := upd_same
    have x4 : Xa a H3 (upd H3 a (.ins (ga K "Code") dx (("cells", .ref u1) :: ("rows", .ref u2) :: ("functions", .ref u3) :: putF "start" (.str st) []))) := Xa.upd
    generalize upd H3 a (.ins (ga K "Code") dx (("cells", .ref u1) :: ("rows", .ref u2) :: ("functions", .ref u3) :: putF "start" (.str st) [])) = H4 at a4 x4
    have xx : Xa a H H4 := ((x1.trans x2).trans x3).trans x4
    have hC : Cd K H4 a u1 u2 u3 cs rs os st fos bds := ⟨x4 _ _ n1 (x3 _ _ n1 b1'), x4 _ _ n2 (x3 _ _ n2 b2), x4 _ _ n3 b3, hF.xa xx ha, ⟨dx, a4⟩⟩
    refine ⟨.ref a, rfl, a, u1, u2, u3, cs, rs, os, st, fos, bds, rfl, hC, fun H5 e5 => ⟨fun _ => kG H5 (xx.trans (Xa.of e5)), fun hgr => ?_⟩⟩
    have hsz : cs.length ≤ 40 ∧ rs.length ≤ 40 ∧ os.length ≤ 40 := by
      have hg := hgr
      unfold great at hg
      rw [Bool.or_eq_false_iff, Bool.or_eq_false_iff] at hg
      have a1 := of_decide_eq_false hg.1
      have a2 := of_decide_eq_false hg.2.1
      have a3 := of_decide_eq_false hg.2.2
      omega
    refine ⟨.ref a, rfl, a, u1, u2, u3, cs, rs, os, st, fos, bds, rfl, hC.mono e5, hsz, hshort, fun hfi H6 e6 => ?_, fun _ d H6 e6 hd => kB d _ _ H6 (xx.trans (Xa.of (e5.trans e6))) hd⟩
    have hNm := fine_names hgr hfi
    have e56 := e5.trans e6
    refine ⟨.ref a, rfl, a, u1, u2, u3, cs, rs, os, st, fos, bds, rfl, hC.mono e56, hNm, fun p H7 e7 hN7 => ?_⟩
    have e57 := e56.trans e7
    have hC7 := hC.mono e57
    obtain ⟨dx', hA7⟩ := hC7.at_
    refine ⟨.ref a, rfl, a, _, dx', _, .ref u3, rfl, hA7, T.cc, T.nc "functions" (by decide +kernel), rfl, u3, rfl, ⟨_, st_of hC7.fa⟩, ?_⟩
    refine for_tup (xs := fos.map V.ref) (fun i σ' H' => ∃ v6, σ' = [some (.ref a), some (.ref c), some (.ref r), some (.ref f), some (.str st), some (.ref p), v6] ∧ Ex H7 H' ∧ ∀ j y, j < i → (os.zip bds)[j]? = some y → itemB cs rs os y = none) ⟨_, rfl, Ex.refl _, fun j y hj => absurd hj (Nat.not_lt_zero j)⟩ (fun i σ' H' _ hI => ?_) (fun i x σ' H' hx hI => ?_) (fun σ' H' hI => ?_)
    · obtain ⟨v6, rfl, e8, _⟩ := hI
      exact st_of (e8 _ _ hC7.fa)
    · obtain ⟨v6, rfl, e8, hno⟩ := hI
      rw [List.getElem?_map] at hx
      cases p1 : fos[i]? with
      | none =>
        rw [p1] at hx
        cases hx
      | some t =>
        rw [p1] at hx
        cases hx
        obtain ⟨z, ss, ho, hb, hFn⟩ := hC7.fs.at p1
        have zi : (os.zip bds)[i]? = some (z, ss) := by
          rw [List.getElem?_zip_eq_some]
          exact ⟨ho, hb⟩
        have hit : ∀ fl, scanG cs rs os 0 (numsG NB ss []) = some fl → firstF cs rs os bds = some (z, fl) := fun fl hf => fs_hit hno zi (by unfold itemB; rw [hf]; rfl)
        refine ⟨.ref t, rfl, .ref p, rfl, t, p, z, ss, cs, rs, os, rfl, hFn.mono e8, hN7.mono e8, hBd ss (List.mem_of_getElem? hb), fun hn H9 e9 => ⟨_, rfl, e8.trans e9, fun j y hj hy => ?_⟩, fun k hk d H9 e9 hd => kB d _ _ H9 (xx.trans (Xa.of ((e57.trans e8).trans e9))) hd, fun hk H9 e9 => kG H9 (xx.trans (Xa.of ((e57.trans e8).trans e9)))⟩
        by_cases ej : j = i
        · subst ej
          rw [zi] at hy
          cases hy
          unfold itemB
          rw [hn]
          rfl
        · exact hno j y (by omega) hy
    · obtain ⟨v6, rfl, e8, hno⟩ := hI
      refine kF hNm ?_ u1 u2 u3 H' (xx.trans (Xa.of (e57.trans e8))) (hC7.mono e8)
      unfold firstF
      rw [List.findSome?_eq_none_iff]
      intro y hy
      obtain ⟨j, hj, e⟩ := List.getElem_of_mem hy
      refine hno j y ?_ (by rw [List.getElem?_eq_getElem hj, e])
      rw [List.length_map]
      rw [List.length_zip] at hj
      have := hF.1
      omega

end
end K06
set_option Elab.async false
set_option linter.all false
set_option maxRecDepth 100000
set_option maxHeartbeats 8000000
namespace K06
open PySem PySem.Spec PyProof.Rows L2 He XH XV XR PEN TR Evl


/-! ### the shape of what is read -/
theorem ks_split : ∀ p ∈ ENT, p.2 = p.2.filter np ++ List.replicate (npar p.1) ("part" : Str) := by decide +kernel
def mkS (w : Str) (ns : List Str) (ps : List PyData) : PyData := .tuple (.str w :: ns.map PyData.str ++ ps)
section
variable {w : Str} {ks ns : List Str} {ps : List PyData}
theorem args_len (hk : (w, ks) ∈ ENT) (h1 : ns.length = (ks.filter np).length) (h2 : ps.length = npar w) : (ns.map PyData.str ++ ps).length = ks.length := by
  have k := congrArg List.length (ks_split _ hk)
  simp only at k
  rw [List.length_append, List.length_replicate] at k
  rw [List.length_append, List.length_map]
  omega
theorem args_fit (hk : (w, ks) ∈ ENT) (h1 : ns.length = (ks.filter np).length) (h2 : ps.length = npar w) (h3 : ∀ p ∈ ps, isP p = true) (i : Nat) (k : Str) (x : PyData) (hi : ks[i]? = some k) (hx : (ns.map PyData.str ++ ps)[i]? = some x) : isP x = decide (k = ("part" : Str)) := by
  have sp := ks_split _ hk
  simp only at sp
  rw [sp] at hi
  rcases Nat.lt_or_ge i ns.length with c | c
  · rw [List.getElem?_append_left (by rw [List.length_map]; exact c), List.getElem?_map] at hx
    rw [List.getElem?_append_left (by omega)] at hi
    have m := (List.mem_filter.mp (List.mem_of_getElem? hi)).2
    cases q : ns[i]? with
    | none =>
      rw [q] at hx
      cases hx
    | some z =>
      rw [q] at hx
      cases hx
      unfold np at m
      rw [Bool.not_eq_true'] at m
      rw [m]
      rfl
  · rw [List.getElem?_append_right (by rw [List.length_map]; exact c)] at hx
    rw [List.getElem?_append_right (by omega)] at hi
    have m := List.eq_of_mem_replicate (List.mem_of_getElem? hi)
    rw [h3 x (List.mem_of_getElem? hx), m]
    rfl
theorem sg_of (hk : (w, ks) ∈ ENT) (h1 : ns.length = (ks.filter np).length) (h2 : ps.length = npar w) (h3 : ∀ p ∈ ps, isP p = true) : Sg (mkS w ns ps) := by
  have al := args_len hk h1 h2
  have k3 := ent3 _ hk
  simp only at k3
  refine ⟨w, ns.map PyData.str ++ ps, rfl, .inl ⟨ks, hk⟩, by omega, fun x hx => ?_, fun ks' hk' hl' i k x hi hx => ?_⟩
  · rcases List.mem_append.mp hx with h | h
    · obtain ⟨z, _, rfl⟩ := List.mem_map.mp h
      exact .inr ⟨z, rfl⟩
    · exact .inl (h3 x h)
  · have e : ks' = ks := by
      have q := kof_ent _ hk
      simp only at q
      rw [q] at hk'
      exact (Option.some.inj hk').symm
    subst e
    exact args_fit hk h1 h2 h3 i k x hi hx
theorem partsG_of (hk : (w, ks) ∈ ENT) (h1 : ns.length = (ks.filter np).length) (h2 : ps.length = npar w) (h3 : ∀ p ∈ ps, isP p = true) : partsG (mkS w ns ps) = ps := by
  have sp := ks_split _ hk
  simp only at sp
  have q := kof_ent _ hk
  simp only at q
  show (match kof w with
    | some ks => (((ns.map PyData.str ++ ps).zip ks).filter fun p => decide (p.2 = ("part" : Str)) && isP p.1).map (·.1)
    | none => []) = ps
  rw [q]
  show (((ns.map PyData.str ++ ps).zip ks).filter fun p => decide (p.2 = ("part" : Str)) && isP p.1).map (·.1) = ps
  rw [sp, List.zip_append (by rw [List.length_map]; exact h1), List.filter_append, List.map_append]
  have e1 : (((ns.map PyData.str).zip (ks.filter np)).filter fun p => decide (p.2 = ("part" : Str)) && isP p.1) = [] := by
    rw [List.filter_eq_nil_iff]
    rintro ⟨a, b⟩ hp
    obtain ⟨z, _, rfl⟩ := List.mem_map.mp (List.of_mem_zip hp).1
    simp [isP]
  have e2 : (ps.zip (List.replicate (npar w) ("part" : Str))).filter (fun p => decide (p.2 = ("part" : Str)) && isP p.1) = ps.zip (List.replicate (npar w) ("part" : Str)) := by
    rw [List.filter_eq_self]
    rintro ⟨a, b⟩ hp
    have m := List.of_mem_zip hp
    rw [List.eq_of_mem_replicate m.2, h3 a m.1]
    rfl
  rw [e1, e2, List.map_fst_zip (by rw [List.length_replicate]; omega)]
  rfl
end

mutual
/-- bodies as they are read, with how many lines they took at least -/
inductive RB : Nat → List PyData → Nat → Prop
  | nil {n c : Nat} : RB n [] c
  | cons {n c d : Nat} {w : Str} {ks ns : List Str} {ps ss : List PyData} (hk : (w, ks) ∈ ENT) (h1 : ns.length = (ks.filter np).length) (hz : (List.zipWith readsB ns (ks.filter np)).all id = true) (h2 : ps.length = npar w) (hp : RP n ps c) (r : RB (n + 1) ss d) : RB (n + 1) (mkS w ns ps :: ss) (1 + c + d)
inductive RP : Nat → List PyData → Nat → Prop
  | nil {n c : Nat} : RP n [] c
  | cons {n c d : Nat} {ds ps : List PyData} (h : RB n ds c) (r : RP n ps d) : RP n (.tuple ds :: ps) (c + d)
end
theorem RP.isP {n c : Nat} : ∀ {ps : List PyData}, RP n ps c → ∀ p ∈ ps, isP p = true
  | _, .cons h r, p, hp => by
    rcases List.mem_cons.mp hp with e | k
    · rw [e]; rfl
    · exact r.isP p k
theorem RP.app {n c d : Nat} {ds : List PyData} : ∀ {ps : List PyData}, RP n ps c → RB n ds d → RP n (ps ++ [.tuple ds]) (c + d)
  | _, .nil (c := c), h => by
    have k : RP n (.tuple ds :: []) (d + c) := .cons h (.nil (c := c))
    rw [Nat.add_comm] at k
    exact k
  | _, .cons (c := c1) (d := d1) h r, k => by
    have z : RP n _ (c1 + (d1 + d)) := .cons h (r.app k)
    rw [Nat.add_assoc]
    exact z
mutual
theorem RB.bodG : ∀ {n c : Nat} {ss : List PyData}, RB n ss c → ∀ N, n ≤ N → BodG N ss
  | _, _, _, .nil, 0, _ => rfl
  | _, _, _, .nil, N + 1, _ => fun s hs => nomatch hs
  | _, _, _, .cons (w := w) (ns := ns) (ps := ps) hk h1 hz h2 hp r, N + 1, hN => fun s hs => by
    rcases List.mem_cons.mp hs with e | k
    · rw [e]
      refine ⟨sg_of hk h1 h2 hp.isP, fun p hpm hpi => ?_⟩
      have hpm' : p ∈ ns.map PyData.str ++ ps := hpm
      rcases List.mem_append.mp hpm' with h | h
      · obtain ⟨z, _, rfl⟩ := List.mem_map.mp h
        cases hpi
      · exact hp.bodG N (by omega) p h
    · exact r.bodG (N + 1) hN s k
theorem RP.bodG : ∀ {n c : Nat} {ps : List PyData}, RP n ps c → ∀ N, n ≤ N → ∀ p ∈ ps, ∃ ds, p = .tuple ds ∧ BodG N ds
  | _, _, _, .cons (ds := ds) h r, N, hN, p, hp => by
    rcases List.mem_cons.mp hp with e | k
    · exact ⟨ds, e, h.bodG N hN⟩
    · exact r.bodG N hN p k
end
mutual
theorem RB.count : ∀ {n c : Nat} {ss : List PyData}, RB n ss c → ∀ N ar, (numsG N ss ar).length ≤ c
  | _, _, _, .nil, 0, _ => Nat.zero_le _
  | _, _, _, .nil, N + 1, _ => Nat.zero_le _
  | _, _, _, .cons hk h1 hz h2 hp r, 0, _ => Nat.zero_le _
  | _, _, _, .cons (c := c) (d := d) (w := w) (ns := ns) (ps := ps) hk h1 hz h2 hp r, N + 1, ar => by
    have k1 := r.count (N + 1) ar
    have k2 := hp.count N ar (mkS w ns ps) 0
    rw [numsG_S, List.flatMap_cons, List.length_append]
    rw [numsG_S] at k1
    have k3 : (oneGS N ar (mkS w ns ps)).length ≤ 1 + c := by
      show (_ :: ((partsG (mkS w ns ps)).zipIdx.flatMap (oneG N ar (mkS w ns ps)))).length ≤ _
      rw [partsG_of hk h1 h2 hp.isP, List.length_cons]
      omega
    omega
theorem RP.count : ∀ {n c : Nat} {ps : List PyData}, RP n ps c → ∀ N ar s i, ((ps.zipIdx i).flatMap (oneG N ar s)).length ≤ c
  | _, _, _, .nil, N, ar, s, i => Nat.zero_le _
  | _, _, _, .cons (ds := ds) h r, N, ar, s, i => by
    have k1 := r.count N ar s (i + 1)
    have k2 := h.count N (ar ++ [.tuple [wordOf s, .int (i : Nat)]])
    rw [List.zipIdx_cons, List.flatMap_cons, List.length_append]
    have k3 : (oneG N ar s (.tuple ds, i)).length = (numsG N ds (ar ++ [.tuple [wordOf s, .int (i : Nat)]])).length := rfl
    omega
end
theorem loop_rb {hd : Nat → Option (Str × List Str)} {prt : Str → Nat → Rd} {n : Nat} (h1 : ∀ a w ns, hd a = some (w, ns) → ∃ ks, (w, ks) ∈ ENT ∧ ns.length = (ks.filter np).length ∧ (List.zipWith readsB ns (ks.filter np)).all id = true) (h2 : ∀ w a1 ps a2, prt w a1 = .ok (ps, a2) → ∃ c, RP n ps c ∧ a1 + c ≤ a2 ∧ ps.length = npar w) :
    ∀ k a ss a2, rdLoop hd prt k a = .ok (ss, a2) → ∃ c, RB (n + 1) ss c ∧ a + c ≤ a2
  | 0, a, ss, a2, h => by
    cases h
    exact ⟨0, .nil, Nat.le_refl _⟩
  | k + 1, a, ss, a2, h => by
    cases q : hd a with
    | none =>
      rw [loop_none q] at h
      cases h
      exact ⟨0, .nil, Nat.le_refl _⟩
    | some wn =>
      obtain ⟨w, ns⟩ := wn
      cases q2 : prt w (a + 1) with
      | error l =>
        rw [loop_err q q2] at h
        cases h
      | ok pa =>
        obtain ⟨ps, a1⟩ := pa
        rw [loop_more q q2] at h
        cases q3 : rdLoop hd prt k a1 with
        | error l =>
          rw [q3] at h
          cases h
        | ok sa =>
          obtain ⟨s2, a3⟩ := sa
          rw [q3] at h
          cases h
          obtain ⟨ks, b1, b2, b3⟩ := h1 a w ns q
          obtain ⟨c, c1, c2, c3⟩ := h2 w _ _ _ q2
          obtain ⟨d, d1, d2⟩ := loop_rb h1 h2 k a1 s2 a2 q3
          exact ⟨1 + c + d, .cons b1 b2 b3 c3 c1 d1, by omega⟩
theorem pp_rb {ls : List Str} {mg w : Str} {inner : Nat → Rd} {n : Nat} (h : ∀ a ss a2, inner a = .ok (ss, a2) → ∃ c, RB n ss c ∧ a + c ≤ a2) {a0 : Nat} : ∀ j ps a, rdPP ls mg w inner a0 j = .ok (ps, a) → ∃ c, RP n ps c ∧ a0 + c ≤ a
  | 0, ps, a, q => by
    cases q
    exact ⟨0, .nil, Nat.le_refl _⟩
  | j + 1, ps, a, q => by
    unfold rdPP at q
    cases q1 : rdPP ls mg w inner a0 j with
    | error l =>
      rw [q1] at q
      cases q
    | ok pa =>
      obtain ⟨p0, a1⟩ := pa
      rw [q1] at q
      simp only at q
      split at q
      · cases q
      · cases q2 : inner (if j = 1 then a1 + 1 else a1) with
        | error l =>
          rw [q2] at q
          cases q
        | ok ba =>
          obtain ⟨b, a3⟩ := ba
          rw [q2] at q
          simp only at q
          cases q
          obtain ⟨c, c1, c2⟩ := pp_rb h j p0 a1 q1
          obtain ⟨d, d1, d2⟩ := h _ _ _ q2
          refine ⟨c + d, c1.app d1, ?_⟩
          split at d2 <;> omega
theorem rd_rb {ls : List Str} (hsh : Short ls) (hl : ls.length ≤ 100) : ∀ n, n ≤ 4 → ∀ a ss a2, rdPart ls n a = .ok (ss, a2) → ∃ c, RB n ss c ∧ a + c ≤ a2
  | 0, _, a, ss, a2, h => by
    cases h
    exact ⟨0, .nil, Nat.le_refl _⟩
  | n + 1, hn, a, ss, a2, h => by
    have ih := rd_rb hsh hl n (by omega)
    have io := rd_ok hsh hl n (by omega)
    have h' : rdLoop (fun a => rdHead (ls.getD a "") (mgn (4 - n))) (fun w a1 => rdPP ls (mgn (4 - n)) w (rdPart ls n) a1 (npar w)) (ls.length + 1) a = .ok (ss, a2) := h
    exact loop_rb (fun a w ns q => by
      obtain ⟨_, _, _, _, _, ks, r⟩ := rdHead_is q
      exact ⟨ks, r⟩) (fun w a1 ps a2 q => by
      obtain ⟨c, c1, c2⟩ := pp_rb ih _ _ _ q
      exact ⟨c, c1, c2, (pp_ok io _ _ _ q).2.1⟩) _ _ _ _ h'
/-- no line is read that is not there -/
theorem loop_end {hd : Nat → Option (Str × List Str)} {prt : Str → Nat → Rd} {N : Nat} (h1 : ∀ a w ns, hd a = some (w, ns) → a < N) (h2 : ∀ w a1 ps a2, a1 ≤ N → prt w a1 = .ok (ps, a2) → a2 ≤ N) : ∀ k a ss a2, a ≤ N → rdLoop hd prt k a = .ok (ss, a2) → a2 ≤ N
  | 0, a, ss, a2, ha, h => by
    cases h
    exact ha
  | k + 1, a, ss, a2, ha, h => by
    cases q : hd a with
    | none =>
      rw [loop_none q] at h
      cases h
      exact ha
    | some wn =>
      obtain ⟨w, ns⟩ := wn
      cases q2 : prt w (a + 1) with
      | error l =>
        rw [loop_err q q2] at h
        cases h
      | ok pa =>
        obtain ⟨ps, a1⟩ := pa
        rw [loop_more q q2] at h
        cases q3 : rdLoop hd prt k a1 with
        | error l =>
          rw [q3] at h
          cases h
        | ok sa =>
          obtain ⟨s2, a3⟩ := sa
          rw [q3] at h
          cases h
          have l1 := h1 a w ns q
          exact loop_end h1 h2 k a1 s2 a2 (h2 w _ _ _ (by omega) q2) q3

end K06
set_option Elab.async false
set_option linter.all false
set_option maxRecDepth 100000
set_option maxHeartbeats 8000000
namespace K06
open PySem PySem.Spec PyProof.Rows L2 He XH XV XR PEN TR Evl


theorem second_ne : ∀ w : Str, 1 ≤ (secondW w).length := by
  intro w
  unfold secondW
  split
  · decide +kernel
  · split
    · decide +kernel
    · split
      · decide +kernel
      · split <;> decide +kernel
theorem pp_end {ls : List Str} {mg w : Str} {inner : Nat → Rd} (h : ∀ a ss a2, a ≤ ls.length → inner a = .ok (ss, a2) → a2 ≤ ls.length) {a0 : Nat} (h0 : a0 ≤ ls.length) : ∀ j ps a, rdPP ls mg w inner a0 j = .ok (ps, a) → a ≤ ls.length
  | 0, ps, a, q => by
    cases q
    exact h0
  | j + 1, ps, a, q => by
    unfold rdPP at q
    cases q1 : rdPP ls mg w inner a0 j with
    | error l =>
      rw [q1] at q
      cases q
    | ok pa =>
      obtain ⟨p0, a1⟩ := pa
      rw [q1] at q
      simp only at q
      have b1 := pp_end h h0 j p0 a1 q1
      split at q
      · cases q
      · rename_i hc
        cases q2 : inner (if j = 1 then a1 + 1 else a1) with
        | error l =>
          rw [q2] at q
          cases q
        | ok ba =>
          obtain ⟨b, a3⟩ := ba
          rw [q2] at q
          simp only at q
          cases q
          refine h _ _ _ ?_ q2
          split
          · rename_i j1
            rcases Nat.lt_or_ge a1 ls.length with k | k
            · omega
            · exfalso
              refine hc ⟨j1, fun e => ?_⟩
              rw [List.getD_eq_getElem?_getD, List.getElem?_eq_none k] at e
              have l := congrArg Str.length e
              rw [app_len] at l
              have s := second_ne w
              have z : ((none : Option Str).getD ("" : Str)).length = 0 := by decide +kernel
              omega
          · exact b1
theorem rd_end {ls : List Str} : ∀ n, n ≤ 4 → ∀ a ss a2, a ≤ ls.length → rdPart ls n a = .ok (ss, a2) → a2 ≤ ls.length
  | 0, _, a, ss, a2, ha, h => by
    cases h
    exact ha
  | n + 1, hn, a, ss, a2, ha, h => by
    have ih := rd_end (ls := ls) n (by omega)
    have h' : rdLoop (fun a => rdHead (ls.getD a "") (mgn (4 - n))) (fun w a1 => rdPP ls (mgn (4 - n)) w (rdPart ls n) a1 (npar w)) (ls.length + 1) a = .ok (ss, a2) := h
    exact loop_end (fun a w ns q => head_in (by omega) q) (fun w a1 ps a2 h1 q => pp_end ih h1 _ _ _ q) _ _ _ _ ha h'
theorem rd_body {ls : List Str} (hsh : Short ls) (hl : ls.length ≤ 100) {a a2 : Nat} {ss : List PyData} (ha : a ≤ ls.length) (h : rdPart ls 4 a = .ok (ss, a2)) : BodTG ss ∧ a ≤ a2 ∧ a2 ≤ ls.length := by
  obtain ⟨c1, c2, c3⟩ := rd_ok hsh hl 4 (by decide) a ss a2 h
  obtain ⟨c, d1, d2⟩ := rd_rb hsh hl 4 (by decide) a ss a2 h
  have e := rd_end 4 (by decide) a ss a2 ha h
  have t : Tt 9 (.tuple ss) := .tup c2 c3
  have up : ∀ k, Tt (9 + k) (.tuple ss) := fun k => by
    induction k with
    | zero => exact t
    | succ k ih => exact ih.up
  have cnt := d1.count NB []
  exact ⟨⟨up 41, d1.bodG NB (by decide), by omega⟩, c1, e⟩
def rdFns (ls : List Str) : Nat → Nat → Except Nat (List (Str × List PyData))
  | 0, _ => .ok []
  | k + 1, a => if a < ls.length then match rdName (ls.getD a "") with
      | none => .error (a + 1)
      | some z => match rdPart ls 4 (a + 1) with
        | .error l => .error l
        | .ok (ss, a2) => match rdFns ls k a2 with
          | .error l => .error l
          | .ok r => .ok ((z, ss) :: r)
    else .ok []
def addF (pre : List (Str × List PyData)) : Except Nat (List (Str × List PyData)) → Except Nat (List (Str × List PyData))
  | .error l => .error l
  | .ok r => .ok (pre ++ r)
theorem addF_nil : ∀ r, addF [] r = r
  | .error _ => rfl
  | .ok _ => rfl
theorem addF_app (p q : List (Str × List PyData)) : ∀ r, addF p (addF q r) = addF (p ++ q) r
  | .error _ => rfl
  | .ok r => by
    show Except.ok (p ++ (q ++ r)) = Except.ok (p ++ q ++ r)
    rw [List.append_assoc]
section
variable {ls : List Str} {k a a2 l : Nat} {z : Str} {ss : List PyData}
theorem fns_stop (h : ¬ a < ls.length) : rdFns ls k a = .ok [] := by
  cases k with
  | zero => rfl
  | succ k =>
    unfold rdFns
    rw [if_neg h]
theorem fns_bad (h : a < ls.length) (h1 : rdName (ls.getD a "") = none) : rdFns ls (k + 1) a = .error (a + 1) := by
  unfold rdFns
  rw [if_pos h, h1]
theorem fns_err (h : a < ls.length) (h1 : rdName (ls.getD a "") = some z) (h2 : rdPart ls 4 (a + 1) = .error l) : rdFns ls (k + 1) a = .error l := by
  unfold rdFns
  rw [if_pos h, h1]
  simp only
  rw [h2]
theorem fns_more (h : a < ls.length) (h1 : rdName (ls.getD a "") = some z) (h2 : rdPart ls 4 (a + 1) = .ok (ss, a2)) : rdFns ls (k + 1) a = addF [(z, ss)] (rdFns ls k a2) := by
  rw [rdFns, if_pos h, h1]
  simp only
  rw [h2]
  simp only
  cases rdFns ls k a2 with
  | error l => rfl
  | ok r => rfl
end
/-- what a code's lines tell: the first line that is wrong, or the code -/
inductive RdC (ls : List Str) : Except Nat (List Str × List Str × Str × List (Str × List PyData)) → Prop
  | c (h : rdHeading (ls.getD 0 "") "cells" = none) : RdC ls (.error 1)
  | r {cs : List Str} (h : rdHeading (ls.getD 0 "") "cells" = some cs) (h1 : rdHeading (ls.getD 1 "") "rows" = none) : RdC ls (.error 2)
  | s {cs rs : List Str} (h : rdHeading (ls.getD 0 "") "cells" = some cs) (h1 : rdHeading (ls.getD 1 "") "rows" = some rs) (h2 : rdHeading (ls.getD 2 "") "start" = none) : RdC ls (.error 3)
  | t {cs rs sts : List Str} (h : rdHeading (ls.getD 0 "") "cells" = some cs) (h1 : rdHeading (ls.getD 1 "") "rows" = some rs) (h2 : rdHeading (ls.getD 2 "") "start" = some sts) (h3 : sts.length ≠ 1) : RdC ls (.error 3)
  | f {cs rs : List Str} {st : Str} {l : Nat} (h : rdHeading (ls.getD 0 "") "cells" = some cs) (h1 : rdHeading (ls.getD 1 "") "rows" = some rs) (h2 : rdHeading (ls.getD 2 "") "start" = some [st]) (h3 : rdFns ls (ls.length + 1) 3 = .error l) : RdC ls (.error l)
  | ok {cs rs : List Str} {st : Str} {fns : List (Str × List PyData)} (h : rdHeading (ls.getD 0 "") "cells" = some cs) (h1 : rdHeading (ls.getD 1 "") "rows" = some rs) (h2 : rdHeading (ls.getD 2 "") "start" = some [st]) (h3 : rdFns ls (ls.length + 1) 3 = .ok fns) : RdC ls (.ok (cs, rs, st, fns))
def spRead6 (K : PySem.W.Frag) : Sp := fun vs H Q E => ∃ (x : Str) (ls : List Str), vs = [.str x] ∧ x.length ≤ 200000 ∧ Txt.split x nl = ls ∧ Short ls ∧ ls.length ≤ 100 ∧ (∀ l, RdC ls (.error l) → BadT K E l H) ∧
  (∀ cs rs st fns, RdC ls (.ok (cs, rs, st, fns)) → Names cs rs (fns.map (·.1)) st → firstF cs rs (fns.map (·.1)) (fns.map (·.2)) = none → (∀ ss ∈ fns.map (·.2), BodTG ss) → ∀ a c r f fos H', Ex H H' → Cd K H' a c r f cs rs (fns.map (·.1)) st fos (fns.map (·.2)) → Q (.ref a) H') ∧
  (∀ o, RdC ls (.ok o) → ∀ d y z H', Ex H H' → H' d = some (.xd [("number", y), ("function", z)]) → E (.ref (ga K "BadCode")) (some d) H') ∧
  (∀ o, RdC ls (.ok o) → ∀ H', Ex H H' → E (.ref (ga K "TooGreat")) none H')
theorem heading_names {line w : Str} {zs : List Str} (h : rdHeading line w = some zs) : zs.all goodN = true := by
  unfold rdHeading at h
  split at h
  · cases h
  · split at h
    · rename_i hc
      cases h
      have k := hc.2
      rw [List.all_map] at k
      exact k
    · cases h
theorem name_good {line z : Str} (h : rdName line = some z) : goodN z = true := by
  unfold rdName at h
  split at h
  · rename_i hc
    cases h
    exact hc.2
  · cases h
theorem good_short {z : Str} (h : goodN z = true) : z.length ≤ 12 := (good_let h).2.2

end K06
set_option Elab.async false
set_option linter.all false
set_option maxRecDepth 100000
set_option maxHeartbeats 8000000
namespace K06
open PySem PySem.Spec PyProof.Rows L2 He XH XV XR PEN TR Evl

section
variable {P : Program} {w : World} {K : PySem.W.Frag} {mg : Str → Option Value} {base : Heap}

theorem ok_read_code {fd : FuncData} (F : FnP K "read_code" "read_code" s_read_code (ga K "read_code") fd) (T : Td K w mg) (c_read_heading : Cl P w K mg base (L2.CX P w) 3 (ga K "read_heading") ["lines", "at", "word"] (spRHead K)) (c_read_name : Cl P w K mg base (L2.CX P w) 3 (ga K "read_name") ["lines", "at"] (spRName K)) (c_read_part : Cl P w K mg base (L2.CX P w) 12 (ga K "read_part") ["lines", "at", "margin"] (spPart3 K 4)) (c_Function_init : Cl P w K mg base CX0 52 (ma K (ga K "Function") "__init__") ["self", "name", "body"] (spFIG K)) (c_Code_init : Cl P w K mg base (L2.CX P w) 53 (ma K (ga K "Code") "__init__") ["self", "cells", "rows", "functions", "start"] (spCI6 K)) (c_BadText_init : Cl P w K mg base CX0 1 (ma K (ga K "BadText") "__init__") ["self", "line"] (spI1 K (ga K "BadText") "line")) : FnOk P w K mg base (L2.CX P w) (59 + 1) (ga K "read_code") fd ["text"] (spRead6 K) := by
  obtain ⟨fd_read_heading, G_read_heading, b_read_heading, kp_read_heading⟩ := c_read_heading
  obtain ⟨fd_read_name, G_read_name, b_read_name, kp_read_name⟩ := c_read_name
  obtain ⟨fd_read_part, G_read_part, b_read_part, kp_read_part⟩ := c_read_part
  obtain ⟨fd_Function_init, G_Function_init, b_Function_init, kp_Function_init⟩ := c_Function_init
  obtain ⟨fd_Code_init, G_Code_init, b_Code_init, kp_Code_init⟩ := c_Code_init
  obtain ⟨fd_BadText_init, G_BadText_init, b_BadText_init, kp_BadText_init⟩ := c_BadText_init
  refine FunD.ok F sc_read_code (fun vs H Q E h => ?_) (fun cdv A outer s H vs Q E hr h => ?_)
  · obtain ⟨x, ls, rfl, _⟩ := h
    rfl
  · obtain ⟨x, ls, rfl, hx, esp, hsh, hlen, kb, kk, kB, kG⟩ := h
    have g_read_heading := T.gl "read_heading" (by decide +kernel)
    have n_len := T.fr "len" (by decide +kernel)
    have g_BadText := T.gl "BadText" (by decide +kernel)
    have g_read_name := T.gl "read_name" (by decide +kernel)
    have g_read_part := T.gl "read_part" (by decide +kernel)
    obtain ⟨tk_STEP, g_STEP⟩ := T.c_STEP
    have g_Function := T.gl "Function" (by decide +kernel)
    have g_Code := T.gl "Code" (by decide +kernel)
    refine ⟨_, (pss_cons (ps_set (i := 1) sc_read_code.nd rfl (Or.inl rfl) (pe_split (pv 0) pe_str))
      (pss_cons (ps_set (i := 2) sc_read_code.nd rfl (Or.inl rfl) (pe_call G_read_heading (hr.mono (by decide)) (by rfl) g_read_heading kp_read_heading b_read_heading .nil (passes_call (takes_of rfl rfl rfl rfl) (fun _ _ _ _ h => h)) (pa_cons (pv 1) (pa_cons pe_int (pa_cons pe_str pa_nil)))))
      (pss_cons (ps_set (i := 3) sc_read_code.nd rfl (Or.inl rfl) (pe_call G_read_heading (hr.mono (by decide)) (by rfl) g_read_heading kp_read_heading b_read_heading .nil (passes_call (takes_of rfl rfl rfl rfl) (fun _ _ _ _ h => h)) (pa_cons (pv 1) (pa_cons pe_int (pa_cons pe_str pa_nil)))))
      (pss_cons (ps_set (i := 4) sc_read_code.nd rfl (Or.inl rfl) (pe_call G_read_heading (hr.mono (by decide)) (by rfl) g_read_heading kp_read_heading b_read_heading .nil (passes_call (takes_of rfl rfl rfl rfl) (fun _ _ _ _ h => h)) (pa_cons (pv 1) (pa_cons pe_int (pa_cons pe_str pa_nil)))))
      (pss_cons (ps_if (pt_cmpR op_ne (pe_callB call_len_seq (by rfl) n_len (by decide +kernel) (pa_cons (pv 4) pa_nil)) pe_int (nomark _))
      (pss_one (ps_raise rfl (takes_of rfl rfl rfl rfl) (pmk_oex T.bt.ox T.bt.iC T.bt.tI G_BadText_init (hr.mono (by decide)) b_BadText_init .nil pass0 (by rfl) g_BadText (pa_cons pe_int pa_nil))))
      pss_nil)
      (pss_cons (ps_set (i := 5) sc_read_code.nd rfl (Or.inl rfl) (pe_lst pa_nil))
      (pss_cons (ps_set (i := 6) sc_read_code.nd rfl (Or.inl rfl) pe_int)
      (pss_cons (ps_while (passes_of rfl) (pt_cmpR op_lt (pv 6) (pe_callB call_len_seq (by rfl) n_len (by decide +kernel) (pa_cons (pv 1) pa_nil)) (nomark _))
      (pss_cons (ps_set (i := 7) sc_read_code.nd rfl (Or.inl rfl) (pe_call G_read_name (hr.mono (by decide)) (by rfl) g_read_name kp_read_name b_read_name .nil (passes_call (takes_of rfl rfl rfl rfl) (fun _ _ _ _ h => h)) (pa_cons (pv 1) (pa_cons (pv 6) pa_nil))))
      (pss_cons (ps_asg (pe_call G_read_part (hr.mono (by decide)) (by rfl) g_read_part kp_read_part b_read_part .nil (passes_call (takes_of rfl rfl rfl rfl) (fun _ _ _ _ h => h)) (pa_cons (pv 1) (pa_cons (pe_op op_add (pv 6) pe_int) (pa_cons (pe_glob (v := .str _) (by rfl) g_STEP ⟨_, rfl⟩) pa_nil)))) (pg_tup rfl (pgs_cons (pg_name (i := 8) sc_read_code.nd rfl (Or.inl rfl)) (pgs_cons (pg_name (i := 6) sc_read_code.nd rfl (Or.inl rfl)) pgs_nil))))
      (pss_one (ps_expr (pe_bm PySem.F.plainAttrs_list PySem.F.slot_list_append PySem.F.type_list_append mt_append (pv 5) (pa_cons (pe_make T.mf G_Function_init (hr.mono (by decide)) (by rfl) g_Function b_Function_init .nil pass0 (pa_cons (pv 7) (pa_cons (pv 8) pa_nil))) pa_nil)))))))
      (pss_one (ps_ret (pe_make T.mc G_Code_init (hr.mono (by decide)) (by rfl) g_Code b_Code_init .nil (passes_call (takes_of rfl rfl rfl rfl) (fun _ _ _ _ h => h)) (pa_cons (pv 2) (pa_cons (pv 3) (pa_cons (pv 5) (pa_cons (pe_ix ix_list (pv 4) pe_int (fun _ _ => rfl)) pa_nil))))))))))))))), ?_⟩
    refine ⟨.str x, rfl, ⟨_, rfl⟩, _, nl, rfl, rfl, rfl, (by rw [sizeLine_eq]; omega), fun l hl => ?_⟩
    rw [esp]
    have e1 := Ex.new (o := .lst (ls.map V.str)) hl
    have gl : upd H l (.lst (ls.map V.str)) l = some (.lst (ls.map V.str)) := upd_same
    generalize upd H l (.lst (ls.map V.str)) = H1 at e1 gl
    try dsimp only [gName, List.set]
    refine ⟨.ref l, rfl, l, ls, 0, "cells", rfl, gl, hsh, by decide +kernel, fun cs h0 qc H2 hqc e2 gc => ?_, fun h0 => BadT.mono e1 (kb 1 (.c h0))⟩
    try dsimp only [gName, List.set]
    refine ⟨.ref l, rfl, l, ls, 1, "rows", rfl, e2 _ _ gl, hsh, by decide +kernel, fun rs h1 qr H3 hqr e3 gr => ?_, fun h1 => BadT.mono (e1.trans e2) (kb 2 (.r h0 h1))⟩
    try dsimp only [gName, List.set]
    refine ⟨.ref l, rfl, l, ls, 2, "start", rfl, e3 _ _ (e2 _ _ gl), hsh, by decide +kernel, fun sts h2 qs H4 hqs e4 gs => ?_, fun h2 => BadT.mono (e1.trans (e2.trans e3)) (kb 3 (.s h0 h1 h2))⟩
    try dsimp only [gName, List.set]
    have e14 := e1.trans (e2.trans (e3.trans e4))
    refine q_when (b := !decide ((((sts.map V.str).length : Nat) : Int) = 1)) (et_test (ev_op (ev_len (K := K) (ev_var rfl) (sq_of gs)) ev_c rv_neII)) (fun hb H5 e5 => ?_) (fun hb H5 e5 => ?_)
    · rw [Bool.not_eq_true', List.length_map] at hb
      have hne := of_decide_eq_false hb
      exact bt_made T.bt.ox (T.bt.no "line" (by decide)) (ea_cons ev_c ea_nil) fun d H6 e6 hd => kb 3 (.t h0 h1 h2 (by omega)) d H6 ((e14.trans e5).trans e6) hd
    rw [Bool.not_eq_false', List.length_map] at hb
    have hone := of_decide_eq_true hb
    obtain ⟨st, rfl⟩ : ∃ st, sts = [st] := by
      match sts, hone with
      | [st], _ => exact ⟨st, rfl⟩
    have gl5 := e5 _ _ (e4 _ _ (e3 _ _ (e2 _ _ gl)))
    have gc5 := e5 _ _ (e4 _ _ (e3 _ _ gc))
    have gr5 := e5 _ _ (e4 _ _ gr)
    have gs5 := e5 _ _ gs
    have e15 := e14.trans e5
    clear e1 e2 e3 e4 e5 e14 gl gc gr gs hqc hqr hqs
    have hcs := heading_names h0
    have hrs := heading_names h1
    refine q_asgL (el_lst ea_nil (by decide)) fun D H6 hD e6 g6 => ?_
    try dsimp only [gName, List.set]
    refine q_asg (v := .int 3) ev_c fun H7 e7 => ?_
    try dsimp only [gName, List.set]
    refine q_while (fun m' σ' H' => ∃ (k a : Nat) (pre : List (Str × List PyData)) (fos : List Addr) (v7 v8 : Option V), k + pre.length = ls.length + 1 ∧ ls.length < k + a ∧ rdFns ls (ls.length + 1) 3 = addF pre (rdFns ls k a) ∧ m' = k ∧ σ' = [some (.str x), some (.ref l), some (.ref qc), some (.ref qr), some (.ref qs), some (.ref D), some (.int (a : Nat)), v7, v8] ∧ H' D = some (.lst (fos.map V.ref)) ∧ fos.length = pre.length ∧ (∀ (i : Nat) (f : Addr) (z : Str) (ss : List PyData), fos[i]? = some f → pre[i]? = some (z, ss) → Fn K H' f z ss) ∧ Ex H5 H' ∧ ∀ p ∈ pre, BodTG p.2 ∧ goodN p.1 = true) (ls.length + 1)
      ⟨ls.length + 1, 3, [], [], none, none, rfl, by omega, by rw [addF_nil], rfl, rfl, e7 _ _ g6, rfl, (fun i f z ss h => nomatch h), e6.trans e7, fun p hp => nomatch hp⟩ (fun m' σ' H' hW => ?_)
    obtain ⟨k0, a, pre, fos, v7, v8, hk1, hk2, hR, rfl, rfl, gD, hfl, hFn, eH, hpre⟩ := hW
    have tst : ∀ {b : Bool}, decide (((a : Nat) : Int) < ((ls.map V.str).length : Nat)) = b → EvT (tTest (tOp (rI0 fun i j => .bl (decide (i < j))) (tVar 6) (tCB (rLenS K) (tCons (tVar 1) tNil)))) [some (.str x), some (.ref l), some (.ref qc), some (.ref qr), some (.ref qs), some (.ref D), some (.int (a : Nat)), v7, v8] H' b := fun h => et_is (et_test (ev_op (ev_var rfl) (ev_len (K := K) (ev_var rfl) (sq_of (eH _ _ gl5))) rv_I0)) h
    rcases Nat.lt_or_ge a ls.length with hal | hal
    · obtain ⟨k1, rfl⟩ : ∃ k1, m' = k1 + 1 := ⟨m' - 1, by omega⟩
      refine ⟨true, tst (decide_eq_true (by rw [List.length_map]; omega)), fun _ H8 e8 => ?_, (fun h => nomatch h)⟩
      refine ⟨fun σ' H' => ∃ (a : Nat) (pre : List (Str × List PyData)) (fos : List Addr) (v7 v8 : Option V), k1 + pre.length = ls.length + 1 ∧ ls.length < k1 + a ∧ rdFns ls (ls.length + 1) 3 = addF pre (rdFns ls k1 a) ∧ σ' = [some (.str x), some (.ref l), some (.ref qc), some (.ref qr), some (.ref qs), some (.ref D), some (.int (a : Nat)), v7, v8] ∧ H' D = some (.lst (fos.map V.ref)) ∧ fos.length = pre.length ∧ (∀ (i : Nat) (f : Addr) (z : Str) (ss : List PyData), fos[i]? = some f → pre[i]? = some (z, ss) → Fn K H' f z ss) ∧ Ex H5 H' ∧ ∀ p ∈ pre, BodTG p.2 ∧ goodN p.1 = true, fun σ' H' h => ?_, ?_⟩
      · obtain ⟨a, pre, fos, v7, v8, h1, h2, h3, h4⟩ := h
        exact ⟨k1, Nat.lt_succ_self _, k1, a, pre, fos, v7, v8, h1, h2, h3, rfl, h4⟩
      have e58 := eH.trans e8
      have gD8 := e8 _ _ gD
      try dsimp only [gName, List.set]
      refine ⟨.ref l, rfl, .int (a : Nat), rfl, l, ls, a, rfl, e58 _ _ gl5, hsh, hal, fun y hy H9 e9 => ?_, fun hy => BadT.mono (e15.trans e58) (kb (a + 1) (.f h0 h1 h2 (by rw [hR, fns_bad hal hy]; rfl)))⟩
      try dsimp only [gName, List.set]
      refine ⟨.ref l, rfl, .int (a : Nat), rfl, (a : Nat), 1, rfl, rfl, l, ls, a + 1, (by rw [show (5 - 4 : Nat) = 1 from rfl, mgn_one]; rfl), e9 _ _ (e58 _ _ gl5), hsh, hlen, by decide, fun ss a2 hp t b H10 e10 ht db => ?_, fun l2 hp => BadT.mono ((e15.trans e58).trans e9) (kb l2 (.f h0 h1 h2 (by rw [hR, fns_err hal hy hp]; rfl)))⟩
      obtain ⟨hbd, ha1, ha2⟩ := rd_body hsh hlen (by omega) hp
      refine ⟨t, [.ref b, .int (a2 : Nat)], rfl, ht, rfl, .ref b, [.int (a2 : Nat)], rfl, .int (a2 : Nat), [], rfl, rfl, ?_⟩
      try dsimp only [gName, List.set]
      have e810 := e9.trans e10
      refine ⟨.ref D, rfl, .inl ⟨rfl, _, sq_of (e810 _ _ gD8)⟩, .str y, rfl, .ref b, rfl, fun xx dx hxx hdx hne => ?_⟩
      have hx2 : upd H10 dx (.own xx) xx = none := (upd_ne (Ne.symm hne)).trans hxx
      have a5 : Ex H10 (upd (upd H10 dx (.own xx)) xx (.ins (ga K "Function") dx [])) := (Ex.new hdx).trans (Ex.new hx2)
      refine ⟨xx, y, b, ss, dx, rfl, upd_same, dpM a5 _ _ db, hbd, fun H11 x11 hFx => ⟨rfl, ?_⟩⟩
      have a7 : Ex H10 H11 := Xa.new a5 hxx x11
      have e811 := e810.trans a7
      have hDl := e811 _ _ gD8
      have fnu : ∀ {f : Addr} {z : Str} {ss : List PyData}, BodTG ss → Fn K H11 f z ss → Fn K (upd H11 D (.lst (fos.map V.ref ++ [.ref xx]))) f z ss := by
        intro f z ss hm hf
        obtain ⟨dx2, b, n, g1, g2⟩ := hf
        refine ⟨dx2, b, n, (upd_ne ?_).trans g1, dp_off hDl hm.1 g2⟩
        rintro rfl
        rw [hDl] at g1
        cases g1
      refine ⟨D, fos.map V.ref, .ref xx, rfl, rfl, hDl, ?_, a2, pre ++ [(y, ss)], fos ++ [xx], some (.str y), some (.ref b), by rw [List.length_append]; show k1 + (pre.length + 1) = _; omega, by omega, by rw [hR, fns_more hal hy hp, addF_app], rfl, ?_, by rw [List.length_append, List.length_append, hfl]; rfl, ?_, (e58.trans e811).mut hD, fun p hp2 => ?_⟩
      · rw [List.length_map]
        exact small1000 (by omega)
      · rw [upd_same, List.map_append]
        rfl
      · intro j f z s2 hj hz2
        rcases Nat.lt_or_ge j fos.length with h | h
        · rw [List.getElem?_append_left h] at hj
          rw [List.getElem?_append_left (by omega)] at hz2
          exact fnu (hpre _ (List.mem_of_getElem? hz2)).1 ((hFn j f z s2 hj hz2).mono (e8.trans e811))
        · rw [List.getElem?_append_right h] at hj
          rw [List.getElem?_append_right (by omega)] at hz2
          have j0 : j - fos.length = 0 := by
            rcases Nat.eq_zero_or_pos (j - fos.length) with y0 | y0
            · exact y0
            · rw [List.getElem?_eq_none (show [xx].length ≤ j - fos.length from y0)] at hj
              cases hj
          rw [j0] at hj
          rw [← hfl, j0] at hz2
          cases hj
          cases hz2
          exact fnu hbd hFx
      · rcases List.mem_append.mp hp2 with h | h
        · exact hpre p h
        · rw [List.mem_singleton.mp h]
          exact ⟨hbd, name_good hy⟩
    · refine ⟨false, tst (decide_eq_false (by rw [List.length_map]; omega)), (fun h => nomatch h), fun _ H8 e8 => ?_⟩
      have hR2 : rdFns ls (ls.length + 1) 3 = .ok pre := by
        rw [hR, fns_stop (by omega)]
        show Except.ok (pre ++ []) = _
        rw [List.append_nil]
      have hok := RdC.ok h0 h1 h2 hR2
      have e58 := eH.trans e8
      have hFs : Fns K H8 fos (pre.map (·.1)) (pre.map (·.2)) := ⟨by rw [List.length_map, hfl], by rw [List.length_map, List.length_map], fun i f z ss g1 g2 g3 => by
        rw [List.getElem?_map] at g2 g3
        cases q : pre[i]? with
        | none =>
          rw [q] at g2
          cases g2
        | some p =>
          rw [q] at g2 g3
          cases g2
          cases g3
          exact (hFn i f p.1 p.2 g1 q).mono e8⟩
      refine ⟨.ref qc, rfl, .ref qr, rfl, .ref D, rfl, .ref qs, rfl, qs, _, 0, .str st, rfl, rfl, sq_of (e58 _ _ gs5), atI_nat (j := 0) rfl, fun xx dx hxx hdx hne => ?_⟩
      have hx2 : upd H8 dx (.own xx) xx = none := (upd_ne (Ne.symm hne)).trans hxx
      have a3 := (Ex.new (o := .own xx) hdx).trans (Ex.new (o := .ins (ga K "Code") dx []) hx2)
      have hBd : ∀ ss ∈ pre.map (·.2), BodTG ss := fun ss hs => by
        obtain ⟨p, hp, rfl⟩ := List.mem_map.mp hs
        exact (hpre p hp).1
      refine ⟨xx, qc, qr, D, cs, rs, pre.map (·.1), st, fos, pre.map (·.2), dx, rfl, upd_same, a3 _ _ (e58 _ _ gc5), a3 _ _ (e58 _ _ gr5), a3 _ _ (e8 _ _ gD), hFs.mono a3, fun z hz => ?_, hBd, fun hNm hff u1 u2 u3 H9 x9 hC => ⟨rfl, kk cs rs st pre hok hNm hff hBd xx u1 u2 u3 fos H9 ((e15.trans e58).trans (Xa.new a3 hxx x9)) hC⟩, fun d y z H9 x9 hd => kB _ hok d y z H9 ((e15.trans e58).trans (Xa.new a3 hxx x9)) hd, fun H9 x9 => kG _ hok H9 ((e15.trans e58).trans (Xa.new a3 hxx x9))⟩
      rcases List.mem_append.mp hz with hz | hz
      · rcases List.mem_append.mp hz with hz | hz
        · exact Nat.le_trans (good_short (List.all_eq_true.mp hcs z hz)) (by decide)
        · exact Nat.le_trans (good_short (List.all_eq_true.mp hrs z hz)) (by decide)
      · obtain ⟨p, hp, rfl⟩ := List.mem_map.mp hz
        exact Nat.le_trans (good_short (hpre p hp).2) (by decide)

end
end K06
set_option Elab.async false
set_option linter.all false
set_option maxRecDepth 100000
set_option maxHeartbeats 8000000
namespace K06
open PySem PySem.Spec PyProof.Rows L2 He XH XV XR PEN TR Evl


/-! ### what is read and holds can be written -/
theorem scan_items {cs rs fs : List Str} : ∀ {L : List (PyData × List PyData)} {k : Nat}, scanG cs rs fs k L = none → ∀ j q', L[j]? = some q' → itemF cs rs fs (k + j) q' = none
  | [], _, _, j, q', h => nomatch h
  | q0 :: r, k, h, j, q', hq => by
    unfold scanG at h
    cases q : itemF cs rs fs k q0 with
    | some f =>
      rw [q] at h
      cases h
    | none =>
      rw [q] at h
      match j, hq with
      | 0, hq =>
        cases hq
        exact q
      | j + 1, hq =>
        have z := scan_items (L := r) h j q' hq
        rwa [show k + 1 + j = k + (j + 1) by omega] at z
theorem item_wf {cs rs fs : List Str} {k : Nat} {q : PyData × List PyData} (h : itemF cs rs fs k q = none) : k ≠ 14 ∧ wfB cs rs fs q.1 = true := by
  unfold itemF at h
  split at h
  · cases h
  · rename_i h14
    split at h
    · cases h
    · rename_i hb
      refine ⟨h14, ?_⟩
      cases z : wfB cs rs fs q.1 with
      | true => rfl
      | false =>
        rw [z] at hb
        exact absurd rfl hb
theorem scan_few {cs rs fs : List Str} {L : List (PyData × List PyData)} (h : scanG cs rs fs 0 L = none) : L.length ≤ 14 := by
  rcases Nat.lt_or_ge 14 L.length with c | c
  · have z := scan_items h 14 _ (List.getElem?_eq_getElem c)
    exact absurd rfl (item_wf z).1
  · exact c
theorem wfB_wf {cs rs fs : List Str} {w : Str} {ks ns : List Str} {ps : List PyData} (hk : (w, ks) ∈ ENT) (h1 : ns.length = (ks.filter np).length) (h2 : ps.length = npar w) (h : wfB cs rs fs (mkS w ns ps) = true) : Wf cs rs fs (mkS w ns ps) := by
  have q := kof_ent _ hk
  simp only at q
  have al := args_len hk h1 h2
  have h' : (match kof w with
    | some ks => decide ((ns.map PyData.str ++ ps).length = ks.length) && (((ns.map PyData.str ++ ps).zip ks).all fun p => fitsB cs rs fs p.2 p.1)
    | none => false) = true := h
  rw [q] at h'
  simp only at h'
  rw [Bool.and_eq_true] at h'
  refine ⟨w, ks, ns.map PyData.str ++ ps, rfl, hk, al, fun i k x hi hx => ?_⟩
  have m : (x, k) ∈ (ns.map PyData.str ++ ps).zip ks := List.mem_of_getElem? (i := i) (by rw [List.getElem?_zip_eq_some]; exact ⟨hx, hi⟩)
  have z := List.all_eq_true.mp h'.2 (x, k) m
  simp only at z
  unfold fitsB at z
  unfold fitsP
  split
  · rename_i e
    rw [if_pos e] at z
    exact z
  · rename_i e
    rw [if_neg e] at z
    cases x with
    | str y => exact ⟨y, rfl, of_decide_eq_true z⟩
    | tuple _ => cases z
    | none => cases z
    | bool _ => cases z
    | int _ => cases z
    | list _ => cases z
    | dict _ => cases z
theorem parts_mk {w : Str} {ns : List Str} {ps : List PyData} (h : ∀ p ∈ ps, isP p = true) : parts (mkS w ns ps) = ps := by
  show (ns.map PyData.str ++ ps).filter isP = ps
  rw [List.filter_append, List.filter_eq_nil_iff.mpr (fun x hx => by
    obtain ⟨z, _, rfl⟩ := List.mem_map.mp hx
    simp [isP]), List.filter_eq_self.mpr h]
  rfl
theorem fm_mk (f : PyData → Option Str) (h1 : ∀ z, f (.str z) = some z) (h2 : ∀ x, isP x = true → f x = none) {ps : List PyData} (h : ∀ p ∈ ps, isP p = true) : ∀ ns : List Str, (ns.map PyData.str ++ ps).filterMap f = ns
  | [] => by
    show ps.filterMap f = []
    rw [List.filterMap_eq_nil_iff]
    exact fun x hx => h2 x (h x hx)
  | z :: r => by
    show (PyData.str z :: (r.map PyData.str ++ ps)).filterMap f = z :: r
    rw [List.filterMap_cons, h1, fm_mk f h1 h2 h r]
theorem strsD_mk {w : Str} {ns : List Str} {ps : List PyData} (h : ∀ p ∈ ps, isP p = true) : strsD (mkS w ns ps) = ns :=
  fm_mk _ (fun _ => rfl) (fun x hx => by
    cases x with
    | tuple _ => rfl
    | none => rfl
    | bool _ => rfl
    | int _ => rfl
    | str _ => cases hx
    | list _ => rfl
    | dict _ => rfl) h ns
mutual
theorem RB.lb {cs rs os : List Str} : ∀ {n c : Nat} {ss : List PyData}, RB n ss c → ∀ N ar, n ≤ N → (∀ q ∈ numsG N ss ar, wfB cs rs os q.1 = true) → LB cs rs os n ss
  | 0, _, _, .nil, _, _, _, _ => rfl
  | n + 1, _, _, .nil, _, _, _, _ => fun s hs => nomatch hs
  | n + 1, _, _, .cons (w := w) (ns := ns) (ps := ps) (ss := r0) hk h1 hz h2 hp r, N + 1, ar, hN, hq => fun s hs => by
    have hsub : ∀ q ∈ oneGS N ar (mkS w ns ps), wfB cs rs os q.1 = true := fun q h => hq q (by
      rw [numsG_S, List.flatMap_cons]
      exact List.mem_append_left _ h)
    rcases List.mem_cons.mp hs with e | k
    · rw [e]
      refine ⟨wfB_wf hk h1 h2 (hsub (mkS w ns ps, ar) List.mem_cons_self), fun p hpm => ?_⟩
      rw [parts_mk hp.isP] at hpm
      refine hp.lb N ar (mkS w ns ps) 0 (by omega) (fun q h => hsub q ?_) p hpm
      show q ∈ _ :: ((partsG (mkS w ns ps)).zipIdx.flatMap (oneG N ar (mkS w ns ps)))
      rw [partsG_of hk h1 h2 hp.isP]
      exact List.mem_cons_of_mem _ h
    · exact r.lb (N + 1) ar hN (fun q h => hq q (by
        rw [numsG_S, List.flatMap_cons]
        rw [numsG_S] at h
        exact List.mem_append_right _ h)) s k
theorem RP.lb {cs rs os : List Str} : ∀ {n c : Nat} {ps : List PyData}, RP n ps c → ∀ N ar s i, n ≤ N → (∀ q ∈ (ps.zipIdx i).flatMap (oneG N ar s), wfB cs rs os q.1 = true) → ∀ p ∈ ps, ∃ ds, p = .tuple ds ∧ LB cs rs os n ds
  | n, _, _, .cons (ds := ds) h r, N, ar, s, i, hN, hq, p, hp => by
    rw [List.zipIdx_cons, List.flatMap_cons] at hq
    rcases List.mem_cons.mp hp with e | k
    · exact ⟨ds, e, h.lb N (ar ++ [PyData.tuple [wordOf s, PyData.int (i : Nat)]]) hN fun q hm => hq q (List.mem_append_left _ (show q ∈ oneG N ar s (.tuple ds, i) from hm))⟩
    · exact r.lb N ar s (i + 1) hN (fun q hm => hq q (List.mem_append_right _ hm)) p k
end
mutual
theorem RB.cnt : ∀ {n c : Nat} {ss : List PyData}, RB n ss c → ∀ N ar, n ≤ N → cnt n ss = (numsG N ss ar).length
  | 0, _, _, .nil, 0, _, _ => rfl
  | 0, _, _, .nil, N + 1, _, _ => rfl
  | n + 1, _, _, .nil, N + 1, _, _ => rfl
  | n + 1, _, _, .cons (w := w) (ns := ns) (ps := ps) (ss := r0) hk h1 hz h2 hp r, N + 1, ar, hN => by
    have k1 := r.cnt (N + 1) ar hN
    have k2 := hp.cnt N ar (mkS w ns ps) 0 (by omega)
    rw [numsG_S, List.flatMap_cons, List.length_append]
    rw [numsG_S] at k1
    have k3 : (oneGS N ar (mkS w ns ps)).length = 1 + (ps.map fun p => K06.cnt n (bodyOf p)).sum := by
      show (_ :: ((partsG (mkS w ns ps)).zipIdx.flatMap (oneG N ar (mkS w ns ps)))).length = _
      rw [partsG_of hk h1 h2 hp.isP, List.length_cons, ← k2]
      omega
    show ((mkS w ns ps :: r0).map fun s => 1 + ((parts s).map fun p => K06.cnt n (bodyOf p)).sum).sum = _
    rw [List.map_cons, List.sum_cons, parts_mk hp.isP, k3]
    have k4 : (r0.map fun s => 1 + ((parts s).map fun p => K06.cnt n (bodyOf p)).sum).sum = (r0.flatMap (oneGS N ar)).length := k1
    rw [k4]
theorem RP.cnt : ∀ {n c : Nat} {ps : List PyData}, RP n ps c → ∀ N ar s i, n ≤ N → (ps.map fun p => K06.cnt n (bodyOf p)).sum = ((ps.zipIdx i).flatMap (oneG N ar s)).length
  | _, _, _, .nil, _, _, _, _, _ => rfl
  | n, _, _, .cons (ds := ds) h r, N, ar, s, i, hN => by
    have k1 := r.cnt N ar s (i + 1) hN
    have k2 := h.cnt N (ar ++ [.tuple [wordOf s, .int (i : Nat)]]) hN
    rw [List.zipIdx_cons, List.flatMap_cons, List.length_append, List.map_cons, List.sum_cons, k1]
    have k3 : (oneG N ar s (.tuple ds, i)).length = (numsG N ds (ar ++ [.tuple [wordOf s, .int (i : Nat)]])).length := rfl
    have k4 : K06.cnt n (bodyOf (.tuple ds)) = K06.cnt n ds := rfl
    omega
end
theorem read_bodw {cs rs os : List Str} {c m : Nat} {ss : List PyData} (h : RB 4 ss c) (ht : Tts m ss) (hs : scanG cs rs os 0 (numsG NB ss []) = none) : BodW cs rs os ss := by
  refine ⟨⟨m, ht⟩, h.lb NB [] (by decide) fun q hq => ?_, ?_⟩
  · obtain ⟨j, hj⟩ := List.mem_iff_getElem?.mp hq
    exact (item_wf (scan_items hs j q hj)).2
  · rw [h.cnt NB [] (by decide)]
    exact scan_few hs
theorem first_scan {cs rs os : List Str} {bds : List (List PyData)} (hl : bds.length ≤ os.length) (h : firstF cs rs os bds = none) : ∀ ss ∈ bds, scanG cs rs os 0 (numsG NB ss []) = none := by
  unfold firstF at h
  rw [List.findSome?_eq_none_iff] at h
  intro ss hs
  obtain ⟨i, hi⟩ := List.mem_iff_getElem?.mp hs
  have hi2 := (List.getElem?_eq_some_iff.mp hi).1
  have m : (os[i]'(by omega), ss) ∈ os.zip bds := List.mem_of_getElem? (i := i) (by
    rw [List.getElem?_zip_eq_some]
    exact ⟨List.getElem?_eq_getElem _, hi⟩)
  have z := h _ m
  unfold itemB at z
  cases q : scanG cs rs os 0 (numsG NB ss []) with
  | none => rfl
  | some f =>
    simp only [q] at z
    cases z

end K06
set_option Elab.async false
set_option linter.all false
set_option maxRecDepth 100000
set_option maxHeartbeats 8000000
namespace K06
open PySem PySem.Spec PyProof.Rows L2 He XH XV XR PEN TR Evl


/-! ### what was read, written, is the lines -/
theorem split_back (x : Str) : Txt.join blank (Txt.split x blank) = x := by
  rw [TL.join_eq]
  exact PySem.StrLaws.join_split x blank
theorem split_back_nl (x : Str) : Txt.join nl (Txt.split x nl) = x := by
  rw [TL.join_eq]
  exact PySem.StrLaws.join_split x nl
theorem cut_rest {line mg : Str} (h : Txt.startswith line mg = true) : line = mg ++ cutS line (some ((mg.length : Nat) : Int)) none := by
  rw [starts_eq] at h
  have e := eq_of_beq h
  refine TL.ext_tl ?_
  rw [TL.tl_append]
  have l1 := TL.len_tl line
  have l2 := TL.len_tl mg
  have hle : mg.length ≤ line.length := by
    have k := congrArg List.length e
    rw [List.length_take] at k
    omega
  unfold cutS
  rw [HT.sIx_nat, HT.sIx_none, TL.tl_mk, show min mg.length line.length = mg.length by omega]
  show TL.tl line = TL.tl mg ++ ((TL.tl line).drop mg.length).take (line.length - mg.length)
  rw [List.take_of_length_le (by rw [List.length_drop]; omega)]
  conv => lhs; rw [← List.take_append_drop mg.length (TL.tl line)]
  rw [e]
theorem first_back {first : Str} {ks : List Str} (h : (wordOfL first, ks) ∈ ENT) : firstW (wordOfL first) = first := by
  unfold wordOfL at h ⊢
  split
  · rename_i e
    rw [if_pos e] at h
    exact absurd h (by
      have k : ∀ p ∈ ENT, p.1 ≠ "" := by decide +kernel
      exact fun hm => k _ hm rfl)
  · rename_i e
    split
    · rename_i e2
      rw [e2]
      decide +kernel
    · unfold firstW
      rw [if_neg e]
theorem line_is {line mg w : Str} {ns : List Str} (h : rdHead line mg = some (w, ns)) : line = mg ++ Txt.join blank (firstW w :: ns) := by
  obtain ⟨_, hs, fi, es, rfl, ks, hk, _⟩ := rdHead_is h
  rw [first_back hk, ← es, split_back]
  exact cut_rest hs
theorem getD_at {ls : List Str} {a : Nat} (h : a < ls.length) : ls.drop a = ls.getD a "" :: ls.drop (a + 1) := by
  rw [List.drop_eq_getElem_cons h, List.getD_eq_getElem?_getD, List.getElem?_eq_getElem h]
  rfl
def lnW (n : Nat) (mg w : Str) (p : PyData × Nat) : List Str := (if p.2 = 1 then [mg ++ secondW w] else []) ++ lns n (mg ++ step) (bodyOf p.1)
theorem lnS_mk {n : Nat} {mg w : Str} {ns : List Str} {ps : List PyData} (h : ∀ p ∈ ps, isP p = true) : lnS n mg (mkS w ns ps) = (mg ++ Txt.join blank (firstW w :: ns)) :: ps.zipIdx.flatMap (lnW n mg w) := by
  show (mg ++ Txt.join blank (firstW w :: strsD (mkS w ns ps))) :: (parts (mkS w ns ps)).zipIdx.flatMap (lnW n mg w) = _
  rw [strsD_mk h, parts_mk h]
theorem loop_lns {ls : List Str} {mg : Str} {prt : Str → Nat → Rd} {n e : Nat} (he : 1 ≤ e) (hm : mg = mgn e) (h2 : ∀ w a1 ps a2, prt w a1 = .ok (ps, a2) → (∀ p ∈ ps, isP p = true) ∧ ls.drop a1 = ps.zipIdx.flatMap (lnW n mg w) ++ ls.drop a2) :
    ∀ k a ss a2, rdLoop (fun a => rdHead (ls.getD a "") mg) prt k a = .ok (ss, a2) → ls.drop a = ss.flatMap (lnS n mg) ++ ls.drop a2
  | 0, a, ss, a2, h => by
    cases h
    rfl
  | k + 1, a, ss, a2, h => by
    cases q : rdHead (ls.getD a "") mg with
    | none =>
      rw [loop_none (hd := fun a => rdHead (ls.getD a "") mg) q] at h
      cases h
      rfl
    | some wn =>
      obtain ⟨w, ns⟩ := wn
      cases q2 : prt w (a + 1) with
      | error l =>
        rw [loop_err (hd := fun a => rdHead (ls.getD a "") mg) q q2] at h
        cases h
      | ok pa =>
        obtain ⟨ps, a1⟩ := pa
        rw [loop_more (hd := fun a => rdHead (ls.getD a "") mg) q q2] at h
        cases q3 : rdLoop (fun a => rdHead (ls.getD a "") mg) prt k a1 with
        | error l =>
          rw [q3] at h
          cases h
        | ok sa =>
          obtain ⟨s2, a3⟩ := sa
          rw [q3] at h
          cases h
          obtain ⟨c1, c2⟩ := h2 w _ _ _ q2
          have ih := loop_lns he hm h2 k a1 s2 a2 q3
          have hin : a < ls.length := by
            rw [hm] at q
            exact head_in he q
          show ls.drop a = (mkS w ns ps :: s2).flatMap (lnS n mg) ++ ls.drop a2
          rw [List.flatMap_cons, lnS_mk c1, getD_at hin, line_is q, c2, ih]
          simp only [List.cons_append, List.append_assoc]
theorem pp_lns {ls : List Str} {mg w : Str} {inner : Nat → Rd} {n : Nat} (h : ∀ a ss a2, inner a = .ok (ss, a2) → ls.drop a = lns n (mg ++ step) ss ++ ls.drop a2) {a0 : Nat} : ∀ j ps a, rdPP ls mg w inner a0 j = .ok (ps, a) → ps.length = j ∧ (∀ p ∈ ps, isP p = true) ∧ ls.drop a0 = ps.zipIdx.flatMap (lnW n mg w) ++ ls.drop a
  | 0, ps, a, q => by
    cases q
    exact ⟨rfl, (fun p hp => nomatch hp), rfl⟩
  | j + 1, ps, a, q => by
    cases q1 : rdPP ls mg w inner a0 j with
    | error l =>
      rw [pp_stay q1 1] at q
      cases q
    | ok pa =>
      obtain ⟨p0, a1⟩ := pa
      obtain ⟨c1, c2, c3⟩ := pp_lns h j p0 a1 q1
      by_cases hc : j = 1 ∧ ls.getD a1 "" ≠ mg ++ secondW w
      · rw [pp_bad q1 hc] at q
        cases q
      · cases q2 : inner (if j = 1 then a1 + 1 else a1) with
        | error l =>
          rw [pp_err q1 hc q2] at q
          cases q
        | ok ba =>
          obtain ⟨b, a3⟩ := ba
          rw [pp_step q1 hc q2] at q
          cases q
          have d := h _ _ _ q2
          refine ⟨by rw [List.length_append, c1]; rfl, fun p hp => ?_, ?_⟩
          · rcases List.mem_append.mp hp with k | k
            · exact c2 p k
            · rw [List.mem_singleton.mp k]
              rfl
          · rw [List.zipIdx_append, List.flatMap_append, c3, List.append_assoc]
            congr 1
            show ls.drop a1 = ([((.tuple b : PyData), 0 + p0.length)].flatMap (lnW n mg w)) ++ ls.drop a
            rw [List.flatMap_singleton, Nat.zero_add, c1]
            unfold lnW
            by_cases j1 : j = 1
            · rw [if_pos j1] at d ⊢
              have eq : ls.getD a1 "" = mg ++ secondW w := by
                by_cases e : ls.getD a1 "" = mg ++ secondW w
                · exact e
                · exact absurd ⟨j1, e⟩ hc
              have hin : a1 < ls.length := by
                rcases Nat.lt_or_ge a1 ls.length with k | k
                · exact k
                · exfalso
                  rw [List.getD_eq_getElem?_getD, List.getElem?_eq_none k] at eq
                  have l := congrArg Str.length eq
                  rw [app_len] at l
                  have s := second_ne w
                  have z : ((none : Option Str).getD ("" : Str)).length = 0 := by decide +kernel
                  omega
              rw [getD_at hin, eq, d]
              rfl
            · rw [if_neg j1] at d ⊢
              exact d
theorem rd_lns {ls : List Str} : ∀ n, n ≤ 4 → ∀ a ss a2, rdPart ls n a = .ok (ss, a2) → ls.drop a = lns n (mgn (5 - n)) ss ++ ls.drop a2
  | 0, _, a, ss, a2, h => by
    cases h
    rfl
  | n + 1, hn, a, ss, a2, h => by
    have ih := rd_lns (ls := ls) n (by omega)
    have e1 : mgn (5 - n) = mgn (4 - n) ++ step := by rw [show 5 - n = (4 - n) + 1 by omega]; rfl
    rw [e1] at ih
    have h' : rdLoop (fun a => rdHead (ls.getD a "") (mgn (4 - n))) (fun w a1 => rdPP ls (mgn (4 - n)) w (rdPart ls n) a1 (npar w)) (ls.length + 1) a = .ok (ss, a2) := h
    rw [show 5 - (n + 1) = 4 - n by omega, lns_S]
    exact loop_lns (e := 4 - n) (by omega) rfl (fun w a1 ps a2 q => (pp_lns ih _ _ _ q).2) _ _ _ _ h'
theorem heading_is {line w : Str} {zs : List Str} (h : rdHeading line w = some zs) : line = headL w zs := by
  obtain ⟨fi, rest, es⟩ := split_ne line
  unfold rdHeading at h
  rw [es] at h
  simp only at h
  split at h
  · rename_i hc
    cases h
    show line = Txt.join blank ((w ++ (":" : Str)) :: zs)
    rw [← hc.1, ← es, split_back]
  · cases h
theorem name_is {line z : Str} (h : rdName line = some z) : line = z ++ (":" : Str) := by
  unfold rdName at h
  split at h
  · rename_i hc
    cases h
    have he := hc.1
    unfold Txt.endswith at he
    rw [Bool.and_eq_true, PySem.StrLaws.subAt_eq] at he
    have hle := of_decide_eq_true he.1
    have e := eq_of_beq he.2
    have c1 : ((":" : Str)).length = 1 := by decide +kernel
    rw [c1] at hle e
    have l1 := TL.len_tl line
    refine TL.ext_tl ?_
    rw [TL.tl_append]
    unfold cutS
    have e2 : HT.sIx line.length line.length (some (-1)) = line.length - 1 := by
      simp [HT.sIx]
      omega
    rw [HT.sIx_none, e2, TL.tl_mk]
    show TL.tl line = ((TL.tl line).drop 0).take (line.length - 1 - 0) ++ TL.tl (":" : Str)
    rw [List.drop_zero, Nat.sub_zero]
    have e3 : ((TL.tl line).drop (line.length - 1)).take 1 = TL.tl (":" : Str) := e
    have e4 : ((TL.tl line).drop (line.length - 1)).take 1 = (TL.tl line).drop (line.length - 1) := List.take_of_length_le (by rw [List.length_drop]; omega)
    rw [← e3, e4, List.take_append_drop]
  · cases h
theorem fns_lns {ls : List Str} : ∀ k a fns, ls.length < k + a → rdFns ls k a = .ok fns → ls.drop a = fns.flatMap fnL
  | 0, a, fns, hk, h => by
    cases h
    rw [List.drop_of_length_le (by omega)]
    rfl
  | k + 1, a, fns, hk, h => by
    rcases Nat.lt_or_ge a ls.length with hal | hal
    · cases q : rdName (ls.getD a "") with
      | none =>
        rw [fns_bad hal q] at h
        cases h
      | some z =>
        cases q2 : rdPart ls 4 (a + 1) with
        | error l =>
          rw [fns_err hal q q2] at h
          cases h
        | ok sa =>
          obtain ⟨ss, a2⟩ := sa
          rw [fns_more hal q q2] at h
          cases q3 : rdFns ls k a2 with
          | error l =>
            rw [q3] at h
            cases h
          | ok r =>
            rw [q3] at h
            cases h
            have d := rd_lns 4 (by decide) _ _ _ q2
            have hle : a + 1 ≤ a2 := by
              rcases Nat.lt_or_ge a2 (a + 1) with c | c
              · exfalso
                have l := congrArg List.length d
                rw [List.length_append, List.length_drop, List.length_drop] at l
                omega
              · exact c
            have ih := fns_lns k a2 r (by omega) q3
            rw [getD_at hal, d, ih, name_is q]
            show (z ++ (":" : Str)) :: (lns 4 (mgn (5 - 4)) ss ++ r.flatMap fnL) = ((headL z [] :: lns 4 step ss) ++ r.flatMap fnL)
            rw [show (5 - 4 : Nat) = 1 from rfl, mgn_one, headL_one]
            rfl
    · rw [fns_stop (by omega)] at h
      cases h
      rw [List.drop_of_length_le hal]
      rfl
theorem zip_back {α β : Type} : ∀ l : List (α × β), (l.map (·.1)).zip (l.map (·.2)) = l
  | [] => rfl
  | (a, b) :: r => by
    show (a, b) :: (r.map (·.1)).zip (r.map (·.2)) = _
    rw [zip_back r]
theorem heading_in {ls : List Str} {i : Nat} {w : Str} {zs : List Str} (h : rdHeading (ls.getD i "") w = some zs) : i < ls.length := by
  rcases Nat.lt_or_ge i ls.length with k | k
  · exact k
  · exfalso
    rw [List.getD_eq_getElem?_getD, List.getElem?_eq_none k] at h
    have e := heading_is h
    obtain ⟨y, hy⟩ := join_cons (w ++ (":" : Str)) zs
    have l := congrArg Str.length (e.trans (show headL w zs = _ from hy))
    rw [app_len, app_len] at l
    have z : ((none : Option Str).getD ("" : Str)).length = 0 := by decide +kernel
    have z2 : ((":" : Str)).length = 1 := by decide +kernel
    omega
theorem code_lns {ls cs rs : List Str} {st : Str} {fns : List (Str × List PyData)} (h : RdC ls (.ok (cs, rs, st, fns))) : ls = txt cs rs (fns.map (·.1)) st (fns.map (·.2)) := by
  cases h with
  | ok h0 h1 h2 h3 =>
    have i2 := heading_in h2
    have d := fns_lns _ _ _ (by omega) h3
    have e : ls = ls.getD 0 "" :: ls.getD 1 "" :: ls.getD 2 "" :: ls.drop 3 := by
      rw [← getD_at i2, ← getD_at (show 1 < ls.length by omega), ← getD_at (show 0 < ls.length by omega), List.drop_zero]
    rw [e, heading_is h0, heading_is h1, heading_is h2, d]
    unfold txt
    rw [zip_back]
    rfl

end K06
set_option Elab.async false
set_option linter.all false
set_option maxRecDepth 100000
set_option maxHeartbeats 8000000
namespace K06
open PySem PySem.Spec PyProof.Rows L2 He XH XV XR PEN TR Evl


theorem fns_rb {ls : List Str} (hsh : Short ls) (hl : ls.length ≤ 100) : ∀ k a fns, rdFns ls k a = .ok fns → ∀ p ∈ fns, ∃ c m, RB 4 p.2 c ∧ Tts m p.2
  | 0, a, fns, h => by
    cases h
    exact fun p hp => nomatch hp
  | k + 1, a, fns, h => by
    rcases Nat.lt_or_ge a ls.length with hal | hal
    · cases q : rdName (ls.getD a "") with
      | none =>
        rw [fns_bad hal q] at h
        cases h
      | some z =>
        cases q2 : rdPart ls 4 (a + 1) with
        | error l =>
          rw [fns_err hal q q2] at h
          cases h
        | ok sa =>
          obtain ⟨ss, a2⟩ := sa
          rw [fns_more hal q q2] at h
          cases q3 : rdFns ls k a2 with
          | error l =>
            rw [q3] at h
            cases h
          | ok r =>
            rw [q3] at h
            cases h
            intro p hp
            rcases List.mem_cons.mp hp with e | hp
            · rw [e]
              obtain ⟨c, c1, _⟩ := rd_rb hsh hl 4 (by decide) _ _ _ q2
              exact ⟨c, _, c1, (rd_ok hsh hl 4 (by decide) _ _ _ q2).2.2⟩
            · exact fns_rb hsh hl k a2 r q3 p hp
    · rw [fns_stop (by omega)] at h
      cases h
      exact fun p hp => nomatch hp
structure Tm (K : PySem.W.Frag) (w : World) (mg : Str → Option Value) : Prop extends Td K w mg where
  mtt : PySem.W.exmOne K (.ref (ga K "BadText")) (.ref (ga K "BadText")) = some true
  mct : PySem.W.exmOne K (.ref (ga K "BadCode")) (.ref (ga K "BadText")) = some false
  mcc : PySem.W.exmOne K (.ref (ga K "BadCode")) (.ref (ga K "BadCode")) = some true
  mgt : PySem.W.exmOne K (.ref (ga K "TooGreat")) (.ref (ga K "BadText")) = some false
  mgc : PySem.W.exmOne K (.ref (ga K "TooGreat")) (.ref (ga K "BadCode")) = some false
  mgg : PySem.W.exmOne K (.ref (ga K "TooGreat")) (.ref (ga K "TooGreat")) = some true
  ite : PySem.W.kitOne K (.ref (ga K "BadText")) (.ref (ga K "TryError")) = some true
  itc : PySem.W.kitOne K (.ref (ga K "BadText")) (.ref (ga K "BadCode")) = some false
  ict : PySem.W.kitOne K (.ref (ga K "BadCode")) (.ref (ga K "BadText")) = some false
  igt : PySem.W.kitOne K (.ref (ga K "TooGreat")) (.ref (ga K "BadText")) = some false
def spTold6 (K : PySem.W.Frag) : Sp := fun vs H Q _ => ∃ (x : Str) (ls : List Str), vs = [.str x] ∧ x.length ≤ 200000 ∧ Txt.split x nl = ls ∧ Short ls ∧ ls.length ≤ 100 ∧
  (∀ l, RdC ls (.error l) → ∀ v H', Ex H H' → Dp K H' v (.tuple [.str "wrong", .int (l : Nat), .bool true, .bool false]) → Q v H') ∧
  (∀ o, RdC ls (.ok o) → (∀ v H', Ex H H' → Dp K H' v (.tuple [.str "read", .str x]) → Q v H') ∧ ∀ v H', Ex H H' → Dp K H' v (.tuple [.str "code", .bool false]) → Q v H')

section
variable {P : Program} {w : World} {K : PySem.W.Frag} {mg : Str → Option Value} {base : Heap}

theorem ok_law_told {fd : FuncData} (F : FnP K "_law_told" "_law_told" s_law_told (ga K "_law_told") fd) (T : Tm K w mg) (c_read_code : Cl P w K mg base (L2.CX P w) 60 (ga K "read_code") ["text"] (spRead6 K)) (c_written : Cl P w K mg base CX0 11 (ga K "written") ["code"] (spWr K)) : FnOk P w K mg base CX0 (60 + 1) (ga K "_law_told") fd ["_law_text_here"] (spTold6 K) := by
  obtain ⟨fd_read_code, G_read_code, b_read_code, kp_read_code⟩ := c_read_code
  obtain ⟨fd_written, G_written, b_written, kp_written⟩ := c_written
  refine FunD.ok F sc_law_told (fun vs H Q E h => ?_) (fun cdv A outer s H vs Q E hr h => ?_)
  · obtain ⟨x, ls, rfl, _⟩ := h
    rfl
  · obtain ⟨x, ls, rfl, hx, esp, hsh, hlen, kb, kk⟩ := h
    have g_read_code := T.gl "read_code" (by decide +kernel)
    have g_written := T.gl "written" (by decide +kernel)
    have g_BadText := T.gl "BadText" (by decide +kernel)
    have n_isinstance := T.fr "isinstance" (by decide +kernel)
    have g_TryError := T.gl "TryError" (by decide +kernel)
    have g_BadCode := T.gl "BadCode" (by decide +kernel)
    have g_TooGreat := T.gl "TooGreat" (by decide +kernel)
    refine ⟨_, PSs.nox (pss_cons (ps_try_mas (l := [(.ref (ga K "BadText"), 3, _), (.ref (ga K "BadCode"), 3, _), (.ref (ga K "TooGreat"), 3, _)]) rfl rfl sc_law_told.nd takes_none5 (fun W pn xe tk _ => (pss_cons (ps_set (i := 1) sc_law_told.nd rfl (Or.inl rfl) (pe_callS G_read_code (hr.mono (by decide)) (by rfl) g_read_code kp_read_code b_read_code (fun σ => passAt tk σ) (pa_cons (pv 0) pa_nil))) (pss_one (ps_set (i := 2) sc_law_told.nd rfl (Or.inl rfl) (pe_tup (pa_cons pe_str (pa_cons (pe_call G_written (hr.mono (by decide)) (by rfl) g_written kp_written b_written .nil pass0 (pa_cons (pv 1) pa_nil)) pa_nil)))))))
      (HdsA.cons ⟨by rfl, by decide, .inl g_BadText⟩ rfl rfl (fun a oe cls d pn hz hf => (pss_one (ps_set (i := 2) sc_law_told.nd rfl (Or.inl rfl) (pe_tup (pa_cons pe_str (pa_cons (pe_xf T.bt.xf (T.bt.no _ (by decide +kernel)) hz hf (pv 3)) (pa_cons (pe_callB (call_isS hz hf) (by rfl) n_isinstance (by decide +kernel) (pa_cons (pv 3) (pa_cons (pe_glob (v := .ref _) (by rfl) g_TryError rfl) pa_nil))) (pa_cons (pe_callB (call_isS hz hf) (by rfl) n_isinstance (by decide +kernel) (pa_cons (pv 3) (pa_cons (pe_glob (v := .ref _) (by rfl) g_BadCode rfl) pa_nil))) pa_nil)))))))) (HdsA.cons ⟨by rfl, by decide, .inl g_BadCode⟩ rfl rfl (fun a oe cls d pn hz hf => (pss_one (ps_set (i := 2) sc_law_told.nd rfl (Or.inl rfl) (pe_tup (pa_cons pe_str (pa_cons (pe_callB (call_isS hz hf) (by rfl) n_isinstance (by decide +kernel) (pa_cons (pv 3) (pa_cons (pe_glob (v := .ref _) (by rfl) g_BadText rfl) pa_nil))) pa_nil)))))) (HdsA.cons ⟨by rfl, by decide, .inl g_TooGreat⟩ rfl rfl (fun a oe cls d pn hz hf => (pss_one (ps_set (i := 2) sc_law_told.nd rfl (Or.inl rfl) (pe_tup (pa_cons pe_str (pa_cons (pe_callB (call_isS hz hf) (by rfl) n_isinstance (by decide +kernel) (pa_cons (pv 3) (pa_cons (pe_glob (v := .ref _) (by rfl) g_BadText rfl) pa_nil))) pa_nil)))))) HdsA.nil))))
      (pss_one (ps_ret (pv 2)))), ?_⟩
    refine ⟨.str x, rfl, x, ls, rfl, hx, esp, hsh, hlen, fun l hl d H1 e1 hd => ?_, fun cs rs st fns hok hNm hff hBd a c r f fos H1 e1 hC => ?_, fun o hok d y z H1 e1 hd => ?_, fun o hok H1 e1 => ?_⟩
    · refine ⟨true, T.mtt, fun _ a ha => ?_, (fun z => nomatch z)⟩
      refine ⟨.ref a, rfl, rfl, rfl, d, _, .int (l : Nat), rfl, hd, rfl, ?_⟩
      refine ⟨.ref a, rfl, _, .ref (ga K "TryError"), .ref (ga K "TryError"), true, rfl, rfl, T.bt.ec, fun dd z => ?_, .own _, T.ite, ?_⟩
      · cases z
        exact ⟨_, hd⟩
      refine ⟨.ref a, rfl, _, .ref (ga K "BadCode"), .ref (ga K "BadCode"), false, rfl, rfl, T.bt.ec, fun dd z => ?_, .own _, T.itc, (show 4 ≤ sizeLine by decide), fun q hq => ⟨.ref q, rfl, kb l hl (.ref q) _ (e1.trans (Ex.new hq)) (.tup (st_of upd_same) (.cons (.str _) (.cons (.int _) (.cons (.bl _) (.cons (.bl _) .nil)))))⟩⟩
      · cases z
        exact ⟨_, hd⟩
    · have hls := code_lns hok
      have hBW : ∀ ss ∈ fns.map (·.2), BodW cs rs (fns.map (·.1)) ss := fun ss hs => by
        have hsc := first_scan (by rw [List.length_map, List.length_map]; exact Nat.le_refl _) hff ss hs
        obtain ⟨p, hp, rfl⟩ := List.mem_map.mp hs
        cases hok with
        | ok h0 h1 h2 h3 =>
          obtain ⟨c, m, c1, c2⟩ := fns_rb hsh hlen _ _ _ h3 p hp
          exact read_bodw c1 c2 hsc
      refine ⟨.ref a, rfl, a, c, r, f, cs, rs, _, st, fos, _, rfl, hC, hNm, hBW, fun H2 e2 => ⟨(show 2 ≤ sizeLine by decide), fun q hq => ⟨.ref q, rfl, (kk _ hok).1 (.ref q) _ ((e1.trans e2).trans (Ex.new hq)) ?_⟩⟩⟩
      have et : Txt.join nl (txt cs rs (fns.map (·.1)) st (fns.map (·.2))) = x := by rw [← hls, ← esp, split_back_nl]
      refine .tup (st_of upd_same) (.cons (.str _) (.cons ?_ .nil))
      rw [et]
      exact .str _
    · refine ⟨false, T.mct, (fun z => nomatch z), fun _ => ⟨true, T.mcc, fun _ a ha => ?_, (fun z => nomatch z)⟩⟩
      refine ⟨.ref a, rfl, _, .ref (ga K "BadText"), .ref (ga K "BadText"), false, rfl, rfl, T.bc.ec, fun dd z => ?_, .own _, T.ict, (show 2 ≤ sizeLine by decide), fun q hq => ⟨.ref q, rfl, (kk _ hok).2 (.ref q) _ (e1.trans (Ex.new hq)) (.tup (st_of upd_same) (.cons (.str _) (.cons (.bl _) .nil)))⟩⟩
      cases z
      exact ⟨_, hd⟩
    · refine ⟨false, T.mgt, (fun z => nomatch z), fun _ => ⟨false, T.mgc, (fun z => nomatch z), fun _ => ⟨true, T.mgg, fun _ a ha => ?_, (fun z => nomatch z)⟩⟩⟩
      refine ⟨.ref a, rfl, _, .ref (ga K "BadText"), .ref (ga K "BadText"), false, rfl, rfl, T.tg.ec, (fun dd z => nomatch z), .own _, T.igt, (show 2 ≤ sizeLine by decide), fun q hq => ⟨.ref q, rfl, (kk _ hok).2 (.ref q) _ (e1.trans (Ex.new hq)) (.tup (st_of upd_same) (.cons (.str _) (.cons (.bl _) .nil)))⟩⟩

end
end K06
set_option Elab.async false
set_option linter.all false
set_option maxRecDepth 100000
set_option maxHeartbeats 8000000
namespace K06
open PySem PySem.Spec PyProof.Rows L2 He XH XV XR PEN TR Evl


/-! ### the law's own check, as functions -/
def kindOf (w : Str) : Str := if npar w = 0 then "simple" else if npar w = 1 then "" else secondW w
def sec5 (h : Str) : Option Str := if h = "either" then some "or" else if h = "told" then some "else" else if h = "guard" then some "rescue" else if h = "do" then some "lastly" else if h = "tries" then some "" else none
def kind1 (h : Str) : Option Str := match sec5 h with
  | some s => some s
  | none => if h ∈ [("fault" : Str), "may", "again", "out"] then some "simple" else none
def kind2 (h a : Str) : Option Str := if h = "look" ∧ goodN a = true then some "else" else
  if h ∈ [("put" : Str), "blank", "give", "push", "pop", "cut", "deeper"] then (if goodN a = true then some "simple" else none) else
  if (h = "answer" ∧ a ∈ [("copy" : Str), "view"]) ∨ (h = "stop" ∧ a ∈ [("found" : Str), "none"]) then some "simple" else none
def kindL : List Str → Option Str
  | [h] => kind1 h
  | [h, a] => kind2 h a
  | _ => none
def lawKind (t : Str) : Option Str := kindL (Txt.split t blank)
def toks1 : List Str := ["either", "told", "guard", "do", "tries", "fault", "may", "again", "out"]
def toks2 : List Str := ["look", "put", "blank", "give", "push", "pop", "cut", "deeper", "answer", "stop"]
theorem tok_ent : ∀ p ∈ ENT, firstW p.1 ∈ toks1 ∨ firstW p.1 ∈ toks2 := by decide +kernel
theorem tok1 : ∀ h ∈ toks1, (∃ ks, kof (wordOfL h) = some ks ∧ ks.filter np = []) ∧ kind1 h = some (kindOf (wordOfL h)) := by
  intro h hm
  simp only [toks1, List.mem_cons, List.not_mem_nil, or_false] at hm
  rcases hm with rfl | rfl | rfl | rfl | rfl | rfl | rfl | rfl | rfl
  all_goals exact ⟨⟨_, rfl, by decide +kernel⟩, by decide +kernel⟩
theorem rb_gn {k : Str} (h1 : k ≠ "how") (h2 : k ≠ "end") (a : Str) : readsB a k = goodN a := by
  unfold readsB
  rw [if_neg h1, if_neg h2]
theorem kd_look (a : Str) : kind2 "look" a = if readsB a "cell" = true then some (kindOf (wordOfL "look")) else none := by
  have w : kindOf (wordOfL "look") = "else" := by decide +kernel
  have e : readsB a "cell" = goodN a := rb_gn (by decide) (by decide) a
  rw [w, e]
  unfold kind2
  by_cases g : goodN a = true
  · rw [if_pos ⟨rfl, g⟩, if_pos g]
  · rw [if_neg (fun c => g c.2), if_neg g, if_neg (by decide), if_neg (fun c => by
      rcases c with c | c
      · exact absurd c.1 (by decide)
      · exact absurd c.1 (by decide)), if_neg g]
theorem kd_put (a : Str) : kind2 "put" a = if readsB a "cell" = true then some (kindOf (wordOfL "put")) else none := by
  have w : kindOf (wordOfL "put") = "simple" := by decide +kernel
  have e : readsB a "cell" = goodN a := rb_gn (by decide) (by decide) a
  rw [w, e]
  unfold kind2
  rw [if_neg (fun c => absurd c.1 (by decide)), if_pos (by decide)]
theorem kd_blank (a : Str) : kind2 "blank" a = if readsB a "cell" = true then some (kindOf (wordOfL "blank")) else none := by
  have w : kindOf (wordOfL "blank") = "simple" := by decide +kernel
  have e : readsB a "cell" = goodN a := rb_gn (by decide) (by decide) a
  rw [w, e]
  unfold kind2
  rw [if_neg (fun c => absurd c.1 (by decide)), if_pos (by decide)]
theorem kd_give (a : Str) : kind2 "give" a = if readsB a "cell" = true then some (kindOf (wordOfL "give")) else none := by
  have w : kindOf (wordOfL "give") = "simple" := by decide +kernel
  have e : readsB a "cell" = goodN a := rb_gn (by decide) (by decide) a
  rw [w, e]
  unfold kind2
  rw [if_neg (fun c => absurd c.1 (by decide)), if_pos (by decide)]
theorem kd_push (a : Str) : kind2 "push" a = if readsB a "row" = true then some (kindOf (wordOfL "push")) else none := by
  have w : kindOf (wordOfL "push") = "simple" := by decide +kernel
  have e : readsB a "row" = goodN a := rb_gn (by decide) (by decide) a
  rw [w, e]
  unfold kind2
  rw [if_neg (fun c => absurd c.1 (by decide)), if_pos (by decide)]
theorem kd_pop (a : Str) : kind2 "pop" a = if readsB a "row" = true then some (kindOf (wordOfL "pop")) else none := by
  have w : kindOf (wordOfL "pop") = "simple" := by decide +kernel
  have e : readsB a "row" = goodN a := rb_gn (by decide) (by decide) a
  rw [w, e]
  unfold kind2
  rw [if_neg (fun c => absurd c.1 (by decide)), if_pos (by decide)]
theorem kd_cut (a : Str) : kind2 "cut" a = if readsB a "row" = true then some (kindOf (wordOfL "cut")) else none := by
  have w : kindOf (wordOfL "cut") = "simple" := by decide +kernel
  have e : readsB a "row" = goodN a := rb_gn (by decide) (by decide) a
  rw [w, e]
  unfold kind2
  rw [if_neg (fun c => absurd c.1 (by decide)), if_pos (by decide)]
theorem kd_deeper (a : Str) : kind2 "deeper" a = if readsB a "function" = true then some (kindOf (wordOfL "deeper")) else none := by
  have w : kindOf (wordOfL "deeper") = "simple" := by decide +kernel
  have e : readsB a "function" = goodN a := rb_gn (by decide) (by decide) a
  rw [w, e]
  unfold kind2
  rw [if_neg (fun c => absurd c.1 (by decide)), if_pos (by decide)]
theorem kd_answer (a : Str) : kind2 "answer" a = if readsB a "how" = true then some (kindOf (wordOfL "answer")) else none := by
  have w : kindOf (wordOfL "answer") = "simple" := by decide +kernel
  have e : readsB a "how" = decide (a ∈ [("copy" : Str), "view"]) := rfl
  rw [w, e]
  unfold kind2
  rw [if_neg (fun c => absurd c.1 (by decide)), if_neg (by decide)]
  by_cases g : a ∈ [("copy" : Str), "view"]
  · rw [if_pos (Or.inl ⟨rfl, g⟩), if_pos (decide_eq_true g)]
  · rw [if_neg (fun c => by
      rcases c with c | c
      · exact g c.2
      · exact absurd c.1 (by decide)), if_neg (fun c => g (of_decide_eq_true c))]
theorem kd_stop (a : Str) : kind2 "stop" a = if readsB a "end" = true then some (kindOf (wordOfL "stop")) else none := by
  have w : kindOf (wordOfL "stop") = "simple" := by decide +kernel
  have e : readsB a "end" = decide (a ∈ [("found" : Str), "none"]) := by
    unfold readsB
    rw [if_neg (by decide), if_pos rfl]
  rw [w, e]
  unfold kind2
  rw [if_neg (fun c => absurd c.1 (by decide)), if_neg (by decide)]
  by_cases g : a ∈ [("found" : Str), "none"]
  · rw [if_pos (Or.inr ⟨rfl, g⟩), if_pos (decide_eq_true g)]
  · rw [if_neg (fun c => by
      rcases c with c | c
      · exact absurd c.1 (by decide)
      · exact g c.2), if_neg (fun c => g (of_decide_eq_true c))]
theorem tok2 : ∀ h ∈ toks2, ∃ ks k, kof (wordOfL h) = some ks ∧ ks.filter np = [k] ∧ ∀ a, kind2 h a = if readsB a k = true then some (kindOf (wordOfL h)) else none := by
  intro h hm
  simp only [toks2, List.mem_cons, List.not_mem_nil, or_false] at hm
  rcases hm with rfl | rfl | rfl | rfl | rfl | rfl | rfl | rfl | rfl | rfl
  · exact ⟨["cell", "part", "part"], "cell", rfl, by decide +kernel, kd_look⟩
  · exact ⟨["cell"], "cell", rfl, by decide +kernel, kd_put⟩
  · exact ⟨["cell"], "cell", rfl, by decide +kernel, kd_blank⟩
  · exact ⟨["cell"], "cell", rfl, by decide +kernel, kd_give⟩
  · exact ⟨["row"], "row", rfl, by decide +kernel, kd_push⟩
  · exact ⟨["row"], "row", rfl, by decide +kernel, kd_pop⟩
  · exact ⟨["row"], "row", rfl, by decide +kernel, kd_cut⟩
  · exact ⟨["function"], "function", rfl, by decide +kernel, kd_deeper⟩
  · exact ⟨["how"], "how", rfl, by decide +kernel, kd_answer⟩
  · exact ⟨["end"], "end", rfl, by decide +kernel, kd_stop⟩
theorem kof_no {h : Str} (h1 : h ∉ toks1) (h2 : h ∉ toks2) : kof (wordOfL h) = none := by
  cases hk : kof (wordOfL h) with
  | none => rfl
  | some ks =>
    exfalso
    have m := kof_mem hk
    have p := tok_ent _ m
    have e : firstW (wordOfL h) = h ∨ wordOfL h = "" := by
      unfold wordOfL
      by_cases c1 : h = "lastly"
      · rw [if_pos c1]
        exact .inr rfl
      rw [if_neg c1]
      by_cases c2 : h = "do"
      · rw [if_pos c2, c2]
        exact .inl rfl
      rw [if_neg c2]
      unfold firstW
      rw [if_neg c1]
      exact .inl rfl
    rcases e with e | e
    · simp only [e] at p
      rcases p with p | p
      · exact h1 p
      · exact h2 p
    · rw [e] at hk
      have z : kof "" = none := by decide +kernel
      rw [z] at hk
      cases hk
theorem k1_no {h : Str} (h1 : h ∉ toks1) : kind1 h = none := by
  simp only [toks1, List.mem_cons, List.not_mem_nil, or_false, not_or] at h1
  obtain ⟨a1, a2, a3, a4, a5, a6, a7, a8, a9⟩ := h1
  unfold kind1 sec5
  rw [if_neg a1, if_neg a2, if_neg a3, if_neg a4, if_neg a5]
  dsimp only
  rw [if_neg (by simp [a6, a7, a8, a9])]
theorem k2_no {h : Str} (h2 : h ∉ toks2) (a : Str) : kind2 h a = none := by
  simp only [toks2, List.mem_cons, List.not_mem_nil, or_false, not_or] at h2
  obtain ⟨a1, a2, a3, a4, a5, a6, a7, a8, a9, a10⟩ := h2
  unfold kind2
  rw [if_neg (fun c => a1 c.1), if_neg (by simp [a2, a3, a4, a5, a6, a7, a8]), if_neg (fun c => by
    rcases c with c | c
    · exact a9 c.1
    · exact a10 c.1)]
theorem tk_dis : ∀ h ∈ toks1, h ∉ toks2 := by decide +kernel
theorem kindL_eq (first : Str) (rest : List Str) : kindL (first :: rest) = (rdW (wordOfL first) rest).map fun p => kindOf p.1 := by
  by_cases m1 : first ∈ toks1
  · obtain ⟨⟨ks, k0, k1⟩, k2⟩ := tok1 _ m1
    rw [rdW_some k0, k1]
    match rest with
    | [] =>
      rw [if_pos ⟨rfl, rfl⟩]
      exact k2
    | [a] =>
      rw [if_neg (fun c => absurd c.1 (by simp))]
      exact k2_no (tk_dis _ m1) a
    | a :: b :: r =>
      rw [if_neg (fun c => absurd c.1 (by simp))]
      rfl
  by_cases m2 : first ∈ toks2
  · obtain ⟨ks, k, k0, k1, k2⟩ := tok2 _ m2
    rw [rdW_some k0, k1]
    match rest with
    | [] =>
      rw [if_neg (fun c => absurd c.1 (by simp))]
      exact k1_no m1
    | [a] =>
      show kind2 first a = _
      rw [k2 a]
      by_cases g : readsB a k = true
      · rw [if_pos g, if_pos ⟨rfl, by simp [g]⟩]
        rfl
      · rw [if_neg g, if_neg (fun c => g (by simpa using c.2))]
        rfl
    | a :: b :: r =>
      rw [if_neg (fun c => absurd c.1 (by simp))]
      rfl
  rw [rdW_none (kof_no m1 m2)]
  match rest with
  | [] => exact k1_no m1
  | [a] => exact k2_no m2 a
  | a :: b :: r => rfl
theorem lawKind_eq (t : Str) : lawKind t = (rdTail t).map fun p => kindOf p.1 := by
  unfold lawKind
  cases hs : Txt.split t blank with
  | nil =>
    unfold rdTail
    rw [hs]
    rfl
  | cons first rest =>
    rw [rdTail_eq hs]
    exact kindL_eq first rest

end K06
set_option Elab.async false
set_option linter.all false
set_option maxRecDepth 100000
set_option maxHeartbeats 8000000
namespace K06
open PySem PySem.Spec PyProof.Rows L2 He XH XV XR PEN TR Evl


/-! ### how wide a line's margin is -/
def wd (z : Str) : Nat := ((TL.tl z).takeWhile fun c => decide (c = 32)).length
def tx (z : Str) : Str := cutS z (some ((wd z : Nat) : Int)) none
theorem tw_is : ∀ l : List Nat, l = List.replicate (l.takeWhile fun c => decide (c = 32)).length 32 ++ l.drop (l.takeWhile fun c => decide (c = 32)).length ∧ ∀ c, (l.drop (l.takeWhile fun c => decide (c = 32)).length)[0]? = some c → c ≠ 32
  | [] => ⟨rfl, fun c h => by cases h⟩
  | x :: l => by
    obtain ⟨h1, h2⟩ := tw_is l
    by_cases e : x = 32
    · have t : (x :: l).takeWhile (fun c => decide (c = 32)) = x :: l.takeWhile fun c => decide (c = 32) := by simp [List.takeWhile_cons, e]
      rw [t]
      constructor
      · rw [List.length_cons, List.replicate_succ, List.drop_succ_cons, List.cons_append, ← h1, e]
      · rw [List.length_cons, List.drop_succ_cons]
        exact h2
    · have t : (x :: l).takeWhile (fun c => decide (c = 32)) = [] := by simp [List.takeWhile_cons, e]
      rw [t]
      exact ⟨rfl, fun c h => by
        cases h
        exact e⟩
theorem tl_cut (z : Str) (k : Nat) : TL.tl (cutS z (some ((k : Nat) : Int)) none) = (TL.tl z).drop k := by
  have l1 := TL.len_tl z
  unfold cutS
  rw [HT.sIx_nat, HT.sIx_none, TL.tl_mk]
  show ((TL.tl z).drop (min k z.length)).take (z.length - min k z.length) = _
  rw [List.take_of_length_le (by rw [List.length_drop]; omega)]
  rcases Nat.le_total k z.length with h | h
  · rw [Nat.min_eq_left h]
  · rw [Nat.min_eq_right h, List.drop_of_length_le (by omega), List.drop_of_length_le (by omega)]
theorem tl_tx (z : Str) : TL.tl z = List.replicate (wd z) 32 ++ TL.tl (tx z) := by
  have h := (tw_is (TL.tl z)).1
  unfold tx
  rw [tl_cut]
  exact h
theorem tx_nob (z : Str) : NoB (tx z) := by
  have h := (tw_is (TL.tl z)).2
  unfold NoB tx
  rw [tl_cut]
  exact h
theorem wd_of {k : Nat} {z x : Str} (h : TL.tl z = List.replicate k 32 ++ TL.tl x) (hx : NoB x) : wd z = k ∧ tx z = x := by
  have e := tl_tx z
  have b := tx_nob z
  have w : wd z = k := by
    rw [e] at h
    rcases Nat.lt_trichotomy (wd z) k with q | q | q
    · exfalso
      have g := congrArg (fun l => l[wd z]?) h
      try simp only at g
      rw [List.getElem?_append_right (by rw [List.length_replicate]; exact Nat.le_refl _), List.length_replicate, Nat.sub_self, List.getElem?_append_left (by rw [List.length_replicate]; exact q), List.getElem?_replicate, if_pos q] at g
      exact b 32 g rfl
    · exact q
    · exfalso
      have g := congrArg (fun l => l[k]?) h
      try simp only at g
      rw [List.getElem?_append_left (by rw [List.length_replicate]; exact q), List.getElem?_replicate, if_pos q, List.getElem?_append_right (by rw [List.length_replicate]; exact Nat.le_refl _), List.length_replicate, Nat.sub_self] at g
      exact hx 32 g.symm rfl
  refine ⟨w, TL.ext_tl ?_⟩
  rw [e, w] at h
  exact List.append_cancel_left h
theorem starts_wd (z : Str) (e : Nat) : Txt.startswith z (mgn e) = decide (2 * e ≤ wd z) := by
  rw [starts_eq, mgn_tl, mgn_len, tl_tx z]
  by_cases h : 2 * e ≤ wd z
  · rw [decide_eq_true h, List.take_append_of_le_length (by rw [List.length_replicate]; exact h), List.take_replicate, Nat.min_eq_left h]
    exact beq_self_eq_true _
  · rw [decide_eq_false h]
    refine beq_eq_false_iff_ne.mpr fun q => ?_
    have k := congrArg (fun l => l[wd z]?) q
    try simp only at k
    rw [List.getElem?_take, if_pos (by omega), List.getElem?_append_right (by rw [List.length_replicate]; exact Nat.le_refl _), List.length_replicate, Nat.sub_self, List.getElem?_replicate, if_pos (by omega)] at k
    exact tx_nob z 32 k rfl
theorem ent_nob : ∀ p ∈ ENT, (match (TL.tl (firstW p.1))[0]? with | some c => decide (c ≠ 32) | none => false) = true := by decide +kernel
theorem tail_nob {x w : Str} {ns : List Str} (h : rdTail x = some (w, ns)) : ∃ c, (TL.tl x)[0]? = some c ∧ c ≠ 32 := by
  obtain ⟨first, rest, hs⟩ := split_ne x
  rw [rdTail_eq hs] at h
  cases hk : kof (wordOfL first) with
  | none =>
    rw [rdW_none hk] at h
    cases h
  | some ks =>
    have m := kof_mem hk
    have e := first_back m
    have b := ent_nob _ m
    simp only at b
    rw [e] at b
    have j := split_back x
    rw [hs] at j
    have t : ∃ r, TL.tl x = TL.tl first ++ r := by
      rw [← j, TL.join_eq, TL.tl_join]
      cases rest with
      | nil => exact ⟨[], by rw [List.append_nil]; rfl⟩
      | cons a r => exact ⟨_, rfl⟩
    obtain ⟨r, t⟩ := t
    cases hf : TL.tl first with
    | nil =>
      rw [hf] at b
      cases b
    | cons c l =>
      rw [hf] at b
      rw [t, hf]
      exact ⟨c, rfl, of_decide_eq_true b⟩
theorem head_eq (z : Str) (e : Nat) : rdHead z (mgn e) = if wd z = 2 * e ∧ e ≤ 4 then rdTail (tx z) else none := by
  unfold rdHead
  rw [starts_wd, mgn_len]
  by_cases h1 : 8 < 2 * e
  · rw [if_pos (by rw [decide_eq_true h1]; rfl), if_neg (by omega)]
  rw [decide_eq_false h1]
  by_cases h2 : 2 * e ≤ wd z
  · rw [if_neg (by rw [decide_eq_true h2]; decide)]
    by_cases h3 : wd z = 2 * e
    · rw [if_pos ⟨h3, by omega⟩]
      unfold tx
      rw [h3]
    · rw [if_neg (fun c => h3 c.1)]
      cases hr : rdTail (cutS z (some ((2 * e : Nat) : Int)) none) with
      | none => rfl
      | some p =>
        exfalso
        obtain ⟨c, k1, k2⟩ := tail_nob (w := p.1) (ns := p.2) hr
        rw [tl_cut, tl_tx z, List.drop_append_of_le_length (by rw [List.length_replicate]; exact h2), List.drop_replicate, List.getElem?_append_left (by rw [List.length_replicate]; omega), List.getElem?_replicate, if_pos (by omega)] at k1
        cases k1
        exact k2 rfl
  · rw [if_pos (by rw [decide_eq_false h2]; rfl), if_neg (by omega)]
theorem second_nob (w : Str) : NoB (secondW w) := by
  have k : ∀ s ∈ [("or" : Str), "else", "rescue", "lastly"], (match (TL.tl s)[0]? with | some c => decide (c ≠ 32) | none => true) = true := by decide +kernel
  have m : secondW w ∈ [("or" : Str), "else", "rescue", "lastly"] := by
    unfold secondW
    split
    · decide +kernel
    · split
      · decide +kernel
      · split
        · decide +kernel
        · split <;> decide +kernel
  have b := k _ m
  intro c hc
  rw [hc] at b
  exact of_decide_eq_true b
theorem second_eq {z w : Str} {e : Nat} : z = mgn e ++ secondW w ↔ wd z = 2 * e ∧ tx z = secondW w := by
  constructor
  · intro h
    exact wd_of (by rw [h, TL.tl_append, mgn_tl]) (second_nob w)
  · intro h
    refine TL.ext_tl ?_
    rw [tl_tx z, h.1, h.2, TL.tl_append, mgn_tl]
theorem tx_zero {z : Str} (h : wd z = 0) : tx z = z := by
  refine TL.ext_tl ?_
  have e := tl_tx z
  rw [h] at e
  exact e.symm

end K06
set_option Elab.async false
set_option linter.all false
set_option maxRecDepth 100000
set_option maxHeartbeats 8000000
namespace K06
open PySem PySem.Spec PyProof.Rows L2 He XH XV XR PEN TR Evl


/-! ### the law's own check of the lines, as a function -/
inductive CSt where
  | here | second | wrong
  deriving DecidableEq
abbrev Stk := List (Nat × Str)
def closedA : Nat → Stk → Nat → Str → CSt × Stk
  | 0, S, _, _ => (.wrong, S)
  | _ + 1, [], _, _ => (.here, [])
  | k + 1, (w0, s0) :: S, w, t => if w0 < w then (.here, (w0, s0) :: S) else if s0 = "" then closedA k S w t else if w = w0 ∧ t = s0 then (.second, (w0, ("" : Str)) :: S) else (.wrong, (w0, s0) :: S)
def dueA : Stk → Nat
  | [] => 2
  | (w0, _) :: _ => w0 + 2
def nameOk (t : Str) : Bool := Txt.endswith t (":" : Str) && goodN (cutS t none (some (-1)))
def stepA (S : Stk) (i : Bool) (z : Str) : Option (Stk × Bool) :=
  match closedA 9 S (wd z) (tx z) with
  | (.wrong, _) => none
  | (.second, S') => some (S', i)
  | (.here, S') => if wd z = 0 then (if nameOk (tx z) = true then some (S', true) else none)
    else match lawKind (tx z) with
      | none => none
      | some k => if i = true ∧ wd z = dueA S' ∧ wd z ≤ 8 then (if k = "simple" then some (S', i) else some ((wd z, k) :: S', i)) else none
def dueIn (S : Stk) : Bool := S.any fun p => decide (p.2 ≠ "")
def runK : List Str → Nat → Stk → Bool → Option Nat
  | [], a, S, _ => if dueIn S = true then some (a + 1) else none
  | z :: r, a, S, i => match stepA S i z with
    | none => some (a + 1)
    | some (S', i') => runK r (a + 1) S' i'
def doneT (e : Nat) : Nat → Stk
  | 0 => []
  | j + 1 => (2 * (e + j), ("" : Str)) :: doneT e j
def BaseOk (e : Nat) (S : Stk) : Prop := (S = [] ∧ e = 0) ∨ ∃ s S', S = (2 * e, s) :: S'
def NH (z : Str) (lo hi : Nat) : Prop := ∀ i, lo ≤ i → i ≤ hi → rdHead z (mgn i) = none
theorem doneT_snoc (e : Nat) (S : Stk) : ∀ j, doneT (e + 1) j ++ (2 * e, ("" : Str)) :: S = doneT e (j + 1) ++ S
  | 0 => rfl
  | j + 1 => by
    show (2 * (e + 1 + j), ("" : Str)) :: (doneT (e + 1) j ++ (2 * e, ("" : Str)) :: S) = (2 * (e + (j + 1)), ("" : Str)) :: (doneT e (j + 1) ++ S)
    rw [doneT_snoc e S j, show e + 1 + j = e + (j + 1) by omega]
theorem closed_done {e w : Nat} {t : Str} {S : Stk} (h : w ≤ 2 * e) (k : Nat) : ∀ j, closedA (k + j) (doneT e j ++ S) w t = closedA k S w t
  | 0 => rfl
  | j + 1 => by
    show closedA (k + j + 1) ((2 * (e + j), ("" : Str)) :: (doneT e j ++ S)) w t = _
    rw [closedA, if_neg (by omega), if_pos rfl]
    exact closed_done h k j
theorem closed_done9 {e w : Nat} {t : Str} {S : Stk} (h : w ≤ 2 * e) {j : Nat} (hj : j ≤ 8) : ∃ k, closedA 9 (doneT e j ++ S) w t = closedA (k + 1) S w t := by
  refine ⟨8 - j, ?_⟩
  have c := closed_done (t := t) (S := S) h (8 - j + 1) j
  rw [show 8 - j + 1 + j = 9 by omega] at c
  exact c
theorem closed_base {e w k : Nat} {t : Str} {S : Stk} (hB : BaseOk e S) (h : 2 * e < w) : closedA (k + 1) S w t = (.here, S) := by
  rcases hB with ⟨rfl, _⟩ | ⟨s, S', rfl⟩
  · rfl
  · unfold closedA
    rw [if_pos h]
theorem due_base {e : Nat} {S : Stk} (hB : BaseOk e S) : dueA S = 2 * (e + 1) := by
  rcases hB with ⟨rfl, rfl⟩ | ⟨s, S', rfl⟩
  · rfl
  · show 2 * e + 2 = _
    omega
theorem closed_here {e w k : Nat} {t : Str} {S : Stk} (hB : BaseOk e S) (h : 2 * e < w) : ∀ j, ∃ i, i ≤ j ∧ closedA (k + j + 1) (doneT (e + 1) j ++ S) w t = (.here, doneT (e + 1) i ++ S)
  | 0 => ⟨0, Nat.le_refl _, closed_base hB h⟩
  | j + 1 => by
    have st : closedA (k + (j + 1) + 1) (doneT (e + 1) (j + 1) ++ S) w t = if 2 * (e + 1 + j) < w then (.here, (2 * (e + 1 + j), ("" : Str)) :: (doneT (e + 1) j ++ S)) else closedA (k + j + 1) (doneT (e + 1) j ++ S) w t := by
      show closedA (k + j + 1 + 1) ((2 * (e + 1 + j), ("" : Str)) :: (doneT (e + 1) j ++ S)) w t = _
      rw [closedA]
      by_cases c : 2 * (e + 1 + j) < w
      · rw [if_pos c, if_pos c]
      · rw [if_neg c, if_neg c, if_pos rfl]
    rw [st]
    by_cases c : 2 * (e + 1 + j) < w
    · rw [if_pos c]
      exact ⟨j + 1, Nat.le_refl _, rfl⟩
    · rw [if_neg c]
      obtain ⟨i, hi, q⟩ := closed_here (t := t) (k := k) hB h j
      exact ⟨i, by omega, q⟩
theorem due_done {e : Nat} {S : Stk} (hB : BaseOk e S) : ∀ i, dueA (doneT (e + 1) i ++ S) = 2 * (e + 1 + i)
  | 0 => due_base hB
  | i + 1 => by
    show 2 * (e + 1 + i) + 2 = _
    omega
/-- wider than all that is due, and no head: wrong -/
theorem here_bad {e j : Nat} {S : Stk} {z : Str} (hB : BaseOk e S) (hj : j ≤ 8) (h : 2 * e < wd z) (hn : NH z (e + 1) (e + 1 + j)) (i : Bool) : stepA (doneT (e + 1) j ++ S) i z = none := by
  obtain ⟨m, hm, c⟩ := closed_here (t := tx z) (k := 8 - j) hB h j
  rw [show 8 - j + j + 1 = 9 by omega] at c
  unfold stepA
  rw [c]
  simp only
  rw [if_neg (by omega), lawKind_eq]
  cases hr : rdTail (tx z) with
  | none => rfl
  | some p =>
    simp only [Option.map_some]
    rw [if_neg fun q => ?_]
    rw [due_done hB] at q
    have k := hn (e + 1 + m) (by omega) (by omega)
    rw [head_eq, if_pos ⟨q.2.1, by omega⟩, hr] at k
    cases k
theorem step_head {e j : Nat} {S : Stk} {z w : Str} {ns : List Str} (hB : BaseOk e S) (hj : j ≤ 8) (hz : rdHead z (mgn (e + 1)) = some (w, ns)) : stepA (doneT (e + 1) j ++ S) true z = some ((if kindOf w = "simple" then S else (2 * (e + 1), kindOf w) :: S), true) := by
  rw [head_eq] at hz
  split at hz
  · rename_i hc
    obtain ⟨k, c⟩ := closed_done9 (e := e + 1) (w := wd z) (t := tx z) (S := S) (by omega) hj
    rw [closed_base hB (by omega)] at c
    unfold stepA
    rw [c]
    simp only
    rw [if_neg (by omega), lawKind_eq, hz]
    simp only [Option.map_some]
    rw [if_pos ⟨trivial, by rw [due_base hB]; omega, by omega⟩]
    split
    · rfl
    · rw [hc.1]
  · cases hz
theorem kind_npar : ∀ p ∈ ENT, (npar p.1 = 0 ∧ kindOf p.1 = "simple") ∨ (npar p.1 = 1 ∧ kindOf p.1 = "") ∨ (npar p.1 = 2 ∧ kindOf p.1 = secondW p.1 ∧ secondW p.1 ≠ "" ∧ secondW p.1 ≠ "simple") := by decide +kernel
theorem pp1 (ls : List Str) (mg w : Str) (inner : Nat → Rd) (a0 : Nat) : rdPP ls mg w inner a0 1 = match inner a0 with
    | .error l => .error l
    | .ok (b, a2) => .ok ([.tuple b], a2) := by
  rw [rdPP, rdPP]
  dsimp only
  rw [if_neg (by omega), if_neg (by omega)]
  cases inner a0 with
  | error l => rfl
  | ok p => rfl
theorem pp2 (ls : List Str) (mg w : Str) (inner : Nat → Rd) (a0 : Nat) : rdPP ls mg w inner a0 2 = match inner a0 with
    | .error l => .error l
    | .ok (b, a) => if ls.getD a "" ≠ mg ++ secondW w then .error (a + 1) else match inner (a + 1) with
      | .error l => .error l
      | .ok (b2, a2) => .ok ([.tuple b, .tuple b2], a2) := by
  rw [rdPP, pp1]
  cases inner a0 with
  | error l => rfl
  | ok p =>
    obtain ⟨b, a⟩ := p
    dsimp only
    by_cases c : ls.getD a "" = mg ++ secondW w
    · rw [if_neg (fun q => q.2 c), if_pos (rfl : (1 : Nat) = 1), if_neg (fun q : ls.getD a "" ≠ mg ++ secondW w => q c)]
      cases inner (a + 1) with
      | error l => rfl
      | ok p => rfl
    · rw [if_pos ⟨rfl, c⟩, if_pos c]
def R (ls : List Str) (a : Nat) (S : Stk) : Option Nat := runK (ls.drop a) a S true
theorem R_in {ls : List Str} {a : Nat} {S S' : Stk} (h : a < ls.length) (hs : stepA S true (ls.getD a "") = some (S', true)) : R ls a S = R ls (a + 1) S' := by
  unfold R
  rw [getD_at h, runK, hs]
theorem R_bad {ls : List Str} {a : Nat} {S : Stk} (h : a < ls.length) (hs : stepA S true (ls.getD a "") = none) : R ls a S = some (a + 1) := by
  unfold R
  rw [getD_at h, runK, hs]
theorem due_mem {S : Stk} {w : Nat} {s : Str} (hs : s ≠ "") : ∀ T : Stk, dueIn (T ++ (w, s) :: S) = true := fun T => by
  unfold dueIn
  rw [List.any_append, List.any_cons, decide_eq_true hs, Bool.true_or, Bool.or_true]
theorem R_out {ls : List Str} {a : Nat} {S T : Stk} {w : Nat} {s : Str} (h : ls.length ≤ a) (hs : s ≠ "") : R ls a (T ++ (w, s) :: S) = some (a + 1) := by
  unfold R
  rw [List.drop_of_length_le h, runK, if_pos (due_mem hs T)]
def Sim (ls : List Str) (e : Nat) (S : Stk) (a j : Nat) : Rd → Prop
  | .ok (_, a2) => ∃ j2, e + 1 + j2 ≤ 5 ∧ NH (ls.getD a2 "") (e + 1) (e + 1 + j2) ∧ R ls a (doneT (e + 1) j ++ S) = R ls a2 (doneT (e + 1) j2 ++ S)
  | .error l => R ls a (doneT (e + 1) j ++ S) = some l
def SimP (ls : List Str) (e : Nat) (S : Stk) (a j : Nat) : Rd → Prop
  | .ok (_, a2) => a2 ≤ ls.length ∧ a + 1 ≤ a2 ∧ ∃ j2, e + 1 + j2 ≤ 5 ∧ NH (ls.getD a2 "") (e + 2) (e + 1 + j2) ∧ R ls a (doneT (e + 1) j ++ S) = R ls a2 (doneT (e + 1) j2 ++ S)
  | .error l => R ls a (doneT (e + 1) j ++ S) = some l
theorem sim_pp {ls : List Str} {e a j : Nat} {S : Stk} {w : Str} {ns : List Str} {inner : Nat → Rd} (hz : rdHead (ls.getD a "") (mgn (e + 1)) = some (w, ns)) (hj : j ≤ 8) (he : e + 1 ≤ 4) (hB : BaseOk e S)
    (HI : ∀ a S', a ≤ ls.length → BaseOk (e + 1) S' → Sim ls (e + 1) S' a 0 (inner a)) (HE : ∀ a ss a2, a ≤ ls.length → inner a = .ok (ss, a2) → a2 ≤ ls.length ∧ a ≤ a2) : SimP ls e S a j (rdPP ls (mgn (e + 1)) w inner (a + 1) (npar w)) := by
  have ha := head_in (by omega) hz
  have st := R_in ha (step_head hB hj hz)
  have hw : ∃ ks, (w, ks) ∈ ENT := by
    obtain ⟨_, _, _, _, _, ks, hk, _⟩ := rdHead_is hz
    exact ⟨ks, hk⟩
  obtain ⟨ks, hk⟩ := hw
  rcases kind_npar _ hk with ⟨n0, k0⟩ | ⟨n0, k0⟩ | ⟨n0, k0, k1, k2⟩
  · simp only at n0 k0
    rw [n0]
    rw [k0, if_pos rfl] at st
    exact ⟨ha, Nat.le_refl _, 0, by omega, fun i h1 h2 => by omega, st⟩
  · simp only at n0 k0
    rw [n0, pp1]
    rw [k0, if_neg (by decide)] at st
    have h := HI (a + 1) ((2 * (e + 1), ("" : Str)) :: S) ha (.inr ⟨_, _, rfl⟩)
    cases hi : inner (a + 1) with
    | error l =>
      rw [hi] at h
      exact st.trans h
    | ok p =>
      obtain ⟨b, a2⟩ := p
      rw [hi] at h
      obtain ⟨j2, h1, h2, h3⟩ := h
      obtain ⟨g1, g2⟩ := HE _ _ _ ha hi
      refine ⟨g1, g2, j2 + 1, by omega, fun i q1 q2 => h2 i (by omega) (by omega), st.trans (h3.trans ?_)⟩
      rw [doneT_snoc]
  · simp only at n0 k0 k1 k2
    rw [n0, pp2]
    rw [k0, if_neg k2] at st
    have h := HI (a + 1) ((2 * (e + 1), secondW w) :: S) ha (.inr ⟨_, _, rfl⟩)
    cases hi : inner (a + 1) with
    | error l =>
      rw [hi] at h
      exact st.trans h
    | ok p =>
      obtain ⟨b, a2⟩ := p
      rw [hi] at h
      obtain ⟨j2, h1, h2, h3⟩ := h
      obtain ⟨g1, g2⟩ := HE _ _ _ ha hi
      simp only
      have st2 := st.trans h3
      by_cases c : ls.getD a2 "" = mgn (e + 1) ++ secondW w
      · rw [if_neg (fun q => q c)]
        obtain ⟨w1, w2⟩ := second_eq.mp c
        have ha2 : a2 < ls.length := by
          rcases Nat.lt_or_ge a2 ls.length with q | q
          · exact q
          · exfalso
            rw [List.getD_eq_getElem?_getD, List.getElem?_eq_none q] at c
            have l := congrArg Str.length c
            rw [app_len] at l
            have s := second_ne w
            have z : ((none : Option Str).getD ("" : Str)).length = 0 := by decide +kernel
            omega
        have sec : stepA (doneT (e + 1 + 1) j2 ++ (2 * (e + 1), secondW w) :: S) true (ls.getD a2 "") = some ((2 * (e + 1), ("" : Str)) :: S, true) := by
          obtain ⟨k, q⟩ := closed_done9 (e := e + 1 + 1) (w := wd (ls.getD a2 "")) (t := tx (ls.getD a2 "")) (S := (2 * (e + 1), secondW w) :: S) (by omega) (show j2 ≤ 8 by omega)
          unfold stepA
          rw [q, closedA, if_neg (by omega), if_neg k1, if_pos ⟨w1, w2⟩]
        have st3 := st2.trans (R_in ha2 sec)
        have h' := HI (a2 + 1) ((2 * (e + 1), ("" : Str)) :: S) ha2 (.inr ⟨_, _, rfl⟩)
        cases hi2 : inner (a2 + 1) with
        | error l =>
          rw [hi2] at h'
          exact st3.trans h'
        | ok p =>
          obtain ⟨b2, a3⟩ := p
          rw [hi2] at h'
          obtain ⟨j3, h1', h2', h3'⟩ := h'
          obtain ⟨g1', g2'⟩ := HE _ _ _ ha2 hi2
          refine ⟨g1', by omega, j3 + 1, by omega, fun i q1 q2 => h2' i (by omega) (by omega), st3.trans (h3'.trans ?_)⟩
          rw [doneT_snoc]
      · rw [if_pos c]
        refine st2.trans ?_
        rcases Nat.lt_or_ge a2 ls.length with q | q
        · refine R_bad q ?_
          rcases Nat.lt_or_ge (2 * (e + 1)) (wd (ls.getD a2 "")) with r | r
          · exact here_bad (.inr ⟨_, _, rfl⟩) (by omega) r h2 true
          · obtain ⟨k, q⟩ := closed_done9 (e := e + 1 + 1) (w := wd (ls.getD a2 "")) (t := tx (ls.getD a2 "")) (S := (2 * (e + 1), secondW w) :: S) (by omega) (show j2 ≤ 8 by omega)
            unfold stepA
            rw [q, closedA, if_neg (by omega), if_neg k1, if_neg (fun k => c (second_eq.mpr k))]
        · exact R_out q k1
theorem sim_loop {ls : List Str} {e : Nat} {S : Stk} {prt : Str → Nat → Rd} (HP : ∀ a j w ns, rdHead (ls.getD a "") (mgn (e + 1)) = some (w, ns) → j ≤ 8 → SimP ls e S a j (prt w (a + 1))) :
    ∀ k a j, ls.length < k + a → a ≤ ls.length → e + 1 + j ≤ 5 → NH (ls.getD a "") (e + 2) (e + 1 + j) → Sim ls e S a j (rdLoop (fun a => rdHead (ls.getD a "") (mgn (e + 1))) prt k a)
  | 0, a, j, hk, ha, hj, hn => absurd hk (by omega)
  | k + 1, a, j, hk, ha, hj, hn => by
    unfold rdLoop
    cases hz : rdHead (ls.getD a "") (mgn (e + 1)) with
    | none =>
      refine ⟨j, hj, fun i h1 h2 => ?_, rfl⟩
      rcases Nat.lt_or_ge i (e + 2) with q | q
      · rw [show i = e + 1 by omega]
        exact hz
      · exact hn i q h2
    | some p =>
      obtain ⟨w, ns⟩ := p
      simp only
      have h := HP a j w ns hz (by omega)
      cases hp : prt w (a + 1) with
      | error l =>
        rw [hp] at h
        exact h
      | ok p =>
        obtain ⟨ps, a1⟩ := p
        rw [hp] at h
        obtain ⟨b1, b2, j1, b3, b4, b5⟩ := h
        have g := sim_loop HP k a1 j1 (by omega) b1 b3 b4
        simp only
        cases hl : rdLoop (fun a => rdHead (ls.getD a "") (mgn (e + 1))) prt k a1 with
        | error l =>
          rw [hl] at g
          exact b5.trans g
        | ok p =>
          obtain ⟨ss, a2⟩ := p
          rw [hl] at g
          obtain ⟨j2, c1, c2, c3⟩ := g
          exact ⟨j2, c1, c2, b5.trans c3⟩
theorem sim_part {ls : List Str} (hle : ∀ n a ss a2, n ≤ 4 → a ≤ ls.length → rdPart ls n a = .ok (ss, a2) → a ≤ a2) : ∀ n, n ≤ 4 → ∀ a S, a ≤ ls.length → BaseOk (4 - n) S → Sim ls (4 - n) S a 0 (rdPart ls n a)
  | 0, _, a, S, ha, hB => by
    refine ⟨0, by omega, fun i h1 h2 => ?_, rfl⟩
    rw [head_eq, if_neg (by omega)]
  | n + 1, hn, a, S, ha, hB => by
    have ih := sim_part hle n (by omega)
    obtain ⟨e, he⟩ : ∃ e, e = 4 - (n + 1) := ⟨_, rfl⟩
    rw [← he] at hB ⊢
    have e1 : 4 - n = e + 1 := by omega
    rw [e1] at ih
    show Sim ls e S a 0 (rdLoop (fun a => rdHead (ls.getD a "") (mgn (4 - n))) (fun w a1 => rdPP ls (mgn (4 - n)) w (rdPart ls n) a1 (npar w)) (ls.length + 1) a)
    rw [e1]
    refine sim_loop (fun a j w ns hz hj => sim_pp hz hj (by omega) hB (fun a S' h1 h2 => ih a S' h1 h2) (fun a ss a2 h1 h2 => ⟨rd_end n (by omega) a ss a2 h1 h2, hle n a ss a2 (by omega) h1 h2⟩)) _ a 0 (by omega) ha (by omega) (fun i h1 h2 => by omega)

end K06
set_option Elab.async false
set_option linter.all false
set_option maxRecDepth 100000
set_option maxHeartbeats 8000000
namespace K06
open PySem PySem.Spec PyProof.Rows L2 He XH XV XR PEN TR Evl


/-! ### the law's check of all lines -/
theorem runK_in {ls : List Str} {a : Nat} {S S' : Stk} {i i' : Bool} (h : a < ls.length) (hs : stepA S i (ls.getD a "") = some (S', i')) : runK (ls.drop a) a S i = runK (ls.drop (a + 1)) (a + 1) S' i' := by
  rw [getD_at h, runK, hs]
theorem runK_bad {ls : List Str} {a : Nat} {S : Stk} {i : Bool} (h : a < ls.length) (hs : stepA S i (ls.getD a "") = none) : runK (ls.drop a) a S i = some (a + 1) := by
  rw [getD_at h, runK, hs]
theorem name_wide {z : Str} (h : 0 < wd z) : rdName z = none := by
  cases hr : rdName z with
  | none => rfl
  | some y =>
    exfalso
    have g := name_good hr
    unfold rdName at hr
    split at hr
    · cases hr
      obtain ⟨g1, g2, g3⟩ := good_let g
      have t : TL.tl (cutS z none (some (-1))) = (TL.tl z).take (z.length - 1) := by
        have e1 : HT.sIx z.length 0 none = 0 := by rw [HT.sIx_none]
        have l : 1 ≤ z.length := by
          have l1 := TL.len_tl z
          have e := congrArg List.length (tl_tx z)
          rw [List.length_append, List.length_replicate] at e
          omega
        have e2 : HT.sIx z.length z.length (some (-1)) = z.length - 1 := by
          simp [HT.sIx]
          omega
        unfold cutS
        rw [e1, e2, TL.tl_mk]
        show ((TL.tl z).drop 0).take (z.length - 1 - 0) = _
        rw [List.drop_zero, Nat.sub_zero]
      have l2 := TL.len_tl (cutS z none (some (-1)))
      rw [t] at l2
      have m : 32 ∈ TL.tl (cutS z none (some (-1))) := by
        rw [t]
        have k : ((TL.tl z).take (z.length - 1))[0]? = some 32 := by
          rw [List.getElem?_take, if_pos (by
            rw [List.length_take] at l2
            omega), tl_tx z, List.getElem?_append_left (by rw [List.length_replicate]; exact h), List.getElem?_replicate, if_pos h]
        exact List.mem_of_getElem? k
      have q := g1 32 m
      omega
    · cases hr
theorem name_zero {z : Str} (h : wd z = 0) : nameOk (tx z) = (rdName z).isSome := by
  rw [tx_zero h]
  unfold nameOk rdName
  by_cases c : Txt.endswith z (":" : Str) = true ∧ goodN (cutS z none (some (-1))) = true
  · rw [if_pos c, c.1, c.2]
    rfl
  · rw [if_neg c]
    cases c1 : Txt.endswith z (":" : Str) with
    | false => rfl
    | true => cases c2 : goodN (cutS z none (some (-1))) with
      | false => rfl
      | true => exact absurd ⟨c1, c2⟩ c
theorem step_top {z : Str} {j : Nat} (hj : j ≤ 8) (i : Bool) (h0 : wd z = 0) : stepA (doneT 1 j) i z = if (rdName z).isSome = true then some ([], true) else none := by
  obtain ⟨k, c⟩ := closed_done9 (e := 1) (w := wd z) (t := tx z) (S := []) (by omega) hj
  rw [List.append_nil] at c
  unfold stepA
  rw [c, closedA]
  dsimp only
  rw [if_pos h0, name_zero h0]
theorem due_doneT (e : Nat) : ∀ j, dueIn (doneT e j) = false
  | 0 => rfl
  | j + 1 => by
    show (decide (("" : Str) ≠ "") || dueIn (doneT e j)) = false
    rw [due_doneT e j]
    decide
/-- at the top: no head at any level that may be open, or nothing read yet -/
def Top (ls : List Str) (a j : Nat) (i : Bool) : Prop := (i = false ∧ j = 0) ∨ (i = true ∧ NH (ls.getD a "") 1 (1 + j))
theorem fns_sim {ls : List Str} (hsh : Short ls) (hl : ls.length ≤ 100) : ∀ k a j i, ls.length < k + a → a ≤ ls.length → 1 + j ≤ 5 → Top ls a j i → match rdFns ls k a with
    | .error l => runK (ls.drop a) a (doneT 1 j) i = some l
    | .ok _ => runK (ls.drop a) a (doneT 1 j) i = none
  | 0, a, j, i, hk, ha, hj, ht => absurd hk (by omega)
  | k + 1, a, j, i, hk, ha, hj, ht => by
    by_cases h : a < ls.length
    · cases h1 : rdName (ls.getD a "") with
      | none =>
        rw [fns_bad h h1]
        refine runK_bad h ?_
        rcases Nat.eq_zero_or_pos (wd (ls.getD a "")) with q | q
        · rw [step_top (by omega) i q, h1]
          rfl
        · rcases ht with ⟨rfl, rfl⟩ | ⟨rfl, hn⟩
          · show stepA [] false (ls.getD a "") = none
            unfold stepA
            rw [closedA]
            dsimp only
            rw [if_neg (by omega)]
            cases lawKind (tx (ls.getD a "")) with
            | none => rfl
            | some kk =>
              dsimp only
              rw [if_neg (fun c => nomatch c.1)]
          · have b := here_bad (e := 0) (j := j) (S := []) (.inl ⟨rfl, rfl⟩) (by omega) (by omega) (fun x y1 y2 => hn x (by omega) (by omega)) true
            rw [List.append_nil] at b
            exact b
      | some z =>
        have w0 : wd (ls.getD a "") = 0 := by
          rcases Nat.eq_zero_or_pos (wd (ls.getD a "")) with q | q
          · exact q
          · rw [name_wide q] at h1
            cases h1
        have st := runK_in (i := i) (i' := true) (S := doneT 1 j) (S' := []) h (by rw [step_top (by omega) i w0, h1]; rfl)
        have s := sim_part (fun n a ss a2 hn _ q => (rd_ok hsh hl n hn a ss a2 q).1) 4 (by omega) (a + 1) [] h (.inl ⟨rfl, rfl⟩)
        cases h2 : rdPart ls 4 (a + 1) with
        | error l =>
          rw [fns_err h h1 h2]
          rw [h2] at s
          exact st.trans s
        | ok p =>
          obtain ⟨ss, a2⟩ := p
          rw [fns_more h h1 h2]
          rw [h2] at s
          obtain ⟨j2, b1, b2, b3⟩ := s
          have g1 := rd_end 4 (by omega) _ _ _ h h2
          have g2 := (rd_ok hsh hl 4 (by omega) _ _ _ h2).1
          have f := fns_sim hsh hl k a2 j2 true (by omega) g1 (by omega) (.inr ⟨rfl, fun x y1 y2 => b2 x (by omega) (by omega)⟩)
          have e : runK (ls.drop a) a (doneT 1 j) i = runK (ls.drop a2) a2 (doneT 1 j2) true := by
            refine st.trans ?_
            have b3' : runK (ls.drop (a + 1)) (a + 1) ([] ++ []) true = runK (ls.drop a2) a2 (doneT 1 j2 ++ []) true := b3
            rw [List.append_nil, List.append_nil] at b3'
            exact b3'
          cases hf : rdFns ls k a2 with
          | error l =>
            rw [hf] at f
            exact e.trans f
          | ok r =>
            rw [hf] at f
            exact e.trans f
    · rw [fns_stop h]
      show runK (ls.drop a) a (doneT 1 j) i = none
      rw [List.drop_of_length_le (by omega), runK, due_doneT]
      rfl
def wrongA (ls : List Str) : Option Nat :=
  if rdHeading (ls.getD 0 "") "cells" = none then some 1 else
  if rdHeading (ls.getD 1 "") "rows" = none then some 2 else match rdHeading (ls.getD 2 "") "start" with
  | none => some 3
  | some sts => if sts.length = 1 then runK (ls.drop 3) 3 [] false else some 3
theorem heading_at {ls : List Str} {a : Nat} {zs : List Str} (h : rdHeading (ls.getD a "") "start" = some zs) : a < ls.length := by
  rcases Nat.lt_or_ge a ls.length with q | q
  · exact q
  · rw [List.getD_eq_getElem?_getD, List.getElem?_eq_none q] at h
    have k : rdHeading ((none : Option Str).getD "") "start" = none := by decide +kernel
    rw [k] at h
    cases h
theorem wrong_err {ls : List Str} (hsh : Short ls) (hl : ls.length ≤ 100) {l : Nat} (h : RdC ls (.error l)) : wrongA ls = some l := by
  unfold wrongA
  cases h with
  | c h => rw [if_pos h]
  | r h h1 => rw [if_neg (by rw [h]; exact fun c => nomatch c), if_pos h1]
  | s h h1 h2 => rw [if_neg (by rw [h]; exact fun c => nomatch c), if_neg (by rw [h1]; exact fun c => nomatch c), h2]
  | t h h1 h2 h3 =>
    rw [if_neg (by rw [h]; exact fun c => nomatch c), if_neg (by rw [h1]; exact fun c => nomatch c), h2]
    dsimp only
    rw [if_neg h3]
  | f h h1 h2 h3 =>
    rw [if_neg (by rw [h]; exact fun c => nomatch c), if_neg (by rw [h1]; exact fun c => nomatch c), h2]
    have g := heading_at h2
    have f := fns_sim hsh hl (ls.length + 1) 3 0 false (by omega) g (by omega) (.inl ⟨rfl, rfl⟩)
    rw [h3] at f
    exact f
theorem wrong_ok {ls : List Str} (hsh : Short ls) (hl : ls.length ≤ 100) {o} (h : RdC ls (.ok o)) : wrongA ls = none := by
  unfold wrongA
  cases h with
  | ok h h1 h2 h3 =>
    rw [if_neg (by rw [h]; exact fun c => nomatch c), if_neg (by rw [h1]; exact fun c => nomatch c), h2]
    have g := heading_at h2
    have f := fns_sim hsh hl (ls.length + 1) 3 0 false (by omega) g (by omega) (.inl ⟨rfl, rfl⟩)
    rw [h3] at f
    exact f

end K06
set_option Elab.async false
set_option linter.all false
set_option maxRecDepth 100000
set_option maxHeartbeats 8000000
namespace K06
open PySem PySem.Spec PyProof.Rows L2 He XH XV XR PEN TR Evl


/-! ### a name, as the law tells it -/
section
variable {K : PySem.W.Frag} {σ : L2.St} {H : Hp} {t : TT} {te : TE}
theorem el_lcS {z : Str} {tl : TE} {j : Nat} {vs : List Nat} (f : Nat → Bool) (v : Nat → V) (h : Ev tl σ H (.str z)) (hz : z.length ≤ 40000) (hw : ∀ x, wipe ((wipe σ vs).set j (some x)) vs = wipe σ vs)
    (ht : ∀ (i : Nat) (c : Nat) H1, Ex H H1 → z.cps[i]? = some c → EvT t ((wipe σ vs).set j (some (.str ⟨#[c]⟩))) H1 (f i)) (he : ∀ (i : Nat) (c : Nat) H1, Ex H H1 → z.cps[i]? = some c → f i = true → Ev te ((wipe σ vs).set j (some (.str ⟨#[c]⟩))) H1 (v i)) :
    EvL (tLc (iStr tl) (gName j) t te vs) σ H (given z.cps.size f v) := fun H0 e Q q => h H0 e _ fun H1 e1 => ⟨z, rfl, fun Dl hD =>
  lc_it walk_str (Cw H1 f v Dl) ⟨hD, Ex.new hD, upd_same⟩ (fun _ _ _ _ => True.intro) (fun i x H2 H3 hi p hy => by
    obtain ⟨rfl, c, hc, rfl⟩ := hy
    have hzz : z.cps.size = z.length := rfl
    exact ⟨hw _, cw_turn p (by omega) (ht i c H1 (e.trans e1) hc) (fun hf => he i c H1 (e.trans e1) hc hf)⟩)
    (fun H' p => q Dl H' (fresh_back e1 p.1) (e1.trans p.2.1) p.2.2)⟩
end
theorem given_empty {n : Nat} {f : Nat → Bool} {v : Nat → V} : (given n f v).isEmpty = (List.range n).all fun i => !f i := by
  unfold given
  rw [List.isEmpty_map, Bool.eq_iff_iff, List.isEmpty_iff, List.filter_eq_nil_iff, List.all_eq_true]
  simp
theorem signs_all (z : Str) (A : List Nat) : ((List.range z.cps.size).all fun i => !(!decide ((z.cps.getD i 0) ∈ A))) = z.cps.toList.all fun c => decide (c ∈ A) := by
  rw [Bool.eq_iff_iff, List.all_eq_true, List.all_eq_true]
  constructor
  · intro h c hc
    obtain ⟨i, hi, rfl⟩ := List.mem_iff_getElem.mp hc
    rw [Array.length_toList] at hi
    have k := h i (List.mem_range.mpr hi)
    rw [Bool.not_not] at k
    simpa [Array.getD, hi] using k
  · intro h i hi
    have hi := List.mem_range.mp hi
    rw [Bool.not_not]
    refine h _ ?_
    have e : z.cps.getD i 0 = z.cps[i] := by simp [Array.getD, hi]
    rw [e]
    exact Array.getElem_mem_toList hi

section
variable {P : Program} {w : World} {K : PySem.W.Frag} {mg : Str → Option Value} {base : Heap}

theorem ok_law_name {fd : FuncData} (F : FnP K "_law_name" "_law_name" s_law_name (ga K "_law_name") fd) (T : Tx K w mg) : FnOk P w K mg base CX0 (0 + 1) (ga K "_law_name") fd ["_law_word_here"] spIsName := by
  refine FunD.ok F sc_law_name (fun vs H Q E h => ?_) (fun cdv A outer s H vs Q E hr h => ?_)
  · obtain ⟨z, rfl, _⟩ := h
    rfl
  · obtain ⟨z, rfl, hz, kk⟩ := h
    have n_len := T.fr "len" (by decide +kernel)
    refine ⟨_, PSs.nox (pss_cons (ps_set (i := 1) sc_law_name.nd rfl (Or.inr rfl) pe_str)
      (pss_one (ps_ret (pe_and (pe_chain op_le op_le pe_int (pe_callB call_len_str (by rfl) n_len (by decide +kernel) (pa_cons (pv 0) pa_nil)) pe_int) (pe_one (pe_cmpR (op_eqNil hr.units0) (pe_lc (own := [("_law_sign", 2)]) (g := gName 2) (by rfl) sc_law_name.nd (pi_str (pv 0)) (blkOk_by (own := [("_law_sign", 2)]) (N := ["_law_word_here", "_law_letters", "_law_sign"]) (sc := defScope s_law_name) (by decide +kernel)) (fun _ _ _ _ _ => (pg_name (i := 2) sc_law_name.nd rfl (Or.inl rfl))) (fun _ _ _ _ _ => (pts_one (pt_cmpR op_notIn_sign (pv 2) (pv 1) (by rfl)))) (fun _ _ _ _ _ => (pv 2))) (pe_lst pa_nil) (nomark _))))))), ?_⟩
    refine q_asg (v := .str alphabet) (ev_is ev_c rfl) fun H1 e1 => ?_
    have ee : ((decide ((1 : Int) ≤ (z.length : Int)) && decide ((z.length : Int) ≤ 12)) && xor false (given z.cps.size (fun i => !decide ((z.cps.getD i 0) ∈ alphabet.cps.toList)) fun i => .str ⟨#[z.cps.getD i 0]⟩).isEmpty) = goodN z := by
      unfold goodN
      rw [given_empty, Bool.false_xor, signs_all, Bool.and_assoc]
      congr 1
      · exact decide_eq_decide.mpr (by omega)
      · congr 1
        exact decide_eq_decide.mpr (by omega)
    refine s_ret (v := .bl (goodN z)) (ev_is (ev_andV (ev_chain ev_c (ev_cb (ea_cons (ev_var rfl) ea_nil) fun H1 e Q q => ⟨z, rfl, fits hz, q H1 (Ex.refl _)⟩) ev_c) fun _ => ev_nilN (el_lcS (fun i => !decide ((z.cps.getD i 0) ∈ alphabet.cps.toList)) (fun i => .str ⟨#[z.cps.getD i 0]⟩) (ev_var rfl) (by omega) (fun _ => rfl) (fun i c H2 e2 hc => ?_) (fun i c H2 e2 hc _ => ?_))) (by rw [ee])) fun H2 e2 => kk H2 (e1.trans e2)
    · have ec : z.cps.getD i 0 = c := by rw [Array.getD_eq_getD_getElem?, hc]; rfl
      rw [ec]
      exact et_test (ev_op (ev_var rfl) (ev_var rfl) fun H3 _ Q q => ⟨c, alphabet, rfl, rfl, q H3 (Ex.refl _)⟩)
    · have ec : z.cps.getD i 0 = c := by rw [Array.getD_eq_getD_getElem?, hc]; rfl
      rw [ec]
      exact ev_var rfl

end
end K06
set_option Elab.async false
set_option linter.all false
set_option maxRecDepth 100000
set_option maxHeartbeats 8000000
namespace K06
open PySem PySem.Spec PyProof.Rows L2 He XH XV XR PEN TR Evl


section
variable {K : PySem.W.Frag} {σ : L2.St} {H : Hp} {ty td to : TE}
theorem el_split {z : Str} (h : Ev to σ H (.str z)) (hz : z.length ≤ 900) : EvL (tM1 (fun x xs H Q => ∃ a b, x = .str a ∧ xs = [.str b] ∧ (b.length == 0) = false ∧ a.length + 2 ≤ sizeLine ∧ rNewStrs (Txt.split a b) H Q) to (tC (.str " "))) σ H ((Txt.split z blank).map V.str) := fun H1 e Q q =>
  h H1 e _ fun H2 e2 => ⟨⟨_, rfl⟩, z, blank, rfl, rfl, rfl, fits (by omega), fun p hp => q p _ (fresh_back e2 hp) (e2.trans (Ex.new hp)) upd_same⟩
theorem ev_din {a : Addr} {kvs : List (Key × V)} {z : Str} (h1 : Ev ty σ H (.str z)) (h2 : Ev td σ H (.ref a)) (hd : H a = some (.dK kvs)) : Ev (tDIn ty td) σ H (.bl (valV kvs (Sum.inr z)).isSome) := fun H1 e Q q =>
  h1 H1 e _ fun H2 e2 => h2 H2 (e.trans e2) _ fun H3 e3 => ⟨a, valV kvs (Sum.inr z), rfl, DGet.k (k := Sum.inr z) (e3 _ _ (e2 _ _ (e _ _ hd))), q H3 (e2.trans e3)⟩
theorem ev_dgetS {a : Addr} {kvs : List (Key × V)} {z : Str} {v : V} (h1 : Ev td σ H (.ref a)) (h2 : Ev ty σ H (.str z)) (hd : H a = some (.dK kvs)) (hv : valV kvs (Sum.inr z) = some v) : Ev (tDGet td ty) σ H v := fun H1 e Q q =>
  h1 H1 e _ fun H2 e2 => h2 H2 (e.trans e2) _ fun H3 e3 => ⟨a, v, rfl, by rw [← hv]; exact DGet.k (k := Sum.inr z) (e3 _ _ (e2 _ _ (e _ _ hd))), q H3 (e2.trans e3)⟩
end
def kinds5 : List (Key × V) := [(Sum.inr "either", .str "or"), (Sum.inr "told", .str "else"), (Sum.inr "guard", .str "rescue"), (Sum.inr "do", .str "lastly"), (Sum.inr "tries", .str "")]
def kndkv : List (Key × V) := mergeK [] kinds5
theorem knd_is : kndkv = kinds5 := rfl
theorem kv_val (h : Str) : valV kndkv (Sum.inr h) = (sec5 h).map V.str := by
  rw [knd_is]
  have ne : ∀ {s : Str}, ¬ h = s → ¬ (Sum.inr s : Key) = Sum.inr h := fun c e => c (by injection e with e; exact e.symm)
  unfold sec5 kinds5
  by_cases c1 : h = "either"
  · rw [if_pos c1, valV_pos (by rw [c1])]; rfl
  rw [if_neg c1, valV_neg (ne c1)]
  by_cases c2 : h = "told"
  · rw [if_pos c2, valV_pos (by rw [c2])]; rfl
  rw [if_neg c2, valV_neg (ne c2)]
  by_cases c3 : h = "guard"
  · rw [if_pos c3, valV_pos (by rw [c3])]; rfl
  rw [if_neg c3, valV_neg (ne c3)]
  by_cases c4 : h = "do"
  · rw [if_pos c4, valV_pos (by rw [c4])]; rfl
  rw [if_neg c4, valV_neg (ne c4)]
  by_cases c5 : h = "tries"
  · rw [if_pos c5, valV_pos (by rw [c5])]; rfl
  rw [if_neg c5, valV_neg (ne c5)]
  rfl
def oV : Option Str → V
  | none => .non
  | some z => .str z
def spKind6 : Sp := fun vs H Q _ => ∃ t : Str, vs = [.str t] ∧ t.length ≤ 900 ∧ ∀ H', Ex H H' → Q (oV (lawKind t)) H'

section
variable {P : Program} {w : World} {K : PySem.W.Frag} {mg : Str → Option Value} {base : Heap}

theorem ok_law_kind {fd : FuncData} (F : FnP K "_law_kind" "_law_kind" s_law_kind (ga K "_law_kind") fd) (T : Tx K w mg) (c_law_name : Cl P w K mg base CX0 1 (ga K "_law_name") ["_law_word_here"] spIsName) : FnOk P w K mg base CX0 (1 + 1) (ga K "_law_kind") fd ["_law_text_here"] spKind6 := by
  obtain ⟨fd_law_name, G_law_name, b_law_name, kp_law_name⟩ := c_law_name
  refine FunD.ok F sc_law_kind (fun vs H Q E h => ?_) (fun cdv A outer s H vs Q E hr h => ?_)
  · obtain ⟨t, rfl, _⟩ := h
    rfl
  · obtain ⟨t, rfl, ht, kk⟩ := h
    have n_len := T.fr "len" (by decide +kernel)
    have g_law_name := T.gl "_law_name" (by decide +kernel)
    refine ⟨_, PSs.nox (pss_cons (ps_set (i := 1) sc_law_kind.nd rfl (Or.inl rfl) (pe_split (pv 0) pe_str))
      (pss_cons (ps_set (i := 2) sc_law_kind.nd rfl (Or.inl rfl) (pe_ix ix_list (pv 1) pe_int (fun _ _ => rfl)))
      (pss_cons (ps_set (i := 3) sc_law_kind.nd rfl (Or.inl rfl) (pe_disp (pps_cons pe_str pe_str (pps_cons pe_str pe_str (pps_cons pe_str pe_str (pps_cons pe_str pe_str (pps_cons pe_str pe_str pps_nil))))) rfl rfl (by simp) (by decide)))
      (pss_cons (ps_if (PW.pt (pw_and (pt_cmpR op_eq (pe_callB call_len_seq (by rfl) n_len (by decide +kernel) (pa_cons (pv 1) pa_nil)) pe_int (nomark _)) (pw_and1 (pt_cmp (pc_din (Nat.lt_of_le_of_lt (Nat.add_le_add_left (by decide) _) hr.units) (pv 2) (pv 3))))))
      (pss_one (ps_ret (pe_dget (Nat.lt_of_le_of_lt (Nat.add_le_add_left (by decide) _) hr.units) (pv 3) (pv 2) (fun _ _ => rfl))))
      pss_nil)
      (pss_cons (ps_if (PW.pt (pw_and (pt_cmpR op_eq (pe_callB call_len_seq (by rfl) n_len (by decide +kernel) (pa_cons (pv 1) pa_nil)) pe_int (nomark _)) (pw_and1 (pt_cmpR (op_in_seq : OpR _ _ (rIn K false)) (pv 2) (pe_tup (pa_cons pe_str (pa_cons pe_str (pa_cons pe_str (pa_cons pe_str pa_nil))))) (by rfl)))))
      (pss_one (ps_ret pe_str))
      pss_nil)
      (pss_cons (ps_if (pt_cmpR op_ne (pe_callB call_len_seq (by rfl) n_len (by decide +kernel) (pa_cons (pv 1) pa_nil)) pe_int (nomark _))
      (pss_one (ps_ret pe_non))
      pss_nil)
      (pss_cons (ps_if (PW.pt (pw_and (pt_cmpR op_eq (pv 2) pe_str (nomark _)) (pw_and1 (pt_val (pe_call G_law_name (hr.mono (by decide)) (by rfl) g_law_name kp_law_name b_law_name .nil pass0 (pa_cons (pe_ix ix_list (pv 1) pe_int (fun _ _ => rfl)) pa_nil))))))
      (pss_one (ps_ret pe_str))
      pss_nil)
      (pss_cons (ps_if (pt_cmpR (op_in_seq : OpR _ _ (rIn K false)) (pv 2) (pe_tup (pa_cons pe_str (pa_cons pe_str (pa_cons pe_str (pa_cons pe_str (pa_cons pe_str (pa_cons pe_str (pa_cons pe_str pa_nil)))))))) (by rfl))
      (pss_one (ps_ret (pe_ifExp (pt_val (pe_call G_law_name (hr.mono (by decide)) (by rfl) g_law_name kp_law_name b_law_name .nil pass0 (pa_cons (pe_ix ix_list (pv 1) pe_int (fun _ _ => rfl)) pa_nil))) pe_str pe_non)))
      pss_nil)
      (pss_cons (ps_if (PW.pt (pw_or (PW.pt (pw_and (pt_cmpR op_eq (pv 2) pe_str (nomark _)) (pw_and1 (pt_cmpR (op_in_seq : OpR _ _ (rIn K false)) (pe_ix ix_list (pv 1) pe_int (fun _ _ => rfl)) (pe_tup (pa_cons pe_str (pa_cons pe_str pa_nil))) (by rfl))))) (pw_or1 (PW.pt (pw_and (pt_cmpR op_eq (pv 2) pe_str (nomark _)) (pw_and1 (pt_cmpR (op_in_seq : OpR _ _ (rIn K false)) (pe_ix ix_list (pv 1) pe_int (fun _ _ => rfl)) (pe_tup (pa_cons pe_str (pa_cons pe_str pa_nil))) (by rfl))))))))
      (pss_one (ps_ret pe_str))
      pss_nil)
      (pss_one (ps_ret pe_non))))))))))), ?_⟩
    obtain ⟨first, rest, hs⟩ := split_ne t
    have lk : lawKind t = kindL (first :: rest) := by
      unfold lawKind
      rw [hs]
    rw [lk] at kk
    have zn := PyProof.Rows.split_le t blank
    rw [hs, List.length_cons] at zn
    refine q_asgL (xs := (first :: rest).map V.str) (by rw [← hs]; exact el_split (ev_var rfl) (by omega)) fun p H1 hp e1 h1 => ?_
    try dsimp only [gName, List.set]
    refine q_asg (v := .str first) (ev_op (ev_var rfl) ev_c (rv_ixL (sq_of h1) (atI_nat (j := 0) rfl))) fun H2 e2 => ?_
    try dsimp only [gName, List.set]
    intro S hS
    have e3 : Ex H2 (upd (upd H2 S (.dK [])) S (.dK (mergeK [] kinds5))) := (Ex.new hS).mut hS
    refine ⟨upd_same, kinds5, rfl, (show 5 ≤ 15 by decide), ?_⟩
    have gS : upd (upd H2 S (.dK [])) S (.dK (mergeK [] kinds5)) S = some (.dK kndkv) := upd_same
    show _
    have g1 := e3 _ _ (e2 _ _ h1)
    have e13 := e1.trans (e2.trans e3)
    generalize upd (upd H2 S (.dK [])) S (.dK (mergeK [] kinds5)) = H3 at gS g1 e13
    try dsimp only [gName, List.set]
    have ln : ∀ {σ : L2.St} {H' : Hp}, σ[1]? = some (some (.ref p)) → Ex H3 H' → Ev (tCB (rLenS K) (tCons (tVar 1) tNil)) σ H' (.int ((((first :: rest).map V.str).length : Nat) : Int)) := fun hσ e => ev_len (K := K) (ev_var hσ) (sq_of (e _ _ g1))
    refine q_when (b := decide (V.int ((((first :: rest).map V.str).length : Nat) : Int) = .int 1) && (valV kndkv (Sum.inr first)).isSome) (et_and (et_test (ev_op (ln rfl (Ex.refl _)) ev_c (rv_eq rfl))) fun _ => et_test (ev_din (ev_var rfl) (ev_var rfl) gS)) (fun hb H4 e4 => ?_) (fun hb H4 e4 => ?_)
    · rw [Bool.and_eq_true] at hb
      have l1 : rest = [] := by
        have k := of_decide_eq_true hb.1
        injection k with k
        rw [List.length_map, List.length_cons] at k
        exact List.eq_nil_of_length_eq_zero (by omega)
      subst l1
      have k2 := hb.2
      rw [kv_val] at k2
      cases q5 : sec5 first with
      | none =>
        rw [q5] at k2
        cases k2
      | some s5 =>
        refine s_ret (ev_dgetS (v := .str s5) (ev_var rfl) (ev_var rfl) (e4 _ _ gS) (by rw [kv_val, q5]; rfl)) fun H5 e5 => ?_
        have kv : kindL [first] = some s5 := by
          show kind1 first = _
          unfold kind1
          rw [q5]
        rw [kv] at kk
        exact kk H5 ((e13.trans e4).trans e5)
    have e14 := e13.trans e4
    have i4 : ∀ {tt : TE} {us : List Str} {σ : L2.St} {H' : Hp}, EvU tt σ H' (us.map V.str) → σ[2]? = some (some (.str first)) → EvT (tB (tOp (rIn K false) (tVar 2) tt)) σ H' (decide (first ∈ us)) := fun {tt us σ H'} h hσ => et_test (ev_opU (ev_var hσ) h fun q Hq hq _ => by
      have k := rv_isT (K := K) (x := .str first) (H := Hq) (st_of hq) rfl (flat_strs us)
      rw [inV_strs] at k
      exact k)
    refine q_when (b := decide (V.int ((((first :: rest).map V.str).length : Nat) : Int) = .int 1) && decide (first ∈ [("fault" : Str), "may", "again", "out"])) (et_and (et_test (ev_op (ln rfl e4) ev_c (rv_eq rfl))) fun _ => i4 (us := [("fault" : Str), "may", "again", "out"]) (eu_tup (ea_cons ev_c (ea_cons ev_c (ea_cons ev_c (ea_cons ev_c ea_nil)))) (by decide)) rfl) (fun hb2 H5 e5 => ?_) (fun hb2 H5 e5 => ?_)
    · rw [Bool.and_eq_true] at hb2
      have l1 : rest = [] := by
        have k := of_decide_eq_true hb2.1
        injection k with k
        rw [List.length_map, List.length_cons] at k
        exact List.eq_nil_of_length_eq_zero (by omega)
      subst l1
      have q5 : sec5 first = none := by
        have k : decide (V.int ((([first].map V.str).length : Nat) : Int) = .int 1) = true := hb2.1
        rw [k, Bool.true_and, kv_val] at hb
        cases q5 : sec5 first with
        | none => rfl
        | some s5 =>
          rw [q5] at hb
          cases hb
      refine s_ret ev_c fun H6 e6 => ?_
      have kv : kindL [first] = some ("simple" : Str) := by
        show kind1 first = _
        unfold kind1
        rw [q5]
        dsimp only
        rw [if_pos (of_decide_eq_true hb2.2)]
      rw [kv] at kk
      exact kk H6 ((e14.trans e5).trans e6)
    have e15 := e14.trans e5
    refine q_when (b := !decide (V.int ((((first :: rest).map V.str).length : Nat) : Int) = .int 2)) (et_test (ev_op (ln rfl (e4.trans e5)) ev_c (rv_ne rfl))) (fun hb3 H6 e6 => ?_) (fun hb3 H6 e6 => ?_)
    · refine s_ret ev_c fun H7 e7 => ?_
      have kv : kindL (first :: rest) = none := by
        match rest, hb, hb2, hb3 with
        | [], hb, hb2, _ =>
          show kind1 first = _
          unfold kind1
          have k : decide (V.int ((([first].map V.str).length : Nat) : Int) = .int 1) = true := decide_eq_true (by rfl)
          rw [k, Bool.true_and, kv_val] at hb
          rw [k, Bool.true_and] at hb2
          cases q5 : sec5 first with
          | some s5 =>
            rw [q5] at hb
            cases hb
          | none =>
            dsimp only
            rw [if_neg (of_decide_eq_false hb2)]
        | [a], _, _, hb3 =>
          have k : decide (V.int ((([first, a].map V.str).length : Nat) : Int) = .int 2) = true := decide_eq_true (by rfl)
          rw [k] at hb3
          cases hb3
        | a :: b :: r, _, _, _ => rfl
      rw [kv] at kk
      exact kk H7 ((e15.trans e6).trans e7)
    obtain ⟨a, rfl⟩ : ∃ a, rest = [a] := by
      rw [Bool.not_eq_false'] at hb3
      have k := of_decide_eq_true hb3
      injection k with k
      rw [List.length_map, List.length_cons] at k
      match rest, k with
      | [a], _ => exact ⟨a, rfl⟩
      | [], k => exact absurd k (by decide)
      | a :: b :: r, k =>
        rw [List.length_cons, List.length_cons] at k
        exact absurd k (by omega)
    have al : a.length ≤ 900 := Nat.le_trans (PyProof.Rows.part_short (x := t) (y := blank) (by rw [hs]; exact List.mem_cons_of_mem _ (List.mem_singleton.mpr rfl))) ht
    have kv : kindL [first, a] = kind2 first a := rfl
    rw [kv] at kk
    have e16 := e15.trans e6
    have g6 := (e4.trans (e5.trans e6)) _ _ g1
    have ix : ∀ {σ : L2.St} {H' : Hp}, σ[1]? = some (some (.ref p)) → Ex H6 H' → Ev (tOp (rIxL K) (tVar 1) (tC (.int 1))) σ H' (.str a) := fun hσ e => ev_op (ev_var hσ) ev_c (rv_ixL (sq_of (e _ _ g6)) (atI_nat (j := 1) rfl))
    refine q_when (b := decide (V.str first = V.str "look") && goodN a) (et_and (et_test (ev_op (ev_var rfl) ev_c (rv_eq rfl))) fun _ => et_B (ev_call (ea_cons (ix rfl (Ex.refl _)) ea_nil) fun H7 e7 R q _ => ⟨a, rfl, by omega, fun H8 e8 => q H8 e8⟩)) (fun hb4 H7 e7 => ?_) (fun hb4 H7 e7 => ?_)
    · rw [Bool.and_eq_true] at hb4
      have f1 : first = "look" := by
        have k := of_decide_eq_true hb4.1
        injection k
      have kv2 : kind2 first a = some ("else" : Str) := by
        unfold kind2
        rw [if_pos ⟨f1, hb4.2⟩]
      rw [kv2] at kk
      exact s_ret ev_c fun H8 e8 => kk H8 ((e16.trans e7).trans e8)
    have n1 : ¬ (first = "look" ∧ goodN a = true) := by
      rintro ⟨f1, f2⟩
      rw [f2, decide_eq_true (show V.str first = V.str "look" by rw [f1])] at hb4
      cases hb4
    have e17 := e16.trans e7
    have i7 : ∀ {te tt : TE} {z : Str} {us : List Str} {σ : L2.St} {H' : Hp}, EvU tt σ H' (us.map V.str) → Ev te σ H' (.str z) → EvT (tB (tOp (rIn K false) te tt)) σ H' (decide (z ∈ us)) := fun {te tt z us σ H'} h hσ => et_test (ev_opU hσ h fun q Hq hq _ => by
      have k := rv_isT (K := K) (x := .str z) (H := Hq) (st_of hq) rfl (flat_strs us)
      rw [inV_strs] at k
      exact k)
    refine q_when (b := decide (first ∈ [("put" : Str), "blank", "give", "push", "pop", "cut", "deeper"])) (i7 (us := [("put" : Str), "blank", "give", "push", "pop", "cut", "deeper"]) (eu_tup (ea_cons ev_c (ea_cons ev_c (ea_cons ev_c (ea_cons ev_c (ea_cons ev_c (ea_cons ev_c (ea_cons ev_c ea_nil))))))) (by decide)) (ev_var rfl)) (fun hb5 H8 e8 => ?_) (fun hb5 H8 e8 => ?_)
    · have kv2 : kind2 first a = if goodN a = true then some ("simple" : Str) else none := by
        unfold kind2
        rw [if_neg n1, if_pos (of_decide_eq_true hb5)]
      rw [kv2] at kk
      refine s_ret (v := oV (if goodN a = true then some ("simple" : Str) else none)) (ev_if (b := goodN a) (et_B (ev_call (ea_cons (ix rfl (e7.trans e8)) ea_nil) fun H7 e7 R q _ => ⟨a, rfl, by omega, fun H8 e8 => q H8 e8⟩)) (fun hg => ev_is ev_c (by rw [if_pos hg]; rfl)) (fun hg => ev_is ev_c (by rw [if_neg (by rw [hg]; decide)]; rfl))) fun H9 e9 => kk H9 ((e17.trans e8).trans e9)
    have e18 := e17.trans e8
    refine q_when (b := (decide (V.str first = V.str "answer") && decide (a ∈ [("copy" : Str), "view"])) || (decide (V.str first = V.str "stop") && decide (a ∈ [("found" : Str), "none"])))
      (et_or (et_and (et_test (ev_op (ev_var rfl) ev_c (rv_eq rfl))) fun _ => i7 (us := [("copy" : Str), "view"]) (eu_tup (ea_cons ev_c (ea_cons ev_c ea_nil)) (by decide)) (ix rfl (e7.trans e8))) fun _ =>
        et_and (et_test (ev_op (ev_var rfl) ev_c (rv_eq rfl))) fun _ => i7 (us := [("found" : Str), "none"]) (eu_tup (ea_cons ev_c (ea_cons ev_c ea_nil)) (by decide)) (ix rfl (e7.trans e8))) (fun hb6 H9 e9 => ?_) (fun hb6 H9 e9 => ?_)
    · have kv2 : kind2 first a = some ("simple" : Str) := by
        unfold kind2
        rw [if_neg n1, if_neg (of_decide_eq_false hb5), if_pos]
        rw [Bool.or_eq_true, Bool.and_eq_true, Bool.and_eq_true, e_str, e_str] at hb6
        simpa using hb6
      rw [kv2] at kk
      exact s_ret ev_c fun H10 e10 => kk H10 ((e18.trans e9).trans e10)
    · have kv2 : kind2 first a = none := by
        unfold kind2
        rw [if_neg n1, if_neg (of_decide_eq_false hb5), if_neg]
        intro c
        have k : ((decide (V.str first = V.str "answer") && decide (a ∈ [("copy" : Str), "view"])) || (decide (V.str first = V.str "stop") && decide (a ∈ [("found" : Str), "none"]))) = true := by
          rw [Bool.or_eq_true, Bool.and_eq_true, Bool.and_eq_true, e_str, e_str, decide_eq_true_iff, decide_eq_true_iff, decide_eq_true_iff, decide_eq_true_iff]
          exact c
        rw [k] at hb6
        cases hb6
      rw [kv2] at kk
      exact s_ret ev_c fun H10 e10 => kk H10 ((e18.trans e9).trans e10)

end
end K06
set_option Elab.async false
set_option linter.all false
set_option maxRecDepth 100000
set_option maxHeartbeats 8000000
namespace K06
open PySem PySem.Spec PyProof.Rows L2 He XH XV XR PEN TR Evl


/-! ### the headings, as the law tells them -/
def hds3 : List Str := ["cells:", "rows:", "start:"]
def badL (k : Nat) : List Str → Bool
  | [] => true
  | f :: r => (!decide (f = hds3.getD k "") || !r.all goodN) || (decide (k = 2) && !decide (r.length = 1))
theorem badL_cons (k : Nat) (f : Str) (r : List Str) : badL k (f :: r) = ((!decide (f = hds3.getD k "") || !r.all goodN) || (decide (k = 2) && !decide (r.length = 1))) := rfl
def headBad (ls : List Str) (k : Nat) : Bool := decide (ls.length ≤ k) || badL k (Txt.split (ls.getD k "") blank)
def headsA (ls : List Str) : Option Nat := if headBad ls 0 = true then some 1 else if headBad ls 1 = true then some 2 else if headBad ls 2 = true then some 3 else none
theorem heads_at {ls : List Str} {k : Nat} (hk : k < 3) (h : ∀ j, j < k → headBad ls j = false) (hb : headBad ls k = true) : headsA ls = some (k + 1) := by
  unfold headsA
  match k, hk with
  | 0, _ => rw [if_pos hb]
  | 1, _ => rw [if_neg (by rw [h 0 (by omega)]; decide), if_pos hb]
  | 2, _ => rw [if_neg (by rw [h 0 (by omega)]; decide), if_neg (by rw [h 1 (by omega)]; decide), if_pos hb]
theorem heads_no {ls : List Str} (h : ∀ j, j < 3 → headBad ls j = false) : headsA ls = none := by
  unfold headsA
  rw [if_neg (by rw [h 0 (by omega)]; decide), if_neg (by rw [h 1 (by omega)]; decide), if_neg (by rw [h 2 (by omega)]; decide)]
def oI : Option Nat → V
  | none => .non
  | some n => .int (n : Nat)
def spHeads6 : Sp := fun vs H Q _ => ∃ (L : Addr) (ls : List Str), vs = [.ref L] ∧ H L = some (.lst (ls.map V.str)) ∧ Short ls ∧ ls.length ≤ 1000 ∧ ∀ H', Ex H H' → Q (oI (headsA ls)) H'
theorem bad_given (r : List Str) : (given r.length (fun i => !goodN (r.getD i "")) fun i => V.str (r.getD i "")).isEmpty = r.all goodN := by
  rw [given_empty, Bool.eq_iff_iff, List.all_eq_true, List.all_eq_true]
  constructor
  · intro h z hz
    obtain ⟨i, hi, rfl⟩ := List.mem_iff_getElem.mp hz
    have k := h i (List.mem_range.mpr hi)
    rw [Bool.not_not, List.getD_eq_getElem?_getD, List.getElem?_eq_getElem hi] at k
    exact k
  · intro h i hi
    have hi := List.mem_range.mp hi
    rw [Bool.not_not, List.getD_eq_getElem?_getD, List.getElem?_eq_getElem hi]
    exact h _ (List.getElem_mem hi)

section
variable {P : Program} {w : World} {K : PySem.W.Frag} {mg : Str → Option Value} {base : Heap}

theorem ok_law_heads {fd : FuncData} (F : FnP K "_law_heads" "_law_heads" s_law_heads (ga K "_law_heads") fd) (T : Tx K w mg) (c_law_name : Cl P w K mg base CX0 1 (ga K "_law_name") ["_law_word_here"] spIsName) : FnOk P w K mg base CX0 (1 + 1) (ga K "_law_heads") fd ["_law_lines_here"] spHeads6 := by
  obtain ⟨fd_law_name, G_law_name, b_law_name, kp_law_name⟩ := c_law_name
  refine FunD.ok F sc_law_heads (fun vs H Q E h => ?_) (fun cdv A outer s H vs Q E hr h => ?_)
  · obtain ⟨l, ls, rfl, _⟩ := h
    rfl
  · obtain ⟨l, ls, rfl, hl, hsh, hn, kk⟩ := h
    have n_range := T.fr "range" (by decide +kernel)
    have n_len := T.fr "len" (by decide +kernel)
    have g_law_name := T.gl "_law_name" (by decide +kernel)
    refine ⟨_, PSs.nox (pss_cons (ps_set (i := 1) sc_law_heads.nd rfl (Or.inl rfl) (pe_lst (pa_cons pe_str (pa_cons pe_str (pa_cons pe_str pa_nil)))))
      (pss_cons (ps_for PassesOwn.never rfl (pi_range1 (by rfl) n_range (pa_cons pe_int pa_nil)) (pg_name (i := 2) sc_law_heads.nd rfl (Or.inl rfl))
      (pss_cons (ps_if (pt_cmpR op_ge (pv 2) (pe_callB call_len_seq (by rfl) n_len (by decide +kernel) (pa_cons (pv 0) pa_nil)) (nomark _))
      (pss_one (ps_ret (pe_op op_add (pv 2) pe_int)))
      pss_nil)
      (pss_cons (ps_set (i := 3) sc_law_heads.nd rfl (Or.inl rfl) (pe_split (pe_ix ix_list (pv 0) (pv 2) (fun _ _ => rfl)) pe_str))
      (pss_cons (ps_if (PW.pt (pw_or (pt_cmpR op_ne (pe_ix ix_list (pv 3) pe_int (fun _ _ => rfl)) (pe_ix ix_list (pv 1) (pv 2) (fun _ _ => rfl)) (nomark _)) (pw_or1 (pt_cmpR (op_neNil hr.units0) (pe_lc (own := [("_law_word_here", 4)]) (g := gName 4) (by rfl) sc_law_heads.nd (pi_list (pe_slice sl_list (pv 3) (po_some pe_int) po_none)) (blkOk_by (own := [("_law_word_here", 4)]) (N := ["_law_lines_here", "_law_heads_here", "_law_k", "_law_words", "_law_word_here"]) (sc := defScope s_law_heads) (by decide +kernel)) (fun _ _ _ _ _ => (pg_name (i := 4) sc_law_heads.nd rfl (Or.inl rfl))) (fun _ _ _ _ _ => (pts_one (pt_not (pt_val (pe_call G_law_name (hr.mono (by decide)) (by rfl) g_law_name kp_law_name b_law_name .nil pass0 (pa_cons (pv 4) pa_nil)))))) (fun _ _ _ _ _ => (pv 4))) (pe_lst pa_nil) (nomark _)))))
      (pss_one (ps_ret (pe_op op_add (pv 2) pe_int)))
      pss_nil)
      (pss_one (ps_if (PW.pt (pw_and (pt_cmpR op_eq (pv 2) pe_int (nomark _)) (pw_and1 (pt_cmpR op_ne (pe_callB call_len_seq (by rfl) n_len (by decide +kernel) (pa_cons (pv 3) pa_nil)) pe_int (nomark _)))))
      (pss_one (ps_ret pe_int))
      pss_nil))))))
      (pss_one (ps_ret pe_non)))), ?_⟩
    refine q_asgL (xs := hds3.map V.str) (el_lst (ea_cons ev_c (ea_cons ev_c (ea_cons ev_c ea_nil))) (by decide)) fun p H1 hp e1 h1 => ?_
    try dsimp only [gName, List.set]
    refine q_forR1 (n := 3) (ea_cons ev_c ea_nil) (by decide) (fun i σ' H' => ∃ v2 v3 v4, σ' = [some (.ref l), some (.ref p), v2, v3, v4] ∧ Ex H1 H' ∧ ∀ j, j < i → headBad ls j = false)
      (fun H2 e2 => ⟨none, none, none, rfl, e2, fun j hj => absurd hj (Nat.not_lt_zero j)⟩) (fun i σ' H' hi hI => ?_) (fun σ' H' hI => ?_)
    · obtain ⟨v2, v3, v4, rfl, e2, hI⟩ := hI
      have hi3 : i < 3 := by omega
      have g2 := (e1.trans e2) _ _ hl
      have p2 := e2 _ _ h1
      refine q_when (b := decide ((((ls.map V.str).length : Nat) : Int) ≤ (i : Int))) (et_test (ev_op (ev_var rfl) (ev_len (K := K) (ev_var rfl) (sq_of g2)) rv_I0)) (fun hb H3 e3 => ?_) (fun hb H3 e3 => ?_)
      · have h := of_decide_eq_true hb
        rw [List.length_map] at h
        refine s_ret (v := .int ((i + 1 : Nat) : Int)) (ev_op (ev_var rfl) ev_c rv_I0) fun H4 e4 => ?_
        rw [heads_at hi3 hI (by unfold headBad; rw [decide_eq_true (by omega)]; rfl)] at kk
        exact kk H4 (((e1.trans e2).trans e3).trans e4)
      have hlen : i < ls.length := by
        have h := of_decide_eq_false hb
        rw [List.length_map] at h
        omega
      have hget : ls[i]? = some (ls.getD i "") := by
        rw [List.getD_eq_getElem?_getD, List.getElem?_eq_getElem hlen]
        rfl
      have zl := short_at hsh i
      have hbad : headBad ls i = badL i (Txt.split (ls.getD i "") blank) := by
        unfold headBad
        rw [decide_eq_false (by omega), Bool.false_or]
      generalize ls.getD i "" = line at zl hget hbad
      obtain ⟨f, r, es⟩ := split_ne line
      rw [es] at hbad
      have zls : ∀ z ∈ r, z.length ≤ 900 := fun z hz => Nat.le_trans (PyProof.Rows.part_short (x := line) (y := blank) (by rw [es]; exact List.mem_cons_of_mem _ hz)) zl
      have zn := PyProof.Rows.split_le line blank
      rw [es, List.length_cons] at zn
      refine q_asgL (xs := (f :: r).map V.str) (by rw [← es]; exact el_split (ev_op (ev_var rfl) (ev_var rfl) (rv_ixL (sq_of (e3 _ _ g2)) (atI_nat (by rw [List.getElem?_map, hget]; rfl)))) (by omega)) fun w H4 hw e4 h4 => ?_
      try dsimp only [gName, List.set]
      have g4 := (e3.trans e4) _ _ p2
      have hd : (hds3.map V.str)[i]? = some (.str (hds3.getD i "")) := by
        match i, hi3 with
        | 0, _ => rfl
        | 1, _ => rfl
        | 2, _ => rfl
      refine q_when (b := !decide (f = hds3.getD i "") || xor true (given (r.map V.str).length (fun j => !goodN (r.getD j "")) fun j => V.str (r.getD j "")).isEmpty)
        (et_or (et_test (ev_op (ev_op (ev_var rfl) ev_c (rv_ixL (sq_of h4) (atI_nat (j := 0) rfl))) (ev_op (ev_var rfl) (ev_var rfl) (rv_ixL (sq_of g4) (atI_nat hd))) rv_neSS)) fun _ => et_test (ev_nilN (el_lcNL _ _ (by
          have k := el_sl (K := K) (σ := [some (.ref l), some (.ref p), some (.int (i : Int)), some (.ref w), none]) (H := H4) (te := tVar 3) (tl := tPart (tC (.int 1))) (th := tNoPart) (ev_var rfl) (eo_some ev_c) eo_none (sq_of h4)
          rw [show cutV ((f :: r).map V.str) (some 1) none = r.map V.str from cut_drop _ 1] at k
          exact k) (by rw [List.length_map]; omega) (fun _ => rfl) (fun j x H5 e5 hx => ?_) (fun j x H5 e5 hx _ => ?_)))) (fun hb2 H5 e5 => ?_) (fun hb2 H5 e5 => ?_)
      · rw [List.getElem?_map] at hx
        cases hz : r[j]? with
        | none =>
          rw [hz] at hx
          cases hx
        | some z =>
          rw [hz] at hx
          cases hx
          have ez : r.getD j "" = z := by
            rw [List.getD_eq_getElem?_getD, hz]
            rfl
          rw [ez]
          exact et_not (et_B (ev_call (ea_cons (ev_var rfl) ea_nil) fun H6 e6 R q _ => ⟨z, rfl, Nat.le_trans (zls z (List.mem_of_getElem? hz)) (by decide), fun H7 e7 => q H7 e7⟩))
      · rw [List.getElem?_map] at hx
        cases hz : r[j]? with
        | none =>
          rw [hz] at hx
          cases hx
        | some z =>
          rw [hz] at hx
          cases hx
          have ez : r.getD j "" = z := by
            rw [List.getD_eq_getElem?_getD, hz]
            rfl
          rw [ez]
          exact ev_var rfl
      · rw [List.length_map, bad_given, Bool.true_xor] at hb2
        refine s_ret (v := .int ((i + 1 : Nat) : Int)) (ev_op (ev_var rfl) ev_c rv_I0) fun H6 e6 => ?_
        rw [heads_at hi3 hI (by rw [hbad, badL_cons, hb2]; rfl)] at kk
        exact kk H6 (((((e1.trans e2).trans e3).trans e4).trans e5).trans e6)
      · rw [List.length_map, bad_given, Bool.true_xor] at hb2
        have l4 : (((f :: r).map V.str).length : Int) = (r.length : Int) + 1 := by
          rw [List.length_map, List.length_cons]
          rfl
        refine s_when (b := decide ((i : Int) = 2) && !decide (V.int ((((f :: r).map V.str).length : Nat) : Int) = .int 2)) (et_and (et_test (ev_op (ev_var rfl) ev_c rv_eqI)) fun _ => et_test (ev_op (ev_len (K := K) (ev_var rfl) (sq_of (e5 _ _ h4))) ev_c (rv_ne rfl))) (fun hb3 H6 e6 => ?_) (fun hb3 H6 e6 => ?_)
        · rw [Bool.and_eq_true, Bool.not_eq_true'] at hb3
          have i2 : i = 2 := by
            have k := of_decide_eq_true hb3.1
            omega
          subst i2
          have r1 : ¬ r.length = 1 := fun c => by
            have k := of_decide_eq_false hb3.2
            exact k (by rw [l4, c]; rfl)
          refine s_ret (v := .int ((2 + 1 : Nat) : Int)) ev_c fun H7 e7 => ?_
          rw [heads_at hi3 hI (by rw [hbad, badL_cons, hb2, decide_eq_false r1]; rfl)] at kk
          exact kk H7 ((((((e1.trans e2).trans e3).trans e4).trans e5).trans e6).trans e7)
        · refine ⟨_, _, _, rfl, (((e2.trans e3).trans e4).trans e5).trans e6, fun j hj => ?_⟩
          rcases Nat.lt_or_ge j i with c | c
          · exact hI j c
          · rw [show j = i by omega, hbad, badL_cons, hb2, Bool.false_or]
            cases h2 : decide (i = 2) with
            | false => rfl
            | true =>
              have i2 := of_decide_eq_true h2
              rw [decide_eq_true (show (i : Int) = 2 by omega), Bool.true_and, Bool.not_eq_false'] at hb3
              have k := of_decide_eq_true hb3
              injection k with k
              rw [decide_eq_true (show r.length = 1 by omega)]
              rfl
    · obtain ⟨v2, v3, v4, rfl, e2, hI⟩ := hI
      rw [heads_no hI] at kk
      exact s_ret ev_c fun H3 e3 => kk H3 ((e1.trans e2).trans e3)

end
end K06
set_option Elab.async false
set_option linter.all false
set_option maxRecDepth 100000
set_option maxHeartbeats 8000000
namespace K06
open PySem PySem.Spec PyProof.Rows L2 He XH XV XR PEN TR Evl


theorem rdh_eq (line w : Str) (k : Nat) (hk : k ≠ 2) (hw : hds3.getD k "" = w ++ (":" : Str)) : (rdHeading line w = none) = (badL k (Txt.split line blank) = true) := by
  obtain ⟨f, r, es⟩ := split_ne line
  unfold rdHeading
  rw [es, badL_cons, decide_eq_false hk, hw]
  dsimp only
  rw [List.all_map]
  by_cases c1 : f = w ++ (":" : Str)
  · cases c2 : r.all goodN with
    | true => rw [if_pos ⟨c1, c2⟩, decide_eq_true c1]; simp
    | false => rw [if_neg (fun c => by have k := c.2; rw [show (id ∘ goodN) = goodN from rfl, c2] at k; cases k), decide_eq_true c1]; simp
  · rw [if_neg (fun c => c1 c.1), decide_eq_false c1]
    simp
theorem rdh_start (line : Str) : badL 2 (Txt.split line blank) = match rdHeading line "start" with
    | none => true
    | some sts => !decide (sts.length = 1) := by
  obtain ⟨f, r, es⟩ := split_ne line
  have hw : hds3.getD 2 "" = ("start" : Str) ++ (":" : Str) := by decide +kernel
  unfold rdHeading
  rw [es, badL_cons, hw]
  dsimp only
  rw [List.all_map]
  by_cases c1 : f = ("start" : Str) ++ (":" : Str)
  · cases c2 : r.all goodN with
    | true => rw [if_pos ⟨c1, c2⟩, decide_eq_true c1]; simp
    | false => rw [if_neg (fun c => by have k := c.2; rw [show (id ∘ goodN) = goodN from rfl, c2] at k; cases k), decide_eq_true c1]; simp
  · rw [if_neg (fun c => c1 c.1), decide_eq_false c1]
    simp
theorem bad_empty : ∀ k, k < 3 → badL k (Txt.split ("" : Str) blank) = true := by decide +kernel
theorem bad_eq {ls : List Str} {k : Nat} (hk : k < 3) : headBad ls k = badL k (Txt.split (ls.getD k "") blank) := by
  unfold headBad
  by_cases c : ls.length ≤ k
  · rw [decide_eq_true c, List.getD_eq_getElem?_getD, List.getElem?_eq_none c, show (none : Option Str).getD "" = "" from rfl, bad_empty k hk]
    rfl
  · rw [decide_eq_false c, Bool.false_or]
theorem wrongA_eq (ls : List Str) : wrongA ls = match headsA ls with
    | some n => some n
    | none => runK (ls.drop 3) 3 [] false := by
  unfold wrongA headsA
  rw [bad_eq (by decide), bad_eq (by decide), bad_eq (by decide)]
  have h0 := rdh_eq (ls.getD 0 "") "cells" 0 (by decide) (by decide +kernel)
  have h1 := rdh_eq (ls.getD 1 "") "rows" 1 (by decide) (by decide +kernel)
  by_cases c0 : badL 0 (Txt.split (ls.getD 0 "") blank) = true
  · rw [if_pos (Eq.mpr h0 c0), if_pos c0]
  rw [if_neg (fun h => c0 (Eq.mp h0 h)), if_neg c0]
  by_cases c1 : badL 1 (Txt.split (ls.getD 1 "") blank) = true
  · rw [if_pos (Eq.mpr h1 c1), if_pos c1]
  rw [if_neg (fun h => c1 (Eq.mp h1 h)), if_neg c1, rdh_start]
  cases rdHeading (ls.getD 2 "") "start" with
  | none => rfl
  | some sts =>
    by_cases c : sts.length = 1
    · simp [c]
    · simp [c]

end K06
set_option Elab.async false
set_option linter.all false
set_option maxRecDepth 100000
set_option maxHeartbeats 8000000
namespace K06
open PySem PySem.Spec PyProof.Rows L2 He XH XV XR PEN TR Evl


theorem lstrip_tx (x : Str) : Txt.lstripChars x blank = tx x := by
  refine TL.ext_tl ?_
  unfold tx
  rw [tl_cut]
  unfold Txt.lstripChars
  rw [stripBy_eq]
  have g : ∀ c : Nat, blank.cps.contains c = decide (c = 32) := by
    intro c
    have e : blank.cps = #[32] := by decide +kernel
    rw [e]
    simp [eq_comm]
  have e : (x.cps.toList.takeWhile blank.cps.contains) = (TL.tl x).takeWhile fun c => decide (c = 32) := by
    show (TL.tl x).takeWhile _ = _
    congr 1
    funext c
    exact g c
  show TL.tl (PySem.Builtin.Str.strSub x (x.cps.toList.takeWhile blank.cps.contains).length x.length) = _
  rw [e]
  show ((x.cps.extract (wd x) x.length)).toList = (TL.tl x).drop (wd x)
  rw [Array.toList_extract]
  show ((TL.tl x).drop (wd x)).take (x.length - wd x) = _
  refine List.take_of_length_le ?_
  have l := TL.len_tl x
  rw [List.length_drop]
  omega
theorem lstrip_len (x : Str) : x.length = wd x + (Txt.lstripChars x blank).length := by
  have e := congrArg List.length (tl_tx x)
  rw [List.length_append, List.length_replicate] at e
  have l1 := TL.len_tl x
  have l2 := TL.len_tl (tx x)
  rw [lstrip_tx]
  omega

end K06
set_option Elab.async false
set_option linter.all false
set_option maxRecDepth 100000
set_option maxHeartbeats 8000000
namespace K06
open PySem PySem.Spec PyProof.Rows L2 He XH XV XR PEN TR Evl


/-! ### the stack of the law's check, in the heap -/
inductive LPs (H0 H : Hp) : List Addr → Stk → Prop
  | nil : LPs H0 H [] []
  | cons {p : Addr} {ps : List Addr} {w : Nat} {s : Str} {S : Stk} (h0 : H0 p = none) (h : H p = some (.lst [.int (w : Nat), .str s])) (r : LPs H0 H ps S) : LPs H0 H (p :: ps) ((w, s) :: S)
theorem LPs.mono {H0 H H' : Hp} {ps : List Addr} {S : Stk} (h : LPs H0 H ps S) (e : ∀ p ∈ ps, H' p = H p) : LPs H0 H' ps S := by
  induction h with
  | nil => exact .nil
  | cons h0 h r ih => exact .cons h0 ((e _ (List.mem_cons_self ..)).trans h) (ih fun p hp => e p (List.mem_cons_of_mem _ hp))
theorem LPs.ex {H0 H H' : Hp} {ps : List Addr} {S : Stk} (h : LPs H0 H ps S) (e : Ex H H') : LPs H0 H' ps S := by
  induction h with
  | nil => exact .nil
  | cons h0 h r ih => exact .cons h0 (e _ _ h) ih
def LStk (H0 H : Hp) (L : Addr) (S : Stk) : Prop := ∃ ps : List Addr, H L = some (.lst (ps.reverse.map V.ref)) ∧ H0 L = none ∧ (L :: ps).Nodup ∧ LPs H0 H ps S
theorem LStk.ex {H0 H H' : Hp} {L : Addr} {S : Stk} (h : LStk H0 H L S) (e : Ex H H') : LStk H0 H' L S := by
  obtain ⟨ps, h1, h2, h3, h4⟩ := h
  exact ⟨ps, e _ _ h1, h2, h3, h4.ex e⟩
theorem LStk.empty {H0 H : Hp} {L : Addr} (h : LStk H0 H L []) : H L = some (.lst []) := by
  obtain ⟨ps, h1, h2, h3, h4⟩ := h
  cases h4
  exact h1
/-- the top of it: where it lies; without it; and with its second word done -/
theorem LStk.top {H0 H : Hp} {L : Addr} {w : Nat} {s : Str} {S : Stk} (h : LStk H0 H L ((w, s) :: S)) : ∃ p xs, H L = some (.lst (xs ++ [.ref p])) ∧ H p = some (.lst [.int (w : Nat), .str s]) ∧ H0 p = none ∧ H0 L = none ∧ p ≠ L ∧
    LStk H0 (upd H L (.lst xs)) L S ∧ LStk H0 (upd H p (.lst [.int (w : Nat), .str ""])) L ((w, "") :: S) := by
  obtain ⟨ps, h1, h2, h3, h4⟩ := h
  cases h4 with
  | @cons p qs w s S p0 hp r =>
    rw [List.nodup_cons, List.nodup_cons] at h3
    obtain ⟨n1, n2, n3⟩ := h3
    have pL : p ≠ L := fun e => n1 (by rw [e]; exact List.mem_cons_self ..)
    have e1 : ((p :: qs).reverse.map V.ref) = qs.reverse.map V.ref ++ [.ref p] := by rw [List.reverse_cons, List.map_append]; rfl
    refine ⟨p, qs.reverse.map V.ref, by rw [← e1]; exact h1, hp, p0, h2, pL, ⟨qs, upd_same, h2, ?_, r.mono fun q hq => upd_ne fun e => n1 (by rw [← e]; exact List.mem_cons_of_mem _ hq)⟩, ⟨p :: qs, (upd_ne (fun e => pL e.symm)).trans h1, h2, ?_, .cons p0 upd_same (r.mono fun q hq => upd_ne fun e => n2 (by rw [← e]; exact hq))⟩⟩
    · rw [List.nodup_cons]
      exact ⟨fun hm => n1 (List.mem_cons_of_mem _ hm), n3⟩
    · rw [List.nodup_cons, List.nodup_cons]
      exact ⟨n1, n2, n3⟩
/-- a new entry on it -/
theorem LStk.push {H0 H : Hp} {L p : Addr} {w : Nat} {s : Str} {S : Stk} {xs : List V} (h : LStk H0 H L S) (hx : H L = some (.lst xs)) (hp : H p = none) (h0 : H0 p = none) : LStk H0 (upd (upd H p (.lst [.int (w : Nat), .str s])) L (.lst (xs ++ [.ref p]))) L ((w, s) :: S) := by
  obtain ⟨ps, h1, h2, h3, h4⟩ := h
  have ex : xs = ps.reverse.map V.ref := by
    rw [hx] at h1
    cases h1
    rfl
  subst ex
  have pL : p ≠ L := fun e => by
    rw [e, hx] at hp
    cases hp
  have np : p ∉ ps := fun hm => by
    have k : ∀ {ps : List Addr} {S : Stk}, LPs H0 H ps S → p ∈ ps → False := fun h => by
      induction h with
      | nil => exact fun hm => nomatch hm
      | cons a b r ih =>
        intro hm
        rcases List.mem_cons.mp hm with e | hm
        · rw [← e, hp] at b
          cases b
        · exact ih hm
    exact k h4 hm
  rw [List.nodup_cons] at h3
  refine ⟨p :: ps, ?_, h2, ?_, .cons h0 ((upd_ne pL).trans upd_same) (h4.mono fun q hq => ?_)⟩
  · rw [List.reverse_cons, List.map_append]
    exact upd_same
  · rw [List.nodup_cons, List.nodup_cons]
    refine ⟨fun hm => ?_, np, h3.2⟩
    rcases List.mem_cons.mp hm with e | hm
    · exact pL e.symm
    · exact h3.1 hm
  · exact (upd_ne fun e => h3.1 (by rw [← e]; exact hq)).trans (upd_ne fun e => np (by rw [← e]; exact hq))

end K06
set_option Elab.async false
set_option linter.all false
set_option maxRecDepth 100000
set_option maxHeartbeats 8000000
namespace K06
open PySem PySem.Spec PyProof.Rows L2 He XH XV XR PEN TR Evl


def stW : CSt → Str
  | .here => "here"
  | .second => "second"
  | .wrong => "wrong"
def spClosed6 : Sp := fun vs H Q _ => ∃ (H0 : Hp) (L : Addr) (S : Stk) (w : Nat) (t : Str), vs = [.ref L, .int (w : Nat), .str t] ∧ Ex H0 H ∧ LStk H0 H L S ∧ ∀ H', Ex H0 H' → LStk H0 H' L (closedA 9 S w t).2 → Q (.str (stW (closedA 9 S w t).1)) H'
theorem atI_last {α : Type} (xs : List α) (v : α) : atI (xs ++ [v]) (-1) = some v := by
  unfold atI ixN
  simp
  rw [if_pos (by omega), show (-1 + ((xs.length : Int) + 1)).toNat = xs.length by omega]
  simp

section
variable {P : Program} {w : World} {K : PySem.W.Frag} {mg : Str → Option Value} {base : Heap}

theorem ok_law_closed {fd : FuncData} (F : FnP K "_law_closed" "_law_closed" s_law_closed (ga K "_law_closed") fd) (T : Tx K w mg) : FnOk P w K mg base CX0 (0 + 1) (ga K "_law_closed") fd ["_law_stack", "_law_wide", "_law_text_here"] spClosed6 := by
  refine FunD.ok F sc_law_closed (fun vs H Q E h => ?_) (fun cdv A outer s H vs Q E hr h => ?_)
  · obtain ⟨H0, l, S, w, t, rfl, _⟩ := h
    rfl
  · obtain ⟨H0, l, S, wi, t, rfl, e0, hS, kk⟩ := h
    have n_range := T.fr "range" (by decide +kernel)
    refine ⟨_, PSs.nox (pss_cons (ps_for PassesOwn.never rfl (pi_range1 (by rfl) n_range (pa_cons pe_int pa_nil)) (pg_name (i := 3) sc_law_closed.nd rfl (Or.inl rfl))
      (pss_cons (ps_if (PW.pt (pw_or (pt_cmpR (op_eqNil hr.units0) (pv 0) (pe_lst pa_nil) (nomark _)) (pw_or1 (pt_cmpR op_gt (pv 1) (pe_ix ix_list (pe_ix ix_list (pv 0) (pe_un un_neg pe_int) (fun _ _ => rfl)) pe_int (fun _ _ => rfl)) (nomark _)))))
      (pss_one (ps_ret pe_str))
      pss_nil)
      (pss_one (ps_if (pt_cmpR op_eq (pe_ix ix_list (pe_ix ix_list (pv 0) (pe_un un_neg pe_int) (fun _ _ => rfl)) pe_int (fun _ _ => rfl)) pe_str (nomark _))
      (pss_one (ps_expr (pe_bm0 PySem.F.plainAttrs_list PySem.F.slot_list_pop PySem.F.type_list_pop mt_pop (pv 0))))
      (pss_one (ps_if (PW.pt (pw_and (pt_cmpR op_eq (pv 1) (pe_ix ix_list (pe_ix ix_list (pv 0) (pe_un un_neg pe_int) (fun _ _ => rfl)) pe_int (fun _ _ => rfl)) (nomark _)) (pw_and1 (pt_cmpR op_eq (pv 2) (pe_ix ix_list (pe_ix ix_list (pv 0) (pe_un un_neg pe_int) (fun _ _ => rfl)) pe_int (fun _ _ => rfl)) (nomark _)))))
      (pss_cons (ps_asg pe_str (pg_sub (pe_ix ix_list (pv 0) (pe_un un_neg pe_int) (fun _ _ => rfl)) pe_int set_list))
      (pss_one (ps_ret pe_str)))
      (pss_one (ps_ret pe_str))))))))
      (pss_one (ps_ret pe_str))), ?_⟩
    refine q_forR1 (n := 9) (ea_cons ev_c ea_nil) (by decide) (fun i σ' H' => ∃ v3 S', σ' = [some (.ref l), some (.int (wi : Nat)), some (.str t), v3] ∧ Ex H0 H' ∧ LStk H0 H' l S' ∧ closedA 9 S wi t = closedA (9 - i) S' wi t)
      (fun H1 e1 => ⟨none, S, rfl, e0.trans e1, hS.ex e1, rfl⟩) (fun i σ' H1 hi hI => ?_) (fun σ' H1 hI => ?_)
    · obtain ⟨v3, S', rfl, e1, h1, hc⟩ := hI
      rw [show 9 - i = 8 - i + 1 by omega] at hc
      have neg1 : ∀ {σ : L2.St} {H' : Hp}, Ev (tUn (rU fun i => .int (-i)) (tC (.int 1))) σ H' (.int (-1)) := ev_un (x := .int 1) ev_c (fun H1 _ Q q => ⟨1, rfl, q H1 (Ex.refl _)⟩)
      cases S' with
      | nil =>
        have hL := h1.empty
        refine q_when (b := true || false) (et_or (et_test (ev_nil (neg := false) (ev_var rfl) (sq_of hL))) (fun h => by cases h)) (fun _ H2 e2 => ?_) (fun h => by cases h)
        rw [hc] at kk
        exact s_ret ev_c fun H3 e3 => kk H3 ((e1.trans e2).trans e3) ((h1.ex e2).ex e3)
      | cons e S2 =>
        obtain ⟨w0, s0⟩ := e
        obtain ⟨p, xs, hL, hp, p0, l0, pl, hpop, hset⟩ := h1.top
        have ixT : ∀ {σ : L2.St} {H' : Hp} {j : Nat} {v : V}, σ[0]? = some (some (.ref l)) → Ex H1 H' → ([V.int (w0 : Nat), .str s0] : List V)[j]? = some v → Ev (tOp (rIxL K) (tOp (rIxL K) (tVar 0) (tUn (rU fun i => .int (-i)) (tC (.int 1)))) (tC (.int (j : Nat)))) σ H' v := fun hσ e hv => ev_op (ev_op (ev_var hσ) neg1 (rv_ixL (sq_of (e _ _ hL)) (atI_last _ _))) ev_c (rv_ixL (sq_of (e _ _ hp)) (atI_nat hv))
        rw [closedA] at hc
        refine q_when (b := (xor false (xs ++ [V.ref p]).isEmpty) || decide ((w0 : Int) < (wi : Int))) (et_or (et_test (ev_nil (neg := false) (ev_var rfl) (sq_of hL))) fun _ => et_test (ev_op (ev_var rfl) (ixT (j := 0) rfl (Ex.refl _) rfl) rv_I0)) (fun hb H2 e2 => ?_) (fun hb H2 e2 => ?_)
        · have hw : w0 < wi := by
            simp at hb
            omega
          rw [if_pos hw] at hc
          rw [hc] at kk
          exact s_ret ev_c fun H3 e3 => kk H3 ((e1.trans e2).trans e3) ((h1.ex e2).ex e3)
        have hw : ¬ w0 < wi := by
          simp at hb
          omega
        rw [if_neg hw] at hc
        refine s_if (b := decide (V.str s0 = V.str "")) (et_test (ev_op (ixT (j := 1) rfl e2 rfl) ev_c (rv_eq rfl))) (fun hb2 H3 e3 => ?_) (fun hb2 H3 e3 => ?_)
        · have hs0 : s0 = "" := by
            have k := of_decide_eq_true hb2
            injection k
          rw [if_pos hs0] at hc
          obtain ⟨p', xs', hL', hp', p0', l0', pl', hpop', _⟩ := (h1.ex (e2.trans e3)).top
          refine ⟨.ref l, rfl, .inl ⟨rfl, _, sq_of hL'⟩, l, xs' ++ [.ref p'], .ref p', rfl, rfl, hL', by simp, ?_⟩
          rw [List.dropLast_concat]
          exact ⟨_, S2, rfl, ((e1.trans e2).trans e3).mut l0', hpop', by rw [hc, show 9 - (i + 1) = 8 - i by omega]⟩
        · have hs0 : ¬ s0 = "" := fun c => by
            rw [decide_eq_true (show V.str s0 = V.str "" by rw [c])] at hb2
            cases hb2
          rw [if_neg hs0] at hc
          have e13 := e2.trans e3
          refine s_if (b := decide (V.int (wi : Nat) = .int (w0 : Nat)) && decide (V.str t = V.str s0)) (et_and (et_test (ev_op (ev_var rfl) (ixT (j := 0) rfl e13 rfl) (rv_eq rfl))) fun _ => et_test (ev_op (ev_var rfl) (ixT (j := 1) rfl e13 rfl) (rv_eq rfl))) (fun hb3 H4 e4 => ?_) (fun hb3 H4 e4 => ?_)
          · rw [Bool.and_eq_true] at hb3
            have q1 : wi = w0 := by
              have k := of_decide_eq_true hb3.1
              injection k with k
              omega
            have q2 : t = s0 := by
              have k := of_decide_eq_true hb3.2
              injection k
            rw [if_pos ⟨q1, q2⟩] at hc
            rw [hc] at kk
            obtain ⟨p', xs', hL', hp', p0', l0', pl', _, hset'⟩ := (h1.ex (e13.trans e4)).top
            refine q_setL (j := 1) hp' ev_c (ev_op (ev_var rfl) neg1 (rv_ixL (sq_of hL') (atI_last _ _))) ev_c (by show 1 < 2; decide) fun H5 e5 => ?_
            have eu : Ex H0 (upd H5 p' (.lst (([V.int (w0 : Nat), .str s0] : List V).set 1 (.str "")))) := (((e1.trans e13).trans e4).trans e5).mut p0'
            obtain ⟨p2, xs2, hL2, hp2, p02, l02, pl2, _, hset2⟩ := ((h1.ex (e13.trans e4)).ex e5).top
            have ep : p' = p2 := by
              have k := e5 _ _ hL'
              rw [hL2] at k
              injection k with k
              injection k with k
              have k2 := congrArg List.getLast? k
              simp at k2
              exact k2.symm
            rw [← ep] at hset2
            exact s_ret ev_c fun H6 e6 => kk H6 (eu.trans e6) (hset2.ex e6)
          · rw [if_neg (fun c => by
              rw [decide_eq_true (show V.int (wi : Nat) = .int (w0 : Nat) by rw [c.1]), decide_eq_true (show V.str t = V.str s0 by rw [c.2])] at hb3
              cases hb3)] at hc
            rw [hc] at kk
            exact s_ret ev_c fun H5 e5 => kk H5 (((e1.trans e13).trans e4).trans e5) (((h1.ex e13).ex e4).ex e5)
    · obtain ⟨v3, S', rfl, e1, h1, hc⟩ := hI
      rw [show 9 - (9 : Int).toNat = 0 from rfl, closedA] at hc
      rw [hc] at kk
      exact s_ret ev_c fun H2 e2 => kk H2 (e1.trans e2) (h1.ex e2)

end
end K06
set_option Elab.async false
set_option linter.all false
set_option maxRecDepth 100000
set_option maxHeartbeats 8000000
namespace K06
open PySem PySem.Spec PyProof.Rows L2 He XH XV XR PEN TR Evl


theorem LPs.len {H0 H : Hp} {ps : List Addr} {S : Stk} (h : LPs H0 H ps S) : ps.length = S.length := by
  induction h with
  | nil => rfl
  | cons a b r ih => rw [List.length_cons, List.length_cons, ih]
theorem LPs.at {H0 H : Hp} {ps : List Addr} {S : Stk} (h : LPs H0 H ps S) : ∀ (j : Nat) (p : Addr), ps[j]? = some p → ∃ w s, S[j]? = some (w, s) ∧ H p = some (.lst [.int (w : Nat), .str s]) := by
  induction h with
  | nil => exact fun j p h => nomatch h
  | @cons p0 ps w s S a b r ih =>
    intro j p hj
    match j, hj with
    | 0, hj =>
      cases hj
      exact ⟨w, s, rfl, b⟩
    | j + 1, hj => exact ih j p hj
theorem LPs.rev {H0 H : Hp} {ps : List Addr} {S : Stk} (h : LPs H0 H ps S) (j : Nat) (x : V) (hx : (ps.reverse.map V.ref)[j]? = some x) : ∃ p w s, x = .ref p ∧ S.reverse[j]? = some (w, s) ∧ H p = some (.lst [.int (w : Nat), .str s]) := by
  rw [List.getElem?_map] at hx
  cases hp : ps.reverse[j]? with
  | none =>
    rw [hp] at hx
    cases hx
  | some p =>
    rw [hp] at hx
    cases hx
    have hj : j < ps.length := by
      have k := (List.getElem?_eq_some_iff.mp hp).1
      rw [List.length_reverse] at k
      exact k
    rw [List.getElem?_reverse hj] at hp
    obtain ⟨w, s, h1, h2⟩ := h.at _ p hp
    refine ⟨p, w, s, rfl, ?_, h2⟩
    rw [List.getElem?_reverse (by rw [← h.len]; exact hj), ← h.len]
    exact h1
theorem due_given (S : Stk) (v : Nat → V) : (given S.length (fun j => decide ((S.reverse.getD j (0, "")).2 ≠ "")) v).isEmpty = !dueIn S := by
  rw [given_empty]
  have e : dueIn S = dueIn S.reverse := by
    unfold dueIn
    rw [List.any_reverse]
  rw [e, show S.length = S.reverse.length by rw [List.length_reverse]]
  generalize S.reverse = T
  unfold dueIn
  rw [Bool.eq_iff_iff, List.all_eq_true, Bool.not_eq_true', List.any_eq_false]
  constructor
  · intro h x hx
    obtain ⟨j, hj, rfl⟩ := List.mem_iff_getElem.mp hx
    have k := h j (List.mem_range.mpr hj)
    rw [List.getD_eq_getElem?_getD, List.getElem?_eq_getElem hj] at k
    simpa using k
  · intro h j hj
    have hj := List.mem_range.mp hj
    rw [List.getD_eq_getElem?_getD, List.getElem?_eq_getElem hj]
    simpa using h _ (List.getElem_mem hj)
theorem heads_len {ls : List Str} (h : headsA ls = none) : 3 ≤ ls.length := by
  unfold headsA at h
  split at h
  · cases h
  · split at h
    · cases h
    · split at h
      · cases h
      · rename_i c
        unfold headBad at c
        rcases Nat.lt_or_ge 2 ls.length with q | q
        · omega
        · rw [decide_eq_true q] at c
          exact absurd rfl c

end K06
set_option Elab.async false
set_option linter.all false
set_option maxRecDepth 100000
set_option maxHeartbeats 8000000
namespace K06
open PySem PySem.Spec PyProof.Rows L2 He XH XV XR PEN TR Evl


theorem closed_len : ∀ (k : Nat) (S : Stk) (w : Nat) (t : Str), (closedA k S w t).2.length ≤ S.length
  | 0, S, w, t => Nat.le_refl _
  | k + 1, [], w, t => Nat.le_refl _
  | k + 1, (w0, s0) :: S, w, t => by
    rw [closedA]
    split
    · exact Nat.le_refl _
    · split
      · exact Nat.le_trans (closed_len k S w t) (Nat.le_succ _)
      · split
        · exact Nat.le_refl _
        · exact Nat.le_refl _
theorem LStk.push2 {H0 H H1 : Hp} {L p : Addr} {w : Nat} {s : Str} {S : Stk} {xs : List V} (h : LStk H0 H L S) (e : Ex H H1) (hx : H L = some (.lst xs)) (hn : H p = none) (hp : H1 p = some (.lst [.int (w : Nat), .str s])) (h0 : H0 p = none) : LStk H0 (upd H1 L (.lst (xs ++ [.ref p]))) L ((w, s) :: S) := by
  have k := h.push (w := w) (s := s) hx hn h0
  obtain ⟨ps, h1, h2, h3, h4⟩ := k
  cases h4 with
  | @cons p' qs _ _ _ a b r =>
    rw [show upd (upd H p (.lst [.int (w : Nat), .str s])) L (.lst (xs ++ [.ref p])) L = some (.lst (xs ++ [.ref p])) from upd_same] at h1
    have ep : p = p' := by
      injection h1 with h1
      injection h1 with h1
      have k2 := congrArg List.getLast? h1
      simp at k2
      exact k2
    subst ep
    rw [List.nodup_cons, List.nodup_cons] at h3
    have pL : p ≠ L := fun e => h3.1 (by rw [e]; exact List.mem_cons_self ..)
    refine ⟨p :: qs, by rw [upd_same]; exact h1, h2, by rw [List.nodup_cons, List.nodup_cons]; exact h3, .cons h0 ((upd_ne pL).trans hp) ?_⟩
    have r2 : LPs H0 H qs S := r.mono fun q hq => by
      have q1 : q ≠ L := fun e => h3.1 (by rw [← e]; exact List.mem_cons_of_mem _ hq)
      have q2 : q ≠ p := fun e => h3.2.1 (by rw [← e]; exact hq)
      rw [upd_ne q1, upd_ne q2]
    exact (r2.ex e).mono fun q hq => upd_ne fun e => h3.1 (by rw [← e]; exact List.mem_cons_of_mem _ hq)
theorem LStk.list {H0 H : Hp} {L : Addr} {S : Stk} (h : LStk H0 H L S) : ∃ xs, H L = some (.lst xs) ∧ xs.length = S.length := by
  obtain ⟨ps, h1, h2, h3, h4⟩ := h
  exact ⟨_, h1, by rw [List.length_map, List.length_reverse, h4.len]⟩
def spWrong6 : Sp := fun vs H Q _ => ∃ (L : Addr) (ls : List Str), vs = [.ref L] ∧ H L = some (.lst (ls.map V.str)) ∧ Short ls ∧ ls.length ≤ 1000 ∧ ∀ H', Ex H H' → Q (oI (wrongA ls)) H'

section
variable {P : Program} {w : World} {K : PySem.W.Frag} {mg : Str → Option Value} {base : Heap}

theorem ok_law_wrong {fd : FuncData} (F : FnP K "_law_wrong" "_law_wrong" s_law_wrong (ga K "_law_wrong") fd) (T : Tx K w mg) (c_law_name : Cl P w K mg base CX0 1 (ga K "_law_name") ["_law_word_here"] spIsName) (c_law_heads : Cl P w K mg base CX0 2 (ga K "_law_heads") ["_law_lines_here"] spHeads6) (c_law_kind : Cl P w K mg base CX0 2 (ga K "_law_kind") ["_law_text_here"] spKind6) (c_law_closed : Cl P w K mg base CX0 1 (ga K "_law_closed") ["_law_stack", "_law_wide", "_law_text_here"] spClosed6) : FnOk P w K mg base CX0 (2 + 1) (ga K "_law_wrong") fd ["_law_lines_here"] spWrong6 := by
  obtain ⟨fd_law_name, G_law_name, b_law_name, kp_law_name⟩ := c_law_name
  obtain ⟨fd_law_heads, G_law_heads, b_law_heads, kp_law_heads⟩ := c_law_heads
  obtain ⟨fd_law_kind, G_law_kind, b_law_kind, kp_law_kind⟩ := c_law_kind
  obtain ⟨fd_law_closed, G_law_closed, b_law_closed, kp_law_closed⟩ := c_law_closed
  refine FunD.ok F sc_law_wrong (fun vs H Q E h => ?_) (fun cdv A outer s H vs Q E hr h => ?_)
  · obtain ⟨l, ls, rfl, _⟩ := h
    rfl
  · obtain ⟨l, ls, rfl, hl, hsh, hn, kk⟩ := h
    have g_law_heads := T.gl "_law_heads" (by decide +kernel)
    have n_range := T.fr "range" (by decide +kernel)
    have n_len := T.fr "len" (by decide +kernel)
    have g_law_closed := T.gl "_law_closed" (by decide +kernel)
    have g_law_name := T.gl "_law_name" (by decide +kernel)
    have g_law_kind := T.gl "_law_kind" (by decide +kernel)
    refine ⟨_, PSs.nox (pss_cons (ps_set (i := 1) sc_law_wrong.nd rfl (Or.inl rfl) (pe_call G_law_heads (hr.mono (by decide)) (by rfl) g_law_heads kp_law_heads b_law_heads .nil pass0 (pa_cons (pv 0) pa_nil)))
      (pss_cons (ps_if (pt_cmpR op_notN (pv 1) pe_non (nomark _))
      (pss_one (ps_ret (pv 1)))
      pss_nil)
      (pss_cons (ps_set (i := 2) sc_law_wrong.nd rfl (Or.inl rfl) (pe_lst pa_nil))
      (pss_cons (ps_set (i := 3) sc_law_wrong.nd rfl (Or.inl rfl) pe_bl)
      (pss_cons (ps_for PassesOwn.never rfl (pi_range2 (by rfl) n_range (pa_cons pe_int (pa_cons (pe_callB call_len_seq (by rfl) n_len (by decide +kernel) (pa_cons (pv 0) pa_nil)) pa_nil))) (pg_name (i := 4) sc_law_wrong.nd rfl (Or.inl rfl))
      (pss_cons (ps_set (i := 5) sc_law_wrong.nd rfl (Or.inl rfl) (pe_op op_sub (pe_callB call_len_str (by rfl) n_len (by decide +kernel) (pa_cons (pe_ix ix_list (pv 0) (pv 4) (fun _ _ => rfl)) pa_nil)) (pe_callB call_len_str (by rfl) n_len (by decide +kernel) (pa_cons (pe_m1 PySem.F.slot_str_lstrip PySem.F.type_str_lstrip mt_lstripChars (pe_ix ix_list (pv 0) (pv 4) (fun _ _ => rfl)) pe_str) pa_nil))))
      (pss_cons (ps_set (i := 6) sc_law_wrong.nd rfl (Or.inl rfl) (pe_slice sl_str (pe_ix ix_list (pv 0) (pv 4) (fun _ _ => rfl)) (po_some (pv 5)) po_none))
      (pss_cons (ps_set (i := 7) sc_law_wrong.nd rfl (Or.inl rfl) (pe_call G_law_closed (hr.mono (by decide)) (by rfl) g_law_closed kp_law_closed b_law_closed .nil pass0 (pa_cons (pv 2) (pa_cons (pv 5) (pa_cons (pv 6) pa_nil)))))
      (pss_cons (ps_if (pt_cmpR op_eq (pv 7) pe_str (nomark _))
      (pss_one (ps_ret (pe_op op_add (pv 4) pe_int)))
      pss_nil)
      (pss_one (ps_if (PW.pt (pw_and (pt_cmpR op_eq (pv 7) pe_str (nomark _)) (pw_and1 (pt_cmpR op_eq (pv 5) pe_int (nomark _)))))
      (pss_cons (ps_if (PW.pt (pw_or (pt_not (pt_val (pe_m1 PySem.F.slot_str_endswith PySem.F.type_str_endswith mt_endswith (pv 6) pe_str))) (pw_or1 (pt_not (pt_val (pe_call G_law_name (hr.mono (by decide)) (by rfl) g_law_name kp_law_name b_law_name .nil pass0 (pa_cons (pe_slice sl_str (pv 6) po_none (po_some (pe_un un_neg pe_int))) pa_nil)))))))
      (pss_one (ps_ret (pe_op op_add (pv 4) pe_int)))
      pss_nil)
      (pss_one (ps_set (i := 3) sc_law_wrong.nd rfl (Or.inl rfl) pe_bl)))
      (pss_one (ps_if (pt_cmpR op_eq (pv 7) pe_str (nomark _))
      (pss_cons (ps_set (i := 8) sc_law_wrong.nd rfl (Or.inl rfl) (pe_ifExp (pt_cmpR (op_neNil hr.units0) (pv 2) (pe_lst pa_nil) (nomark _)) (pe_op op_add (pe_ix ix_list (pe_ix ix_list (pv 2) (pe_un un_neg pe_int) (fun _ _ => rfl)) pe_int (fun _ _ => rfl)) pe_int) pe_int))
      (pss_cons (ps_set (i := 9) sc_law_wrong.nd rfl (Or.inl rfl) (pe_call G_law_kind (hr.mono (by decide)) (by rfl) g_law_kind kp_law_kind b_law_kind .nil pass0 (pa_cons (pv 6) pa_nil)))
      (pss_cons (ps_if (PW.pt (pw_or (pt_not (pt_val (pv 3))) (pw_or (pt_cmpR op_ne (pv 5) (pv 8) (nomark _)) (pw_or (pt_cmpR op_gt (pv 5) pe_int (nomark _)) (pw_or1 (pt_cmpR op_isN (pv 9) pe_non (nomark _)))))))
      (pss_one (ps_ret (pe_op op_add (pv 4) pe_int)))
      pss_nil)
      (pss_one (ps_if (pt_cmpR op_ne (pv 9) pe_str (nomark _))
      (pss_one (ps_expr (pe_bm PySem.F.plainAttrs_list PySem.F.slot_list_append PySem.F.type_list_append mt_append (pv 2) (pa_cons (pe_lst (pa_cons (pv 5) (pa_cons (pv 9) pa_nil))) pa_nil))))
      pss_nil)))))
      pss_nil)))))))))
      (pss_cons (ps_if (pt_cmpR (op_neNil hr.units0) (pe_lc (own := [("_law_one", 10)]) (g := gName 10) (by rfl) sc_law_wrong.nd (pi_list (pv 2)) (blkOk_by (own := [("_law_one", 10)]) (N := ["_law_lines_here", "_law_told_here", "_law_stack", "_law_inside", "_law_at", "_law_wide", "_law_text_here", "_law_state", "_law_due", "_law_kind_here", "_law_one"]) (sc := defScope s_law_wrong) (by decide +kernel)) (fun _ _ _ _ _ => (pg_name (i := 10) sc_law_wrong.nd rfl (Or.inl rfl))) (fun _ _ _ _ _ => (pts_one (pt_cmpR op_ne (pe_ix (ix_list : IxR _ (rIxL K)) (pv 10) pe_int (fun _ _ => rfl)) pe_str (nomark _)))) (fun _ _ _ _ _ => (pv 10))) (pe_lst pa_nil) (nomark _))
      (pss_one (ps_ret (pe_op op_add (pe_callB call_len_seq (by rfl) n_len (by decide +kernel) (pa_cons (pv 0) pa_nil)) pe_int)))
      pss_nil)
      (pss_one (ps_ret pe_non)))))))), ?_⟩
    rw [wrongA_eq] at kk
    refine q_asg (v := oI (headsA ls)) (ev_call (ea_cons (ev_var rfl) ea_nil) fun H1 e1 R q _ => ⟨l, ls, rfl, e1 _ _ hl, hsh, hn, fun H2 e2 => q H2 e2⟩) fun H1 e1 => ?_
    try dsimp only [gName, List.set]
    cases hh : headsA ls with
    | some n =>
      rw [hh] at kk
      refine q_when (b := true) (et_is (et_test (ev_op (ev_var rfl) ev_c PZ.rv_notNo)) (by rfl)) (fun _ H2 e2 => ?_) (fun h => by cases h)
      exact s_ret (v := .int (n : Nat)) (ev_var rfl) fun H3 e3 => kk H3 ((e1.trans e2).trans e3)
    | none =>
      rw [hh] at kk
      refine q_when (b := false) (et_is (et_test (ev_op (ev_var rfl) ev_c PZ.rv_notNo)) (by rfl)) (fun h => by cases h) (fun _ H2 e2 => ?_)
      refine q_asgL (xs := []) (el_lst ea_nil (by decide)) fun st H3 hst e3 h3 => ?_
      try dsimp only [gName, List.set]
      refine q_asg (v := .bl false) ev_c fun H4 e4 => ?_
      try dsimp only [gName, List.set]
      have e12 := e1.trans e2
      refine q_forR2 (lo := 3) (n := ((ls.map V.str).length : Nat)) (ea_cons ev_c (ea_cons (ev_len (K := K) (ev_var rfl) (sq_of (e4 _ _ (e3 _ _ (e12 _ _ hl))))) ea_nil)) (by rw [List.length_map]; omega)
        (fun i σ' H' => ∃ v4 v5 v6 v7 v8 v9 v10 S' b, σ' = [some (.ref l), some .non, some (.ref st), some (.bl b), v4, v5, v6, v7, v8, v9, v10] ∧ Ex H2 H' ∧ LStk H2 H' st S' ∧ S'.length ≤ i ∧ runK (ls.drop 3) 3 [] false = runK (ls.drop (3 + i)) (3 + i) S' b)
        (fun H5 e5 => ⟨none, none, none, none, none, none, none, [], false, rfl, (e3.trans e4).trans e5, ⟨[], e5 _ _ (e4 _ _ h3), hst, by simp, .nil⟩, Nat.le_refl _, rfl⟩) (fun i σ' H5 hi hI => ?_) (fun σ' H5 hI => ?_)
      · obtain ⟨v4, v5, v6, v7, v8, v9, v10, S', b, rfl, e5, hS, hlS, hr⟩ := hI
        rw [List.length_map] at hi
        have hal : 3 + i < ls.length := by omega
        have eI : (3 : Int) + (i : Int) = ((3 + i : Nat) : Int) := by omega
        rw [eI]
        have hget : ls[3 + i]? = some (ls.getD (3 + i) "") := by
          rw [List.getD_eq_getElem?_getD, List.getElem?_eq_getElem hal]
          rfl
        have zl := short_at hsh (3 + i)
        have g0 := e5 _ _ (e12 _ _ hl)
        have step : ∀ S2 b2, stepA S' b (ls.getD (3 + i) "") = some (S2, b2) → runK (ls.drop 3) 3 [] false = runK (ls.drop (3 + (i + 1))) (3 + (i + 1)) S2 b2 := fun S2 b2 h => hr.trans (runK_in hal h)
        have bad : stepA S' b (ls.getD (3 + i) "") = none → runK (ls.drop 3) 3 [] false = some (3 + i + 1) := fun h => hr.trans (runK_bad hal h)
        dsimp only at kk
        generalize ls.getD (3 + i) "" = line at hget zl step bad
        have lnE : ∀ {σ : L2.St} {H' : Hp}, σ[0]? = some (some (.ref l)) → σ[4]? = some (some (.int ((3 + i : Nat) : Int))) → Ex H5 H' → Ev (tOp (rIxL K) (tVar 0) (tVar 4)) σ H' (.str line) := fun h0 h4 e => ev_op (ev_var h0) (ev_var h4) (rv_ixL (sq_of (e _ _ g0)) (atI_nat (by rw [List.getElem?_map, hget]; rfl)))
        have ll := lstrip_len line
        refine q_asg (v := .int (wd line : Nat)) (ev_is (ev_op (ev_cb (ea_cons (lnE rfl rfl (Ex.refl _)) ea_nil) fun H1 e Q q => ⟨line, rfl, fits (by omega), q H1 (Ex.refl _)⟩) (ev_cb (ea_cons (ev_m1 (lnE rfl rfl (Ex.refl _)) ev_c fun H2 e2 Q q => ⟨_, _, rfl, rfl, fits (by omega), q⟩) ea_nil) fun H1 e Q q => ⟨Txt.lstripChars line blank, rfl, fits (by omega), q H1 (Ex.refl _)⟩) rv_I0) (by congr 1; omega)) fun H6 e6 => ?_
        try dsimp only [gName, List.set]
        refine q_asg (v := .str (tx line)) (ev_slS (lnE rfl rfl e6) (eo_some (ev_var rfl)) eo_none (by omega)) fun H7 e7 => ?_
        try dsimp only [gName, List.set]
        refine ⟨.ref st, rfl, .int (wd line : Nat), rfl, .str (tx line), rfl, H2, st, S', wd line, tx line, rfl, (e5.trans e6).trans e7, (hS.ex e6).ex e7, fun H8 e8 h8 => ?_⟩
        try dsimp only [gName, List.set]
        have lS := closed_len 9 S' (wd line) (tx line)
        unfold stepA at step bad
        generalize closedA 9 S' (wd line) (tx line) = r at h8 step bad lS
        obtain ⟨c, S2⟩ := r
        dsimp only at h8 step bad lS ⊢
        cases c with
        | wrong =>
          refine q_when (b := true) (et_is (et_test (ev_op (ev_var rfl) ev_c (rv_eq rfl))) (by decide)) (fun _ H9 e9 => ?_) (fun h => by cases h)
          rw [bad rfl] at kk
          exact s_ret (v := .int ((3 + i + 1 : Nat) : Int)) (ev_op (ev_var rfl) ev_c rv_I0) fun H10 e10 => kk H10 (((e12.trans e8).trans e9).trans e10)
        | second =>
          refine q_when (b := false) (et_is (et_test (ev_op (ev_var rfl) ev_c (rv_eq rfl))) (by decide)) (fun h => by cases h) (fun _ H9 e9 => ?_)
          refine s_if (b := false && false) (et_and (et_is (et_test (ev_op (ev_var rfl) ev_c (rv_eq rfl))) (by decide)) (fun h => by cases h)) (fun h => by cases h) (fun _ H10 e10 => ?_)
          refine s_when (b := false) (et_is (et_test (ev_op (ev_var rfl) ev_c (rv_eq rfl))) (by decide)) (fun h => by cases h) (fun _ H11 e11 => ?_)
          exact ⟨_, _, _, _, _, _, _, S2, b, rfl, ((e8.trans e9).trans e10).trans e11, ((h8.ex e9).ex e10).ex e11, by omega, step _ _ rfl⟩
        | here =>
          refine q_when (b := false) (et_is (et_test (ev_op (ev_var rfl) ev_c (rv_eq rfl))) (by decide)) (fun h => by cases h) (fun _ H9 e9 => ?_)
          refine s_if (b := true && decide ((wd line : Int) = 0)) (et_and (et_is (et_test (ev_op (ev_var rfl) ev_c (rv_eq rfl))) (by decide)) (fun _ => et_test (ev_op (ev_var rfl) ev_c rv_eqI))) (fun hb H10 e10 => ?_) (fun hb H10 e10 => ?_)
          · rw [Bool.true_and] at hb
            have w0 : wd line = 0 := by
              have k := of_decide_eq_true hb
              omega
            dsimp only at step bad
            rw [if_pos w0] at step bad
            have ltx := cutS_length line (some ((wd line : Nat) : Int)) none
            have lcz := cutS_length (tx line) none (some (-1))
            have ltx' : (tx line).length ≤ line.length := ltx
            refine q_when (b := !Txt.endswith (tx line) (":" : Str) || !goodN (cutS (tx line) none (some (-1)))) (et_or (et_not (et_B (ev_m1 (ev_var rfl) ev_c fun H2 e2 Q q => ⟨_, _, rfl, rfl, q⟩))) fun _ => et_not (et_B (ev_call (ea_cons (ev_slS (ev_var rfl) eo_none (eo_some (ev_un (x := .int 1) ev_c (fun H1 _ Q q => ⟨1, rfl, q H1 (Ex.refl _)⟩))) (by omega)) ea_nil) fun H2 e2 R q _ => ⟨_, rfl, by omega, fun H3 e3 => q H3 e3⟩))) (fun hb2 H11 e11 => ?_) (fun hb2 H11 e11 => ?_)
            · have nk : nameOk (tx line) = false := by
                unfold nameOk
                rw [← Bool.not_and, Bool.not_eq_true'] at hb2
                exact hb2
              rw [bad (by rw [nk]; rfl)] at kk
              exact s_ret (v := .int ((3 + i + 1 : Nat) : Int)) (ev_op (ev_var rfl) ev_c rv_I0) fun H12 e13 => kk H12 (((((e12.trans e8).trans e9).trans e10).trans e11).trans e13)
            · have nk : nameOk (tx line) = true := by
                unfold nameOk
                rw [← Bool.not_and, Bool.not_eq_false'] at hb2
                exact hb2
              refine s_asg (v := .bl true) ev_c fun H12 e13 => ?_
              exact ⟨_, _, _, _, _, _, _, S2, true, rfl, (((e8.trans e9).trans e10).trans e11).trans e13, (((h8.ex e9).ex e10).ex e11).ex e13, by omega, step _ _ (by rw [nk]; rfl)⟩
          · rw [Bool.true_and] at hb
            have w0 : ¬ wd line = 0 := fun c => by
              have k := of_decide_eq_false hb
              omega
            dsimp only at step bad
            rw [if_neg w0] at step bad
            have ltx' : (tx line).length ≤ line.length := cutS_length line (some ((wd line : Nat) : Int)) none
            have h10 := (h8.ex e9).ex e10
            refine s_when (b := true) (et_is (et_test (ev_op (ev_var rfl) ev_c (rv_eq rfl))) (by decide)) (fun _ H11 e11 => ?_) (fun h => by cases h)
            have h11 := h10.ex e11
            have e211 := ((e8.trans e9).trans e10).trans e11
            refine q_asg (v := .int (dueA S2 : Nat)) ?_ fun H12 e13 => ?_
            · cases S2 with
              | nil => exact ev_if (b := false) (et_is (et_test (ev_nil (neg := true) (ev_var rfl) (sq_of h11.empty))) rfl) (fun h => by cases h) (fun _ => ev_c)
              | cons e S3 =>
                obtain ⟨w1, s1⟩ := e
                obtain ⟨p, xs, hL, hp, _⟩ := h11.top
                exact ev_if (b := true) (et_is (et_test (ev_nil (neg := true) (ev_var rfl) (sq_of hL))) (by simp)) (fun _ => ev_op (ev_op (ev_op (ev_var rfl) (ev_un (x := .int 1) ev_c (fun H1 _ Q q => ⟨1, rfl, q H1 (Ex.refl _)⟩)) (rv_ixL (sq_of hL) (atI_last _ _))) ev_c (rv_ixL (sq_of hp) (atI_nat (j := 0) rfl))) ev_c rv_I0) (fun h => by cases h)
            try dsimp only [gName, List.set]
            refine q_asg (v := oV (lawKind (tx line))) (ev_call (ea_cons (ev_var rfl) ea_nil) fun H2 e2 R q _ => ⟨_, rfl, by omega, fun H3 e3 => q H3 e3⟩) fun H13 e14 => ?_
            try dsimp only [gName, List.set]
            have h13 := (h11.ex e13).ex e14
            have e213 := (e211.trans e13).trans e14
            refine q_when (b := !b || (!decide (V.int (wd line : Nat) = .int (dueA S2 : Nat)) || (decide ((8 : Int) < (wd line : Nat)) || decide (oV (lawKind (tx line)) = .non)))) (et_or (et_not (et_B (ev_var rfl))) fun _ => et_or (et_test (ev_op (ev_var rfl) (ev_var rfl) (rv_ne rfl))) fun _ => et_or (et_test (ev_op (ev_var rfl) ev_c rv_I0)) fun _ => et_test (ev_op (ev_var rfl) ev_c PZ.rv_isNo)) (fun hb2 H14 e15 => ?_) (fun hb2 H14 e15 => ?_)
            · have hn : (match lawKind (tx line) with
                  | none => (none : Option (Stk × Bool))
                  | some k => if b = true ∧ wd line = dueA S2 ∧ wd line ≤ 8 then (if k = "simple" then some (S2, b) else some ((wd line, k) :: S2, b)) else none) = none := by
                cases hk : lawKind (tx line) with
                | none => rfl
                | some z =>
                  dsimp only
                  rw [if_neg]
                  rintro ⟨c1, c2, c3⟩
                  rw [hk] at hb2
                  simp [c1, ← c2, oV] at hb2
                  omega
              rw [bad hn] at kk
              exact s_ret (v := .int ((3 + i + 1 : Nat) : Int)) (ev_op (ev_var rfl) ev_c rv_I0) fun H15 e16 => kk H15 ((e12.trans (e213.trans e15)).trans e16)
            · cases hk : lawKind (tx line) with
              | none =>
                rw [hk] at hb2
                simp [oV] at hb2
              | some z =>
                rw [hk] at hb2 step
                have hc : b = true ∧ wd line = dueA S2 ∧ wd line ≤ 8 := by
                  simp [oV] at hb2
                  refine ⟨hb2.1, ?_, ?_⟩ <;> omega
                dsimp only at step
                rw [if_pos hc] at step
                have h14 := h13.ex e15
                refine s_when (b := !decide (V.str z = .str "simple")) (et_test (ev_op (ev_var rfl) ev_c (rv_ne rfl))) (fun hb3 H15 e16 => ?_) (fun hb3 H15 e16 => ?_)
                · have nz : ¬ z = "simple" := fun c => by
                    rw [decide_eq_true (show V.str z = .str "simple" by rw [c])] at hb3
                    cases hb3
                  obtain ⟨xs, gx, lx⟩ := (h14.ex e16).list
                  refine s_appL gx (ev_var rfl) (el_lst (ea_cons (ev_var rfl) (ea_cons (ev_var rfl) ea_nil)) (by show 2 ≤ 100000; decide)) (by omega) fun p H16 hp e17 h16 => ?_
                  have e216 := (e213.trans e15).trans e16
                  exact ⟨_, _, _, _, _, _, _, (wd line, z) :: S2, b, rfl, (e216.trans e17).mut hst, (h14.ex e16).push2 e17 gx hp h16 (fresh_back e216 hp), by rw [List.length_cons]; omega, step _ _ (by rw [if_neg nz])⟩
                · have nz : z = "simple" := by
                    rw [Bool.not_eq_false'] at hb3
                    have k := of_decide_eq_true hb3
                    injection k
                  exact ⟨_, _, _, _, _, _, _, S2, b, rfl, (e213.trans e15).trans e16, h14.ex e16, by omega, step _ _ (by rw [if_pos nz])⟩
      · obtain ⟨v4, v5, v6, v7, v8, v9, v10, S', b, rfl, e5, ⟨ps, g1, g2, g3, g4⟩, hlS, hr⟩ := hI
        have hlen := heads_len hh
        rw [List.length_map] at hr hlS
        rw [show 3 + (((ls.length : Nat) : Int) - 3).toNat = ls.length by omega, List.drop_length, runK] at hr
        dsimp only at kk
        rw [hr] at kk
        have lp := g4.len
        refine q_when (b := xor true (given (ps.reverse.map V.ref).length (fun j => decide ((S'.reverse.getD j (0, "")).2 ≠ "")) fun j => (ps.reverse.map V.ref).getD j .non).isEmpty) (et_test (ev_nilN (el_lcL _ _ (ev_var rfl) (sq_of g1) (by rw [List.length_map, List.length_reverse]; omega) (fun _ => rfl) (fun j x H6 e6 hx => ?_) (fun j x H6 e6 hx _ => ?_)))) (fun hb H6 e6 => ?_) (fun hb H6 e6 => ?_)
        · obtain ⟨p, w, z, rfl, k1, k2⟩ := g4.rev j x hx
          have ef : decide ((S'.reverse.getD j (0, "")).2 ≠ "") = !decide (z = "") := by
            rw [List.getD_eq_getElem?_getD, k1]
            simp
          rw [ef]
          exact et_test (ev_op (ev_op (ev_var rfl) ev_c (rv_ixL (sq_of (e6 _ _ k2)) (atI_nat (j := 1) rfl))) ev_c rv_neSS)
        · have ex : (ps.reverse.map V.ref).getD j .non = x := by rw [List.getD_eq_getElem?_getD, hx]; rfl
          rw [ex]
          exact ev_var rfl
        · rw [List.length_map, List.length_reverse, lp, due_given, Bool.true_xor, Bool.not_not] at hb
          rw [if_pos hb] at kk
          refine s_ret (v := .int ((ls.length + 1 : Nat) : Int)) (ev_is (ev_op (ev_len (K := K) (ev_var rfl) (sq_of (e6 _ _ (e5 _ _ (e12 _ _ hl))))) ev_c rv_I0) (by rw [List.length_map]; rfl)) fun H7 e7 => kk H7 (((e12.trans e5).trans e6).trans e7)
        · rw [List.length_map, List.length_reverse, lp, due_given, Bool.true_xor, Bool.not_not] at hb
          rw [if_neg (by rw [hb]; decide)] at kk
          exact s_ret ev_c fun H7 e7 => kk H7 (((e12.trans e5).trans e6).trans e7)

end
end K06
set_option Elab.async false
set_option linter.all false
set_option maxRecDepth 100000
set_option maxHeartbeats 8000000
namespace K06
open PySem PySem.Spec PyProof.Rows L2 He XH XV XR PEN TR Evl

open StrLaws
theorem op_mulS0 {X : Cx} : OpR X (binaryOp .Mult) (fun x y H Q => ∃ (z : Str) (n : Nat), x = .str z ∧ y = .int (n : Int) ∧ n ≤ 1000 ∧ (1 ≤ z.length ∧ z.length ≤ 1000) ∧ Q (.str (repS z n)) H) := by
  intro pins s σ H x y v u Q I rx ry h
  obtain ⟨z, n, rfl, rfl, hn, hz, q⟩ := h
  cases n with
  | zero =>
    obtain ⟨t, rfl⟩ := id rx
    obtain ⟨t', rfl⟩ := id ry
    refine PySem.P.mul_str_none (by decide) (by decide) ⟨.str (repS z 0), H, I.tok _, ⟨s.toks, rfl⟩, q⟩
  | succ n => exact op_mulS pins s σ H _ _ v u Q I rx ry ⟨z, n + 1, rfl, rfl, ⟨by omega, hn⟩, hz, q⟩

theorem fd_okT {P : Program} {w : World} {K : PySem.W.Frag} {mg : Str → Option Value} {base : Heap} {x qual : Str} {params : Arguments} {body : List Stmt} {scope : Scope} {dvs : List V} {kws : List (Str × V)} {f : Addr} {fd : FuncData}
    {CX : CXT} {N ps : List Str} {k : Nat} {sp : Sp} (F : FunD K x qual params body scope dvs kws f fd) (S : FnScope N ps scope) (hnc : ∀ y ∈ scope.names, y.2 ≠ .cell) (hps : 1 ≤ ps.length) (len : ∀ vs H Q E, sp vs H Q E → vs.length = ps.length)
    (hbody : ∀ (cdv : Value) (A : Around) (outer : List Env) (s : Shared) (H : Hp) (vs : List V) (Q : VK) (E : XK), Room k (A.deeper (envOfC qual scope s.heap.objs.size f cdv)) → sp vs H Q E →
      ∃ t, PSsT (cxOf CX P w K mg base N qual scope f cdv A outer s H E) body t ∧ t { nx := fun _ H' => Q .non H', rt := Q } (start N vs) H) : FnOk P w K mg base CX (k + 1) f fd ps sp := by
  obtain ⟨oc, od, dV, kV, doc, pm, an, cdv, ct, osl, rfl, lk, hcd, _, _⟩ := F.ex
  exact fn_ofT lk hcd S hnc hps len fun A outer s H vs Q E hr hsp => hbody cdv A outer s H vs Q E hr hsp
/-! blocks behind one token, as a structure -/
structure PSZ (X : Cx) (st : List Stmt) (t : TS) : Prop where
  go : PSsT X st t
structure PEZ (X : Cx) (e : Expr) (t : TE) : Prop where
  go : PET X e t
theorem psz_nox {X : Cx} {st : List Stmt} {t : TS} (h : PSZ X.nox st t) : PSsT X st t := fun pins s σ H D h0 I hw =>
  wpAny_mono (h.go pins s σ H D h0 (I.wish _) hw) (fun _ _ q => q.unwish) fun _ _ z => False.elim z
theorem psz_cons {X : Cx} {st : Stmt} {rest : List Stmt} {t u : TS} (h1 : PS X st t) (h2 : PSZ X rest u) : PSZ X (st :: rest) (tSeq t u) := ⟨psst_cons (PST.of h1) h2.go⟩
theorem psz_of {X : Cx} {st : List Stmt} {t : TS} (h : PSs X st t) : PSZ X st t := ⟨PSsT.of h⟩
theorem psz_ifRet {X : Cx} {c e : Expr} {rest : List Stmt} {tc : TT} {te : TE} {u : TS} {pos p : Pos} (hc : PT X c tc) (he : PEZ X e te) (h2 : PSZ X rest u) : PSZ X (.If c [.Return (some e) p] [] pos :: rest) (tSeq (tIfS tc (tRet te) tNext) u) :=
  ⟨psst_cons (CwR.pst_if hc (CwR.psst_one (CwR.pst_ret he.go)) CwR.psst_nil) h2.go⟩
theorem pez_ifExp {X : Cx} {c a b : Expr} {pos : Pos} {tA : TT} {ta tb : TE} (hc : PT X c tA) (ha : PEZ X a ta) (hb : PEZ X b tb) : PEZ X (.IfExp c a b pos) (tIf tA ta tb) := by
  refine ⟨?_⟩
  intro pins s σ H Q h0 I h
  refine wpAny_IfExp (wpAny_mono (PySem.wpAny_toks (hc.run pins s σ H _ I h)) (fun d s1 q => ?_) fun _ _ z => z.2)
  obtain ⟨hk, H1, I1, q1⟩ := q
  cases d with
  | true => exact ha.go pins s1 σ H1 Q (Nat.le_trans h0 hk) I1 q1
  | false => exact hb.go pins s1 σ H1 Q (Nat.le_trans h0 hk) I1 q1
theorem pez_replC {X : Cx} {o : Expr} {to : TE} {y z : Str} {j k : Nat} {c0 c1 apos pos : Pos} (ho : PE X o to) (hyz : (y == z) = false := by decide)
    (hst : starEach [.Constant (.str y) j c0, .Constant (.str z) k c1] X.env = [(false, eval (.Constant (.str y) j c0) X.env), (false, eval (.Constant (.str z) k c1) X.env)] := by rfl)
    (hbase : attributeBase o "replace" X.env (eval o X.env) = eval o X.env := by rfl) (hline : (apos.endLine == pos.line) = true := by rfl) :
    PEZ X (.Call (.Attribute o "replace" apos) [.Constant (.str y) j c0, .Constant (.str z) k c1] [] pos) (CwR.tReplC to y z) := ⟨CwR.pet_replC ho hyz hst hbase hline⟩
/-! ### lines of plain signs -/
def Asc (z : Str) : Prop := ∀ c ∈ TL.tl z, c < 128 ∧ c ≠ 10
instance (z : Str) : Decidable (Asc z) := inferInstanceAs (Decidable (∀ c ∈ TL.tl z, c < 128 ∧ c ≠ 10))
def Gd (b : Nat) (z : Str) : Prop := z.length ≤ b ∧ Asc z
instance (b : Nat) (z : Str) : Decidable (Gd b z) := inferInstanceAs (Decidable (_ ∧ _))
theorem Gd.up {b b' : Nat} {z : Str} (h : Gd b z) (k : b ≤ b') : Gd b' z := ⟨Nat.le_trans h.1 k, h.2⟩
theorem asc_app {a b : Str} (h1 : Asc a) (h2 : Asc b) : Asc (a ++ b) := fun c hc => by
  rw [TL.tl_append] at hc
  rcases List.mem_append.mp hc with k | k
  · exact h1 c k
  · exact h2 c k
theorem gd_app {a b : Nat} {x y : Str} (h1 : Gd a x) (h2 : Gd b y) : Gd (a + b) (x ++ y) := by
  refine ⟨?_, asc_app h1.2 h2.2⟩
  rw [app_len]
  exact Nat.add_le_add h1.1 h2.1
theorem asc_rep (n : Nat) : Asc (mrg n) := fun c hc => by
  have k := repS_codes blank n
  have kb : blank.cps.toList = [32] := by decide +kernel
  have hc' : c ∈ (repS blank n).cps.toList := hc
  rw [k, kb] at hc'
  obtain ⟨l, hl, h⟩ := List.mem_flatten.mp hc'
  rw [List.eq_of_mem_replicate hl] at h
  rw [List.mem_singleton.mp h]
  decide
theorem gd_rep (n : Nat) : Gd n (mrg n) := ⟨by rw [mrg_len]; exact Nat.le_refl _, asc_rep n⟩
theorem gd_cut {b : Nat} {z : Str} (h : Gd b z) (lo hi : Option Int) : Gd b (cutS z lo hi) := by
  refine ⟨Nat.le_trans (cutS_length z lo hi) h.1, fun c hc => ?_⟩
  unfold cutS at hc
  rw [TL.tl_mk] at hc
  exact h.2 c (List.mem_of_mem_drop (List.mem_of_mem_take hc))
theorem gd_upper {b : Nat} {z : Str} (h : Gd b z) : Gd b (Txt.upper z) := by
  have e := PyProof.Rows.upper_ascii (x := z) fun c hc => (h.2 c hc).1
  rw [e]
  refine ⟨?_, fun c hc => ?_⟩
  · show (z.cps.map PyProof.Rows.up1).size ≤ b
    rw [Array.size_map]
    exact h.1
  · have hc' : c ∈ (z.cps.map PyProof.Rows.up1).toList := hc
    rw [Array.toList_map] at hc'
    obtain ⟨d, hd, rfl⟩ := List.mem_map.mp hc'
    have k := h.2 d hd
    unfold PyProof.Rows.up1
    split <;> omega
theorem replL_one (c : Nat) (z : List Nat) : ∀ l : List Nat, replL [c] z l = l.flatMap fun x => if x = c then z else [x]
  | [] => replL_nil
  | x :: r => by
    by_cases h : x = c
    · subst h
      rw [replL_hit (by simp) (by simp), List.flatMap_cons, if_pos rfl]
      show z ++ replL [x] z r = _
      rw [replL_one x z r]
    · rw [replL_miss (by simp [h]), List.flatMap_cons, if_neg h, replL_one c z r]
      rfl
theorem gd_repl {b : Nat} {x z : Str} (h : Gd b x) (hz : Gd 2 z) : Gd (3 * b + 2) (Txt.replace x blank z) := by
  refine ⟨?_, fun c hc => ?_⟩
  · have k := TK.replace_len x blank z
    have k2 : (x.length + 1) * z.length ≤ (b + 1) * 2 := Nat.mul_le_mul (Nat.succ_le_succ h.1) hz.1
    have k3 := h.1
    omega
  · have e : TL.tl (Txt.replace x blank z) = (TL.tl x).flatMap fun y => if y = 32 then TL.tl z else [y] := by
      show (Txt.replace x blank z).cps.toList = _
      rw [replace_list (by decide +kernel)]
      have kb : blank.cps.toList = [32] := by decide +kernel
      rw [kb]
      exact replL_one 32 (TL.tl z) _
    rw [e] at hc
    obtain ⟨y, hy, hc⟩ := List.mem_flatMap.mp hc
    split at hc
    · exact hz.2 c hc
    · rw [List.mem_singleton.mp hc]
      exact h.2 y hy
def junk12 : List Str := ["", "put", "jump a", "stop fault", "or", "else", "lastly", "rescue", "do", "tries", "may", "answer now"]
def tail5 : List Str := [" ", ":", "a", "aaaaaaaaaaaa", " b"]
theorem junk_gd : ∀ z ∈ junk12, Gd 12 z := by decide +kernel
theorem tail_gd : ∀ z ∈ tail5, Gd 12 z := by decide +kernel
def spLine6 : Sp := fun vs H Q _ => ∃ (p l : Addr) (z : Str) (n b : Nat), vs = [.ref p, .str z] ∧ Gd b z ∧ b ≤ 300 ∧ Pen p l (n + 2) H ∧ ∀ y H', Gd (3 * b + 20) y → Px p l H H' → Pen p l n H' → Q (.str y) H'

section
variable {P : Program} {w : World} {K : PySem.W.Frag} {mg : Str → Option Value} {base : Heap}

theorem ok_law_line {fd : FuncData} (F : FnP K "_law_line" "_law_line" s_law_line (ga K "_law_line") fd) (T : Tx K w mg) (c_law_draw : Cl P w K mg base CX0 1 (ga K "_law_draw") ["_law_pen", "_law_many"] spDraw) (c_law_pick : Cl P w K mg base CX0 2 (ga K "_law_pick") ["_law_pen", "_law_row"] (spPick K)) : FnOk P w K mg base CX0 (2 + 1) (ga K "_law_line") fd ["_law_pen", "_law_line_here"] spLine6 := by
  obtain ⟨fd_law_draw, G_law_draw, b_law_draw, kp_law_draw⟩ := c_law_draw
  obtain ⟨fd_law_pick, G_law_pick, b_law_pick, kp_law_pick⟩ := c_law_pick
  refine fd_okT F sc_law_line (by decide +kernel) (by decide) (fun vs H Q E h => ?_) (fun cdv A outer s H vs Q E hr h => ?_)
  · obtain ⟨p, l, z, n, b, rfl, _⟩ := h
    rfl
  · obtain ⟨p, l, z, n, b, rfl, hz, hb, hP, kk⟩ := h
    have g_law_draw := T.gl "_law_draw" (by decide +kernel)
    have n_len := T.fr "len" (by decide +kernel)
    have n_min := T.fr "min" (by decide +kernel)
    have g_law_pick := T.gl "_law_pick" (by decide +kernel)
    refine ⟨_, psz_nox (psz_cons (ps_set (i := 2) sc_law_line.nd rfl (Or.inl rfl) (pe_call G_law_draw (hr.mono (by decide)) (by rfl) g_law_draw kp_law_draw b_law_draw .nil pass0 (pa_cons (pv 0) (pa_cons pe_int pa_nil))))
      (psz_cons (ps_set (i := 3) sc_law_line.nd rfl (Or.inl rfl) (pe_lst (pa_cons pe_str (pa_cons pe_str (pa_cons pe_str (pa_cons pe_str (pa_cons pe_str (pa_cons pe_str (pa_cons pe_str (pa_cons pe_str (pa_cons pe_str (pa_cons pe_str (pa_cons pe_str (pa_cons pe_str pa_nil))))))))))))))
      (psz_cons (ps_set (i := 4) sc_law_line.nd rfl (Or.inl rfl) (pe_op op_sub (pe_callB call_len_str (by rfl) n_len (by decide +kernel) (pa_cons (pv 1) pa_nil)) (pe_callB call_len_str (by rfl) n_len (by decide +kernel) (pa_cons (pe_m1 PySem.F.slot_str_lstrip PySem.F.type_str_lstrip mt_lstripChars (pv 1) pe_str) pa_nil))))
      (psz_cons (ps_if (pt_cmpR op_eq (pv 2) pe_int (nomark _))
      (pss_one (ps_ret (pe_op op_add_str (pe_op op_mulS0 pe_str (pe_op op_add pe_int (pe_call G_law_draw (hr.mono (by decide)) (by rfl) g_law_draw kp_law_draw b_law_draw .nil pass0 (pa_cons (pv 0) (pa_cons pe_int pa_nil))))) (pv 1))))
      pss_nil)
      (psz_cons (ps_if (pt_cmpR op_eq (pv 2) pe_int (nomark _))
      (pss_one (ps_ret (pe_slice sl_str (pv 1) (po_some (pe_callB (call_min2 rfl) (by rfl) n_min (by decide +kernel) (pa_cons (pv 4) (pa_cons (pe_op op_add pe_int (pe_call G_law_draw (hr.mono (by decide)) (by rfl) g_law_draw kp_law_draw b_law_draw .nil pass0 (pa_cons (pv 0) (pa_cons pe_int pa_nil)))) pa_nil)))) po_none)))
      pss_nil)
      (psz_cons (ps_if (pt_cmpR op_eq (pv 2) pe_int (nomark _))
      (pss_one (ps_ret (pe_op op_add_str (pv 1) (pe_call G_law_pick (hr.mono (by decide)) (by rfl) g_law_pick kp_law_pick b_law_pick .nil pass0 (pa_cons (pv 0) (pa_cons (pe_lst (pa_cons pe_str (pa_cons pe_str (pa_cons pe_str (pa_cons pe_str (pa_cons pe_str pa_nil)))))) pa_nil))))))
      pss_nil)
      (psz_cons (ps_if (pt_cmpR op_eq (pv 2) pe_int (nomark _))
      (pss_one (ps_ret (pe_upper (pv 1))))
      pss_nil)
      (psz_ifRet (pt_cmpR op_eq (pv 2) pe_int (nomark _)) (pez_ifExp (pt_cmpR op_ne (pv 1) (pe_m1 PySem.F.slot_str_lstrip PySem.F.type_str_lstrip mt_lstripChars (pv 1) pe_str) (nomark _)) (pez_replC (pv 1)) (pez_replC (pv 1)))
      (psz_of (pss_one (ps_ret (pe_ifExp (pt_cmpR op_lt (pv 2) pe_int (nomark _)) (pe_op op_add_str (pe_op op_mulS0 pe_str (pv 4)) (pe_call G_law_pick (hr.mono (by decide)) (by rfl) g_law_pick kp_law_pick b_law_pick .nil pass0 (pa_cons (pv 0) (pa_cons (pv 3) pa_nil)))) (pe_call G_law_pick (hr.mono (by decide)) (by rfl) g_law_pick kp_law_pick b_law_pick .nil pass0 (pa_cons (pv 0) (pa_cons (pv 3) pa_nil))))))))))))))), ?_⟩
    have zl := hz.1
    refine ⟨.ref p, rfl, p, l, 9, n + 1, rfl, ⟨by decide, by decide⟩, hP, fun r H1 hr px1 pen1 => ?_⟩
    try dsimp only [gName, List.set]
    refine q_asgL (xs := junk12.map V.str) (el_lst (ea_cons ev_c (ea_cons ev_c (ea_cons ev_c (ea_cons ev_c (ea_cons ev_c (ea_cons ev_c (ea_cons ev_c (ea_cons ev_c (ea_cons ev_c (ea_cons ev_c (ea_cons ev_c (ea_cons ev_c ea_nil)))))))))))) (by decide)) fun J H2 hJ e2 gJ => ?_
    try dsimp only [gName, List.set]
    have nJ := pen1.new hJ
    have ll := lstrip_len z
    refine q_asg (v := .int (wd z : Nat)) (ev_is (ev_op (ev_cb (ea_cons (ev_var rfl) ea_nil) fun H1 e Q q => ⟨z, rfl, fits (by omega), q H1 (Ex.refl _)⟩) (ev_cb (ea_cons (ev_m1 (ev_var rfl) ev_c fun H2 e2 Q q => ⟨_, _, rfl, rfl, fits (by omega), q⟩) ea_nil) fun H1 e Q q => ⟨Txt.lstripChars z blank, rfl, fits (by omega), q H1 (Ex.refl _)⟩) rv_I0) (by congr 1; omega)) fun H3 e3 => ?_
    try dsimp only [gName, List.set]
    have px3 := px1.trans (Px.of (p := p) (l := l) (e2.trans e3))
    have pen3 := pen1.ex (e2.trans e3)
    have gJ3 := e3 _ _ gJ
    refine q_when (b := decide (r = 0)) (et_test (ev_op (ev_var rfl) ev_c rv_eqI)) (fun _ H4 e4 => ?_) (fun _ H4 e4 => ?_)
    · refine ⟨.ref p, rfl, p, l, 2, n, rfl, ⟨by decide, by decide⟩, pen3.ex e4, fun r2 H5 hr2 px5 pen5 => ?_⟩
      obtain ⟨k, rfl, hk⟩ := nat_of hr2
      refine ⟨1, _, rfl, rfl, blank, 1 + k, rfl, by rw [Int.natCast_add]; rfl, by omega, ⟨by decide +kernel, by decide +kernel⟩, .str z, rfl, mrg (1 + k), z, rfl, rfl, fits (by rw [mrg_len]; omega), ?_⟩
      exact kk _ _ ((gd_app (gd_rep (1 + k)) hz).up (by omega)) ((px3.trans (Px.of e4)).trans px5) pen5
    refine q_when (b := decide (r = 1)) (et_test (ev_op (ev_var rfl) ev_c rv_eqI)) (fun _ H5 e5 => ?_) (fun _ H5 e5 => ?_)
    · refine ⟨.str z, rfl, .int (wd z : Nat), rfl, .ref p, rfl, p, l, 2, n, rfl, ⟨by decide, by decide⟩, (pen3.ex e4).ex e5, fun r2 H6 hr2 px6 pen6 => ?_⟩
      refine ⟨1, r2, rfl, rfl, (wd z : Nat), 1 + r2, rfl, _, rfl, z, rfl, fits (by omega), ?_⟩
      exact kk _ _ ((gd_cut hz _ _).up (by omega)) ((px3.trans (Px.of (e4.trans e5))).trans px6) pen6
    refine q_when (b := decide (r = 2)) (et_test (ev_op (ev_var rfl) ev_c rv_eqI)) (fun _ H6 e6 => ?_) (fun _ H6 e6 => ?_)
    · have e46 := (e4.trans e5).trans e6
      refine ⟨.str z, rfl, .ref p, rfl, (show 5 ≤ sizeLine by decide), fun q hq => ?_⟩
      have pen6 := (pen3.ex e46).ex (Ex.new (o := .lst (tail5.map V.str)) hq)
      have nq := (pen3.ex e46).new hq
      refine ⟨p, l, q, tail5.map V.str, n, rfl, sq_of ((cut_at nq.1 nq.2).trans upd_same), ⟨by decide, by show 5 ≤ 1000000; decide⟩, pen6.less (by omega), fun v H7 hv px7 pen7 => ?_⟩
      obtain ⟨y, hy, rfl⟩ := List.mem_map.mp hv
      have gy := tail_gd y hy
      have gl := gy.1
      refine ⟨z, y, rfl, rfl, fits (by omega), kk _ _ ((gd_app hz gy).up (by omega)) ((px3.trans (Px.of (e46.trans (Ex.new hq)))).trans px7) pen7⟩
    refine q_when (b := decide (r = 3)) (et_test (ev_op (ev_var rfl) ev_c rv_eqI)) (fun _ H7 e7 => ?_) (fun _ H7 e7 => ?_)
    · have e47 := ((e4.trans e5).trans e6).trans e7
      refine ⟨.str z, rfl, ⟨_, rfl⟩, z, rfl, rfl, by omega, ?_⟩
      exact kk _ _ ((gd_upper hz).up (by omega)) (px3.trans (Px.of e47)) ((pen3.ex e47).less (by omega))
    refine q_when (b := decide (r = 4)) (et_test (ev_op (ev_var rfl) ev_c rv_eqI)) (fun _ H8 e8 => ?_) (fun _ H8 e8 => ?_)
    · have e48 := (((e4.trans e5).trans e6).trans e7).trans e8
      refine (et_test (b := !decide (z = Txt.lstripChars z blank)) (ev_op (ev_var rfl) (ev_m1 (ev_var rfl) ev_c fun H2 e2 Q q => ⟨_, _, rfl, rfl, fits (by omega), q⟩) rv_neSS)) H8 (Ex.refl _) _ fun H9 e9 => ?_
      have px9 := px3.trans (Px.of (p := p) (l := l) (e48.trans e9))
      have pen9 := (pen3.ex (e48.trans e9)).less (b' := n) (by omega)
      have l2 : ("  " : Str).length = 2 ∧ ("" : Str).length = 0 := by decide +kernel
      refine ite2 (fun _ => ?_) (fun _ => ?_)
      · exact ⟨.str z, rfl, z, rfl, by rw [l2.1]; omega, kk _ _ ((gd_repl hz (by decide +kernel)).up (by omega)) px9 pen9⟩
      · exact ⟨.str z, rfl, z, rfl, by rw [l2.2]; omega, kk _ _ ((gd_repl hz (by decide +kernel)).up (by omega)) px9 pen9⟩
    have e48 := (((e4.trans e5).trans e6).trans e7).trans e8
    have pick : ∀ H9, Ex H8 H9 → ∀ R : VK, (∀ y H', Gd 12 y → Px p l H H' → Pen p l n H' → R (.str y) H') → spPick K [.ref p, .ref J] H9 R E0 := fun H9 e9 R kR => by
      have pen9 := pen3.ex (e48.trans e9)
      refine ⟨p, l, J, junk12.map V.str, n, rfl, sq_of ((cut_at nJ.1 nJ.2).trans (e9 _ _ (e48 _ _ gJ3))), ⟨by decide, by show 12 ≤ 1000000; decide⟩, pen9.less (by omega), fun v H7 hv px7 pen7 => ?_⟩
      obtain ⟨y, hy, rfl⟩ := List.mem_map.mp hv
      exact kR y H7 (junk_gd y hy) ((px3.trans (Px.of (e48.trans e9))).trans px7) pen7
    refine (et_test (b := decide (r < 8)) (ev_op (ev_var rfl) ev_c rv_I0)) H8 (Ex.refl _) _ fun H9 e9 => ?_
    have wl : wd z ≤ z.length := by omega
    refine ite2 (fun _ => ?_) (fun _ => ?_)
    · refine ⟨.int (wd z : Nat), rfl, blank, wd z, rfl, rfl, by omega, ⟨by decide +kernel, by decide +kernel⟩, .ref p, rfl, .ref J, rfl, pick H9 e9 _ fun y H' gy px pen => ?_⟩
      have gl := gy.1
      exact ⟨mrg (wd z), y, rfl, rfl, fits (by rw [mrg_len]; omega), kk _ _ ((gd_app (gd_rep (wd z)) gy).up (by omega)) px pen⟩
    · exact ⟨.ref p, rfl, .ref J, rfl, pick H9 e9 _ fun y H' gy px pen => kk _ _ (gy.up (by omega)) px pen⟩

end
end K06
set_option Elab.async false
set_option linter.all false
set_option maxRecDepth 100000
set_option maxHeartbeats 8000000
namespace K06
open PySem PySem.Spec PyProof.Rows L2 He XH XV XR PEN TR Evl


section
variable {K : PySem.W.Frag} {σ : L2.St} {H : Hp} {te ta tb : TE} {xs ys : List V}
theorem el_is (h : EvL te σ H xs) (e : xs = ys) : EvL te σ H ys := by
  rw [← e]
  exact h
theorem el_cat (h1 : EvL ta σ H xs) (h2 : EvL tb σ H ys) (hl : xs.length + ys.length ≤ 1000) : EvL (tOp rCat ta tb) σ H (xs ++ ys) := fun H1 e Q q => h1 H1 e _ fun p H2 hp e2 g2 => h2 H2 (e.trans e2) _ fun p2 H3 hp2 e3 g3 =>
  ⟨p, p2, xs, ys, rfl, rfl, e3 _ _ g2, g3, fits hl, fun q0 hq => q q0 _ (fresh_back (e2.trans e3) hq) ((e2.trans e3).trans (Ex.new hq)) upd_same⟩
theorem el_revL (h : EvL te σ H xs) : EvL (tRevL K te) σ H xs.reverse := fun H1 e Q q => h H1 e _ fun p H2 hp e2 g => ⟨p, xs, rfl, sq_of g, fun q0 hq => q q0 _ (fresh_back e2 hq) (e2.trans (Ex.new hq)) upd_same⟩
end
theorem cutT (ls : List Str) (a : Nat) : cutV (ls.map V.str) none (some ((a : Nat) : Int)) = (ls.take a).map V.str := by rw [cut_take, List.map_take]
theorem cutD (ls : List Str) (a : Nat) : cutV (ls.map V.str) (some ((a : Nat) : Int)) none = (ls.drop a).map V.str := by rw [cut_drop, List.map_drop]
theorem cutDk (ls : List Str) (a k : Nat) : cutV (ls.map V.str) (some ((a : Int) + (k : Int))) none = (ls.drop (a + k)).map V.str := by rw [← Int.natCast_add, cutD]
theorem cutTk (ls : List Str) (a k : Nat) : cutV (ls.map V.str) none (some ((a : Int) + (k : Int))) = (ls.take (a + k)).map V.str := by rw [← Int.natCast_add, cutT]
theorem cutM (ls : List Str) (a k : Nat) : cutV (ls.map V.str) (some (a : Int)) (some ((a : Int) + (k : Int))) = ((ls.drop a).take k).map V.str := by
  rw [← Int.natCast_add, List.map_take, List.map_drop]
  unfold cutV
  rw [HT.sIx_nat, HT.sIx_nat]
  generalize ls.map V.str = xs
  rcases Nat.le_total a xs.length with h | h
  · rw [Nat.min_eq_left h]
    rcases Nat.le_total (a + k) xs.length with h2 | h2
    · rw [Nat.min_eq_left h2, Nat.add_sub_cancel_left]
    · rw [Nat.min_eq_right h2, List.take_of_length_le (by rw [List.length_drop]; exact Nat.le_refl _), List.take_of_length_le (by rw [List.length_drop]; omega)]
  · rw [Nat.min_eq_right h, List.drop_of_length_le (Nat.le_refl _), List.drop_of_length_le h, List.take_nil, List.take_nil]
def spSpoilt6 (K : PySem.W.Frag) : Sp := fun vs H Q _ => ∃ (p l L : Addr) (ls : List Str) (n b : Nat), vs = [.ref p, .ref L] ∧ H L = some (.lst (ls.map V.str)) ∧ ls ≠ [] ∧ ls.length ≤ 100 ∧ (∀ z ∈ ls, Gd b z) ∧ b ≤ 300 ∧ Pen p l (n + 4) H ∧
  ∀ (q : Addr) (ys : List Str) H', H' q = some (.lst (ys.map V.str)) → ys.length ≤ ls.length + 1 → (∀ z ∈ ys, Gd (3 * b + 20) z) → Px p l H H' → Pen p l n H' → Q (.ref q) H'

section
variable {P : Program} {w : World} {K : PySem.W.Frag} {mg : Str → Option Value} {base : Heap}

theorem ok_law_spoilt {fd : FuncData} (F : FnP K "_law_spoilt" "_law_spoilt" s_law_spoilt (ga K "_law_spoilt") fd) (T : Tx K w mg) (c_law_draw : Cl P w K mg base CX0 1 (ga K "_law_draw") ["_law_pen", "_law_many"] spDraw) (c_law_line : Cl P w K mg base CX0 3 (ga K "_law_line") ["_law_pen", "_law_line_here"] spLine6) : FnOk P w K mg base CX0 (3 + 1) (ga K "_law_spoilt") fd ["_law_pen", "_law_lines_here"] (spSpoilt6 K) := by
  obtain ⟨fd_law_draw, G_law_draw, b_law_draw, kp_law_draw⟩ := c_law_draw
  obtain ⟨fd_law_line, G_law_line, b_law_line, kp_law_line⟩ := c_law_line
  refine FunD.ok F sc_law_spoilt (fun vs H Q E h => ?_) (fun cdv A outer s H vs Q E hr h => ?_)
  · obtain ⟨p, l, L, ls, n, b, rfl, _⟩ := h
    rfl
  · obtain ⟨p, l, L, ls, n, b, rfl, hL, hne, hlen, hgd, hb, hP, kk⟩ := h
    have g_law_draw := T.gl "_law_draw" (by decide +kernel)
    have n_len := T.fr "len" (by decide +kernel)
    have g_law_line := T.gl "_law_line" (by decide +kernel)
    refine ⟨_, PSs.nox (pss_cons (ps_set (i := 2) sc_law_spoilt.nd rfl (Or.inl rfl) (pe_call G_law_draw (hr.mono (by decide)) (by rfl) g_law_draw kp_law_draw b_law_draw .nil pass0 (pa_cons (pv 0) (pa_cons (pe_callB call_len_seq (by rfl) n_len (by decide +kernel) (pa_cons (pv 1) pa_nil)) pa_nil))))
      (pss_cons (ps_set (i := 3) sc_law_spoilt.nd rfl (Or.inl rfl) (pe_call G_law_draw (hr.mono (by decide)) (by rfl) g_law_draw kp_law_draw b_law_draw .nil pass0 (pa_cons (pv 0) (pa_cons pe_int pa_nil))))
      (pss_cons (ps_if (pt_cmpR op_eq (pv 3) pe_int (nomark _))
      (pss_one (ps_ret (pe_op op_cat (pe_slice sl_list (pv 1) po_none (po_some (pv 2))) (pe_slice sl_list (pv 1) (po_some (pe_op op_add (pv 2) pe_int)) po_none))))
      pss_nil)
      (pss_cons (ps_if (pt_cmpR op_eq (pv 3) pe_int (nomark _))
      (pss_one (ps_ret (pe_op op_cat (pe_op op_cat (pe_slice sl_list (pv 1) po_none (po_some (pv 2))) (pe_lst (pa_cons (pe_ix ix_list (pv 1) (pv 2) (fun _ _ => rfl)) pa_nil))) (pe_slice sl_list (pv 1) (po_some (pv 2)) po_none))))
      pss_nil)
      (pss_cons (ps_if (pt_cmpR op_eq (pv 3) pe_int (nomark _))
      (pss_one (ps_ret (pe_op op_cat (pe_op op_cat (pe_slice sl_list (pv 1) po_none (po_some (pv 2))) (pe_revL (pe_slice sl_list (pv 1) (po_some (pv 2)) (po_some (pe_op op_add (pv 2) pe_int))))) (pe_slice sl_list (pv 1) (po_some (pe_op op_add (pv 2) pe_int)) po_none))))
      pss_nil)
      (pss_cons (ps_if (pt_cmpR op_eq (pv 3) pe_int (nomark _))
      (pss_one (ps_ret (pe_slice sl_list (pv 1) po_none (po_some (pe_op op_add (pv 2) pe_int)))))
      pss_nil)
      (pss_cons (ps_if (pt_cmpR op_eq (pv 3) pe_int (nomark _))
      (pss_one (ps_ret (pe_op op_cat (pe_op op_cat (pe_slice sl_list (pv 1) po_none (po_some (pv 2))) (pe_lst (pa_cons (pe_call G_law_line (hr.mono (by decide)) (by rfl) g_law_line kp_law_line b_law_line .nil pass0 (pa_cons (pv 0) (pa_cons (pe_ix ix_list (pv 1) (pv 2) (fun _ _ => rfl)) pa_nil))) pa_nil))) (pe_slice sl_list (pv 1) (po_some (pv 2)) po_none))))
      pss_nil)
      (pss_one (ps_ret (pe_op op_cat (pe_op op_cat (pe_slice sl_list (pv 1) po_none (po_some (pv 2))) (pe_lst (pa_cons (pe_call G_law_line (hr.mono (by decide)) (by rfl) g_law_line kp_law_line b_law_line .nil pass0 (pa_cons (pv 0) (pa_cons (pe_ix ix_list (pv 1) (pv 2) (fun _ _ => rfl)) pa_nil))) pa_nil))) (pe_slice sl_list (pv 1) (po_some (pe_op op_add (pv 2) pe_int)) po_none))))))))))), ?_⟩
    have lm : (ls.map V.str).length = ls.length := List.length_map ..
    have lpos : 0 < ls.length := List.length_pos_iff.mpr hne
    have nL := strs_off hP hL
    refine ⟨.ref p, rfl, .ref L, rfl, L, ls.map V.str, rfl, .inl (sq_of hL), p, l, ((ls.map V.str).length : Int), n + 3, rfl, ⟨by omega, by omega⟩, hP, fun r0 H1 hr0 px1 pen1 => ?_⟩
    obtain ⟨a, rfl, ha⟩ := nat_of hr0
    have ha2 : a < ls.length := by omega
    try dsimp only [gName, List.set]
    refine ⟨.ref p, rfl, p, l, 8, n + 2, rfl, ⟨by decide, by decide⟩, pen1, fun r H2 hr px2 pen2 => ?_⟩
    try dsimp only [gName, List.set]
    have px := px1.trans px2
    have gL := px.get nL.1 nL.2 hL
    have hget : ls[a]? = some (ls[a]'ha2) := List.getElem?_eq_getElem ha2
    have hmem := List.getElem_mem ha2
    generalize ls[a]'ha2 = za at hget hmem
    have fin : ∀ (ys : List Str) (q : Addr) (H3 H4 : Hp), Ex H2 H3 → Ex H3 H4 → H4 q = some (.lst (ys.map V.str)) → ys.length ≤ ls.length + 1 → (∀ z ∈ ys, z ∈ ls) → Q (.ref q) H4 := fun ys q H3 H4 e3 e4 g h1 h2 =>
      kk q ys H4 g h1 (fun z hz => (hgd z (h2 z hz)).up (by omega)) (px.trans (Px.of (e3.trans e4))) ((pen2.ex (e3.trans e4)).less (by omega))
    have mt : ∀ {z : Str} {k : Nat}, z ∈ ls.take k → z ∈ ls := fun h => List.mem_of_mem_take h
    have md : ∀ {z : Str} {k : Nat}, z ∈ ls.drop k → z ∈ ls := fun h => List.mem_of_mem_drop h
    refine q_when (b := decide (r = 0)) (et_test (ev_op (ev_var rfl) ev_c rv_eqI)) (fun _ H3 e3 => ?_) (fun _ H3 e3 => ?_)
    · have g3 := e3 _ _ gL
      refine s_retL (el_cat (xs := (ls.take a).map V.str) (ys := (ls.drop (a + 1)).map V.str) (el_is (el_sl (ev_var rfl) eo_none (eo_some (ev_var rfl)) (sq_of g3)) (cutT ls a)) (el_is (el_sl (ev_var rfl) (eo_some (ev_op (ev_var rfl) ev_c rv_I0)) eo_none (sq_of g3)) (cutDk ls a 1)) (by rw [List.length_map, List.length_map, List.length_take, List.length_drop]; omega)) fun q H4 hq e4 g4 => ?_
      refine fin (ls.take a ++ ls.drop (a + 1)) q H3 H4 e3 e4 (by rw [List.map_append]; exact g4) (by rw [List.length_append, List.length_take, List.length_drop]; omega) fun z hz => ?_
      rcases List.mem_append.mp hz with h | h
      · exact mt h
      · exact md h
    refine q_when (b := decide (r = 1)) (et_test (ev_op (ev_var rfl) ev_c rv_eqI)) (fun _ H4 e4 => ?_) (fun _ H4 e4 => ?_)
    · have g4 := (e3.trans e4) _ _ gL
      refine s_retL (el_cat (xs := (ls.take a ++ [za]).map V.str) (ys := (ls.drop a).map V.str) (el_is (el_cat (xs := (ls.take a).map V.str) (ys := [.str za]) (el_is (el_sl (ev_var rfl) eo_none (eo_some (ev_var rfl)) (sq_of g4)) (cutT ls a)) (el_lst (ea_cons (ev_op (ev_var rfl) (ev_var rfl) (rv_ixL (sq_of g4) (atI_nat (by rw [List.getElem?_map, hget]; rfl)))) ea_nil) (by show 1 ≤ 100000; decide)) (by rw [List.length_map, List.length_take]; show _ + 1 ≤ 1000; omega)) (by rw [List.map_append]; rfl)) (el_is (el_sl (ev_var rfl) (eo_some (ev_var rfl)) eo_none (sq_of g4)) (cutD ls a)) (by rw [List.length_map, List.length_map, List.length_append, List.length_take, List.length_drop]; show _ + 1 + _ ≤ 1000; omega)) fun q H5 hq e5 g5 => ?_
      refine fin (ls.take a ++ [za] ++ ls.drop a) q H4 H5 (e3.trans e4) e5 (by rw [List.map_append]; exact g5) (by rw [List.length_append, List.length_append, List.length_take, List.length_drop]; show _ + 1 + _ ≤ _; omega) fun z hz => ?_
      rcases List.mem_append.mp hz with h | h
      · rcases List.mem_append.mp h with h | h
        · exact mt h
        · rw [List.mem_singleton.mp h]
          exact hmem
      · exact md h
    have e34 := e3.trans e4
    refine q_when (b := decide (r = 2)) (et_test (ev_op (ev_var rfl) ev_c rv_eqI)) (fun _ H5 e5 => ?_) (fun _ H5 e5 => ?_)
    · have g5 := (e34.trans e5) _ _ gL
      have two : ((ls.drop a).take 2).length ≤ min 2 (ls.length - a) := by rw [List.length_take, List.length_drop]; exact Nat.le_refl _
      refine s_retL (el_cat (xs := (ls.take a ++ ((ls.drop a).take 2).reverse).map V.str) (ys := (ls.drop (a + 2)).map V.str) (el_is (el_cat (xs := (ls.take a).map V.str) (ys := (((ls.drop a).take 2).map V.str).reverse) (el_is (el_sl (ev_var rfl) eo_none (eo_some (ev_var rfl)) (sq_of g5)) (cutT ls a)) (el_revL (el_is (el_sl (ev_var rfl) (eo_some (ev_var rfl)) (eo_some (ev_op (ev_var rfl) ev_c rv_I0)) (sq_of g5)) (cutM ls a 2))) (by rw [List.length_map, List.length_reverse, List.length_map, List.length_take]; omega)) (by rw [List.map_append, List.map_reverse])) (el_is (el_sl (ev_var rfl) (eo_some (ev_op (ev_var rfl) ev_c rv_I0)) eo_none (sq_of g5)) (cutDk ls a 2)) (by rw [List.length_map, List.length_map, List.length_append, List.length_reverse, List.length_take, List.length_drop]; omega)) fun q H6 hq e6 g6 => ?_
      refine fin (ls.take a ++ ((ls.drop a).take 2).reverse ++ ls.drop (a + 2)) q H5 H6 (e34.trans e5) e6 (by rw [List.map_append]; exact g6) (by rw [List.length_append, List.length_append, List.length_reverse, List.length_take, List.length_drop]; omega) fun z hz => ?_
      rcases List.mem_append.mp hz with h | h
      · rcases List.mem_append.mp h with h | h
        · exact mt h
        · exact md (List.mem_of_mem_take (List.mem_reverse.mp h))
      · exact md h
    have e35 := e34.trans e5
    refine q_when (b := decide (r = 3)) (et_test (ev_op (ev_var rfl) ev_c rv_eqI)) (fun _ H6 e6 => ?_) (fun _ H6 e6 => ?_)
    · have g6 := (e35.trans e6) _ _ gL
      refine s_retL (el_is (el_sl (ev_var rfl) eo_none (eo_some (ev_op (ev_var rfl) ev_c rv_I0)) (sq_of g6)) (cutTk ls a 1)) fun q H7 hq e7 g7 => ?_
      exact fin (ls.take (a + 1)) q H6 H7 (e35.trans e6) e7 g7 (by rw [List.length_take]; omega) fun z hz => mt hz
    have e36 := e35.trans e6
    have mid : ∀ (k : Nat) (H7 : Hp) (e7 : Ex H2 H7) (σ : L2.St) (D : Ends) (tl : TE), k ≤ 1 → σ[0]? = some (some (.ref p)) → σ[1]? = some (some (.ref L)) → σ[2]? = some (some (.int (a : Int))) → D.rt = Q → (∀ H', H' L = some (.lst (ls.map V.str)) → EvL tl σ H' ((ls.drop (a + k)).map V.str)) →
        tRet (tOp rCat (tOp rCat (L2.tSl (rSlL K) (tVar 1) tNoPart (tPart (tVar 2))) (tLst (tCons (tCall spLine6 [] E0 (tCons (tVar 0) (tCons (tOp (rIxL K) (tVar 1) (tVar 2)) tNil))) tNil))) tl) D σ H7 := fun k H7 e7 σ D tl hk s0 s1 s2 hD htl => by
      have g7 := e7 _ _ gL
      refine (el_is (el_sl (ev_var s1) eo_none (eo_some (ev_var s2)) (sq_of g7)) (cutT ls a)) H7 (Ex.refl _) _ fun q1 H8 hq1 e8 g8 => ?_
      have gL8 := e8 _ _ g7
      have pen8 := (pen2.ex e7).ex e8
      have nq1 := (pen2.ex e7).new hq1
      refine ⟨.ref p, s0, (ev_op (ev_var s1) (ev_var s2) (rv_ixL (sq_of gL8) (atI_nat (by rw [List.getElem?_map, hget]; rfl)))) H8 (Ex.refl _) _ fun H9 e9 => ?_⟩
      refine ⟨p, l, za, n, b, rfl, hgd za hmem, hb, pen8.ex e9, fun y H10 gy px10 pen10 => ⟨by show 1 ≤ sizeLine; decide, fun q2 hq2 => ?_⟩⟩
      have g10 := px10.get nq1.1 nq1.2 (e9 _ _ g8)
      have gL10 := px10.get nL.1 nL.2 (e9 _ _ gL8)
      have pxA := ((px.trans (Px.of (p := p) (l := l) (e7.trans (e8.trans e9)))).trans px10).trans (Px.of (Ex.new (o := .lst [V.str y]) hq2))
      have penA := pen10.ex (Ex.new (o := .lst [V.str y]) hq2)
      have gA := (Ex.new (o := .lst [V.str y]) hq2) _ _ g10
      have gLA := (Ex.new (o := .lst [V.str y]) hq2) _ _ gL10
      refine ⟨q1, q2, _, _, rfl, rfl, gA, upd_same, fits (by rw [List.length_map, List.length_take]; show _ + 1 ≤ 1000; omega), fun q3 hq3 => ?_⟩
      have eB := Ex.new (o := .lst ((ls.take a).map V.str ++ [V.str y])) hq3
      refine (htl _ (eB _ _ gLA)) _ (Ex.refl _) _ fun q4 H12 hq4 e12 g12 => ⟨q3, q4, _, _, rfl, rfl, e12 _ _ upd_same, g12, fits (by rw [List.length_append, List.length_map, List.length_map, List.length_take, List.length_drop]; show _ + 1 + _ ≤ 1000; omega), fun q5 hq5 => ?_⟩
      rw [hD]
      refine kk q5 (ls.take a ++ [y] ++ ls.drop (a + k)) _ (by rw [upd_same, List.map_append, List.map_append]; rfl) (by rw [List.length_append, List.length_append, List.length_take, List.length_drop]; show _ + 1 + _ ≤ _; omega) (fun z hz => ?_) (pxA.trans (Px.of (eB.trans (e12.trans (Ex.new hq5))))) (penA.ex (eB.trans (e12.trans (Ex.new hq5))))
      rcases List.mem_append.mp hz with h | h
      · rcases List.mem_append.mp h with h | h
        · exact (hgd z (mt h)).up (by omega)
        · rw [List.mem_singleton.mp h]
          exact gy
      · exact (hgd z (md h)).up (by omega)
    refine q_when (b := decide (r = 4)) (et_test (ev_op (ev_var rfl) ev_c rv_eqI)) (fun _ H7 e7 => ?_) (fun _ H7 e7 => ?_)
    · exact mid 0 H7 (e36.trans e7) _ _ _ (by decide) rfl rfl rfl rfl fun H' g => el_is (el_sl (ev_var rfl) (eo_some (ev_var rfl)) eo_none (sq_of g)) (cutD ls a)
    · exact mid 1 H7 (e36.trans e7) _ _ _ (by decide) rfl rfl rfl rfl fun H' g => el_is (el_sl (ev_var rfl) (eo_some (ev_op (ev_var rfl) ev_c rv_I0)) eo_none (sq_of g)) (cutDk ls a 1)

end
end K06
set_option Elab.async false
set_option linter.all false
set_option maxRecDepth 100000
set_option maxHeartbeats 8000000
namespace K06
open PySem PySem.Spec PyProof.Rows L2 He XH XV XR PEN TR Evl


/-! ### x not in t, data at any depth -/
def rNotInDT (K : PySem.W.Frag) : R2 := fun x y H Q => ∃ d ds, Dp K H x d ∧ Dp K H y (.tuple ds) ∧ SeqAt.shaped d = true ∧ SeqAt.shaped (.tuple ds) = true ∧ Q (.bl (!ds.any fun z => PyData.eqv z d)) H
theorem op_notInDT {X : Cx} (hu : X.A.units + 65 < cLine) : OpR X (compareOp .NotIn) (rNotInDT X.K) := by
  intro pins s σ H x y v u Q I rx ry h
  obtain ⟨d, ds, hd, he, sd, se, q⟩ := h
  obtain ⟨as, r1⟩ := Dp.reads I d x v hd rx
  obtain ⟨bs, r2⟩ := Dp.reads I (.tuple ds) y u he ry
  exact SeqAt.notIn_tuple_reads r2 r1 (by have z := SeqAt.canLay_of_shaped se; simpa [PyData.canLay0] using z) (SeqAt.canLay_of_shaped sd) (room_in_shaped sd hu) ⟨.bl _, H, I, rfl, q⟩
section
variable {K : PySem.W.Frag} {σ : L2.St} {H : Hp} {ta tb : TE} {d e : PyData} {ds : List PyData}
theorem ed_b {b : Bool} : ED K (tC (.bl b)) σ H (.bool b) := fun H1 e Q q => q _ H1 (Ex.refl _) (.bl b)
theorem ev_neD (ha : ED K ta σ H d) (hb : ED K tb σ H e) (sd : SeqAt.shaped d = true) (se : SeqAt.shaped e = true) : Ev (tOp (rNeD K) ta tb) σ H (.bl (!PyData.eqv d e)) := fun H1 ex Q q =>
  ha H1 ex _ fun v H2 e2 d2 => hb H2 (ex.trans e2) _ fun u H3 e3 d3 => ⟨d, e, dpM e3 _ _ d2, d3, sd, se, q H3 (e2.trans e3)⟩
theorem ev_niDT (ha : ED K ta σ H d) (hb : ED K tb σ H (.tuple ds)) (sd : SeqAt.shaped d = true) (se : SeqAt.shaped (.tuple ds) = true) : Ev (tOp (rNotInDT K) ta tb) σ H (.bl (!ds.any fun z => PyData.eqv z d)) := fun H1 ex Q q =>
  ha H1 ex _ fun v H2 e2 d2 => hb H2 (ex.trans e2) _ fun u H3 e3 d3 => ⟨d, ds, dpM e3 _ _ d2, d3, sd, se, q H3 (e2.trans e3)⟩
end
/-! ### the signs of a drawn text -/
theorem mem_joinL {c : Nat} {S : List Nat} : ∀ {ls : List (List Nat)}, c ∈ TL.joinL S ls → (∃ p ∈ ls, c ∈ p) ∨ c ∈ S
  | [], h => nomatch h
  | [p], h => .inl ⟨p, List.mem_singleton.mpr rfl, h⟩
  | p :: q :: r, h => by
    have h' : c ∈ p ++ (S ++ TL.joinL S (q :: r)) := h
    rcases List.mem_append.mp h' with h | h
    · exact .inl ⟨p, List.mem_cons_self, h⟩
    · rcases List.mem_append.mp h with h | h
      · exact .inr h
      · rcases mem_joinL h with ⟨p2, m, k⟩ | k
        · exact .inl ⟨p2, List.mem_cons_of_mem _ m, k⟩
        · exact .inr k
theorem asc_join {zs : List Str} (h : ∀ z ∈ zs, Asc z) : Asc (Txt.join blank zs) := by
  intro c hm
  rw [TL.join_eq, TL.tl_join, blank_tl] at hm
  rcases mem_joinL hm with ⟨p, hp, k⟩ | k
  · obtain ⟨z, hz, rfl⟩ := List.mem_map.mp hp
    exact h z hz c k
  · rw [List.mem_singleton.mp k]
    decide
theorem asc_let {z : Str} (h : Let z) : Asc z := fun c hc => by
  have k := h c hc
  omega
theorem asc_mgn (e : Nat) : Asc (mgn e) := by
  intro c hm
  rw [mgn_tl] at hm
  rw [List.eq_of_mem_replicate hm]
  decide
theorem asc_second (w : Str) : Asc (secondW w) := by
  unfold secondW
  split
  · decide +kernel
  · split
    · decide +kernel
    · split
      · decide +kernel
      · split <;> decide +kernel
theorem nms_let {cs rs os : List Str} (h : LetS (cs ++ rs ++ os)) (k : Str) : ∀ z ∈ nmsOf cs rs os k, Let z := by
  intro z hz
  unfold nmsOf at hz
  split at hz
  · exact (h z (List.mem_append_left _ (List.mem_append_left _ hz))).1
  · split at hz
    · exact (h z (List.mem_append_left _ (List.mem_append_right _ hz))).1
    · split at hz
      · exact (h z (List.mem_append_right _ hz)).1
      · split at hz
        · exact let_of ((show ∀ z ∈ ([("copy" : Str), "view"] : List Str), (TL.tl z).all (fun c => decide (97 ≤ c) && decide (c ≤ 122)) = true by decide +kernel) z hz)
        · split at hz
          · exact let_of ((show ∀ z ∈ ([("found" : Str), "none"] : List Str), (TL.tl z).all (fun c => decide (97 ≤ c) && decide (c ≤ 122)) = true by decide +kernel) z hz)
          · cases hz
theorem strs_let {cs rs os : List Str} (hL : LetS (cs ++ rs ++ os)) {s : PyData} (h : Wf cs rs os s) : ∀ z ∈ strsD s, Let z := by
  obtain ⟨w, ks, args, rfl, hk, hlen, hf⟩ := h
  intro z hz
  obtain ⟨x, hx, e⟩ := List.mem_filterMap.mp hz
  obtain ⟨i, hi⟩ := List.mem_iff_getElem?.mp hx
  have hi2 := (List.getElem?_eq_some_iff.mp hi).1
  have hki : ks[i]? = some (ks[i]'(by rw [← hlen]; exact hi2)) := List.getElem?_eq_getElem _
  have f := hf i _ x hki hi
  generalize ks[i]'(by rw [← hlen]; exact hi2) = k at hki f
  by_cases e2 : k = "part"
  · subst e2
    obtain ⟨ds, rfl⟩ := part_of f
    cases e
  · obtain ⟨y, rfl, hy⟩ := str_of e2 f
    cases e
    exact nms_let hL k z hy
theorem lns_asc {cs rs os : List Str} (hL : LetS (cs ++ rs ++ os)) : ∀ {n e : Nat} {ss : List PyData}, LB cs rs os n ss → ∀ z ∈ lns n (mgn e) ss, Asc z
  | 0, _, _, _, _, hz => nomatch hz
  | n + 1, e, ss, h, z, hz => by
    rw [lns_S] at hz
    obtain ⟨s, hs, hz⟩ := List.mem_flatMap.mp hz
    obtain ⟨hwf, hpt⟩ := h s hs
    rcases List.mem_cons.mp hz with q | hz
    · rw [q]
      refine asc_app (asc_mgn e) (asc_join fun y hy => ?_)
      rcases List.mem_cons.mp hy with q | hy
      · rw [q]
        obtain ⟨w, ks, args, rfl, hk, _⟩ := hwf
        exact asc_let (let_first (ent_let hk))
      · exact asc_let (strs_let hL hwf y hy)
    · obtain ⟨p, hp, hz⟩ := List.mem_flatMap.mp hz
      rcases List.mem_append.mp hz with hz | hz
      · by_cases q : p.2 = 1
        · rw [if_pos q] at hz
          rw [List.mem_singleton.mp hz]
          exact asc_app (asc_mgn e) (asc_second _)
        · rw [if_neg q] at hz
          cases hz
      · have hm : p.1 ∈ parts s := by
          obtain ⟨_, z2, z3⟩ := List.mem_zipIdx hp
          rw [z3]
          exact List.getElem_mem _
        obtain ⟨ds, q, hb⟩ := hpt _ hm
        rw [q] at hz
        exact lns_asc hL (e := e + 1) hb z hz
theorem head_asc {w : Str} {zs : List Str} (hw : Let w) (hz : LetS zs) : Asc (headL w zs) := by
  refine asc_join fun y hy => ?_
  rcases List.mem_cons.mp hy with q | hy
  · rw [q]
    exact asc_app (asc_let hw) (by decide +kernel)
  · exact asc_let (hz y hy).1
theorem Names.lets {cs rs os : List Str} {st : Str} (h : Names cs rs os st) : LetS (cs ++ rs ++ os) := fun z hz => h.ok.2 z hz
theorem txt_asc {cs rs os : List Str} {st : Str} {bds : List (List PyData)} (hN : Names cs rs os st) (hB : ∀ ss ∈ bds, BodV cs rs os ss) : ∀ z ∈ txt cs rs os st bds, Asc z := by
  have hL := hN.lets
  intro z hz
  rcases List.mem_append.mp hz with hz | hz
  · simp only [List.mem_cons, List.not_mem_nil, or_false] at hz
    rcases hz with q | q | q
    · rw [q]
      exact head_asc (let_of (by decide +kernel)) fun y hy => hL y (List.mem_append_left _ (List.mem_append_left _ hy))
    · rw [q]
      exact head_asc (let_of (by decide +kernel)) fun y hy => hL y (List.mem_append_left _ (List.mem_append_right _ hy))
    · rw [q]
      exact head_asc (let_of (by decide +kernel)) fun y hy => by
        rw [List.mem_singleton.mp hy]
        exact hL st (List.mem_append_right _ hN.st)
  · obtain ⟨⟨p1, p2⟩, hp, hz⟩ := List.mem_flatMap.mp hz
    have m1 := (List.of_mem_zip hp).1
    have m2 := (List.of_mem_zip hp).2
    rcases List.mem_cons.mp hz with q | hz
    · rw [q]
      exact head_asc (hL p1 (List.mem_append_right _ m1)).1 fun y hy => nomatch hy
    · obtain ⟨_, hLB, _⟩ := bodv_all (hB _ m2)
      refine lns_asc hL (e := 1) hLB z ?_
      rw [mgn_one]
      exact hz

theorem asc_ok {z : Str} (h : ∀ c ∈ TL.tl z, c < 128) : PyData.strOk z = true := by
  unfold PyData.strOk
  rw [Array.all_eq_true]
  intro i hi
  have k := h z.cps[i] (by simp [TL.tl])
  exact decide_eq_true (by omega)
theorem nl_codes {zs : List Str} (h : ∀ z ∈ zs, Asc z) : ∀ c ∈ TL.tl (Txt.join nl zs), c < 128 := by
  intro c hm
  rw [TL.join_eq, TL.tl_join, nl_tl] at hm
  rcases mem_joinL hm with ⟨p, hp, k⟩ | k
  · obtain ⟨z, hz, rfl⟩ := List.mem_map.mp hp
    exact (h z hz c k).1
  · rw [List.mem_singleton.mp k]
    decide
/-- the text of plain lines, split again -/
theorem split_gd {zs : List Str} (hl : zs.length ≤ 92) (h : ∀ z ∈ zs, Gd 800 z) : Short (Txt.split (Txt.join nl zs) nl) ∧ (Txt.split (Txt.join nl zs) nl).length ≤ 100 := by
  cases zs with
  | nil =>
    have e : Txt.split (Txt.join nl []) nl = [("" : Str)] := by decide +kernel
    rw [e]
    exact ⟨fun z hz => by rw [List.mem_singleton.mp hz]; decide +kernel, by decide⟩
  | cons z r =>
    rw [split_nl (by simp) fun z hz hc => (((h z hz).2 10 hc).2 rfl)]
    exact ⟨fun z hz => Nat.le_trans (h z hz).1 (by decide), Nat.le_trans hl (by decide)⟩
def bndL : Nat → Nat
  | 0 => 80
  | n + 1 => 3 * bndL n + 20
def wrD (e : Nat) : PyData := .tuple [.str "wrong", .int (e : Nat), .bool true, .bool false]
def rdD (x : Str) : PyData := .tuple [.str "read", .str x]
def cdD : PyData := .tuple [.str "code", .bool false]
theorem shp_wr (e : Nat) : SeqAt.shaped (wrD e) = true := by
  have k : PyData.strOk "wrong" = true := by decide +kernel
  simp [SeqAt.shaped, wrD, PyData.canLay0, PyData.canLayAll0, PyData.depth, PyData.depthAll, k]
theorem shp_rd {x : Str} (h : PyData.strOk x = true) : SeqAt.shaped (rdD x) = true := by
  have k : PyData.strOk "read" = true := by decide +kernel
  simp [SeqAt.shaped, rdD, PyData.canLay0, PyData.canLayAll0, PyData.depth, PyData.depthAll, k, h]
theorem shp_cd : SeqAt.shaped cdD = true := by decide +kernel
theorem shp_two {x : Str} (h : PyData.strOk x = true) : SeqAt.shaped (.tuple [rdD x, cdD]) = true := by
  have k : PyData.strOk "read" = true := by decide +kernel
  have k2 : PyData.strOk "code" = true := by decide +kernel
  simp [SeqAt.shaped, rdD, cdD, PyData.canLay0, PyData.canLayAll0, PyData.depth, PyData.depthAll, k, k2, h]
theorem eqv_wr (e : Nat) : PyData.eqv (wrD e) (wrD e) = true := by
  simp [PyData.eqv, PyData.eqvAll, wrD]
theorem any_rd (x : Str) : ([rdD x, cdD].any fun z => PyData.eqv z (rdD x)) = true := by
  simp [PyData.eqv, PyData.eqvAll, rdD]
theorem any_cd (x : Str) : ([rdD x, cdD].any fun z => PyData.eqv z cdD) = true := by
  simp [PyData.eqv, PyData.eqvAll, cdD]
def Told6 (K : PySem.W.Frag) (ls : List Str) (x : Str) (v : V) (H : Hp) : Prop := (∃ e, wrongA ls = some e ∧ Dp K H v (wrD e)) ∨ (wrongA ls = none ∧ (Dp K H v (rdD x) ∨ Dp K H v cdD))

section
variable {P : Program} {w : World} {K : PySem.W.Frag} {mg : Str → Option Value} {base : Heap}

theorem ok_law {fd : FuncData} (F : FnP K "law" "law" s_law (ga K "law") fd) (T : Tm K w mg) (c_law_pick : Cl P w K mg base CX0 2 (ga K "_law_pick") ["_law_pen", "_law_row"] (spPick K)) (c_law_drawn : Cl P w K mg base CX0 13 (ga K "_law_drawn") ["_law_pen", "_law_room"] (spDrawn K)) (c_law_text : Cl P w K mg base CX0 6 (ga K "_law_text") ["_law_plan_here"] (spTx K)) (c_law_draw : Cl P w K mg base CX0 1 (ga K "_law_draw") ["_law_pen", "_law_many"] spDraw) (c_law_spoilt : Cl P w K mg base CX0 4 (ga K "_law_spoilt") ["_law_pen", "_law_lines_here"] (spSpoilt6 K)) (c_law_told : Cl P w K mg base CX0 61 (ga K "_law_told") ["_law_text_here"] (spTold6 K)) (c_law_wrong : Cl P w K mg base CX0 3 (ga K "_law_wrong") ["_law_lines_here"] spWrong6) : FnOk P w K mg base CX0 (61 + 1) (ga K "law") fd ["_law_script"] (spLaw K) := by
  obtain ⟨fd_law_pick, G_law_pick, b_law_pick, kp_law_pick⟩ := c_law_pick
  obtain ⟨fd_law_drawn, G_law_drawn, b_law_drawn, kp_law_drawn⟩ := c_law_drawn
  obtain ⟨fd_law_text, G_law_text, b_law_text, kp_law_text⟩ := c_law_text
  obtain ⟨fd_law_draw, G_law_draw, b_law_draw, kp_law_draw⟩ := c_law_draw
  obtain ⟨fd_law_spoilt, G_law_spoilt, b_law_spoilt, kp_law_spoilt⟩ := c_law_spoilt
  obtain ⟨fd_law_told, G_law_told, b_law_told, kp_law_told⟩ := c_law_told
  obtain ⟨fd_law_wrong, G_law_wrong, b_law_wrong, kp_law_wrong⟩ := c_law_wrong
  refine FunD.ok F sc_law (fun vs H Q E h => ?_) (fun cdv A outer s H vs Q E hr h => ?_)
  · obtain ⟨a, ns, rfl, _⟩ := h
    rfl
  · obtain ⟨a, ns, rfl, hS, hl, kk⟩ := h
    have n_list := T.fr "list" (by decide +kernel)
    have n_range := T.fr "range" (by decide +kernel)
    have g_law_text := T.gl "_law_text" (by decide +kernel)
    have g_law_drawn := T.gl "_law_drawn" (by decide +kernel)
    have g_law_pick := T.gl "_law_pick" (by decide +kernel)
    have g_law_draw := T.gl "_law_draw" (by decide +kernel)
    have g_law_spoilt := T.gl "_law_spoilt" (by decide +kernel)
    have g_law_told := T.gl "_law_told" (by decide +kernel)
    have g_law_wrong := T.gl "_law_wrong" (by decide +kernel)
    refine ⟨_, PSs.nox (pss_cut (ps_set (i := 1) sc_law.nd rfl (Or.inl rfl) (pe_lst (pa_cons (pe_orT (pe_callTy call_list_of (by rfl) n_list (by decide +kernel) (pa_cons (pv 0) pa_nil)) (pe_one (pe_lst (pa_cons pe_int pa_nil)))) (pa_cons pe_int pa_nil))))
      (pss_cons (ps_for PassesOwn.never rfl (pi_range1 (by rfl) n_range (pa_cons pe_int pa_nil)) (pg_name (i := 2) sc_law.nd rfl (Or.inl rfl))
      (pss_cons (ps_set (i := 3) sc_law.nd rfl (Or.inl rfl) (pe_call G_law_text (hr.mono (by decide)) (by rfl) g_law_text kp_law_text b_law_text .nil pass0 (pa_cons (pe_call G_law_drawn (hr.mono (by decide)) (by rfl) g_law_drawn kp_law_drawn b_law_drawn .nil pass0 (pa_cons (pv 1) (pa_cons (pe_call G_law_pick (hr.mono (by decide)) (by rfl) g_law_pick kp_law_pick b_law_pick .nil pass0 (pa_cons (pv 1) (pa_cons (pe_lst (pa_cons pe_int (pa_cons pe_int (pa_cons pe_int pa_nil)))) pa_nil))) pa_nil))) pa_nil)))
      (pss_cons (ps_for PassesOwn.never rfl (pi_range1 (by rfl) n_range (pa_cons (pe_call G_law_draw (hr.mono (by decide)) (by rfl) g_law_draw kp_law_draw b_law_draw .nil pass0 (pa_cons (pv 1) (pa_cons pe_int pa_nil))) pa_nil)) (pg_name (i := 4) sc_law.nd rfl (Or.inl rfl))
      (pss_one (ps_if (pt_cmpR (op_neNil hr.units0) (pv 3) (pe_lst pa_nil) (nomark _))
      (pss_one (ps_set (i := 3) sc_law.nd rfl (Or.inl rfl) (pe_call G_law_spoilt (hr.mono (by decide)) (by rfl) g_law_spoilt kp_law_spoilt b_law_spoilt .nil pass0 (pa_cons (pv 1) (pa_cons (pv 3) pa_nil)))))
      pss_nil)))
      (pss_cons (ps_set (i := 5) sc_law.nd rfl (Or.inl rfl) (pe_join pe_str (pv 3)))
      (pss_cut (ps_set (i := 6) sc_law.nd rfl (Or.inl rfl) (pe_call G_law_told (hr.mono (by decide)) (by rfl) g_law_told kp_law_told b_law_told .nil pass0 (pa_cons (pv 5) pa_nil)))
      (pss_cons (ps_set (i := 7) sc_law.nd rfl (Or.inl rfl) (pe_call G_law_wrong (hr.mono (by decide)) (by rfl) g_law_wrong kp_law_wrong b_law_wrong .nil pass0 (pa_cons (pe_split (pv 5) pe_str) pa_nil)))
      (pss_cons (ps_if (PW.pt (pw_and (pt_cmpR op_notN (pv 7) pe_non (nomark _)) (pw_and1 (pt_cmpR (op_neD hr.units) (pv 6) (pe_tup (pa_cons pe_str (pa_cons (pv 7) (pa_cons pe_bl (pa_cons pe_bl pa_nil))))) (nomark _)))))
      (pss_one (ps_ret pe_bl))
      pss_nil)
      (pss_one (ps_if (PW.pt (pw_and (pt_cmpR op_isN (pv 7) pe_non (nomark _)) (pw_and1 (pt_cmpR (op_notInDT (units65 hr)) (pv 6) (pe_tup (pa_cons (pe_tup (pa_cons pe_str (pa_cons (pv 5) pa_nil))) (pa_cons (pe_tup (pa_cons pe_str (pa_cons pe_bl pa_nil))) pa_nil))) (by rfl)))))
      (pss_one (ps_ret pe_bl))
      pss_nil)))))))))
      (pss_one (ps_ret pe_bl)))), ?_⟩
    refine q_cut (M := fun σ' H' => ∃ p l, σ' = [some (.ref a), some (.ref p), none, none, none, none, none, none] ∧ Pen p l (4 * (217 + 3 * Pn 4)) H') ?_ fun σ1 H1 hM => ?_
    · refine ⟨.ref a, rfl, a, _, rfl, .inl hS, fun l0 hl0 => ⟨!ns.isEmpty, (show TruV K (.ref l0) _ _ from Or.inl ⟨ns.map V.int, sq_of upd_same, by cases ns <;> rfl⟩), ite2 (fun hn => ?_) (fun hn => ?_)⟩⟩
      · refine ⟨fits (show 2 ≤ 1000 by decide), fun p hp => ⟨p, l0, rfl, 0, ns, upd_same, Ex.new hp _ _ upd_same, ?_, by decide, by decide⟩⟩
        rintro rfl
        cases hn
      · refine ⟨fits (show 1 ≤ 1000 by decide), fun l1 hl1 => ⟨fits (show 2 ≤ 1000 by decide), fun p hp => ⟨p, l1, rfl, 0, [0], upd_same, Ex.new hp _ _ upd_same, by simp, by decide, by decide⟩⟩⟩
    obtain ⟨p, l, rfl, pen0⟩ := hM
    refine q_forR1 (n := 4) (ea_cons ev_c ea_nil) ⟨by decide, by decide⟩ (fun i σ' H' => ∃ (v2 v3 v4 v5 v6 v7 : Option V), σ' = [some (.ref a), some (.ref p), v2, v3, v4, v5, v6, v7] ∧ Pen p l ((4 - i) * (217 + 3 * Pn 4)) H')
      (fun H2 e2 => ⟨_, _, _, _, _, _, rfl, pen0.ex e2⟩) (fun i σ' H0 hi hI => ?_) (fun σ' H' hI => ?_)
    · obtain ⟨v2, v3, v4, v5, v6, v7, rfl, pen⟩ := hI
      have hi2 : i < 4 := by omega
      have eqB : (4 - i) * (217 + 3 * Pn 4) = (4 - (i + 1)) * (217 + 3 * Pn 4) + (217 + 3 * Pn 4) := by
        obtain ⟨t, ht⟩ : ∃ t, 4 - i = t + 1 := ⟨4 - i - 1, by omega⟩
        rw [ht, show 4 - (i + 1) = t by omega, Nat.succ_mul]
      rw [eqB] at pen
      generalize hR : (4 - (i + 1)) * (217 + 3 * Pn 4) = R at pen
      try dsimp only [gName, List.set]
      refine ⟨.ref p, rfl, .ref p, rfl, (show 3 ≤ sizeLine by decide), fun q hq => ?_⟩
      have nq := pen.new hq
      have penq := pen.ex (Ex.new (o := .lst [.int 3, .int 8, .int 14]) hq)
      refine ⟨p, l, q, [.int 3, .int 8, .int 14], R + (216 + 3 * Pn 4), rfl, sq_of ((cut_at nq.1 nq.2).trans upd_same), ⟨(fun e => nomatch e), (by show 3 ≤ 1000000; decide)⟩, penq.less (by omega), fun v H2 hv px2 pen2 => ?_⟩
      have rm : ∃ room : Nat, v = .int (room : Nat) ∧ room ≤ 14 := by
        simp only [List.mem_cons, List.not_mem_nil, or_false] at hv
        rcases hv with e | e | e
        · exact ⟨3, e, by decide⟩
        · exact ⟨8, e, by decide⟩
        · exact ⟨14, e, by decide⟩
      obtain ⟨room, rfl, hroom⟩ := rm
      refine ⟨p, l, room, R + 9, rfl, hroom, pen2.less (by omega), fun pl cs rs os st bds H3 px3 pen3 hPl hN hB => ?_⟩
      have hbl : bds.length = os.length := by
        obtain ⟨kvs, c, r, o, bd, bk, k1, k2, k3, k4, k5, k6, k7, k8, k9, k10, k11, _⟩ := hPl
        exact k11
      clear px2 px3 pen2 penq nq pen hq
      refine ⟨pl, cs, rs, os, st, bds, rfl, hPl, hN, hB, fun qt H4 hqt e4 h4 => ?_⟩
      have pen4 := pen3.ex e4
      have few : (txt cs rs os st bds).length ≤ 90 := by
        have z := hN.sz
        have k := sum_le (l := os.zip bds) (f := fun p => (headL p.1 [] :: lns 4 step p.2).length) (b := 29) fun p hp => by
          obtain ⟨p1, p2⟩ := p
          obtain ⟨_, hL, hc⟩ := bodv_all (hB _ (List.of_mem_zip hp).2)
          have k := lns_len (mg := step) hL
          show (_ :: lns 4 step p2).length ≤ 29
          rw [List.length_cons]
          omega
        have k2 : (os.zip bds).length ≤ 3 := by
          rw [List.length_zip]
          omega
        have k3 : (os.zip bds).length * 29 ≤ 3 * 29 := Nat.mul_le_mul_right _ k2
        have kl : (txt cs rs os st bds).length = 3 + ((os.zip bds).flatMap fnL).length := by
          unfold txt
          rw [List.length_append]
          rfl
        rw [kl, List.length_flatMap]
        have k4 : ((os.zip bds).map fun p => (fnL p).length).sum = ((os.zip bds).map fun p => (headL p.1 [] :: lns 4 step p.2).length).sum := rfl
        rw [k4]
        omega
      have gd0 : ∀ z ∈ txt cs rs os st bds, Gd (bndL 0) z := fun z hz => ⟨txt_each hN hB z hz, txt_asc hN hB z hz⟩
      generalize txt cs rs os st bds = L0 at h4 few gd0
      clear hPl hN hB hbl pen3 e4
      try dsimp only [gName, List.set]
      -- spoils
      refine ⟨.ref p, rfl, p, l, 3, R + 8, rfl, ⟨by decide, by decide⟩, pen4, fun r H5 hr px5 pen5 => ?_⟩
      obtain ⟨r, rfl, hr2⟩ := nat_of hr
      have n4 := strs_off pen4 h4
      have h5 := px5.get n4.1 n4.2 h4
      refine ⟨(r : Int), rfl, by omega, by omega, ?_⟩
      refine for_range (lo := 0) (n := ((r : Nat) : Int).toNat) (fun j σ' H' => ∃ (Lq : Addr) (lsX : List Str) (v4 v5 v6 v7 : Option V), σ' = [some (.ref a), some (.ref p), some (.int (i : Int)), some (.ref Lq), v4, v5, v6, v7] ∧ H' Lq = some (.lst (lsX.map V.str)) ∧ lsX.length ≤ 90 + j ∧ (∀ z ∈ lsX, Gd (bndL j) z) ∧ Pen p l (R + (2 - j) * 4) H')
        ⟨qt, L0, _, _, _, _, rfl, h5, few, gd0, pen5⟩ (fun j σ' H6 hj hJ => ?_) (fun σ' H6 hJ => ?_)
      · obtain ⟨Lq, lsX, v4, v5, v6, v7, rfl, g1, g2, g3, g4⟩ := hJ
        have hj2 : j < 2 := by omega
        have lm : (lsX.map V.str).length = lsX.length := List.length_map ..
        try dsimp only [gName, List.set]
        refine s_when (b := xor true (lsX.map V.str).isEmpty) (et_test (ev_nil (neg := true) (ev_var rfl) (sq_of g1))) (fun hb H7 e7 => ?_) (fun hb H7 e7 => ?_)
        · have ne : lsX ≠ [] := by
            rintro rfl
            cases hb
          have b300 : bndL j ≤ 300 := by
            match j, hj2 with
            | 0, _ => decide
            | 1, _ => decide
          refine ⟨.ref p, rfl, .ref Lq, rfl, p, l, Lq, lsX, R + (2 - (j + 1)) * 4, bndL j, rfl, e7 _ _ g1, ne, by omega, g3, b300, (g4.ex e7).less (by omega), fun q ys H8 k1 k2 k3 k4 k5 => ?_⟩
          exact ⟨q, ys, _, _, _, _, rfl, k1, by omega, k3, k5⟩
        · have ne : lsX = [] := by
            cases lsX with
            | nil => rfl
            | cons z r => cases hb
          exact ⟨Lq, lsX, _, _, _, _, rfl, e7 _ _ g1, by omega, (fun z hz => by rw [ne] at hz; cases hz), (g4.ex e7).less (by omega)⟩
      obtain ⟨Lq, lsX, v4, v5, v6, v7, rfl, g1, g2, g3, g4⟩ := hJ
      rw [Int.toNat_natCast] at g2 g3 g4
      have gd8 : ∀ z ∈ lsX, Gd 800 z := by
        have b8 : bndL r ≤ 800 := by
          match r, hr2 with
          | 0, _ => decide
          | 1, _ => decide
          | 2, _ => decide
          | r + 3, h => exact absurd h (by omega)
        exact fun z hz => (g3 z hz).up b8
      have l92 : lsX.length ≤ 92 := by omega
      have pen6 := g4.less (b' := R) (by omega)
      have sl := sum_lens fun z hz => (gd8 z hz).1
      have sl2 : lsX.length * 800 ≤ 92 * 800 := Nat.mul_le_mul_right _ l92
      have jl := join_len nl lsX
      have nl1 : nl.length = 1 := by decide +kernel
      rw [nl1] at jl
      clear h5 n4 pen5 px5 h4 g3 g4 gd0 few hr pen4
      try dsimp only [gName, List.set]
      refine q_asg (v := .str (Txt.join nl lsX)) (ev_join ev_c (ev_var rfl) g1 (by rw [nl1]; omega)) fun H7 e7 => ?_
      try dsimp only [gName, List.set]
      obtain ⟨s1, s2⟩ := split_gd l92 gd8
      have sok := asc_ok (nl_codes fun z hz => (gd8 z hz).2)
      have xl : (Txt.join nl lsX).length ≤ 100000 := by omega
      have pen7 := pen6.ex e7
      generalize Txt.join nl lsX = x at s1 s2 sok xl
      generalize hY : Txt.split x nl = lsY at s1 s2
      refine q_cut (M := fun σ' H' => ∃ (v : V), σ' = [some (.ref a), some (.ref p), some (.int (i : Int)), some (.ref Lq), v4, some (.str x), some v, v7] ∧ Ex H7 H' ∧ Told6 K lsY x v H') ?_ fun σ2 H8 hM => ?_
      · refine ⟨.str x, rfl, x, lsY, rfl, by omega, hY, s1, s2, fun e he v H8 e8 hd => ⟨v, rfl, e8, .inl ⟨e, wrong_err s1 s2 he, hd⟩⟩, fun o ho => ⟨fun v H8 e8 hd => ⟨v, rfl, e8, .inr ⟨wrong_ok s1 s2 ho, .inl hd⟩⟩, fun v H8 e8 hd => ⟨v, rfl, e8, .inr ⟨wrong_ok s1 s2 ho, .inr hd⟩⟩⟩⟩
      obtain ⟨v, rfl, e8, hT⟩ := hM
      try dsimp only [gName, List.set]
      refine ⟨.str x, rfl, ⟨_, rfl⟩, x, nl, rfl, rfl, by decide +kernel, (by rw [sizeLine_eq]; omega), fun pq hpq => ?_⟩
      rw [hY]
      refine ⟨pq, lsY, rfl, upd_same, s1, by omega, fun H9 e9 => ?_⟩
      try dsimp only [gName, List.set]
      have e89 := (Ex.new (o := .lst (lsY.map V.str)) hpq).trans e9
      rcases hT with ⟨e, hw, hd⟩ | ⟨hw, hd⟩
      · rw [hw]
        have hd9 := dpM e89 _ _ hd
        refine q_when (b := false) (et_is (et_and (a := true) (b := !true) (et_is (et_test (ev_op (ev_var rfl) ev_c PZ.rv_notNo)) rfl) fun _ => et_is (et_test (ev_neD (ed_var rfl hd9) (ed_tup (eds_cons ed_s (eds_cons (ed_var (d := .int (e : Nat)) rfl (.int _)) (eds_cons ed_b (eds_cons ed_b eds_nil)))) (show 4 ≤ 1000 by decide)) (shp_wr e) (shp_wr e))) (congrArg (fun b => !b) (eqv_wr e))) rfl) (fun h => nomatch h) (fun _ H10 e10 => ?_)
        refine s_when (b := false) (et_is (et_and (a := false) (b := true) (et_is (et_test (ev_op (ev_var rfl) ev_c PZ.rv_isNo)) rfl) fun h => nomatch h) rfl) (fun h => nomatch h) (fun _ H11 e11 => ?_)
        exact ⟨_, _, _, _, _, _, rfl, (((pen7.ex e8).ex e89).ex e10).ex e11⟩
      · rw [hw]
        refine q_when (b := false) (et_is (et_and (a := false) (b := true) (et_is (et_test (ev_op (ev_var rfl) ev_c PZ.rv_notNo)) rfl) fun h => nomatch h) rfl) (fun h => nomatch h) (fun _ H10 e10 => ?_)
        have pen10 := ((pen7.ex e8).ex e89).ex e10
        rcases hd with hd | hd
        · have hd10 := dpM (e89.trans e10) _ _ hd
          refine s_when (b := false) (et_is (et_and (a := true) (b := !true) (et_is (et_test (ev_op (ev_var rfl) ev_c PZ.rv_isNo)) rfl) fun _ => et_is (et_test (ev_niDT (ed_var rfl hd10) (ed_tup (eds_cons (ed_tup (eds_cons ed_s (eds_cons (ed_var (d := .str x) rfl (.str _)) eds_nil)) (show 2 ≤ 1000 by decide)) (eds_cons (ed_tup (eds_cons ed_s (eds_cons ed_b eds_nil)) (show 2 ≤ 1000 by decide)) eds_nil)) (show 2 ≤ 1000 by decide)) (shp_rd sok) (shp_two sok))) (congrArg (fun b => !b) (any_rd x))) rfl) (fun h => nomatch h) (fun _ H11 e11 => ?_)
          exact ⟨_, _, _, _, _, _, rfl, pen10.ex e11⟩
        · have hd10 := dpM (e89.trans e10) _ _ hd
          refine s_when (b := false) (et_is (et_and (a := true) (b := !true) (et_is (et_test (ev_op (ev_var rfl) ev_c PZ.rv_isNo)) rfl) fun _ => et_is (et_test (ev_niDT (ed_var rfl hd10) (ed_tup (eds_cons (ed_tup (eds_cons ed_s (eds_cons (ed_var (d := .str x) rfl (.str _)) eds_nil)) (show 2 ≤ 1000 by decide)) (eds_cons (ed_tup (eds_cons ed_s (eds_cons ed_b eds_nil)) (show 2 ≤ 1000 by decide)) eds_nil)) (show 2 ≤ 1000 by decide)) shp_cd (shp_two sok))) (congrArg (fun b => !b) (any_cd x))) rfl) (fun h => nomatch h) (fun _ H11 e11 => ?_)
          exact ⟨_, _, _, _, _, _, rfl, pen10.ex e11⟩
    · obtain ⟨v2, v3, v4, v5, v6, v7, rfl, _⟩ := hI
      exact kk H'

end
end K06
set_option Elab.async false
set_option linter.all false
set_option maxRecDepth 100000
set_option maxHeartbeats 8000000

namespace K06
open PySem PySem.Spec PyProof.Rows L2 He XH XV XR PEN XT TR Evl
def steps : Nat := 120000
def noneB (K : PySem.W.Frag) (x k : Str) : Bool := match PySem.W.nsIn K (ga K x) k with
  | some none => true
  | _ => false
theorem noneB_ok {K : PySem.W.Frag} {x k : Str} (q : noneB K x k = true) : PySem.W.nsIn K (ga K x) k = some none := by
  unfold noneB at q
  split at q
  · assumption
  · cases q
def keyIn (ks : List Str) : Value → Bool
  | .str k _ => decide (k ∈ ks)
  | _ => false
def keysB (K : PySem.W.Frag) (x : Str) (ks : List Str) : Bool := match K.lookup (ga K x) with
  | some ⟨_, _, .dict es _, _⟩ => es.toList.all fun e => keyIn ks e.key
  | _ => false
theorem keyIn_ok {ks : List Str} {v : Value} (h : keyIn ks v = true) : ∃ k t, v = .str k t ∧ k ∈ ks := by
  unfold keyIn at h
  split at h
  · exact ⟨_, _, rfl, of_decide_eq_true h⟩
  · cases h
theorem keysB_ok {K : PySem.W.Frag} {x : Str} {ks : List Str} (q : keysB K x ks = true) (y : Str) (hy : y ∉ ks) : PySem.W.nsIn K (ga K x) y = some none := by
  unfold keysB at q
  split at q
  · rename_i es _ _ e
    rw [List.all_eq_true] at q
    have f : es.toList.find? (·.key.isStr y) = none := by
      rw [List.find?_eq_none]
      intro d hd hs
      obtain ⟨k, t, e1, e2⟩ := keyIn_ok (q d hd)
      rw [e1] at hs
      have e3 : k = y := by simpa [Value.isStr] using hs
      exact hy (e3 ▸ e2)
    have r : es.toList.any (·.refKey) = false := by
      rw [List.any_eq_false]
      intro d hd hs
      obtain ⟨k, t, e1, e2⟩ := keyIn_ok (q d hd)
      unfold DictEntry.refKey at hs
      rw [e1] at hs
      cases hs
    unfold PySem.W.nsIn
    rw [e]
    dsimp only
    rw [f]
    dsimp only
    rw [r]
    rfl
  · cases q
def eddB (K : PySem.W.Frag) (x k : Str) : Bool := match PySem.W.nsIn K (ga K x) k with
  | some (some (.ref a)) => (match K.lookup a with
    | some ⟨.type c, none, _, _⟩ => c == "tuple"
    | _ => false)
  | _ => false
theorem eddB_ok {K : PySem.W.Frag} {x k : Str} (q : eddB K x k = true) : ∃ a o, PySem.W.nsIn K (ga K x) k = some (some (.ref a)) ∧ K.lookup a = some o ∧ o.cls = .type "tuple" ∧ o.dict = none := by
  unfold eddB at q
  split at q
  · rename_i a e
    split at q
    · rename_i c dat sl e2
      have ec : c = "tuple" := eq_of_beq q
      subst ec
      exact ⟨a, _, e, e2, rfl, rfl⟩
    · cases q
  · cases q
def secPairs : List (String × String) := [("either", "or"), ("told", "else"), ("look", "else"), ("guard", "rescue"), ("lastly", "lastly")]
section
variable {P : Program} {w : World} {K : PySem.W.Frag} {mg : Str → Option Value} {base : Heap}
theorem ok_BadText_init {C f : Addr} {fd : FuncData} (F : FnP K "__init__" "BadText.__init__" s_BadText_init f fd) : FnOk P w K mg base CX0 1 f fd ["self", "line"] (spI1 K C "line") := by
  refine FunD.ok F sc_BadText_init (fun vs H Q E h => ?_) (fun cdv A outer s H vs Q E hr h => ?_)
  · obtain ⟨a, y, rfl, _⟩ := h
    rfl
  · obtain ⟨a, y, rfl, U, no, ha, kk⟩ := h
    refine ⟨_, PSs.nox (pss_one (ps_ost (pv 0) (pv 1))), ?_⟩
    exact ⟨y, rfl, .ref a, rfl, a, C, rfl, U, no, .inl ⟨ha, fun dx h1 h2 => kk dx h1 h2⟩⟩
end

def fFields : List String := ["name", "body", "many"]
def cFields : List String := ["cells", "rows", "functions", "start"]

/-! ### the head -/
def fn : List He.DefD := [⟨("BadCode", some "__init__"), "__init__", "BadCode.__init__", defArgs s_BadCode_init, defBody s_BadCode_init, defScope s_BadCode_init, [], []⟩,
  ⟨("BadText", some "__init__"), "__init__", "BadText.__init__", defArgs s_BadText_init, defBody s_BadText_init, defScope s_BadText_init, [], []⟩,
  ⟨("Function", some "__init__"), "__init__", "Function.__init__", defArgs s_Function_init, defBody s_Function_init, defScope s_Function_init, [], []⟩,
  ⟨("Code", some "__init__"), "__init__", "Code.__init__", defArgs s_Code_init, defBody s_Code_init, defScope s_Code_init, [], []⟩,
  ⟨("frozen", none), "frozen", "frozen", defArgs s_frozen, defBody s_frozen, defScope s_frozen, [], []⟩,
  ⟨("is_name", none), "is_name", "is_name", defArgs s_is_name, defBody s_is_name, defScope s_is_name, [], []⟩,
  ⟨("kinds_of", none), "kinds_of", "kinds_of", defArgs s_kinds_of, defBody s_kinds_of, defScope s_kinds_of, [], []⟩,
  ⟨("parts_of", none), "parts_of", "parts_of", defArgs s_parts_of, defBody s_parts_of, defScope s_parts_of, [], []⟩,
  ⟨("numbered", none), "numbered", "numbered", defArgs s_numbered, defBody s_numbered, defScope s_numbered, [], []⟩,
  ⟨("check_bounds", none), "check_bounds", "check_bounds", defArgs s_check_bounds, defBody s_check_bounds, defScope s_check_bounds, [], []⟩,
  ⟨("check_names", none), "check_names", "check_names", defArgs s_check_names, defBody s_check_names, defScope s_check_names, [], []⟩,
  ⟨("names_by_kind", none), "names_by_kind", "names_by_kind", defArgs s_names_by_kind, defBody s_names_by_kind, defScope s_names_by_kind, [], []⟩,
  ⟨("check_body", none), "check_body", "check_body", defArgs s_check_body, defBody s_check_body, defScope s_check_body, [], []⟩,
  ⟨("well_formed", none), "well_formed", "well_formed", defArgs s_well_formed, defBody s_well_formed, defScope s_well_formed, [], []⟩,
  ⟨("fits", none), "fits", "fits", defArgs s_fits, defBody s_fits, defScope s_fits, [], []⟩,
  ⟨("misplaced", none), "misplaced", "misplaced", defArgs s_misplaced, defBody s_misplaced, defScope s_misplaced, [], []⟩,
  ⟨("written", none), "written", "written", defArgs s_written, defBody s_written, defScope s_written, [], []⟩,
  ⟨("heading", none), "heading", "heading", defArgs s_heading, defBody s_heading, defScope s_heading, [], []⟩,
  ⟨("part_lines", none), "part_lines", "part_lines", defArgs s_part_lines, defBody s_part_lines, defScope s_part_lines, [], []⟩,
  ⟨("statement_lines", none), "statement_lines", "statement_lines", defArgs s_statement_lines, defBody s_statement_lines, defScope s_statement_lines, [], []⟩,
  ⟨("read_code", none), "read_code", "read_code", defArgs s_read_code, defBody s_read_code, defScope s_read_code, [], []⟩,
  ⟨("line_at", none), "line_at", "line_at", defArgs s_line_at, defBody s_line_at, defScope s_line_at, [], []⟩,
  ⟨("read_heading", none), "read_heading", "read_heading", defArgs s_read_heading, defBody s_read_heading, defScope s_read_heading, [], []⟩,
  ⟨("read_name", none), "read_name", "read_name", defArgs s_read_name, defBody s_read_name, defScope s_read_name, [], []⟩,
  ⟨("read_part", none), "read_part", "read_part", defArgs s_read_part, defBody s_read_part, defScope s_read_part, [], []⟩,
  ⟨("read_parts", none), "read_parts", "read_parts", defArgs s_read_parts, defBody s_read_parts, defScope s_read_parts, [], []⟩,
  ⟨("read_head", none), "read_head", "read_head", defArgs s_read_head, defBody s_read_head, defScope s_read_head, [], []⟩,
  ⟨("word_of", none), "word_of", "word_of", defArgs s_word_of, defBody s_word_of, defScope s_word_of, [], []⟩,
  ⟨("reads_as", none), "reads_as", "reads_as", defArgs s_reads_as, defBody s_reads_as, defScope s_reads_as, [], []⟩,
  ⟨("_law_draw", none), "_law_draw", "_law_draw", defArgs s_law_draw, defBody s_law_draw, defScope s_law_draw, [], []⟩,
  ⟨("_law_pick", none), "_law_pick", "_law_pick", defArgs s_law_pick, defBody s_law_pick, defScope s_law_pick, [], []⟩,
  ⟨("_law_word", none), "_law_word", "_law_word", defArgs s_law_word, defBody s_law_word, defScope s_law_word, [], []⟩,
  ⟨("_law_names", none), "_law_names", "_law_names", defArgs s_law_names, defBody s_law_names, defScope s_law_names, [], []⟩,
  ⟨("_law_count", none), "_law_count", "_law_count", defArgs s_law_count, defBody s_law_count, defScope s_law_count, [], []⟩,
  ⟨("_law_deeds", none), "_law_deeds", "_law_deeds", defArgs s_law_deeds, defBody s_law_deeds, defScope s_law_deeds, [], []⟩,
  ⟨("_law_simple", none), "_law_simple", "_law_simple", defArgs s_law_simple, defBody s_law_simple, defScope s_law_simple, [], []⟩,
  ⟨("_law_block", none), "_law_block", "_law_block", defArgs s_law_block, defBody s_law_block, defScope s_law_block, [], []⟩,
  ⟨("_law_part", none), "_law_part", "_law_part", defArgs s_law_part, defBody s_law_part, defScope s_law_part, [], []⟩,
  ⟨("_law_plan", none), "_law_plan", "_law_plan", defArgs s_law_plan, defBody s_law_plan, defScope s_law_plan, [], []⟩,
  ⟨("_law_drawn", none), "_law_drawn", "_law_drawn", defArgs s_law_drawn, defBody s_law_drawn, defScope s_law_drawn, [], []⟩,
  ⟨("_law_lines", none), "_law_lines", "_law_lines", defArgs s_law_lines, defBody s_law_lines, defScope s_law_lines, [], []⟩,
  ⟨("_law_text", none), "_law_text", "_law_text", defArgs s_law_text, defBody s_law_text, defScope s_law_text, [], []⟩,
  ⟨("_law_name", none), "_law_name", "_law_name", defArgs s_law_name, defBody s_law_name, defScope s_law_name, [], []⟩,
  ⟨("_law_kind", none), "_law_kind", "_law_kind", defArgs s_law_kind, defBody s_law_kind, defScope s_law_kind, [], []⟩,
  ⟨("_law_heads", none), "_law_heads", "_law_heads", defArgs s_law_heads, defBody s_law_heads, defScope s_law_heads, [], []⟩,
  ⟨("_law_closed", none), "_law_closed", "_law_closed", defArgs s_law_closed, defBody s_law_closed, defScope s_law_closed, [], []⟩,
  ⟨("_law_wrong", none), "_law_wrong", "_law_wrong", defArgs s_law_wrong, defBody s_law_wrong, defScope s_law_wrong, [], []⟩,
  ⟨("_law_line", none), "_law_line", "_law_line", defArgs s_law_line, defBody s_law_line, defScope s_law_line, [], []⟩,
  ⟨("_law_spoilt", none), "_law_spoilt", "_law_spoilt", defArgs s_law_spoilt, defBody s_law_spoilt, defScope s_law_spoilt, [], []⟩,
  ⟨("_law_told", none), "_law_told", "_law_told", defArgs s_law_told, defBody s_law_told, defScope s_law_told, [], []⟩,
  ⟨("law", none), "law", "law", defArgs s_law, defBody s_law, defScope s_law, [], []⟩]
def fa : List Fc := [glosB globs, freesB frees, fun K => (Fa.int "MOST_CELLS" 3).ok K, fun K => (Fa.int "MOST_ROWS" 2).ok K, fun K => (Fa.int "MOST_FUNCTIONS" 3).ok K, fun K => (Fa.int "MOST_STATEMENTS" 14).ok K, fun K => (Fa.int "MOST_BLOCKS_AROUND" 2).ok K, fun K => (Fa.int "LONGEST_NAME" 12).ok K, fun K => (Fa.int "WIDEST_MARGIN" 8).ok K, fun K => (Fa.str "LETTERS" "abcdefghijklmnopqrstuvwxyz").ok K, fun K => (Fa.str "STEP" "  ").ok K, fun K => (Fa.cls "Function").ok K, fun K => (Fa.cls "Code").ok K, fun K => fFields.all fun x => (Fa.noat "Function" x).ok K, fun K => cFields.all fun x => (Fa.noat "Code" x).ok K, fun K => (Fa.mkr "Function").ok K, fun K => (Fa.mkr "Code").ok K, fun K => tupB K "ROUND_WORDS" [.str "again", .str "out"], fun K => tupB K "CHANGE_WORDS" [.str "put", .str "blank", .str "give", .str "push", .str "pop", .str "cut"], fun K => ENT.all fun p => entB K "ENTRIES" p.1 p.2, fun K => entB K "FIXED_WORDS" "how" ["copy", "view"], fun K => entB K "FIXED_WORDS" "end" ["found", "none"], fun K => keysB K "ENTRIES" (ENT.map (·.1)), fun K => ownB K "BadCode" ["function", "number"], fun K => bareB K "TooGreat", fun K => (Fa.exc "TooGreat").ok K, fun K => ownB K "BadText" ["line"], fun K => secPairs.all fun p => sndB K "SECOND_WORDS" (p.1 : String) (p.2 : String), fun K => [("cell" : Str), "row", "function"].all fun x => noneB K "FIXED_WORDS" x, fun K => ENT.all fun p => eddB K "ENTRIES" p.1, fun K => (Fa.exm "BadText" "BadText" true).ok K, fun K => (Fa.exm "BadCode" "BadText" false).ok K, fun K => (Fa.exm "BadCode" "BadCode" true).ok K, fun K => (Fa.exm "TooGreat" "BadText" false).ok K, fun K => (Fa.exm "TooGreat" "BadCode" false).ok K, fun K => (Fa.exm "TooGreat" "TooGreat" true).ok K, fun K => decide (PySem.W.kitOne K (.ref (ga K "BadText")) (.ref (ga K "TryError")) = some true), fun K => decide (PySem.W.kitOne K (.ref (ga K "BadText")) (.ref (ga K "BadCode")) = some false), fun K => decide (PySem.W.kitOne K (.ref (ga K "BadCode")) (.ref (ga K "BadText")) = some false), fun K => decide (PySem.W.kitOne K (.ref (ga K "TooGreat")) (.ref (ga K "BadText")) = some false)]
abbrev RW6 : PySem.W.OpenRow := PySem.W.OpenLaw.row PySem.Challenge.rw_tryback_k06_whole_texts_refused
def tb : List Tab := [(fun K => ga K "ENTRIES", ["put", "blank", "give", "push", "pop", "cut", "answer", "deeper", "stop", "fault", "may", "again", "out", "either", "tries", "told", "look", "guard", "lastly"]),
  (fun K => ga K "FIXED_WORDS", ["how", "end"]),
  (fun K => ga K "SECOND_WORDS", ["either", "told", "look", "guard", "lastly"])]
abbrev hk : PySem.W.Hook := hookU 5 fa fn tb
def ob (s : PySem.W.SharedT) : AlU := obsUG 5 fa fn tb (HandSHeadRun.getT s)
theorem ob_eq (s : PySem.W.SharedT) : ob s = hk.obs s.abs := obsUG_eq (HandSHeadRun.getT_eq s)
def loose : List Str := [("BadCode" : Str), ("BadText" : Str), ("CHANGE_WORDS" : Str), ("Code" : Str), ("ENTRIES" : Str), ("FIXED_WORDS" : Str), ("Function" : Str), ("LETTERS" : Str), ("LONGEST_NAME" : Str), ("MOST_BLOCKS_AROUND" : Str), ("MOST_CELLS" : Str), ("MOST_FUNCTIONS" : Str), ("MOST_ROWS" : Str), ("MOST_STATEMENTS" : Str), ("ROUND_WORDS" : Str), ("SECOND_WORDS" : Str), ("STEP" : Str), ("TooGreat" : Str), ("TryError" : Str), ("WIDEST_MARGIN" : Str), ("__name__" : Str), ("_law_block" : Str), ("_law_closed" : Str), ("_law_code" : Str), ("_law_count" : Str), ("_law_deeds" : Str), ("_law_draw" : Str), ("_law_drawn" : Str), ("_law_heads" : Str), ("_law_kind" : Str), ("_law_line" : Str), ("_law_lines" : Str), ("_law_name" : Str), ("_law_names" : Str), ("_law_part" : Str), ("_law_pick" : Str), ("_law_plan" : Str), ("_law_simple" : Str), ("_law_spoilt" : Str), ("_law_text" : Str), ("_law_told" : Str), ("_law_word" : Str), ("_law_wrong" : Str), ("_wall" : Str), ("check_body" : Str), ("check_bounds" : Str), ("check_names" : Str), ("fits" : Str), ("frozen" : Str), ("heading" : Str), ("is_name" : Str), ("kinds_of" : Str), ("line_at" : Str), ("misplaced" : Str), ("names_by_kind" : Str), ("numbered" : Str), ("part_lines" : Str), ("parts_of" : Str), ("read_code" : Str), ("read_head" : Str), ("read_heading" : Str), ("read_name" : Str), ("read_part" : Str), ("read_parts" : Str), ("reads_as" : Str), ("statement_lines" : Str), ("well_formed" : Str), ("word_of" : Str), ("written" : Str)]
/-- the world with its one freedom that the top asks for set -/
def fix (w : World) (b : Bool) : World := { w with params := { w.params with followText := fun s => bif s == "special-get-raises" then b else w.params.followText s } }
theorem fix_eq (w : World) : fix w (w.params.followText "special-get-raises") = w := by
  have e : (fun s => bif s == "special-get-raises" then w.params.followText "special-get-raises" else w.params.followText s) = w.params.followText := by
    funext s
    cases h : s == "special-get-raises" with
    | true => rw [beq_iff_eq.mp h]; rfl
    | false => rfl
  unfold fix
  rw [e]
theorem run_t (w : World) : HandSHeadRun.RunEq RW6 (PySem.W.view RW6.prog [72]) hk ob 120000 loose (fix w true) := by
  intro os
  kernel_rfl
theorem run_f (w : World) : HandSHeadRun.RunEq RW6 (PySem.W.view RW6.prog [72]) hk ob 120000 loose (fix w false) := by
  intro os
  kernel_rfl
theorem run (w : World) : HandSHeadRun.RunEq RW6 (PySem.W.view RW6.prog [72]) hk ob 120000 loose w := by
  rw [← fix_eq w]
  cases w.params.followText "special-get-raises" with
  | true => exact run_t w
  | false => exact run_f w

theorem facts {P : Program} {w : World} {K : PySem.W.Frag} {h : Heap} {mg : Str → Option Value} {f : Addr} (X : K.In h) (G : h.Ns mainGlobals mg) (hfa : mg ("law" : Str) = some (.ref f)) (cu : SaysU fa fn tb w K) :
    ∃ fd : FuncData, (∀ (s : Shared) (v : Value), BindsTo s fd ⟨[v], []⟩ [("_law_script", v)]) ∧ ∀ base : Heap, K.In base → base.Ns mainGlobals mg → FnOk P w K mg base CX0 62 f fd ["_law_script"] (spLaw K) := by
  have c := cu.b
  obtain ⟨es1, n1, D1⟩ := cu.at 0 rfl
  obtain ⟨es2, n2, D2⟩ := cu.at 1 rfl
  obtain ⟨es3, n3, D3⟩ := cu.at 2 rfl
  obtain ⟨a1, hf1, hs1⟩ := entB_ok (c.fact 20 rfl)
  obtain ⟨a2, hf2, hs2⟩ := entB_ok (c.fact 21 rfl)
  have T0 : Txt K w mg := {
    gl := fun x hx => glos_ok X G (c.fact 0 rfl) x hx
    fr := fun x hx => frees_ok X G (c.fact 1 rfl) x hx
    c_MOST_CELLS := int_ok X G (c.fact 2 rfl)
    c_MOST_ROWS := int_ok X G (c.fact 3 rfl)
    c_MOST_FUNCTIONS := int_ok X G (c.fact 4 rfl)
    c_MOST_STATEMENTS := int_ok X G (c.fact 5 rfl)
    c_MOST_BLOCKS_AROUND := int_ok X G (c.fact 6 rfl)
    c_LONGEST_NAME := int_ok X G (c.fact 7 rfl)
    c_WIDEST_MARGIN := int_ok X G (c.fact 8 rfl)
    c_LETTERS := str_ok X G (c.fact 9 rfl)
    c_STEP := str_ok X G (c.fact 10 rfl) }
  have T1 : Tx K w mg := { T0 with
    en := ⟨es1, n1, D1, fun p hp => entB_ok (List.all_eq_true.mp (c.fact 19 rfl) p hp)⟩
    fx := ⟨es2, n2, a1, a2, D2, ⟨hf1, hs1⟩, hf2, hs2⟩
    ek := fun x hx => keysB_ok (c.fact 22 rfl) x hx
    ej := fun x hx => keysB_ok (c.fact 22 rfl) x ((show ∀ x ∈ [("jump" : Str), "copy"], x ∉ ENT.map (·.1) by decide +kernel) x hx)
    se := ⟨es3, n3, D3, fun p hp => sndB_ok (List.all_eq_true.mp (c.fact 27 rfl) p hp)⟩
    ro := fun H => tupB_ok (c.fact 17 rfl) H
    ch := fun H => tupB_ok (c.fact 18 rfl) H
    cf := cls_ok (c.fact 11 rfl)
    cc := cls_ok (c.fact 12 rfl)
    nf := fun x hx => noat_ok (List.all_eq_true.mp (c.fact 13 rfl) x hx)
    nc := fun x hx => noat_ok (List.all_eq_true.mp (c.fact 14 rfl) x hx)
    mf := mkr_ok (c.fact 15 rfl)
    mc := mkr_ok (c.fact 16 rfl) }
  have T2 : Tg K w mg := { T1 with
    bc := own_ok (c.fact 23 rfl)
    tg := bare_ok (c.fact 24 rfl)
    ty := (exc_ok (c.fact 25 rfl)).2.2.2 }
  have T3 : Td K w mg := { T2 with
    fj := fun x hx => noneB_ok (List.all_eq_true.mp (c.fact 28 rfl) x hx)
    ed := fun p hp => by
      obtain ⟨a, h1, h2⟩ := entB_ok (List.all_eq_true.mp (c.fact 19 rfl) p hp)
      obtain ⟨a2, o, h3, h4⟩ := eddB_ok (List.all_eq_true.mp (c.fact 29 rfl) p hp)
      rw [h1] at h3
      cases h3
      exact ⟨a, h1, h2, o, h4⟩
    bt := own_ok (c.fact 26 rfl) }
  have T4 : Tm K w mg := { T3 with
    mtt := exm_ok (c.fact 30 rfl)
    mct := exm_ok (c.fact 31 rfl)
    mcc := exm_ok (c.fact 32 rfl)
    mgt := exm_ok (c.fact 33 rfl)
    mgc := exm_ok (c.fact 34 rfl)
    mgg := exm_ok (c.fact 35 rfl)
    ite := of_decide_eq_true (c.fact 36 rfl)
    itc := of_decide_eq_true (c.fact 37 rfl)
    ict := of_decide_eq_true (c.fact 38 rfl)
    igt := of_decide_eq_true (c.fact 39 rfl) }
  obtain ⟨d0, F0⟩ := c.def_ 0 rfl
  obtain ⟨d1, F1⟩ := c.def_ 1 rfl
  obtain ⟨d2, F2⟩ := c.def_ 2 rfl
  obtain ⟨d3, F3⟩ := c.def_ 3 rfl
  obtain ⟨d4, F4⟩ := c.def_ 4 rfl
  obtain ⟨d5, F5⟩ := c.def_ 5 rfl
  obtain ⟨d6, F6⟩ := c.def_ 6 rfl
  obtain ⟨d7, F7⟩ := c.def_ 7 rfl
  obtain ⟨d8, F8⟩ := c.def_ 8 rfl
  obtain ⟨d9, F9⟩ := c.def_ 9 rfl
  obtain ⟨d10, F10⟩ := c.def_ 10 rfl
  obtain ⟨d11, F11⟩ := c.def_ 11 rfl
  obtain ⟨d12, F12⟩ := c.def_ 12 rfl
  obtain ⟨d13, F13⟩ := c.def_ 13 rfl
  obtain ⟨d14, F14⟩ := c.def_ 14 rfl
  obtain ⟨d15, F15⟩ := c.def_ 15 rfl
  obtain ⟨d16, F16⟩ := c.def_ 16 rfl
  obtain ⟨d17, F17⟩ := c.def_ 17 rfl
  obtain ⟨d18, F18⟩ := c.def_ 18 rfl
  obtain ⟨d19, F19⟩ := c.def_ 19 rfl
  obtain ⟨d20, F20⟩ := c.def_ 20 rfl
  obtain ⟨d21, F21⟩ := c.def_ 21 rfl
  obtain ⟨d22, F22⟩ := c.def_ 22 rfl
  obtain ⟨d23, F23⟩ := c.def_ 23 rfl
  obtain ⟨d24, F24⟩ := c.def_ 24 rfl
  obtain ⟨d25, F25⟩ := c.def_ 25 rfl
  obtain ⟨d26, F26⟩ := c.def_ 26 rfl
  obtain ⟨d27, F27⟩ := c.def_ 27 rfl
  obtain ⟨d28, F28⟩ := c.def_ 28 rfl
  obtain ⟨d29, F29⟩ := c.def_ 29 rfl
  obtain ⟨d30, F30⟩ := c.def_ 30 rfl
  obtain ⟨d31, F31⟩ := c.def_ 31 rfl
  obtain ⟨d32, F32⟩ := c.def_ 32 rfl
  obtain ⟨d33, F33⟩ := c.def_ 33 rfl
  obtain ⟨d34, F34⟩ := c.def_ 34 rfl
  obtain ⟨d35, F35⟩ := c.def_ 35 rfl
  obtain ⟨d36, F36⟩ := c.def_ 36 rfl
  obtain ⟨d37, F37⟩ := c.def_ 37 rfl
  obtain ⟨d38, F38⟩ := c.def_ 38 rfl
  obtain ⟨d39, F39⟩ := c.def_ 39 rfl
  obtain ⟨d40, F40⟩ := c.def_ 40 rfl
  obtain ⟨d41, F41⟩ := c.def_ 41 rfl
  obtain ⟨d42, F42⟩ := c.def_ 42 rfl
  obtain ⟨d43, F43⟩ := c.def_ 43 rfl
  obtain ⟨d44, F44⟩ := c.def_ 44 rfl
  obtain ⟨d45, F45⟩ := c.def_ 45 rfl
  obtain ⟨d46, F46⟩ := c.def_ 46 rfl
  obtain ⟨d47, F47⟩ := c.def_ 47 rfl
  obtain ⟨d48, F48⟩ := c.def_ 48 rfl
  obtain ⟨d49, F49⟩ := c.def_ 49 rfl
  obtain ⟨d50, F50⟩ := c.def_ 50 rfl
  have e := hfa.symm.trans (T0.gl "law" (by decide +kernel))
  cases e
  have b := FunD.bindsA (ps := ["_law_script"]) F50 fun _ _ _ _ _ _ us hl => match us, hl with | [_], _ => rfl
  refine ⟨d50, fun s v => b s [v] rfl, fun base _ _ => ?_⟩
  have c_draw : Cl P w K mg base CX0 1 (ga K "_law_draw") ["_law_pen", "_law_many"] spDraw := ⟨d29, (ok_law_draw F29 T0).mono (Nat.le_refl _), FunD.bindsN (ps := ["_law_pen", "_law_many"]) F29 fun _ _ _ _ _ _ us hl => match us, hl with | [_, _], _ => rfl, F29.kp⟩
  have c_pick : Cl P w K mg base CX0 2 (ga K "_law_pick") ["_law_pen", "_law_row"] (spPick K) := ⟨d30, (ok_law_pick F30 T0 c_draw).mono (Nat.le_refl _), FunD.bindsN (ps := ["_law_pen", "_law_row"]) F30 fun _ _ _ _ _ _ us hl => match us, hl with | [_, _], _ => rfl, F30.kp⟩
  have c_word : Cl P w K mg base CX0 2 (ga K "_law_word") ["_law_pen", "_law_most"] spWord := ⟨d31, (ok_law_word F31 T0 c_draw).mono (Nat.le_refl _), FunD.bindsN (ps := ["_law_pen", "_law_most"]) F31 fun _ _ _ _ _ _ us hl => match us, hl with | [_, _], _ => rfl, F31.kp⟩
  have c_names : Cl P w K mg base CX0 3 (ga K "_law_names") ["_law_pen", "_law_many"] (spNames K) := ⟨d32, (ok_law_names F32 T0 c_draw c_word).mono (Nat.le_refl _), FunD.bindsN (ps := ["_law_pen", "_law_many"]) F32 fun _ _ _ _ _ _ us hl => match us, hl with | [_, _], _ => rfl, F32.kp⟩
  have c_bi : Cl P w K mg base CX0 1 (ma K (ga K "BadCode") "__init__") ["self", "function", "number"] (spI2 K (ga K "BadCode") "function" "number") := ⟨d0, (ok_BadCode_init F0).mono (Nat.le_refl _), FunD.bindsN (ps := ["self", "function", "number"]) F0 fun _ _ _ _ _ _ us hl => match us, hl with | [_, _, _], _ => rfl, F0.kp⟩
  have c_bx : Cl P w K mg base CX0 1 (ma K (ga K "BadText") "__init__") ["self", "line"] (spI1 K (ga K "BadText") "line") := ⟨d1, (ok_BadText_init F1).mono (Nat.le_refl _), FunD.bindsN (ps := ["self", "line"]) F1 fun _ _ _ _ _ _ us hl => match us, hl with | [_, _], _ => rfl, F1.kp⟩
  have c_isn : Cl P w K mg base CX0 1 (ga K "is_name") ["word"] spIsName := ⟨d5, (ok_is_name F5 T1).mono (Nat.le_refl _), FunD.bindsN (ps := ["word"]) F5 fun _ _ _ _ _ _ us hl => match us, hl with | [_], _ => rfl, F5.kp⟩
  have c_fr0 : Cl P w K mg base CX0 1 (ga K "frozen") ["thing"] (spFr K 0) := ⟨d4, (ok_frozen0 F4 T1).mono (Nat.le_refl _), FunD.bindsN (ps := ["thing"]) F4 fun _ _ _ _ _ _ us hl => match us, hl with | [_], _ => rfl, F4.kp⟩
  have c_fr1 : Cl P w K mg base CX0 2 (ga K "frozen") ["thing"] (spFr K 1) := ⟨d4, (ok_frozenS (n := 0) F4 T1 c_fr0).mono (Nat.le_refl _), FunD.bindsN (ps := ["thing"]) F4 fun _ _ _ _ _ _ us hl => match us, hl with | [_], _ => rfl, F4.kp⟩
  have c_fr2 : Cl P w K mg base CX0 3 (ga K "frozen") ["thing"] (spFr K 2) := ⟨d4, (ok_frozenS (n := 1) F4 T1 c_fr1).mono (Nat.le_refl _), FunD.bindsN (ps := ["thing"]) F4 fun _ _ _ _ _ _ us hl => match us, hl with | [_], _ => rfl, F4.kp⟩
  have c_fr3 : Cl P w K mg base CX0 4 (ga K "frozen") ["thing"] (spFr K 3) := ⟨d4, (ok_frozenS (n := 2) F4 T1 c_fr2).mono (Nat.le_refl _), FunD.bindsN (ps := ["thing"]) F4 fun _ _ _ _ _ _ us hl => match us, hl with | [_], _ => rfl, F4.kp⟩
  have c_fr4 : Cl P w K mg base CX0 5 (ga K "frozen") ["thing"] (spFr K 4) := ⟨d4, (ok_frozenS (n := 3) F4 T1 c_fr3).mono (Nat.le_refl _), FunD.bindsN (ps := ["thing"]) F4 fun _ _ _ _ _ _ us hl => match us, hl with | [_], _ => rfl, F4.kp⟩
  have c_fr5 : Cl P w K mg base CX0 6 (ga K "frozen") ["thing"] (spFr K 5) := ⟨d4, (ok_frozenS (n := 4) F4 T1 c_fr4).mono (Nat.le_refl _), FunD.bindsN (ps := ["thing"]) F4 fun _ _ _ _ _ _ us hl => match us, hl with | [_], _ => rfl, F4.kp⟩
  have c_fr6 : Cl P w K mg base CX0 7 (ga K "frozen") ["thing"] (spFr K 6) := ⟨d4, (ok_frozenS (n := 5) F4 T1 c_fr5).mono (Nat.le_refl _), FunD.bindsN (ps := ["thing"]) F4 fun _ _ _ _ _ _ us hl => match us, hl with | [_], _ => rfl, F4.kp⟩
  have c_fr7 : Cl P w K mg base CX0 8 (ga K "frozen") ["thing"] (spFr K 7) := ⟨d4, (ok_frozenS (n := 6) F4 T1 c_fr6).mono (Nat.le_refl _), FunD.bindsN (ps := ["thing"]) F4 fun _ _ _ _ _ _ us hl => match us, hl with | [_], _ => rfl, F4.kp⟩
  have c_fr8 : Cl P w K mg base CX0 9 (ga K "frozen") ["thing"] (spFr K 8) := ⟨d4, (ok_frozenS (n := 7) F4 T1 c_fr7).mono (Nat.le_refl _), FunD.bindsN (ps := ["thing"]) F4 fun _ _ _ _ _ _ us hl => match us, hl with | [_], _ => rfl, F4.kp⟩
  have c_fr9 : Cl P w K mg base CX0 10 (ga K "frozen") ["thing"] (spFr K 9) := ⟨d4, (ok_frozenS (n := 8) F4 T1 c_fr8).mono (Nat.le_refl _), FunD.bindsN (ps := ["thing"]) F4 fun _ _ _ _ _ _ us hl => match us, hl with | [_], _ => rfl, F4.kp⟩
  have c_fr10 : Cl P w K mg base CX0 11 (ga K "frozen") ["thing"] (spFr K 10) := ⟨d4, (ok_frozenS (n := 9) F4 T1 c_fr9).mono (Nat.le_refl _), FunD.bindsN (ps := ["thing"]) F4 fun _ _ _ _ _ _ us hl => match us, hl with | [_], _ => rfl, F4.kp⟩
  have c_fr11 : Cl P w K mg base CX0 12 (ga K "frozen") ["thing"] (spFr K 11) := ⟨d4, (ok_frozenS (n := 10) F4 T1 c_fr10).mono (Nat.le_refl _), FunD.bindsN (ps := ["thing"]) F4 fun _ _ _ _ _ _ us hl => match us, hl with | [_], _ => rfl, F4.kp⟩
  have c_fr12 : Cl P w K mg base CX0 13 (ga K "frozen") ["thing"] (spFr K 12) := ⟨d4, (ok_frozenS (n := 11) F4 T1 c_fr11).mono (Nat.le_refl _), FunD.bindsN (ps := ["thing"]) F4 fun _ _ _ _ _ _ us hl => match us, hl with | [_], _ => rfl, F4.kp⟩
  have c_fr13 : Cl P w K mg base CX0 14 (ga K "frozen") ["thing"] (spFr K 13) := ⟨d4, (ok_frozenS (n := 12) F4 T1 c_fr12).mono (Nat.le_refl _), FunD.bindsN (ps := ["thing"]) F4 fun _ _ _ _ _ _ us hl => match us, hl with | [_], _ => rfl, F4.kp⟩
  have c_fr14 : Cl P w K mg base CX0 15 (ga K "frozen") ["thing"] (spFr K 14) := ⟨d4, (ok_frozenS (n := 13) F4 T1 c_fr13).mono (Nat.le_refl _), FunD.bindsN (ps := ["thing"]) F4 fun _ _ _ _ _ _ us hl => match us, hl with | [_], _ => rfl, F4.kp⟩
  have c_fr15 : Cl P w K mg base CX0 16 (ga K "frozen") ["thing"] (spFr K 15) := ⟨d4, (ok_frozenS (n := 14) F4 T1 c_fr14).mono (Nat.le_refl _), FunD.bindsN (ps := ["thing"]) F4 fun _ _ _ _ _ _ us hl => match us, hl with | [_], _ => rfl, F4.kp⟩
  have c_fr16 : Cl P w K mg base CX0 17 (ga K "frozen") ["thing"] (spFr K 16) := ⟨d4, (ok_frozenS (n := 15) F4 T1 c_fr15).mono (Nat.le_refl _), FunD.bindsN (ps := ["thing"]) F4 fun _ _ _ _ _ _ us hl => match us, hl with | [_], _ => rfl, F4.kp⟩
  have c_fr17 : Cl P w K mg base CX0 18 (ga K "frozen") ["thing"] (spFr K 17) := ⟨d4, (ok_frozenS (n := 16) F4 T1 c_fr16).mono (Nat.le_refl _), FunD.bindsN (ps := ["thing"]) F4 fun _ _ _ _ _ _ us hl => match us, hl with | [_], _ => rfl, F4.kp⟩
  have c_fr18 : Cl P w K mg base CX0 19 (ga K "frozen") ["thing"] (spFr K 18) := ⟨d4, (ok_frozenS (n := 17) F4 T1 c_fr17).mono (Nat.le_refl _), FunD.bindsN (ps := ["thing"]) F4 fun _ _ _ _ _ _ us hl => match us, hl with | [_], _ => rfl, F4.kp⟩
  have c_fr19 : Cl P w K mg base CX0 20 (ga K "frozen") ["thing"] (spFr K 19) := ⟨d4, (ok_frozenS (n := 18) F4 T1 c_fr18).mono (Nat.le_refl _), FunD.bindsN (ps := ["thing"]) F4 fun _ _ _ _ _ _ us hl => match us, hl with | [_], _ => rfl, F4.kp⟩
  have c_fr20 : Cl P w K mg base CX0 21 (ga K "frozen") ["thing"] (spFr K 20) := ⟨d4, (ok_frozenS (n := 19) F4 T1 c_fr19).mono (Nat.le_refl _), FunD.bindsN (ps := ["thing"]) F4 fun _ _ _ _ _ _ us hl => match us, hl with | [_], _ => rfl, F4.kp⟩
  have c_fr21 : Cl P w K mg base CX0 22 (ga K "frozen") ["thing"] (spFr K 21) := ⟨d4, (ok_frozenS (n := 20) F4 T1 c_fr20).mono (Nat.le_refl _), FunD.bindsN (ps := ["thing"]) F4 fun _ _ _ _ _ _ us hl => match us, hl with | [_], _ => rfl, F4.kp⟩
  have c_fr22 : Cl P w K mg base CX0 23 (ga K "frozen") ["thing"] (spFr K 22) := ⟨d4, (ok_frozenS (n := 21) F4 T1 c_fr21).mono (Nat.le_refl _), FunD.bindsN (ps := ["thing"]) F4 fun _ _ _ _ _ _ us hl => match us, hl with | [_], _ => rfl, F4.kp⟩
  have c_fr23 : Cl P w K mg base CX0 24 (ga K "frozen") ["thing"] (spFr K 23) := ⟨d4, (ok_frozenS (n := 22) F4 T1 c_fr22).mono (Nat.le_refl _), FunD.bindsN (ps := ["thing"]) F4 fun _ _ _ _ _ _ us hl => match us, hl with | [_], _ => rfl, F4.kp⟩
  have c_fr24 : Cl P w K mg base CX0 25 (ga K "frozen") ["thing"] (spFr K 24) := ⟨d4, (ok_frozenS (n := 23) F4 T1 c_fr23).mono (Nat.le_refl _), FunD.bindsN (ps := ["thing"]) F4 fun _ _ _ _ _ _ us hl => match us, hl with | [_], _ => rfl, F4.kp⟩
  have c_fr25 : Cl P w K mg base CX0 26 (ga K "frozen") ["thing"] (spFr K 25) := ⟨d4, (ok_frozenS (n := 24) F4 T1 c_fr24).mono (Nat.le_refl _), FunD.bindsN (ps := ["thing"]) F4 fun _ _ _ _ _ _ us hl => match us, hl with | [_], _ => rfl, F4.kp⟩
  have c_fr26 : Cl P w K mg base CX0 27 (ga K "frozen") ["thing"] (spFr K 26) := ⟨d4, (ok_frozenS (n := 25) F4 T1 c_fr25).mono (Nat.le_refl _), FunD.bindsN (ps := ["thing"]) F4 fun _ _ _ _ _ _ us hl => match us, hl with | [_], _ => rfl, F4.kp⟩
  have c_fr27 : Cl P w K mg base CX0 28 (ga K "frozen") ["thing"] (spFr K 27) := ⟨d4, (ok_frozenS (n := 26) F4 T1 c_fr26).mono (Nat.le_refl _), FunD.bindsN (ps := ["thing"]) F4 fun _ _ _ _ _ _ us hl => match us, hl with | [_], _ => rfl, F4.kp⟩
  have c_fr28 : Cl P w K mg base CX0 29 (ga K "frozen") ["thing"] (spFr K 28) := ⟨d4, (ok_frozenS (n := 27) F4 T1 c_fr27).mono (Nat.le_refl _), FunD.bindsN (ps := ["thing"]) F4 fun _ _ _ _ _ _ us hl => match us, hl with | [_], _ => rfl, F4.kp⟩
  have c_fr29 : Cl P w K mg base CX0 30 (ga K "frozen") ["thing"] (spFr K 29) := ⟨d4, (ok_frozenS (n := 28) F4 T1 c_fr28).mono (Nat.le_refl _), FunD.bindsN (ps := ["thing"]) F4 fun _ _ _ _ _ _ us hl => match us, hl with | [_], _ => rfl, F4.kp⟩
  have c_fr30 : Cl P w K mg base CX0 31 (ga K "frozen") ["thing"] (spFr K 30) := ⟨d4, (ok_frozenS (n := 29) F4 T1 c_fr29).mono (Nat.le_refl _), FunD.bindsN (ps := ["thing"]) F4 fun _ _ _ _ _ _ us hl => match us, hl with | [_], _ => rfl, F4.kp⟩
  have c_fr31 : Cl P w K mg base CX0 32 (ga K "frozen") ["thing"] (spFr K 31) := ⟨d4, (ok_frozenS (n := 30) F4 T1 c_fr30).mono (Nat.le_refl _), FunD.bindsN (ps := ["thing"]) F4 fun _ _ _ _ _ _ us hl => match us, hl with | [_], _ => rfl, F4.kp⟩
  have c_fr32 : Cl P w K mg base CX0 33 (ga K "frozen") ["thing"] (spFr K 32) := ⟨d4, (ok_frozenS (n := 31) F4 T1 c_fr31).mono (Nat.le_refl _), FunD.bindsN (ps := ["thing"]) F4 fun _ _ _ _ _ _ us hl => match us, hl with | [_], _ => rfl, F4.kp⟩
  have c_fr33 : Cl P w K mg base CX0 34 (ga K "frozen") ["thing"] (spFr K 33) := ⟨d4, (ok_frozenS (n := 32) F4 T1 c_fr32).mono (Nat.le_refl _), FunD.bindsN (ps := ["thing"]) F4 fun _ _ _ _ _ _ us hl => match us, hl with | [_], _ => rfl, F4.kp⟩
  have c_fr34 : Cl P w K mg base CX0 35 (ga K "frozen") ["thing"] (spFr K 34) := ⟨d4, (ok_frozenS (n := 33) F4 T1 c_fr33).mono (Nat.le_refl _), FunD.bindsN (ps := ["thing"]) F4 fun _ _ _ _ _ _ us hl => match us, hl with | [_], _ => rfl, F4.kp⟩
  have c_fr35 : Cl P w K mg base CX0 36 (ga K "frozen") ["thing"] (spFr K 35) := ⟨d4, (ok_frozenS (n := 34) F4 T1 c_fr34).mono (Nat.le_refl _), FunD.bindsN (ps := ["thing"]) F4 fun _ _ _ _ _ _ us hl => match us, hl with | [_], _ => rfl, F4.kp⟩
  have c_fr36 : Cl P w K mg base CX0 37 (ga K "frozen") ["thing"] (spFr K 36) := ⟨d4, (ok_frozenS (n := 35) F4 T1 c_fr35).mono (Nat.le_refl _), FunD.bindsN (ps := ["thing"]) F4 fun _ _ _ _ _ _ us hl => match us, hl with | [_], _ => rfl, F4.kp⟩
  have c_fr37 : Cl P w K mg base CX0 38 (ga K "frozen") ["thing"] (spFr K 37) := ⟨d4, (ok_frozenS (n := 36) F4 T1 c_fr36).mono (Nat.le_refl _), FunD.bindsN (ps := ["thing"]) F4 fun _ _ _ _ _ _ us hl => match us, hl with | [_], _ => rfl, F4.kp⟩
  have c_fr38 : Cl P w K mg base CX0 39 (ga K "frozen") ["thing"] (spFr K 38) := ⟨d4, (ok_frozenS (n := 37) F4 T1 c_fr37).mono (Nat.le_refl _), FunD.bindsN (ps := ["thing"]) F4 fun _ _ _ _ _ _ us hl => match us, hl with | [_], _ => rfl, F4.kp⟩
  have c_fr39 : Cl P w K mg base CX0 40 (ga K "frozen") ["thing"] (spFr K 39) := ⟨d4, (ok_frozenS (n := 38) F4 T1 c_fr38).mono (Nat.le_refl _), FunD.bindsN (ps := ["thing"]) F4 fun _ _ _ _ _ _ us hl => match us, hl with | [_], _ => rfl, F4.kp⟩
  have c_fr40 : Cl P w K mg base CX0 41 (ga K "frozen") ["thing"] (spFr K 40) := ⟨d4, (ok_frozenS (n := 39) F4 T1 c_fr39).mono (Nat.le_refl _), FunD.bindsN (ps := ["thing"]) F4 fun _ _ _ _ _ _ us hl => match us, hl with | [_], _ => rfl, F4.kp⟩
  have c_fr41 : Cl P w K mg base CX0 42 (ga K "frozen") ["thing"] (spFr K 41) := ⟨d4, (ok_frozenS (n := 40) F4 T1 c_fr40).mono (Nat.le_refl _), FunD.bindsN (ps := ["thing"]) F4 fun _ _ _ _ _ _ us hl => match us, hl with | [_], _ => rfl, F4.kp⟩
  have c_fr42 : Cl P w K mg base CX0 43 (ga K "frozen") ["thing"] (spFr K 42) := ⟨d4, (ok_frozenS (n := 41) F4 T1 c_fr41).mono (Nat.le_refl _), FunD.bindsN (ps := ["thing"]) F4 fun _ _ _ _ _ _ us hl => match us, hl with | [_], _ => rfl, F4.kp⟩
  have c_fr43 : Cl P w K mg base CX0 44 (ga K "frozen") ["thing"] (spFr K 43) := ⟨d4, (ok_frozenS (n := 42) F4 T1 c_fr42).mono (Nat.le_refl _), FunD.bindsN (ps := ["thing"]) F4 fun _ _ _ _ _ _ us hl => match us, hl with | [_], _ => rfl, F4.kp⟩
  have c_fr44 : Cl P w K mg base CX0 45 (ga K "frozen") ["thing"] (spFr K 44) := ⟨d4, (ok_frozenS (n := 43) F4 T1 c_fr43).mono (Nat.le_refl _), FunD.bindsN (ps := ["thing"]) F4 fun _ _ _ _ _ _ us hl => match us, hl with | [_], _ => rfl, F4.kp⟩
  have c_fr45 : Cl P w K mg base CX0 46 (ga K "frozen") ["thing"] (spFr K 45) := ⟨d4, (ok_frozenS (n := 44) F4 T1 c_fr44).mono (Nat.le_refl _), FunD.bindsN (ps := ["thing"]) F4 fun _ _ _ _ _ _ us hl => match us, hl with | [_], _ => rfl, F4.kp⟩
  have c_fr46 : Cl P w K mg base CX0 47 (ga K "frozen") ["thing"] (spFr K 46) := ⟨d4, (ok_frozenS (n := 45) F4 T1 c_fr45).mono (Nat.le_refl _), FunD.bindsN (ps := ["thing"]) F4 fun _ _ _ _ _ _ us hl => match us, hl with | [_], _ => rfl, F4.kp⟩
  have c_fr47 : Cl P w K mg base CX0 48 (ga K "frozen") ["thing"] (spFr K 47) := ⟨d4, (ok_frozenS (n := 46) F4 T1 c_fr46).mono (Nat.le_refl _), FunD.bindsN (ps := ["thing"]) F4 fun _ _ _ _ _ _ us hl => match us, hl with | [_], _ => rfl, F4.kp⟩
  have c_fr48 : Cl P w K mg base CX0 49 (ga K "frozen") ["thing"] (spFr K 48) := ⟨d4, (ok_frozenS (n := 47) F4 T1 c_fr47).mono (Nat.le_refl _), FunD.bindsN (ps := ["thing"]) F4 fun _ _ _ _ _ _ us hl => match us, hl with | [_], _ => rfl, F4.kp⟩
  have c_fr49 : Cl P w K mg base CX0 50 (ga K "frozen") ["thing"] (spFr K 49) := ⟨d4, (ok_frozenS (n := 48) F4 T1 c_fr48).mono (Nat.le_refl _), FunD.bindsN (ps := ["thing"]) F4 fun _ _ _ _ _ _ us hl => match us, hl with | [_], _ => rfl, F4.kp⟩
  have c_fr50 : Cl P w K mg base CX0 51 (ga K "frozen") ["thing"] (spFr K 50) := ⟨d4, (ok_frozenS (n := 49) F4 T1 c_fr49).mono (Nat.le_refl _), FunD.bindsN (ps := ["thing"]) F4 fun _ _ _ _ _ _ us hl => match us, hl with | [_], _ => rfl, F4.kp⟩
  have c_kinds : Cl P w K mg base CX0 1 (ga K "kinds_of") ["statement"] (spKdG K) := ⟨d6, (ok_kindsG F6 T1).mono (Nat.le_refl _), FunD.bindsN (ps := ["statement"]) F6 fun _ _ _ _ _ _ us hl => match us, hl with | [_], _ => rfl, F6.kp⟩
  have c_parts : Cl P w K mg base CX0 2 (ga K "parts_of") ["statement"] (spPtG K) := ⟨d7, (ok_partsG F7 T1 c_kinds).mono (Nat.le_refl _), FunD.bindsN (ps := ["statement"]) F7 fun _ _ _ _ _ _ us hl => match us, hl with | [_], _ => rfl, F7.kp⟩
  have c_nu0 : Cl P w K mg base CX0 2 (ga K "numbered") ["body", "around"] (spNumG K 0) := ⟨d8, (ok_numG0 F8 T1).mono (by decide), FunD.bindsN (ps := ["body", "around"]) F8 fun _ _ _ _ _ _ us hl => match us, hl with | [_, _], _ => rfl, F8.kp⟩
  have c_nu1 : Cl P w K mg base CX0 3 (ga K "numbered") ["body", "around"] (spNumG K 1) := ⟨d8, (ok_numGS (n := 0) (by decide) F8 T1 c_parts c_nu0).mono (Nat.le_refl _), FunD.bindsN (ps := ["body", "around"]) F8 fun _ _ _ _ _ _ us hl => match us, hl with | [_, _], _ => rfl, F8.kp⟩
  have c_nu2 : Cl P w K mg base CX0 4 (ga K "numbered") ["body", "around"] (spNumG K 2) := ⟨d8, (ok_numGS (n := 1) (by decide) F8 T1 c_parts c_nu1).mono (Nat.le_refl _), FunD.bindsN (ps := ["body", "around"]) F8 fun _ _ _ _ _ _ us hl => match us, hl with | [_, _], _ => rfl, F8.kp⟩
  have c_nu3 : Cl P w K mg base CX0 5 (ga K "numbered") ["body", "around"] (spNumG K 3) := ⟨d8, (ok_numGS (n := 2) (by decide) F8 T1 c_parts c_nu2).mono (Nat.le_refl _), FunD.bindsN (ps := ["body", "around"]) F8 fun _ _ _ _ _ _ us hl => match us, hl with | [_, _], _ => rfl, F8.kp⟩
  have c_nu4 : Cl P w K mg base CX0 6 (ga K "numbered") ["body", "around"] (spNumG K 4) := ⟨d8, (ok_numGS (n := 3) (by decide) F8 T1 c_parts c_nu3).mono (Nat.le_refl _), FunD.bindsN (ps := ["body", "around"]) F8 fun _ _ _ _ _ _ us hl => match us, hl with | [_, _], _ => rfl, F8.kp⟩
  have c_nu5 : Cl P w K mg base CX0 7 (ga K "numbered") ["body", "around"] (spNumG K 5) := ⟨d8, (ok_numGS (n := 4) (by decide) F8 T1 c_parts c_nu4).mono (Nat.le_refl _), FunD.bindsN (ps := ["body", "around"]) F8 fun _ _ _ _ _ _ us hl => match us, hl with | [_, _], _ => rfl, F8.kp⟩
  have c_nu6 : Cl P w K mg base CX0 8 (ga K "numbered") ["body", "around"] (spNumG K 6) := ⟨d8, (ok_numGS (n := 5) (by decide) F8 T1 c_parts c_nu5).mono (Nat.le_refl _), FunD.bindsN (ps := ["body", "around"]) F8 fun _ _ _ _ _ _ us hl => match us, hl with | [_, _], _ => rfl, F8.kp⟩
  have c_nu7 : Cl P w K mg base CX0 9 (ga K "numbered") ["body", "around"] (spNumG K 7) := ⟨d8, (ok_numGS (n := 6) (by decide) F8 T1 c_parts c_nu6).mono (Nat.le_refl _), FunD.bindsN (ps := ["body", "around"]) F8 fun _ _ _ _ _ _ us hl => match us, hl with | [_, _], _ => rfl, F8.kp⟩
  have c_nu8 : Cl P w K mg base CX0 10 (ga K "numbered") ["body", "around"] (spNumG K 8) := ⟨d8, (ok_numGS (n := 7) (by decide) F8 T1 c_parts c_nu7).mono (Nat.le_refl _), FunD.bindsN (ps := ["body", "around"]) F8 fun _ _ _ _ _ _ us hl => match us, hl with | [_, _], _ => rfl, F8.kp⟩
  have c_nu9 : Cl P w K mg base CX0 11 (ga K "numbered") ["body", "around"] (spNumG K 9) := ⟨d8, (ok_numGS (n := 8) (by decide) F8 T1 c_parts c_nu8).mono (Nat.le_refl _), FunD.bindsN (ps := ["body", "around"]) F8 fun _ _ _ _ _ _ us hl => match us, hl with | [_, _], _ => rfl, F8.kp⟩
  have c_nu10 : Cl P w K mg base CX0 12 (ga K "numbered") ["body", "around"] (spNumG K 10) := ⟨d8, (ok_numGS (n := 9) (by decide) F8 T1 c_parts c_nu9).mono (Nat.le_refl _), FunD.bindsN (ps := ["body", "around"]) F8 fun _ _ _ _ _ _ us hl => match us, hl with | [_, _], _ => rfl, F8.kp⟩
  have c_nu11 : Cl P w K mg base CX0 13 (ga K "numbered") ["body", "around"] (spNumG K 11) := ⟨d8, (ok_numGS (n := 10) (by decide) F8 T1 c_parts c_nu10).mono (Nat.le_refl _), FunD.bindsN (ps := ["body", "around"]) F8 fun _ _ _ _ _ _ us hl => match us, hl with | [_, _], _ => rfl, F8.kp⟩
  have c_nu12 : Cl P w K mg base CX0 14 (ga K "numbered") ["body", "around"] (spNumG K 12) := ⟨d8, (ok_numGS (n := 11) (by decide) F8 T1 c_parts c_nu11).mono (Nat.le_refl _), FunD.bindsN (ps := ["body", "around"]) F8 fun _ _ _ _ _ _ us hl => match us, hl with | [_, _], _ => rfl, F8.kp⟩
  have c_nu13 : Cl P w K mg base CX0 15 (ga K "numbered") ["body", "around"] (spNumG K 13) := ⟨d8, (ok_numGS (n := 12) (by decide) F8 T1 c_parts c_nu12).mono (Nat.le_refl _), FunD.bindsN (ps := ["body", "around"]) F8 fun _ _ _ _ _ _ us hl => match us, hl with | [_, _], _ => rfl, F8.kp⟩
  have c_nu14 : Cl P w K mg base CX0 16 (ga K "numbered") ["body", "around"] (spNumG K 14) := ⟨d8, (ok_numGS (n := 13) (by decide) F8 T1 c_parts c_nu13).mono (Nat.le_refl _), FunD.bindsN (ps := ["body", "around"]) F8 fun _ _ _ _ _ _ us hl => match us, hl with | [_, _], _ => rfl, F8.kp⟩
  have c_nu15 : Cl P w K mg base CX0 17 (ga K "numbered") ["body", "around"] (spNumG K 15) := ⟨d8, (ok_numGS (n := 14) (by decide) F8 T1 c_parts c_nu14).mono (Nat.le_refl _), FunD.bindsN (ps := ["body", "around"]) F8 fun _ _ _ _ _ _ us hl => match us, hl with | [_, _], _ => rfl, F8.kp⟩
  have c_nu16 : Cl P w K mg base CX0 18 (ga K "numbered") ["body", "around"] (spNumG K 16) := ⟨d8, (ok_numGS (n := 15) (by decide) F8 T1 c_parts c_nu15).mono (Nat.le_refl _), FunD.bindsN (ps := ["body", "around"]) F8 fun _ _ _ _ _ _ us hl => match us, hl with | [_, _], _ => rfl, F8.kp⟩
  have c_nu17 : Cl P w K mg base CX0 19 (ga K "numbered") ["body", "around"] (spNumG K 17) := ⟨d8, (ok_numGS (n := 16) (by decide) F8 T1 c_parts c_nu16).mono (Nat.le_refl _), FunD.bindsN (ps := ["body", "around"]) F8 fun _ _ _ _ _ _ us hl => match us, hl with | [_, _], _ => rfl, F8.kp⟩
  have c_nu18 : Cl P w K mg base CX0 20 (ga K "numbered") ["body", "around"] (spNumG K 18) := ⟨d8, (ok_numGS (n := 17) (by decide) F8 T1 c_parts c_nu17).mono (Nat.le_refl _), FunD.bindsN (ps := ["body", "around"]) F8 fun _ _ _ _ _ _ us hl => match us, hl with | [_, _], _ => rfl, F8.kp⟩
  have c_nu19 : Cl P w K mg base CX0 21 (ga K "numbered") ["body", "around"] (spNumG K 19) := ⟨d8, (ok_numGS (n := 18) (by decide) F8 T1 c_parts c_nu18).mono (Nat.le_refl _), FunD.bindsN (ps := ["body", "around"]) F8 fun _ _ _ _ _ _ us hl => match us, hl with | [_, _], _ => rfl, F8.kp⟩
  have c_nu20 : Cl P w K mg base CX0 22 (ga K "numbered") ["body", "around"] (spNumG K 20) := ⟨d8, (ok_numGS (n := 19) (by decide) F8 T1 c_parts c_nu19).mono (Nat.le_refl _), FunD.bindsN (ps := ["body", "around"]) F8 fun _ _ _ _ _ _ us hl => match us, hl with | [_, _], _ => rfl, F8.kp⟩
  have c_nu21 : Cl P w K mg base CX0 23 (ga K "numbered") ["body", "around"] (spNumG K 21) := ⟨d8, (ok_numGS (n := 20) (by decide) F8 T1 c_parts c_nu20).mono (Nat.le_refl _), FunD.bindsN (ps := ["body", "around"]) F8 fun _ _ _ _ _ _ us hl => match us, hl with | [_, _], _ => rfl, F8.kp⟩
  have c_nu22 : Cl P w K mg base CX0 24 (ga K "numbered") ["body", "around"] (spNumG K 22) := ⟨d8, (ok_numGS (n := 21) (by decide) F8 T1 c_parts c_nu21).mono (Nat.le_refl _), FunD.bindsN (ps := ["body", "around"]) F8 fun _ _ _ _ _ _ us hl => match us, hl with | [_, _], _ => rfl, F8.kp⟩
  have c_nu23 : Cl P w K mg base CX0 25 (ga K "numbered") ["body", "around"] (spNumG K 23) := ⟨d8, (ok_numGS (n := 22) (by decide) F8 T1 c_parts c_nu22).mono (Nat.le_refl _), FunD.bindsN (ps := ["body", "around"]) F8 fun _ _ _ _ _ _ us hl => match us, hl with | [_, _], _ => rfl, F8.kp⟩
  have c_nu24 : Cl P w K mg base CX0 51 (ga K "numbered") ["body", "around"] (spNumG K 24) := ⟨d8, (ok_numGS (n := 23) (by decide) F8 T1 c_parts c_nu23).mono (by decide), FunD.bindsN (ps := ["body", "around"]) F8 fun _ _ _ _ _ _ us hl => match us, hl with | [_, _], _ => rfl, F8.kp⟩
  have c_fi : Cl P w K mg base CX0 52 (ma K (ga K "Function") "__init__") ["self", "name", "body"] (spFIG K) := ⟨d2, (ok_finitG F2 T1 c_fr50 c_nu24).mono (Nat.le_refl _), FunD.bindsN (ps := ["self", "name", "body"]) F2 fun _ _ _ _ _ _ us hl => match us, hl with | [_, _, _], _ => rfl, F2.kp⟩
  have c_fits : Cl P w K mg base CX0 1 (ga K "fits") ["entry", "kind", "names"] (spFitsG K) := ⟨d14, (ok_fitsG F14 T1).mono (Nat.le_refl _), FunD.bindsN (ps := ["entry", "kind", "names"]) F14 fun _ _ _ _ _ _ us hl => match us, hl with | [_, _, _], _ => rfl, F14.kp⟩
  have c_well : Cl P w K mg base CX0 2 (ga K "well_formed") ["statement", "names"] (spWellG K) := ⟨d13, (ok_wellG F13 T1 c_kinds c_fits).mono (Nat.le_refl _), FunD.bindsN (ps := ["statement", "names"]) F13 fun _ _ _ _ _ _ us hl => match us, hl with | [_, _], _ => rfl, F13.kp⟩
  have c_mis : Cl P w K mg base CX0 1 (ga K "misplaced") ["word", "around"] (spMisG K) := ⟨d15, (ok_misG F15 T1).mono (Nat.le_refl _), FunD.bindsN (ps := ["word", "around"]) F15 fun _ _ _ _ _ _ us hl => match us, hl with | [_, _], _ => rfl, F15.kp⟩
  have c_byk : Cl P w K mg base CX0 1 (ga K "names_by_kind") ["code"] (spByKind K) := ⟨d11, (ok_names_by_kind F11 T1).mono (Nat.le_refl _), FunD.bindsN (ps := ["code"]) F11 fun _ _ _ _ _ _ us hl => match us, hl with | [_], _ => rfl, F11.kp⟩
  have c_bnd : Cl P w K mg base (L2.CX P w) 1 (ga K "check_bounds") ["code"] (spBounds6 K) := ⟨d9, (ok_check_bounds6 F9 T3).mono (Nat.le_refl _), FunD.bindsN (ps := ["code"]) F9 fun _ _ _ _ _ _ us hl => match us, hl with | [_], _ => rfl, F9.kp⟩
  have c_chk : Cl P w K mg base (L2.CX P w) 3 (ga K "check_names") ["code"] (spChk6 K) := ⟨d10, (ok_check_names6 F10 T3 c_isn c_bi).mono (Nat.le_refl _), FunD.bindsN (ps := ["code"]) F10 fun _ _ _ _ _ _ us hl => match us, hl with | [_], _ => rfl, F10.kp⟩
  have c_body : Cl P w K mg base (L2.CX P w) 52 (ga K "check_body") ["function", "names"] (spBodyG K) := ⟨d12, (ok_bodyG F12 T2 c_nu24 c_well c_mis c_parts c_bi).mono (Nat.le_refl _), FunD.bindsN (ps := ["function", "names"]) F12 fun _ _ _ _ _ _ us hl => match us, hl with | [_, _], _ => rfl, F12.kp⟩
  have c_ci : Cl P w K mg base (L2.CX P w) 53 (ma K (ga K "Code") "__init__") ["self", "cells", "rows", "functions", "start"] (spCI6 K) := ⟨d3, (ok_CI6 F3 T3 c_bnd c_chk c_byk c_body).mono (Nat.le_refl _), FunD.bindsN (ps := ["self", "cells", "rows", "functions", "start"]) F3 fun _ _ _ _ _ _ us hl => match us, hl with | [_, _, _, _, _], _ => rfl, F3.kp⟩
  have c_kd2 : Cl P w K mg base CX0 1 (ga K "kinds_of") ["statement"] (spKd K) := ⟨d6, (ok_kinds_of F6 T1).mono (Nat.le_refl _), FunD.bindsN (ps := ["statement"]) F6 fun _ _ _ _ _ _ us hl => match us, hl with | [_], _ => rfl, F6.kp⟩
  have c_pt2 : Cl P w K mg base CX0 2 (ga K "parts_of") ["statement"] (spPt K) := ⟨d7, (ok_parts_of F7 T1 c_kd2).mono (Nat.le_refl _), FunD.bindsN (ps := ["statement"]) F7 fun _ _ _ _ _ _ us hl => match us, hl with | [_], _ => rfl, F7.kp⟩
  have c_head : Cl P w K mg base CX0 1 (ga K "heading") ["word", "names"] (spHead K) := ⟨d17, (ok_heading F17 T1).mono (Nat.le_refl _), FunD.bindsN (ps := ["word", "names"]) F17 fun _ _ _ _ _ _ us hl => match us, hl with | [_, _], _ => rfl, F17.kp⟩
  have c_pl0 : Cl P w K mg base CX0 2 (ga K "part_lines") ["part", "margin"] (spPL K 0) := ⟨d18, (ok_part_lines0 F18 T1).mono (by decide), FunD.bindsN (ps := ["part", "margin"]) F18 fun _ _ _ _ _ _ us hl => match us, hl with | [_, _], _ => rfl, F18.kp⟩
  have c_sl0 : Cl P w K mg base CX0 3 (ga K "statement_lines") ["statement", "margin"] (spSL K 0) := ⟨d19, (ok_statement_lines (n := 0) (k := 2) (by decide) F19 T1 c_pt2 c_pl0).mono (Nat.le_refl _), FunD.bindsN (ps := ["statement", "margin"]) F19 fun _ _ _ _ _ _ us hl => match us, hl with | [_, _], _ => rfl, F19.kp⟩
  have c_pl1 : Cl P w K mg base CX0 4 (ga K "part_lines") ["part", "margin"] (spPL K 1) := ⟨d18, (ok_part_linesS (n := 0) (k := 3) F18 T1 c_sl0).mono (Nat.le_refl _), FunD.bindsN (ps := ["part", "margin"]) F18 fun _ _ _ _ _ _ us hl => match us, hl with | [_, _], _ => rfl, F18.kp⟩
  have c_sl1 : Cl P w K mg base CX0 5 (ga K "statement_lines") ["statement", "margin"] (spSL K 1) := ⟨d19, (ok_statement_lines (n := 1) (k := 4) (by decide) F19 T1 c_pt2 c_pl1).mono (Nat.le_refl _), FunD.bindsN (ps := ["statement", "margin"]) F19 fun _ _ _ _ _ _ us hl => match us, hl with | [_, _], _ => rfl, F19.kp⟩
  have c_pl2 : Cl P w K mg base CX0 6 (ga K "part_lines") ["part", "margin"] (spPL K 2) := ⟨d18, (ok_part_linesS (n := 1) (k := 5) F18 T1 c_sl1).mono (Nat.le_refl _), FunD.bindsN (ps := ["part", "margin"]) F18 fun _ _ _ _ _ _ us hl => match us, hl with | [_, _], _ => rfl, F18.kp⟩
  have c_sl2 : Cl P w K mg base CX0 7 (ga K "statement_lines") ["statement", "margin"] (spSL K 2) := ⟨d19, (ok_statement_lines (n := 2) (k := 6) (by decide) F19 T1 c_pt2 c_pl2).mono (Nat.le_refl _), FunD.bindsN (ps := ["statement", "margin"]) F19 fun _ _ _ _ _ _ us hl => match us, hl with | [_, _], _ => rfl, F19.kp⟩
  have c_pl3 : Cl P w K mg base CX0 8 (ga K "part_lines") ["part", "margin"] (spPL K 3) := ⟨d18, (ok_part_linesS (n := 2) (k := 7) F18 T1 c_sl2).mono (Nat.le_refl _), FunD.bindsN (ps := ["part", "margin"]) F18 fun _ _ _ _ _ _ us hl => match us, hl with | [_, _], _ => rfl, F18.kp⟩
  have c_sl3 : Cl P w K mg base CX0 9 (ga K "statement_lines") ["statement", "margin"] (spSL K 3) := ⟨d19, (ok_statement_lines (n := 3) (k := 8) (by decide) F19 T1 c_pt2 c_pl3).mono (Nat.le_refl _), FunD.bindsN (ps := ["statement", "margin"]) F19 fun _ _ _ _ _ _ us hl => match us, hl with | [_, _], _ => rfl, F19.kp⟩
  have c_pl4 : Cl P w K mg base CX0 10 (ga K "part_lines") ["part", "margin"] (spPL K 4) := ⟨d18, (ok_part_linesS (n := 3) (k := 9) F18 T1 c_sl3).mono (Nat.le_refl _), FunD.bindsN (ps := ["part", "margin"]) F18 fun _ _ _ _ _ _ us hl => match us, hl with | [_, _], _ => rfl, F18.kp⟩
  have c_wr : Cl P w K mg base CX0 11 (ga K "written") ["code"] (spWr K) := ⟨d16, (ok_written (k := 10) (by decide) F16 T1 c_head c_pl4).mono (Nat.le_refl _), FunD.bindsN (ps := ["code"]) F16 fun _ _ _ _ _ _ us hl => match us, hl with | [_], _ => rfl, F16.kp⟩
  have c_deeds : Cl P w K mg base CX0 1 (ga K "_law_deeds") ["_law_plan_here"] (spDeeds K) := ⟨d34, (ok_law_deeds F34 T1).mono (Nat.le_refl _), FunD.bindsN (ps := ["_law_plan_here"]) F34 fun _ _ _ _ _ _ us hl => match us, hl with | [_], _ => rfl, F34.kp⟩
  have c_ct0 : Cl P w K mg base CX0 1 (ga K "_law_count") ["_law_body"] (spCnt K 0) := ⟨d33, (ok_law_count0 F33 T1).mono (Nat.le_refl _), FunD.bindsN (ps := ["_law_body"]) F33 fun _ _ _ _ _ _ us hl => match us, hl with | [_], _ => rfl, F33.kp⟩
  have c_ct1 : Cl P w K mg base CX0 2 (ga K "_law_count") ["_law_body"] (spCnt K 1) := ⟨d33, (ok_law_countS (n := 0) F33 T1 c_ct0).mono (Nat.le_refl _), FunD.bindsN (ps := ["_law_body"]) F33 fun _ _ _ _ _ _ us hl => match us, hl with | [_], _ => rfl, F33.kp⟩
  have c_ct2 : Cl P w K mg base CX0 3 (ga K "_law_count") ["_law_body"] (spCnt K 2) := ⟨d33, (ok_law_countS (n := 1) F33 T1 c_ct1).mono (Nat.le_refl _), FunD.bindsN (ps := ["_law_body"]) F33 fun _ _ _ _ _ _ us hl => match us, hl with | [_], _ => rfl, F33.kp⟩
  have c_ct3 : Cl P w K mg base CX0 4 (ga K "_law_count") ["_law_body"] (spCnt K 3) := ⟨d33, (ok_law_countS (n := 2) F33 T1 c_ct2).mono (Nat.le_refl _), FunD.bindsN (ps := ["_law_body"]) F33 fun _ _ _ _ _ _ us hl => match us, hl with | [_], _ => rfl, F33.kp⟩
  have c_ct4 : Cl P w K mg base CX0 5 (ga K "_law_count") ["_law_body"] (spCnt K 4) := ⟨d33, (ok_law_countS (n := 3) F33 T1 c_ct3).mono (Nat.le_refl _), FunD.bindsN (ps := ["_law_body"]) F33 fun _ _ _ _ _ _ us hl => match us, hl with | [_], _ => rfl, F33.kp⟩
  have c_sim : Cl P w K mg base CX0 3 (ga K "_law_simple") ["_law_pen", "_law_plan_here", "_law_looping"] (spSim K) := ⟨d35, (ok_law_simple F35 T1 c_deeds c_draw c_pick).mono (Nat.le_refl _), FunD.bindsN (ps := ["_law_pen", "_law_plan_here", "_law_looping"]) F35 fun _ _ _ _ _ _ us hl => match us, hl with | [_, _, _], _ => rfl, F35.kp⟩
  have c_q1 : Cl P w K mg base CX0 3 (ga K "_law_count") ["_law_body"] (spCnt K 1) := ⟨d33, (ok_law_countS (n := 0) F33 T1 c_ct0).mono (by decide), FunD.bindsN (ps := ["_law_body"]) F33 fun _ _ _ _ _ _ us hl => match us, hl with | [_], _ => rfl, F33.kp⟩
  have c_p1 : Cl P w K mg base CX0 4 (ga K "_law_part") ["_law_pen", "_law_plan_here", "_law_room", "_law_looping", "_law_deep"] (spPart K 1) := ⟨d37, (ok_law_part1 (m := 0) (k := 3) (by decide) rfl F37 T1 c_draw c_q1 c_sim).mono (Nat.le_refl _), FunD.bindsN (ps := ["_law_pen", "_law_plan_here", "_law_room", "_law_looping", "_law_deep"]) F37 fun _ _ _ _ _ _ us hl => match us, hl with | [_, _, _, _, _], _ => rfl, F37.kp⟩
  have c_b1c : Cl P w K mg base CX0 4 (ga K "_law_count") ["_law_body"] (spCnt K 1) := ⟨d33, (ok_law_countS (n := 0) F33 T1 c_ct0).mono (by decide), FunD.bindsN (ps := ["_law_body"]) F33 fun _ _ _ _ _ _ us hl => match us, hl with | [_], _ => rfl, F33.kp⟩
  have c_bl1 : Cl P w K mg base CX0 5 (ga K "_law_block") ["_law_pen", "_law_plan_here", "_law_left", "_law_looping", "_law_deep"] (spBlk K 1) := ⟨d36, (ok_law_block (n := 1) (k := 4) (by decide) F36 T1 c_draw c_pick c_deeds c_b1c c_p1).mono (Nat.le_refl _), FunD.bindsN (ps := ["_law_pen", "_law_plan_here", "_law_left", "_law_looping", "_law_deep"]) F36 fun _ _ _ _ _ _ us hl => match us, hl with | [_, _, _, _, _], _ => rfl, F36.kp⟩
  have c_q2 : Cl P w K mg base CX0 5 (ga K "_law_count") ["_law_body"] (spCnt K 2) := ⟨d33, (ok_law_countS (n := 1) F33 T1 c_ct1).mono (by decide), FunD.bindsN (ps := ["_law_body"]) F33 fun _ _ _ _ _ _ us hl => match us, hl with | [_], _ => rfl, F33.kp⟩
  have c_p2 : Cl P w K mg base CX0 6 (ga K "_law_part") ["_law_pen", "_law_plan_here", "_law_room", "_law_looping", "_law_deep"] (spPart K 2) := ⟨d37, (ok_law_part2 (m := 1) (k := 5) (by decide) (by decide) F37 T1 c_draw c_q2 c_sim c_bl1).mono (Nat.le_refl _), FunD.bindsN (ps := ["_law_pen", "_law_plan_here", "_law_room", "_law_looping", "_law_deep"]) F37 fun _ _ _ _ _ _ us hl => match us, hl with | [_, _, _, _, _], _ => rfl, F37.kp⟩
  have c_b2c : Cl P w K mg base CX0 6 (ga K "_law_count") ["_law_body"] (spCnt K 2) := ⟨d33, (ok_law_countS (n := 1) F33 T1 c_ct1).mono (by decide), FunD.bindsN (ps := ["_law_body"]) F33 fun _ _ _ _ _ _ us hl => match us, hl with | [_], _ => rfl, F33.kp⟩
  have c_bl2 : Cl P w K mg base CX0 7 (ga K "_law_block") ["_law_pen", "_law_plan_here", "_law_left", "_law_looping", "_law_deep"] (spBlk K 2) := ⟨d36, (ok_law_block (n := 2) (k := 6) (by decide) F36 T1 c_draw c_pick c_deeds c_b2c c_p2).mono (Nat.le_refl _), FunD.bindsN (ps := ["_law_pen", "_law_plan_here", "_law_left", "_law_looping", "_law_deep"]) F36 fun _ _ _ _ _ _ us hl => match us, hl with | [_, _, _, _, _], _ => rfl, F36.kp⟩
  have c_q3 : Cl P w K mg base CX0 7 (ga K "_law_count") ["_law_body"] (spCnt K 3) := ⟨d33, (ok_law_countS (n := 2) F33 T1 c_ct2).mono (by decide), FunD.bindsN (ps := ["_law_body"]) F33 fun _ _ _ _ _ _ us hl => match us, hl with | [_], _ => rfl, F33.kp⟩
  have c_p3 : Cl P w K mg base CX0 8 (ga K "_law_part") ["_law_pen", "_law_plan_here", "_law_room", "_law_looping", "_law_deep"] (spPart K 3) := ⟨d37, (ok_law_part2 (m := 2) (k := 7) (by decide) (by decide) F37 T1 c_draw c_q3 c_sim c_bl2).mono (Nat.le_refl _), FunD.bindsN (ps := ["_law_pen", "_law_plan_here", "_law_room", "_law_looping", "_law_deep"]) F37 fun _ _ _ _ _ _ us hl => match us, hl with | [_, _, _, _, _], _ => rfl, F37.kp⟩
  have c_b3c : Cl P w K mg base CX0 8 (ga K "_law_count") ["_law_body"] (spCnt K 3) := ⟨d33, (ok_law_countS (n := 2) F33 T1 c_ct2).mono (by decide), FunD.bindsN (ps := ["_law_body"]) F33 fun _ _ _ _ _ _ us hl => match us, hl with | [_], _ => rfl, F33.kp⟩
  have c_bl3 : Cl P w K mg base CX0 9 (ga K "_law_block") ["_law_pen", "_law_plan_here", "_law_left", "_law_looping", "_law_deep"] (spBlk K 3) := ⟨d36, (ok_law_block (n := 3) (k := 8) (by decide) F36 T1 c_draw c_pick c_deeds c_b3c c_p3).mono (Nat.le_refl _), FunD.bindsN (ps := ["_law_pen", "_law_plan_here", "_law_left", "_law_looping", "_law_deep"]) F36 fun _ _ _ _ _ _ us hl => match us, hl with | [_, _, _, _, _], _ => rfl, F36.kp⟩
  have c_q4 : Cl P w K mg base CX0 9 (ga K "_law_count") ["_law_body"] (spCnt K 4) := ⟨d33, (ok_law_countS (n := 3) F33 T1 c_ct3).mono (by decide), FunD.bindsN (ps := ["_law_body"]) F33 fun _ _ _ _ _ _ us hl => match us, hl with | [_], _ => rfl, F33.kp⟩
  have c_p4 : Cl P w K mg base CX0 11 (ga K "_law_part") ["_law_pen", "_law_plan_here", "_law_room", "_law_looping", "_law_deep"] (spPart K 4) := ⟨d37, (ok_law_part2 (m := 3) (k := 9) (by decide) (by decide) F37 T1 c_draw c_q4 c_sim c_bl3).mono (by decide), FunD.bindsN (ps := ["_law_pen", "_law_plan_here", "_law_room", "_law_looping", "_law_deep"]) F37 fun _ _ _ _ _ _ us hl => match us, hl with | [_, _, _, _, _], _ => rfl, F37.kp⟩
  have c_plan : Cl P w K mg base CX0 12 (ga K "_law_plan") ["_law_pen", "_law_cells", "_law_rows", "_law_many", "_law_room"] (spPlan K) := ⟨d38, (ok_law_plan F38 T1 c_names c_pick c_p4).mono (Nat.le_refl _), FunD.bindsN (ps := ["_law_pen", "_law_cells", "_law_rows", "_law_many", "_law_room"]) F38 fun _ _ _ _ _ _ us hl => match us, hl with | [_, _, _, _, _], _ => rfl, F38.kp⟩
  have c_drawn : Cl P w K mg base CX0 13 (ga K "_law_drawn") ["_law_pen", "_law_room"] (spDrawn K) := ⟨d39, (ok_law_drawn F39 T1 c_draw c_plan).mono (Nat.le_refl _), FunD.bindsN (ps := ["_law_pen", "_law_room"]) F39 fun _ _ _ _ _ _ us hl => match us, hl with | [_, _], _ => rfl, F39.kp⟩
  have c_ll0 : Cl P w K mg base CX0 1 (ga K "_law_lines") ["_law_body", "_law_wide"] (spLL K 0) := ⟨d40, (ok_law_lines0 F40 T1).mono (Nat.le_refl _), FunD.bindsN (ps := ["_law_body", "_law_wide"]) F40 fun _ _ _ _ _ _ us hl => match us, hl with | [_, _], _ => rfl, F40.kp⟩
  have c_ll1 : Cl P w K mg base CX0 2 (ga K "_law_lines") ["_law_body", "_law_wide"] (spLL K 1) := ⟨d40, (ok_law_linesS (n := 0) F40 T1 c_ll0).mono (Nat.le_refl _), FunD.bindsN (ps := ["_law_body", "_law_wide"]) F40 fun _ _ _ _ _ _ us hl => match us, hl with | [_, _], _ => rfl, F40.kp⟩
  have c_ll2 : Cl P w K mg base CX0 3 (ga K "_law_lines") ["_law_body", "_law_wide"] (spLL K 2) := ⟨d40, (ok_law_linesS (n := 1) F40 T1 c_ll1).mono (Nat.le_refl _), FunD.bindsN (ps := ["_law_body", "_law_wide"]) F40 fun _ _ _ _ _ _ us hl => match us, hl with | [_, _], _ => rfl, F40.kp⟩
  have c_ll3 : Cl P w K mg base CX0 4 (ga K "_law_lines") ["_law_body", "_law_wide"] (spLL K 3) := ⟨d40, (ok_law_linesS (n := 2) F40 T1 c_ll2).mono (Nat.le_refl _), FunD.bindsN (ps := ["_law_body", "_law_wide"]) F40 fun _ _ _ _ _ _ us hl => match us, hl with | [_, _], _ => rfl, F40.kp⟩
  have c_ll4 : Cl P w K mg base CX0 5 (ga K "_law_lines") ["_law_body", "_law_wide"] (spLL K 4) := ⟨d40, (ok_law_linesS (n := 3) F40 T1 c_ll3).mono (Nat.le_refl _), FunD.bindsN (ps := ["_law_body", "_law_wide"]) F40 fun _ _ _ _ _ _ us hl => match us, hl with | [_, _], _ => rfl, F40.kp⟩
  have c_tx : Cl P w K mg base CX0 6 (ga K "_law_text") ["_law_plan_here"] (spTx K) := ⟨d41, (ok_law_text (k := 5) F41 T1 c_ll4).mono (Nat.le_refl _), FunD.bindsN (ps := ["_law_plan_here"]) F41 fun _ _ _ _ _ _ us hl => match us, hl with | [_], _ => rfl, F41.kp⟩
  have c_line : Cl P w K mg base CX0 1 (ga K "line_at") ["lines", "at"] (spLine K) := ⟨d21, (ok_line_at F21 T1).mono (Nat.le_refl _), FunD.bindsN (ps := ["lines", "at"]) F21 fun _ _ _ _ _ _ us hl => match us, hl with | [_, _], _ => rfl, F21.kp⟩
  have c_wof : Cl P w K mg base CX0 1 (ga K "word_of") ["first"] spWordOf := ⟨d27, (ok_word_of F27 T1).mono (Nat.le_refl _), FunD.bindsN (ps := ["first"]) F27 fun _ _ _ _ _ _ us hl => match us, hl with | [_], _ => rfl, F27.kp⟩
  have c_ras : Cl P w K mg base CX0 2 (ga K "reads_as") ["entry", "kind"] spReads := ⟨d28, (ok_reads_as F28 T3 c_isn).mono (Nat.le_refl _), FunD.bindsN (ps := ["entry", "kind"]) F28 fun _ _ _ _ _ _ us hl => match us, hl with | [_, _], _ => rfl, F28.kp⟩
  have c_rnm : Cl P w K mg base (L2.CX P w) 3 (ga K "read_name") ["lines", "at"] (spRName K) := ⟨d23, (ok_read_name F23 T3 c_isn c_bx).mono (Nat.le_refl _), FunD.bindsN (ps := ["lines", "at"]) F23 fun _ _ _ _ _ _ us hl => match us, hl with | [_, _], _ => rfl, F23.kp⟩
  have c_rhg : Cl P w K mg base (L2.CX P w) 3 (ga K "read_heading") ["lines", "at", "word"] (spRHead K) := ⟨d22, (ok_read_heading F22 T3 c_line c_isn c_bx).mono (Nat.le_refl _), FunD.bindsN (ps := ["lines", "at", "word"]) F22 fun _ _ _ _ _ _ us hl => match us, hl with | [_, _, _], _ => rfl, F22.kp⟩
  have c_rhd : Cl P w K mg base CX0 3 (ga K "read_head") ["line", "margin"] (spHd K) := ⟨d26, (ok_read_head F26 T3 c_wof c_ras).mono (Nat.le_refl _), FunD.bindsN (ps := ["line", "margin"]) F26 fun _ _ _ _ _ _ us hl => match us, hl with | [_, _], _ => rfl, F26.kp⟩
  have c_rp0 : Cl P w K mg base (L2.CX P w) 4 (ga K "read_part") ["lines", "at", "margin"] (spPart3 K 0) := ⟨d24, (ok_read_part0 F24 T3 c_line c_rhd).mono (Nat.le_refl _), FunD.bindsN (ps := ["lines", "at", "margin"]) F24 fun _ _ _ _ _ _ us hl => match us, hl with | [_, _, _], _ => rfl, F24.kp⟩
  have c_rq0 : Cl P w K mg base (L2.CX P w) 5 (ga K "read_parts") ["lines", "at", "margin", "word"] (spParts3 K 0) := ⟨d25, (ok_read_parts (n := 0) (k := 4) (by decide) F25 T3 c_line c_rp0 c_bx).mono (Nat.le_refl _), FunD.bindsN (ps := ["lines", "at", "margin", "word"]) F25 fun _ _ _ _ _ _ us hl => match us, hl with | [_, _, _, _], _ => rfl, F25.kp⟩
  have c_rp1 : Cl P w K mg base (L2.CX P w) 6 (ga K "read_part") ["lines", "at", "margin"] (spPart3 K 1) := ⟨d24, (ok_read_partS (n := 0) (k := 5) (by decide) F24 T3 c_line c_rhd c_rq0).mono (Nat.le_refl _), FunD.bindsN (ps := ["lines", "at", "margin"]) F24 fun _ _ _ _ _ _ us hl => match us, hl with | [_, _, _], _ => rfl, F24.kp⟩
  have c_rq1 : Cl P w K mg base (L2.CX P w) 7 (ga K "read_parts") ["lines", "at", "margin", "word"] (spParts3 K 1) := ⟨d25, (ok_read_parts (n := 1) (k := 6) (by decide) F25 T3 c_line c_rp1 c_bx).mono (Nat.le_refl _), FunD.bindsN (ps := ["lines", "at", "margin", "word"]) F25 fun _ _ _ _ _ _ us hl => match us, hl with | [_, _, _, _], _ => rfl, F25.kp⟩
  have c_rp2 : Cl P w K mg base (L2.CX P w) 8 (ga K "read_part") ["lines", "at", "margin"] (spPart3 K 2) := ⟨d24, (ok_read_partS (n := 1) (k := 7) (by decide) F24 T3 c_line c_rhd c_rq1).mono (Nat.le_refl _), FunD.bindsN (ps := ["lines", "at", "margin"]) F24 fun _ _ _ _ _ _ us hl => match us, hl with | [_, _, _], _ => rfl, F24.kp⟩
  have c_rq2 : Cl P w K mg base (L2.CX P w) 9 (ga K "read_parts") ["lines", "at", "margin", "word"] (spParts3 K 2) := ⟨d25, (ok_read_parts (n := 2) (k := 8) (by decide) F25 T3 c_line c_rp2 c_bx).mono (Nat.le_refl _), FunD.bindsN (ps := ["lines", "at", "margin", "word"]) F25 fun _ _ _ _ _ _ us hl => match us, hl with | [_, _, _, _], _ => rfl, F25.kp⟩
  have c_rp3 : Cl P w K mg base (L2.CX P w) 10 (ga K "read_part") ["lines", "at", "margin"] (spPart3 K 3) := ⟨d24, (ok_read_partS (n := 2) (k := 9) (by decide) F24 T3 c_line c_rhd c_rq2).mono (Nat.le_refl _), FunD.bindsN (ps := ["lines", "at", "margin"]) F24 fun _ _ _ _ _ _ us hl => match us, hl with | [_, _, _], _ => rfl, F24.kp⟩
  have c_rq3 : Cl P w K mg base (L2.CX P w) 11 (ga K "read_parts") ["lines", "at", "margin", "word"] (spParts3 K 3) := ⟨d25, (ok_read_parts (n := 3) (k := 10) (by decide) F25 T3 c_line c_rp3 c_bx).mono (Nat.le_refl _), FunD.bindsN (ps := ["lines", "at", "margin", "word"]) F25 fun _ _ _ _ _ _ us hl => match us, hl with | [_, _, _, _], _ => rfl, F25.kp⟩
  have c_rp4 : Cl P w K mg base (L2.CX P w) 12 (ga K "read_part") ["lines", "at", "margin"] (spPart3 K 4) := ⟨d24, (ok_read_partS (n := 3) (k := 11) (by decide) F24 T3 c_line c_rhd c_rq3).mono (Nat.le_refl _), FunD.bindsN (ps := ["lines", "at", "margin"]) F24 fun _ _ _ _ _ _ us hl => match us, hl with | [_, _, _], _ => rfl, F24.kp⟩
  have c_rc : Cl P w K mg base (L2.CX P w) 60 (ga K "read_code") ["text"] (spRead6 K) := ⟨d20, (ok_read_code F20 T3 c_rhg c_rnm c_rp4 c_fi c_ci c_bx).mono (Nat.le_refl _), FunD.bindsN (ps := ["text"]) F20 fun _ _ _ _ _ _ us hl => match us, hl with | [_], _ => rfl, F20.kp⟩
  have c_told : Cl P w K mg base CX0 61 (ga K "_law_told") ["_law_text_here"] (spTold6 K) := ⟨d49, (ok_law_told F49 T4 c_rc c_wr).mono (Nat.le_refl _), FunD.bindsN (ps := ["_law_text_here"]) F49 fun _ _ _ _ _ _ us hl => match us, hl with | [_], _ => rfl, F49.kp⟩
  have c_lnm : Cl P w K mg base CX0 1 (ga K "_law_name") ["_law_word_here"] spIsName := ⟨d42, (ok_law_name F42 T1).mono (Nat.le_refl _), FunD.bindsN (ps := ["_law_word_here"]) F42 fun _ _ _ _ _ _ us hl => match us, hl with | [_], _ => rfl, F42.kp⟩
  have c_knd : Cl P w K mg base CX0 2 (ga K "_law_kind") ["_law_text_here"] spKind6 := ⟨d43, (ok_law_kind F43 T1 c_lnm).mono (Nat.le_refl _), FunD.bindsN (ps := ["_law_text_here"]) F43 fun _ _ _ _ _ _ us hl => match us, hl with | [_], _ => rfl, F43.kp⟩
  have c_hds : Cl P w K mg base CX0 2 (ga K "_law_heads") ["_law_lines_here"] spHeads6 := ⟨d44, (ok_law_heads F44 T1 c_lnm).mono (Nat.le_refl _), FunD.bindsN (ps := ["_law_lines_here"]) F44 fun _ _ _ _ _ _ us hl => match us, hl with | [_], _ => rfl, F44.kp⟩
  have c_cls : Cl P w K mg base CX0 1 (ga K "_law_closed") ["_law_stack", "_law_wide", "_law_text_here"] spClosed6 := ⟨d45, (ok_law_closed F45 T1).mono (Nat.le_refl _), FunD.bindsN (ps := ["_law_stack", "_law_wide", "_law_text_here"]) F45 fun _ _ _ _ _ _ us hl => match us, hl with | [_, _, _], _ => rfl, F45.kp⟩
  have c_wrg : Cl P w K mg base CX0 3 (ga K "_law_wrong") ["_law_lines_here"] spWrong6 := ⟨d46, (ok_law_wrong F46 T1 c_lnm c_hds c_knd c_cls).mono (Nat.le_refl _), FunD.bindsN (ps := ["_law_lines_here"]) F46 fun _ _ _ _ _ _ us hl => match us, hl with | [_], _ => rfl, F46.kp⟩
  have c_lin : Cl P w K mg base CX0 3 (ga K "_law_line") ["_law_pen", "_law_line_here"] spLine6 := ⟨d47, (ok_law_line F47 T1 c_draw c_pick).mono (Nat.le_refl _), FunD.bindsN (ps := ["_law_pen", "_law_line_here"]) F47 fun _ _ _ _ _ _ us hl => match us, hl with | [_, _], _ => rfl, F47.kp⟩
  have c_spo : Cl P w K mg base CX0 4 (ga K "_law_spoilt") ["_law_pen", "_law_lines_here"] (spSpoilt6 K) := ⟨d48, (ok_law_spoilt F48 T1 c_draw c_lin).mono (Nat.le_refl _), FunD.bindsN (ps := ["_law_pen", "_law_lines_here"]) F48 fun _ _ _ _ _ _ us hl => match us, hl with | [_, _], _ => rfl, F48.kp⟩
  exact ok_law F50 T4 c_pick c_drawn c_tx c_draw c_spo c_told c_wrg
end K06

open PySem PySem.W PySem.Calls PyProof.Rows
theorem PySem.Challenge.cw_tryback_k06_whole_texts_refused_holds : PySem.Challenge.rw_tryback_k06_whole_texts_refused.Holds := by
  w_on; o_law
  refine HandSHeadRun.head_any (r := OpenLaw.row PySem.Challenge.rw_tryback_k06_whole_texts_refused) (q := view (OpenLaw.row PySem.Challenge.rw_tryback_k06_whole_texts_refused).prog [72]) (H := K06.hk) (ob := K06.ob) (M := K06.steps) (loose := K06.loose) (d := HandSHeadRun.topDef (OpenLaw.row PySem.Challenge.rw_tryback_k06_whole_texts_refused).prog 72) (kwd := []) K06.ob_eq
    (by kernel_rfl) (fun s => by kernel_rfl) K06.run (by kernel_rfl) (by kernel_rfl) (by kernel_rfl) (by rfl) (by first | assumption | decide +kernel) (by decide +kernel) ⟨rfl, rfl, rfl, rfl, rfl, by decide +kernel⟩ ?hw ?hc
  case hw => w_witness2
  case hc =>
    refine L2.walk_ofE (l := PySem.Challenge.rw_tryback_k06_whole_texts_refused) (n := 63) (k := 62) (x := "_law_script") (CX := L2.CX0) rfl (by decide) (by kernel_rfl) ⟨rfl, by decide, by decide⟩ ?F (fun _ _ _ _ z => z)
    intro w mg fa h Y G hmg0
    obtain ⟨K, KX, c⟩ := Y
    have hmg : mg ("law" : PySem.Str) = some (.ref fa) := by
      have e : (HandSHeadRun.topDef (OpenLaw.row PySem.Challenge.rw_tryback_k06_whole_texts_refused).prog 72).name = ("law" : PySem.Str) := by kernel_rfl
      rw [← e]
      exact hmg0
    obtain ⟨fd, hb, hF⟩ := K06.facts (P := (PySem.Challenge.rw_tryback_k06_whole_texts_refused).prog) (w := w) KX G hmg c
    exact ⟨K, fd, K06.spLaw K, KX, hb, fun H a ns hl _ hS => ⟨a, ns, rfl, hS, hl, fun _ => rfl⟩, hF⟩

