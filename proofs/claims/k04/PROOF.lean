import PyProof.Rows.All
import Wide.All
import OpenK.AllK
import Wide.FinOn
import HandS.ForMost
import HandS.WordsExc
import HandS.ExcInit
import HandS.ExcIs
import HandS.ExcField
import HandS.ExcValue
import HandS.IsInst
import KE.KExcIs
import HandS.Defaults
import HandS.HeadHook1
import HandS.HeadHook2
import HandS.Wide
import HandS.Gcd
import HandS.NoneIn
import KE.SortData
import KE.DataMinMax
import HandS.SortKw
import HandS.SortInts
import HandS.DictComp
import HandS.Conv
import PyProof.P3In
import KE.KeyNested
import HandS.TryMany
import HandS.Flow
import KE.GoesMore
import KE.KDictZip
import PyProof.ListNew
import PyProof.TupleOfGen
import HandS.Zip
import HandS.Walk
import HandS.Deep
import HandS.Style
import HandS.OwnIter
import HandS.OwnEq
import HandS.IterVal
import HandS.Iter
import HandS.TupAny
import KE.KDictDisplayH
import HandS.Property
import HandS.Head0
import HandS.Head1
import HandS.Head2
import HandS.Head3
import HandS.HeadEnd
import KE.KStateDown
import PySem.Challenge.RW_feltstone_k04_whole_patches_made_and_ref
set_option Elab.async false
set_option linter.all false
set_option maxRecDepth 100000
set_option maxHeartbeats 4000000
/-! exceptions of own classes as values: made, read, asked for their class -/
namespace FX
open PySem PySem.Spec PyProof.Rows L2
/-- at e an exception of the class at C, with these fields -/
def ExAt (H : Hp) (e C : Addr) (fs : List (Str × V)) : Prop :=
  (fs = [] ∧ H e = some (exo e C none)) ∨ ∃ d, H e = some (exo e C (some d)) ∧ H d = some (exd d fs)
theorem ExAt.same {H H' : Hp} {e C : Addr} {fs : List (Str × V)} (x : ExAt H e C fs) (s : Same H H') : ExAt H' e C fs := by
  rcases x with ⟨a, b⟩ | ⟨d, a, b⟩
  · exact .inl ⟨a, s _ _ b⟩
  · exact .inr ⟨d, s _ _ a, s _ _ b⟩
/-- what an exception class's own constructor does -/
def spInit (C : Addr) (names : List Str) : Sp := fun vs H Q _ => ∃ (a : Addr) (ws : List V), vs = .ref a :: ws ∧ ws.length = names.length ∧ H a = some (exo a C none) ∧
  ∀ H' d, (∀ b o, b ≠ a → H b = some o → H' b = some o) → H' a = some (exo a C (some d)) → H' d = some (exd d (names.zip ws).reverse) → H d = none → Q .non H'
/-- the text's facts of an exception class, as one look -/
def oexB (K : PySem.W.Frag) (C : Addr) : Bool := (match K.lookup C with
    | some ⟨.type "type", _, .cls cd, sl⟩ => (match cd.mro, sl.toList with
      | .ref D :: bm, [_, _, _, _, some (.builtin n), _] => decide (D = C) && (decide (n = "ValueError.__new__") && (!cd.hasDel && (cd.hasDict && PySem.HandSPX.refsVE bm)))
      | _, _ => false)
    | _ => false) && (He.eqO (PySem.W.findIn K (.ref C) "__setattr__") (some (some (.builtin "object.__setattr__"))) && (decide (PySem.W.subIn K (.ref C) (.type "BaseException") = some true) && (decide (PySem.W.typeIn K (.ref C) = some (.type "type")) && PySem.W.keepIn K (.ref C))))
theorem oexB_ok {K : PySem.W.Frag} {C : Addr} (h : oexB K C = true) : OexC K C := by
  obtain ⟨h0, h⟩ := He.ba h
  obtain ⟨h1, h⟩ := He.ba h
  obtain ⟨h2, h⟩ := He.ba h
  obtain ⟨h3, h4⟩ := He.ba h
  refine ⟨?_, He.eqO_ok h1, of_decide_eq_true h2, of_decide_eq_true h3, h4⟩
  split at h0
  · rename_i dd cd sl lk
    split at h0
    · rename_i D bm k0 k1 k2 k3 n k5 em es
      obtain ⟨a, h0⟩ := He.ba h0
      obtain ⟨b, h0⟩ := He.ba h0
      obtain ⟨c, h0⟩ := He.ba h0
      obtain ⟨d, e⟩ := He.ba h0
      obtain rfl := of_decide_eq_true a
      obtain rfl := of_decide_eq_true b
      obtain ⟨nm, bs, mro, ns, qn, hd, sn, sub, ab, col, del⟩ := cd
      obtain ⟨l⟩ := sl
      dsimp only at em es c d
      subst em es d
      have c' : del = false := by simpa using c
      subst c'
      exact ⟨nm, qn, ns, bs, bm, sn, sub, ab, col, dd, k0, k1, k2, k3, k5, lk, e⟩
    · cases h0
  · cases h0
def isB (K : PySem.W.Frag) (D : Addr) : Bool := He.eqO (PySem.W.findIn K (.ref D) "__getattribute__") (some (some (.builtin "BaseException.__getattribute__"))) && (He.eqO (PySem.W.findIn K (.ref D) "__getattr__") (some none) &&
  (decide (PySem.W.subIn K (.ref D) (.type "BaseException") = some true) && (PySem.W.hasDictIn K D && (He.eqO (PySem.W.findIn K (.ref D) "__class__") (some (some (.builtin "object.__class__"))) &&
  (He.eqO (PySem.W.specialIn K (.builtin "object.__class__") "__get__") (some (some (.builtin "getset_descriptor.__get__"))) && (decide (PySem.W.takesIn K (.builtin "object.__class__") = some true) && decide (PySem.W.mroIn K D (.type "object") = some true)))))))
theorem isB_ok {K : PySem.W.Frag} {D : Addr} (h : isB K D = true) : ExcC K D := by
  obtain ⟨h1, h⟩ := He.ba h
  obtain ⟨h2, h⟩ := He.ba h
  obtain ⟨h3, h⟩ := He.ba h
  obtain ⟨h4, h⟩ := He.ba h
  obtain ⟨h5, h⟩ := He.ba h
  obtain ⟨h6, h⟩ := He.ba h
  obtain ⟨h7, h8⟩ := He.ba h
  exact ⟨He.eqO_ok h1, He.eqO_ok h2, of_decide_eq_true h3, h4, He.eqO_ok h5, He.eqO_ok h6, of_decide_eq_true h7, of_decide_eq_true h8⟩
/-- a class with its own constructor (the fields' names), or without one -/
def clsB (K : PySem.W.Frag) (x : Str) (names : List Str) : Bool := (He.Fa.glo x).ok K && (oexB K (He.ga K x) && (isB K (He.ga K x) && (names.all (fun f => (He.Fa.noat x f).ok K) && (if names = [] then PySem.W.excIn K (He.ga K x) He.veBase "ValueError.__new__" else
  (He.eqO (PySem.W.findIn K (.ref (He.ga K x)) "__init__") (some (some (.ref (He.ma K (He.ga K x) "__init__")))) && decide (PySem.W.typeIn K (.ref (He.ma K (He.ga K x) "__init__")) = some (.type "function")))))))
structure ClsOk (K : PySem.W.Frag) (x : Str) (names : List Str) : Prop where
  glo : (He.Fa.glo x).ok K = true
  o : OexC K (He.ga K x)
  is : ExcC K (He.ga K x)
  no : ∀ f ∈ names, PySem.W.findIn K (.ref (He.ga K x)) f = some none
  xin : names = [] → PySem.W.excIn K (He.ga K x) [.type "ValueError", .type "Exception", .type "BaseException", .type "object"] "ValueError.__new__" = true
  ini : names ≠ [] → PySem.W.findIn K (.ref (He.ga K x)) "__init__" = some (some (.ref (He.ma K (He.ga K x) "__init__")))
  ity : names ≠ [] → PySem.W.typeIn K (.ref (He.ma K (He.ga K x) "__init__")) = some (.type "function")
theorem clsB_ok {K : PySem.W.Frag} {x : Str} {names : List Str} (h : clsB K x names = true) : ClsOk K x names := by
  obtain ⟨h1, h⟩ := He.ba h
  obtain ⟨h2, h⟩ := He.ba h
  obtain ⟨h3, h⟩ := He.ba h
  obtain ⟨h4, h5⟩ := He.ba h
  refine ⟨h1, oexB_ok h2, isB_ok h3, fun f hf => He.noat_ok (List.all_eq_true.mp h4 f hf), fun e => ?_, fun e => ?_, fun e => ?_⟩
  · rw [if_pos e] at h5; exact h5
  · rw [if_neg e] at h5; exact He.eqO_ok (He.ba h5).1
  · rw [if_neg e] at h5; exact of_decide_eq_true (He.ba h5).2
theorem fun_of {K : PySem.W.Frag} {x q : Str} {st : Stmt} {f : Addr} {fd : FuncData} (F : FunD K x q (defArgs st) (defBody st) (defScope st) [] [] f fd) : Fun K x q st f fd := by
  obtain ⟨oc, od, dV, kV, doc, pm, an, cdv, ct, osl, rfl, lk, hcd, hD, hK⟩ := F.ex
  rcases hD with ⟨_, rfl⟩ | ⟨e, _⟩
  · exact ⟨⟨oc, od, kV, doc, pm, an, cdv, ct, osl, rfl, lk, hcd⟩, F.kp⟩
  · exact absurd rfl e
section
variable {X : Cx} {pins : List (Addr × Obj)} {σ : L2.St} {H : Hp} {s : Shared}
/-- the exception as the library sees it -/
theorem ExAt.inst {e C : Addr} {fs : List (Str × V)} (I : Inv X pins σ H s) (x : ExAt H e C fs) :
    ∃ (oe : Obj) (od : Option Obj), PySem.W.InstAt s.heap e oe C od ∧ (∀ f v, fs.lookup f = some v → ∃ oo u, od = some oo ∧ PySem.W.lookIn f oo = some (some u) ∧ RelV v u) := by
  rcases x with ⟨rfl, a⟩ | ⟨d, a, b⟩
  · obtain ⟨t1, h1⟩ := exo_at I.hok a
    exact ⟨_, none, ⟨h1, rfl, rfl, trivial⟩, fun f v l => by cases l⟩
  · obtain ⟨t1, h1⟩ := exo_at I.hok a
    obtain ⟨mA, hns, rel⟩ := exd_at I.hok b
    obtain ⟨od, ho, hl⟩ := lookIn_ns hns
    refine ⟨_, some od, ⟨h1, rfl, rfl, ho⟩, fun f v l => ?_⟩
    obtain ⟨u, hu, ru⟩ := RelO.some_of (v := v) (o := mA f) (by rw [← l]; exact rel f)
    exact ⟨od, u, rfl, by rw [hl, hu], ru⟩
/-- isinstance of such a value -/
def rIsX (K : PySem.W.Frag) : List V → Hp → VK → Prop := fun xs H Q => ∃ (e C : Addr) (fs : List (Str × V)) (c : V) (cv : Value) (b : Bool),
  xs = [.ref e, c] ∧ ExAt H e C fs ∧ ExcC K C ∧ ClsV c cv ∧ PySem.W.kitOne K (.ref C) cv = some b ∧ Q (.bl b) H
theorem call_isX : CallR X (.builtin "isinstance") (rIsX X.K) := by
  intro pins s σ H xs us Q I r h
  obtain ⟨e, C, fs, c, cv, b, rfl, x, T, k, hk, q⟩ := h
  obtain ⟨u1, u2, rfl, r1, r2⟩ := vals2 r
  obtain rfl := k.eq r2
  cases (show u1 = Value.ref e from r1)
  obtain ⟨oe, od, J, _⟩ := ExAt.inst I x
  obtain ⟨cd, hcd, _⟩ := PySem.W.any_some T.hd
  exact PySem.W.kia_one (PySem.W.kitx_exc (by rw [hcd]; rfl) T.hg T.hk T.hs T.ha T.hn T.ht T.hm) I.kIn J hk (fun z => nomatch z) fun tk => ⟨.bl b, H, I.tok tk, rfl, q⟩
/-- e.f -/
def tXv (K : PySem.W.Frag) (f : Str) (te : TE) : TE := fun σ H Q => te σ H fun x H1 => ∃ (e C : Addr) (fs : List (Str × V)) (v : V), x = .ref e ∧ ExAt H1 e C fs ∧ ExcC K C ∧ PySem.W.findIn K (.ref C) f = some none ∧ fs.lookup f = some v ∧ Q v H1
theorem pe_xv {e : Expr} {te : TE} {f : Str} {pos : Pos} (he : PE X e te) (hb : attributeBase e f X.env (eval e X.env) = eval e X.env := by rfl) : PE X (.Attribute e f pos) (tXv X.K f te) := by
  refine ⟨fun pins s σ H Q I h => ?_⟩
  refine attr_of hb (thn (he.run pins s σ H _ I h) fun u s1 hh => ?_)
  obtain ⟨x, H1, I1, rx, a, C, fs, v, rfl, ex, T, hno, l, q⟩ := hh
  cases (show u = Value.ref a from rx)
  obtain ⟨oe, od, J, hl⟩ := ExAt.inst I1 ex
  obtain ⟨oo, u, rfl, hu, ru⟩ := hl f v l
  exact PySem.HandSPX.exc_get I1.kIn J T.hg T.hk T.hs (PySem.W.findObj_own T.hd hno rfl hu) (handed_of ru) ⟨v, H1, I1.tok _, ru, q⟩
/-- C(..) as a value -/
def tEx (C : Addr) (names : List Str) (ta : TA) : TE := fun σ H Q => ta σ H fun vs H1 => vs.length = names.length ∧ vs.length ≤ 1000 ∧ ∀ e H', H1 e = none → Same H1 H' → ExAt H' e C (names.zip vs).reverse → Q (.ref e) H'
theorem pe_ex {x : Str} {C fI : Addr} {k : Nat} {fd : FuncData} {ps names : List Str} {e : Expr} {es : List Expr} {ta : TA} {p pos : Pos} (T : OexC X.K C) (iC : PySem.W.findIn X.K (.ref C) "__init__" = some (some (.ref fI))) (tI : PySem.W.typeIn X.K (.ref fI) = some (.type "function"))
    (F1 : FnOk X.prog X.w X.K X.mg X.base CX0 k fI fd ps (spInit C names)) (hr : Room (k + 1) X.A) (hb : Binds X.K fd ps []) (hg : Gl X x) (hm : X.mg x = some (.ref C)) (ha : PA X (e :: es) ta)
    (hdb : (x == ("__debug__" : Str)) = false := by decide) (he : starEach (e :: es) X.env = (false, eval e X.env) :: starEach es X.env := by rfl) (hpl : (backTo pos (starEach es X.env)).any (·.1) = false := by rfl) :
    PE X (.Call (.Name x p) (e :: es) [] pos) (tEx C names ta) := by
  refine ⟨fun pins s σ H Q I h => ?_⟩
  obtain ⟨nm, q, N, bs, bm, sn, sub, ab, col, dd, k0, k1, k2, k3, k5, hC, hbm⟩ := T.cls
  refine wpAny_Call_Name_kw (ld_glob I hg hm ?_ hdb)
  refine PySem.W.callWith_K (h₀ := X.base) I.ok.mod.kin T.kC (thn (ha.run pos pins s σ H _ I h) fun us s1 ⟨vs, H1, I1, r1, hl, hz, q1⟩ => ⟨I1.kIn, ?_⟩) he hpl
  show wpAny _ _ (call (.ref C) us) _ _ _
  obtain ⟨hp, g, dr, tk, os⟩ := s1
  have hsz : hp.objs.size ≤ hp.objs.size + 1 := Nat.le_succ _
  have hn : H1 (hp.objs.size + 1) = none := I1.hok.fresh hsz
  have kk : ∀ b o, hp.get? b = some o → ((hp.push (PySem.W.kdv_tup us)).push (PySem.HandSPX.excO C hp.objs.size)).get? b = some o := fun b o e => Heap.get?_push_of_some _ (Heap.get?_push_of_some _ e)
  have hget : ((hp.push (PySem.W.kdv_tup us)).push (PySem.HandSPX.excO C hp.objs.size)).get? (hp.objs.size + 1) = some (PySem.HandSPX.excO C hp.objs.size) := by heap_get
  have I2 : Inv X pins σ (upd H1 (hp.objs.size + 1) (exo (hp.objs.size + 1) C none)) ⟨(hp.push (PySem.W.kdv_tup us)).push (PySem.HandSPX.excO C hp.objs.size), g, dr, tk, os⟩ :=
    I1.laid (t' := tk) (a := hp.objs.size + 1) (o := exo (hp.objs.size + 1) C none) (h' := (hp.push (PySem.W.kdv_tup us)).push (PySem.HandSPX.excO C hp.objs.size)) kk hsz (exo_ok hget)
  have r2 : Vals (V.ref (hp.objs.size + 1) :: vs) (Value.ref (hp.objs.size + 1) :: us) := .cons rfl r1
  have hq : spInit C names (V.ref (hp.objs.size + 1) :: vs) (upd H1 (hp.objs.size + 1) (exo (hp.objs.size + 1) C none)) (fun v H2 => v = .non ∧ Q (.ref (hp.objs.size + 1)) H2) E0 := by
    refine ⟨_, vs, rfl, hl, upd_same, fun H' d keep ea ed _ => ⟨rfl, q1 _ H' hn (fun b o z => ?_) (.inr ⟨d, ea, ed⟩)⟩⟩
    have nb : b ≠ hp.objs.size + 1 := ne_of_none z hn
    exact keep b o nb (by rw [upd_ne nb]; exact z)
  have hlen : (Value.ref (hp.objs.size + 1) :: us).length = ps.length := by
    have e := r2.length
    rw [F1.len _ _ _ _ hq] at e
    exact e.symm
  have hus : us.length ≤ sizeLine := by
    rw [← Paired.length r1, sizeLine_eq]
    omega
  have bb : BindsTo ⟨(hp.push (PySem.W.kdv_tup us)).push (PySem.HandSPX.excO C hp.objs.size), g, dr, tk, os⟩ fd ⟨Value.ref (hp.objs.size + 1) :: us, []⟩ (ps.zip (Value.ref (hp.objs.size + 1) :: us)) := by
    have z := hb ⟨(hp.push (PySem.W.kdv_tup us)).push (PySem.HandSPX.excO C hp.objs.size), g, dr, tk, os⟩ (Value.ref (hp.objs.size + 1) :: us) I2.kIn (by rw [List.append_nil]; exact hlen)
    rw [List.append_nil] at z
    exact z
  refine wpAny_call (PySem.HandSPX.call_own F.excBase_ValueError (fun Y => PySem.HandSPX.refsVE_contains Y bm hbm) (I1.kIn _ _ hC) (PySem.W.looks_findIn I1.kIn iC) (fun self => PySem.W.bind_fn I1.kIn self tI) hus
    (codeAny_mono (F1.run _ X.stack _ _ ⟨Value.ref (hp.objs.size + 1) :: us, []⟩ (Value.ref (hp.objs.size + 1) :: us) _ _ E0 (hr.make C us []) (I2.env0.make C us []) bb r2 hq) fun r s' hq' => ?_))
  cases r with
  | error er => exact False.elim hq'
  | ok fl =>
    cases fl with
    | ret u =>
      obtain ⟨v, H', I3, rv, ev, q3⟩ := I2.after hq'
      subst ev
      exact ⟨rv, ⟨V.ref (hp.objs.size + 1), H', I3, rfl, q3⟩⟩
    | next => exact False.elim hq'
    | brk => exact False.elim hq'
    | cont => exact False.elim hq'
theorem pe_ex0 {x : Str} {C : Addr} {p pos : Pos} (T : OexC X.K C) (q : PySem.W.excIn X.K C [.type "ValueError", .type "Exception", .type "BaseException", .type "object"] "ValueError.__new__" = true) (hg : Gl X x) (hm : X.mg x = some (.ref C))
    (hdb : (x == ("__debug__" : Str)) = false := by decide) : PE X (.Call (.Name x p) [] [] pos) (tEx C [] tNil) := by
  refine ⟨fun pins s σ H Q I h => ?_⟩
  refine wpAny_Call_Name_kw (ld_glob I hg hm ?_ hdb)
  refine PySem.W.callWith_K0 I.kIn T.kC ?_
  obtain ⟨_, _, q1⟩ := h
  obtain ⟨hp, g, dr, tk, os⟩ := s
  obtain ⟨bm, N, nm, qn, bs, hdct, sn, sub, ab, col, dd, k0, k1, k2, k3, k5, mN, hC, hN, hni, Tl⟩ := exc_obj I.kIn q
  refine wpAny_call_exc_subT F.excBase_ValueError Tl hC hN hni (fun h' a hm => ?_) (by show 0 ≤ sizeLine; exact Nat.zero_le _)
  have hn : H a = none := I.hok.gone hm.new
  obtain ⟨t, ht, _, _⟩ := hm.there
  refine ⟨.ref a, upd H a (exo a C none), I.laidN hm.keeps hm.new hn (exo_ok ht), rfl, q1 a _ hn (fun b o z => ?_) (.inl ⟨rfl, upd_same⟩)⟩
  rw [upd_ne (ne_of_none z hn)]; exact z
end
end FX
set_option Elab.async false
set_option linter.all false
set_option maxRecDepth 100000
set_option maxHeartbeats 4000000
/-! a try with several clauses, each with a name for the error or without one; what a suite asks of the error -/
namespace FX
open PySem PySem.Spec PyProof.Rows L2
abbrev Clau := Value × Option Nat × (Addr → Value → Option Addr → TS)
def endsAs (o : Option Nat) (D : Ends) : Ends := match o with
  | none => D
  | some i => ⟨fun st hp => D.nx (st.set i none) hp, D.rt, fun st hp => D.bk (st.set i none) hp, fun st hp => D.ct (st.set i none) hp⟩
def inAs (o : Option Nat) (a : Addr) (st : L2.St) : L2.St := match o with
  | none => st
  | some i => st.set i (some (.ref a))
def wNm (K : PySem.W.Frag) (Wout : WX) (D : Ends) : List Clau → WX
  | [] => Wout
  | (c, o, ts) :: r => fun cls d st hp => ∃ b, PySem.W.exmOne K cls c = some b ∧ (b = true → ∀ a, hp a = none → ts a cls d (endsAs o D) (inAs o a st) hp) ∧ (b = false → wNm K Wout D r cls d st hp)
inductive HdsN (X : Cx) : List ExceptHandler → List Clau → Prop
  | nil : HdsN X [] []
  | plain {x : Str} {c : Value} {ts : Addr → Value → Option Addr → TS} {b0 : Stmt} {su : List Stmt} {np ps : Pos} {hl : List ExceptHandler} {l : List Clau} (hc : Names X x c)
      (hsu : ∀ (a : Addr) (oe : Obj) (cls : Value) (d : Option Addr) (pn : List (Addr × Obj)), Zc cls d oe → (∃ vs, oe.data = .fields vs) → PSs (X.suite a ((a, oe) :: pn)) (b0 :: su) (ts a cls d)) (r : HdsN X hl l) :
      HdsN X (.ExceptHandler (some (.Name x np)) none (b0 :: su) ps :: hl) ((c, none, ts) :: l)
  | named {x n : Str} {c : Value} {i : Nat} {ts : Addr → Value → Option Addr → TS} {b0 : Stmt} {su : List Stmt} {np ps : Pos} {hl : List ExceptHandler} {l : List Clau} (hc : Names X x c) (hN : X.N.Nodup) (hi : X.N[i]? = some n) (hln : X.env.kindOf n = some .local)
      (hsu : ∀ (a : Addr) (oe : Obj) (cls : Value) (d : Option Addr) (pn : List (Addr × Obj)), Zc cls d oe → (∃ vs, oe.data = .fields vs) → PSs (X.suite a ((a, oe) :: pn)) (b0 :: su) (ts a cls d)) (r : HdsN X hl l) :
      HdsN X (.ExceptHandler (some (.Name x np)) (some n) (b0 :: su) ps :: hl) ((c, some i, ts) :: l)
section
variable {X : Cx}
theorem names_own {x : Str} {C : Addr} (hg : Gl X x) (hm : X.mg x = some (.ref C)) (hd : (x == ("__debug__" : Str)) = false := by decide) : Names X x (.ref C) := ⟨hg, hd, .inl hm⟩
/-- the class that a clause names is asked for -/
theorem ask_class {x : Str} {np : Pos} {c : Value} {a : Addr} {oe : Obj} {pl : List (Addr × Obj)} {st : L2.St} {hp : Hp} {s : Shared} (hc : Names X x c) (J : Inv (X.suite a ((a, oe) :: pl)) [] st hp s) {Q : Value → Shared → Prop} {E : Value → Shared → Prop} (q : Q c s) :
    wpAny (model X.prog X.w) (X.A.mark (some (.ref a))) (eval (.Name x np) X.env) Q E s := by
  rcases hc with ⟨hg, hb, hm | ⟨hm, hv, hnn⟩⟩
  · exact ld_glob (X := X.suite a ((a, oe) :: pl)) J hg hm q hb
  · exact ld_blt (X := X.suite a ((a, oe) :: pl)) J hg hm hv q hnn hb
theorem ps_try_nm {body : List Stmt} {h0 : ExceptHandler} {hl : List ExceptHandler} {l : List Clau} {pos : Pos} {tb : WX → TS} {Wout : WX} (stk : X.stack = X.env :: X.outer) (fra : X.env.frame = some X.env.locals) (tk : Takes X Wout)
    (hb : ∀ (W : WX) (pn : List (Addr × Obj)) (xe : Value → Shared → Prop), Takes (X.tr pn xe) W → PassesOwn (model X.prog X.w) X.A X.env xe → PSs (X.tr pn xe) body (tb W)) (hh : HdsN X (h0 :: hl) l) :
    PS X (.Try body (h0 :: hl) [] [] pos) (fun D st hp => tb (wNm X.K Wout D l) D st hp) := by
  refine ⟨fun pins s σ H D I h => ?_⟩
  have fine := I.ok
  have frs2 : X.A.frames = some (X.env :: X.outer) := fine.frames.trans (congrArg some stk)
  refine wpAny_Try_except (wpAny_mono ((hb (wNm X.K Wout D l) (X.pn ++ pins) (fun x z => wpAny (model X.prog X.w) X.A (noteFrame x X.env) (fun _ z2 => wpAny (model X.prog X.w) X.A (setFlight x none) (fun _ z3 =>
    wpAny (model X.prog X.w) X.A (handleBy x X.env (h0 :: hl)) (SP X pins D) X.xe z3) X.xe z2) X.xe z) (fun u t0 air => ?_) PassesOwn.looking).run [] s σ H D (I.toTry _) h) (fun f t0 got => ?_) (fun _ _ bad => bad))
  · obtain ⟨ad, gr, sI, pp, st, hp, cls, d, rfl, J1, nb, up, sky, na, os, ag, w⟩ := air
    have J : Inv X pins st hp sI := J1.ofTry fine
    have sky2 : Sky gr (X.env :: X.outer) ad (Zc cls d) X.env.locals t0.heap := stk ▸ sky
    show wpAny (model X.prog X.w) X.A (noteFrame (.ref ad) X.env) _ _ _
    refine Sky.land Zc.steady frs2 fra sky2 fun hA flA upA => ?_
    have JA : Inv X pins st hp { t0 with heap := hA } := J.landed nb flA.1 (up.trans upA) os ag
    obtain ⟨oA, vA, gA, zA, dA⟩ := flA.there
    have off : ad ∉ frs (X.env :: X.outer) := fun mem => by
      obtain ⟨_, o2, g2, bad⟩ := flA.2.2.1.mem mem
      rw [gA] at g2
      cases g2
      exact bad _ dA
    have offL : ad ≠ X.env.locals := fun z => off (List.mem_filterMap.mpr ⟨X.env, List.mem_cons_self, by rw [fra, z]⟩)
    have offF : ad ∉ X.fs := fun mem => by
      obtain ⟨v, hv, z⟩ := List.mem_filterMap.mp mem
      exact off (List.mem_filterMap.mpr ⟨v, List.mem_cons_of_mem _ hv, z⟩)
    have SA := JA.suite gA dA na offL offF
    have all : ∀ {hq : List ExceptHandler} {lq : List Clau}, HdsN X hq lq → wNm X.K Wout D lq cls d st hp → wpAny (model X.prog X.w) X.A (handleBy (.ref ad) X.env hq) (SP X pins D) X.xe { t0 with heap := hA } := by
      intro hq lq k
      induction k with
      | nil =>
        intro w
        refine wpAny_handleBy_nil ?_
        obtain ⟨_, _, _, oe, vs, tb2, _, _, he, _, hd, h1, _⟩ := id flA
        unfold PySem.passOn
        refine wpAny_bind (wpAny_field he hd h1 ?_)
        rw [if_neg (show ¬ ((Value.ref tb2 == Value.none) = true) by simp)]
        have fin : wpAny (model X.prog X.w) X.A (setFlight (.ref ad) X.env.frame) (fun _ z4 => wpAny (model X.prog X.w) X.A (throw (.ref ad) : Sem Flow) (SP X pins D) X.xe z4) X.xe { t0 with heap := hA } := by
          rw [fra]
          refine HandSPX.setFlight_upZ flA fun hB hhB upB => wpAny_throw (tk _ _ ?_)
          exact ⟨ad, gr, sI, pins, st, hp, cls, d, rfl, J, nb, (up.trans upA).trans upB, .inr (.inr (stk ▸ hhB)), na, os, ag, w⟩
        first
          | exact wpAny_bind (wpAny_pure (wpAny_bind fin))
          | exact wpAny_bind fin
      | plain hc hsu r ih =>
        intro w
        obtain ⟨b, hb1, yes, no⟩ := w
        refine wpAny_handleBy_cons (codeAny_handlers_test ?_) (by intro q; cases q)
        have look := PySem.W.exm_one (M := model X.prog X.w) JA.kIn (fun A Q E s k q => wpAny_typeOf_ref (k _ _ gA) (by rw [zA.1]; exact q)) hb1
        refine ask_class hc SA (look.here ?_)
        cases b with
        | false => exact ih (no rfl)
        | true =>
          refine codeAny_handlers_suite (HandSPX.lands_againZ flA fun hB flB upB => ?_)
          have JB : Inv X pins st hp { t0 with heap := hB } := J.landed nb flB.1 ((up.trans upA).trans upB) os ag
          obtain ⟨oB, vB, gB, zB, dB⟩ := flB.there
          refine wpAny_mono ((hsu ad oB cls d (X.pn ++ pins) zB ⟨_, dB⟩).run [] _ _ hp _ (JB.suite gB dB na offL offF) (yes rfl ad na)) (fun f z6 got => ?_) (fun _ _ z => False.elim z)
          cases f with
          | ret u => obtain ⟨v6, st6, hp6, S6, r6, q6⟩ := got; exact ⟨_, _, _, S6.unsuite fine, r6, q6⟩
          | next => obtain ⟨st6, hp6, S6, q6⟩ := got; exact ⟨_, _, S6.unsuite fine, q6⟩
          | brk => obtain ⟨st6, hp6, S6, q6⟩ := got; exact ⟨_, _, S6.unsuite fine, q6⟩
          | cont => obtain ⟨st6, hp6, S6, q6⟩ := got; exact ⟨_, _, S6.unsuite fine, q6⟩
      | @named x n c i ts b0 su np ps hl2 l2 hc hN hi hln hsu r ih =>
        intro w
        obtain ⟨b, hb1, yes, no⟩ := w
        refine wpAny_handleBy_cons (codeAny_handlers_test ?_) (by intro q; cases q)
        have look := PySem.W.exm_one (M := model X.prog X.w) JA.kIn (fun A Q E s k q => wpAny_typeOf_ref (k _ _ gA) (by rw [zA.1]; exact q)) hb1
        refine ask_class hc SA (look.here ?_)
        cases b with
        | false => exact ih (no rfl)
        | true =>
          refine codeAny_handlers_suite_as (HandSPX.lands_againZ flA fun hB flB upB => ?_)
          have JB : Inv X pins st hp { t0 with heap := hB } := J.landed nb flB.1 ((up.trans upA).trans upB) os ag
          obtain ⟨oB, vB, gB, zB, dB⟩ := flB.there
          refine store_ok (X := X.suite ad ((ad, oB) :: (X.pn ++ pins))) (v := .ref ad) (JB.suite gB dB na offL offF) hN hi (.inl hln) rfl (fun z5 S5 => ?_) (.inr hln)
          refine wpAny_mono ((hsu ad oB cls d (X.pn ++ pins) zB ⟨_, dB⟩).run [] z5 _ hp _ S5 (yes rfl ad na)) (fun f z6 got => ?_) (fun _ _ z => False.elim z)
          have gone : ∀ {st6 : L2.St} {hp6 : Hp} {Q : Shared → Prop}, Inv (X.suite ad ((ad, oB) :: (X.pn ++ pins))) [] st6 hp6 z6 → (∀ z7, Inv X pins (st6.set i none) hp6 z7 → Q z7) →
              wpAny (model X.prog X.w) X.A (do bindName X.env n .none; unbindBehindTheSuite X.env n ps) (fun _ z7 => Q z7) X.xe z6 := fun S6 hq => gone_ok (S6.unsuite fine) hN hi hln hq
          cases f with
          | ret u => obtain ⟨v6, st6, hp6, S6, r6, q6⟩ := got; exact gone S6 fun z7 J7 => ⟨_, _, _, J7, r6, q6⟩
          | next => obtain ⟨st6, hp6, S6, q6⟩ := got; exact gone S6 fun z7 J7 => ⟨_, _, J7, q6⟩
          | brk => obtain ⟨st6, hp6, S6, q6⟩ := got; exact gone S6 fun z7 J7 => ⟨_, _, J7, q6⟩
          | cont => obtain ⟨st6, hp6, S6, q6⟩ := got; exact gone S6 fun z7 J7 => ⟨_, _, J7, q6⟩
    exact all hh w
  · cases f with
    | ret u => obtain ⟨v, st, hp, J, r, q⟩ := got; exact ⟨v, st, hp, J.ofTry fine, r, q⟩
    | next => obtain ⟨st, hp, J, q⟩ := got; exact wpAny_execs_nil ⟨st, hp, J.ofTry fine, q⟩
    | brk => obtain ⟨st, hp, J, q⟩ := got; exact ⟨st, hp, J.ofTry fine, q⟩
    | cont => obtain ⟨st, hp, J, q⟩ := got; exact ⟨st, hp, J.ofTry fine, q⟩
/-- isinstance of the error that the suite holds -/
def rIsP (K : PySem.W.Frag) (a : Addr) (cls : Value) (d : Option Addr) : List V → Hp → VK → Prop := fun xs hp Q => ∃ (C : Addr) (c : V) (cv : Value) (b : Bool), xs = [.ref a, c] ∧ cls = .ref C ∧ ExcC K C ∧
  (d = none ∨ ∃ dd fs, d = some dd ∧ hp dd = some (.xd fs)) ∧ ClsV c cv ∧ PySem.W.kitOne K (.ref C) cv = some b ∧ Q (.bl b) hp
theorem call_isP {a : Addr} {oe : Obj} {cls : Value} {d : Option Addr} {pn : List (Addr × Obj)} (hz : Zc cls d oe) (hf : ∃ vs, oe.data = .fields vs) : CallR (X.suite a ((a, oe) :: pn)) (.builtin "isinstance") (rIsP X.K a cls d) := by
  intro pins s σ H xs us Q I r h
  obtain ⟨C, c, cv, b, rfl, rfl, T, hd, k, hk, q⟩ := h
  obtain ⟨u1, u2, rfl, r1, r2⟩ := vals2 r
  obtain rfl := k.eq r2
  cases (show u1 = Value.ref a from r1)
  obtain ⟨got, _⟩ := I.pin (a, oe) (List.mem_append_left _ List.mem_cons_self)
  obtain ⟨vs, hv⟩ := hf
  have J : ∃ od, PySem.W.InstAt s.heap a oe C od := by
    rcases hd with rfl | ⟨dd, fs, rfl, e⟩
    · exact ⟨none, got, hz.1, by unfold PySem.W.notCls; rw [hv] <;> rfl, by rw [hz.2]; trivial⟩
    · have hx : ObjOk X.prog X.w H s.heap dd (.xd fs) := I.hok dd _ e
      obtain ⟨mA, hns, _⟩ := hx
      obtain ⟨od, ho, _⟩ := lookIn_ns hns
      exact ⟨some od, got, hz.1, by unfold PySem.W.notCls; rw [hv] <;> rfl, by rw [hz.2]; exact ho⟩
  obtain ⟨od, J⟩ := J
  obtain ⟨cd, hcd, _⟩ := PySem.W.any_some T.hd
  exact PySem.W.kia_one (PySem.W.kitx_exc (by rw [hcd]; rfl) T.hg T.hk T.hs T.ha T.hn T.ht T.hm) I.kIn J hk (fun z => nomatch z) fun tk => ⟨.bl b, H, I.tok tk, rfl, q⟩
/-- an own error without a constructor, made to be raised -/
theorem pmk_ex0 {x : Str} {C : Addr} {p pos : Pos} (H0 : Hp) (e0 : X.H_0 = H0) (hx : X.ex = []) (T : OexC X.K C) (q : PySem.W.excIn X.K C [.type "ValueError", .type "Exception", .type "BaseException", .type "object"] "ValueError.__new__" = true) (hg : Gl X x) (hm : X.mg x = some (.ref C))
    (hdb : (x == ("__debug__" : Str)) = false := by decide) : PMk X (.Call (.Name x p) [] [] pos) (fun st hp Q => (∀ a, hp a = none → H0 a = none) ∧ Q (.ref C) none hp) := by
  have he : PE X (.Call (.Name x p) [] [] pos) (fun _ hp Q => ∀ a, hp a = none → Q (.ref a) (upd hp a (ExO (.ref C) a))) := by
    refine ⟨fun pins s σ H Q I h => ?_⟩
    refine wpAny_Call_Name_kw (ld_glob I hg hm ?_ hdb)
    refine PySem.W.callWith_K0 I.kIn T.kC ?_
    obtain ⟨h0, g, dr, tk, os⟩ := s
    obtain ⟨bm, N, nm, qn, bs, hdct, sn, sub, ab, col, dd, k0, k1, k2, k3, k5, mN, hC, hN, hni, Tl⟩ := exc_obj I.kIn q
    refine wpAny_call_exc_subT F.excBase_ValueError Tl hC hN hni (fun h' a hm => ?_) (by show 0 ≤ sizeLine; exact Nat.zero_le _)
    have hn : H a = none := I.hok.gone hm.new
    obtain ⟨t, ht, _, _⟩ := hm.there
    exact ⟨.ref a, upd H a (ExO (.ref C) a), I.laidN hm.keeps hm.new hn (exO_ok ht ⟨rfl, rfl⟩ rfl rfl rfl (show 4 < 6 by decide)), rfl, h a hn⟩
  intro pins s σ H Q I h
  obtain ⟨h0, hq⟩ := h
  refine pmk_ret hx he pins s σ H Q I fun a na => ⟨a, .ref C, rfl, upd_same, fr0_none (by rw [e0]; exact h0 a na), raises_own T.exC T.tyC, ?_⟩
  rw [delH_new na]
  exact hq
end
end FX
set_option Elab.async false
set_option linter.all false
set_option maxHeartbeats 4000000
/-! ratios as couples of ints, without the program -/
namespace RM
abbrev Rt := Int × Int
def g2 (t b : Int) : Int := ((Nat.gcd t.natAbs b.natAbs : Nat) : Int)
/-- lowest terms, for a bottom above 0 -/
def norm (t b : Int) : Rt := (t / g2 t b, b / g2 t b)
def IsRat (r : Rt) : Prop := 0 < r.2 ∧ Nat.gcd r.1.natAbs r.2.natAbs = 1
/-- r is t / b -/
def Rep (r : Rt) (t b : Int) : Prop := IsRat r ∧ 0 < b ∧ r.1 * b = t * r.2
theorem g2_pos {t b : Int} (hb : b ≠ 0) : 0 < g2 t b := by
  have : 0 < Nat.gcd t.natAbs b.natAbs := Nat.gcd_pos_of_pos_right _ (by omega)
  unfold g2; omega
theorem g2_pos' {t b : Int} (hb : t ≠ 0) : 0 < g2 t b := by
  have : 0 < Nat.gcd t.natAbs b.natAbs := Nat.gcd_pos_of_pos_left _ (by omega)
  unfold g2; omega
theorem g2_l (t b : Int) : ∃ k, t = g2 t b * k := by
  have h : ((Nat.gcd t.natAbs b.natAbs : Nat) : Int) ∣ t := Int.natAbs_dvd_natAbs.mp (by rw [Int.natAbs_natCast]; exact Nat.gcd_dvd_left _ _)
  exact h
theorem g2_r (t b : Int) : ∃ k, b = g2 t b * k := by
  have h : ((Nat.gcd t.natAbs b.natAbs : Nat) : Int) ∣ b := Int.natAbs_dvd_natAbs.mp (by rw [Int.natAbs_natCast]; exact Nat.gcd_dvd_right _ _)
  exact h
/-- both parts taken out -/
theorem g2_parts {t b : Int} (h : t ≠ 0 ∨ b ≠ 0) : ∃ x y, t = g2 t b * x ∧ b = g2 t b * y ∧ t / g2 t b = x ∧ b / g2 t b = y ∧ Nat.gcd x.natAbs y.natAbs = 1 := by
  have gp : 0 < g2 t b := by
    rcases h with h | h
    · exact g2_pos' h
    · exact g2_pos h
  obtain ⟨x, hx⟩ := g2_l t b
  obtain ⟨y, hy⟩ := g2_r t b
  have gn : g2 t b ≠ 0 := by omega
  refine ⟨x, y, hx, hy, Int.ediv_eq_of_eq_mul_right gn hx, Int.ediv_eq_of_eq_mul_right gn hy, ?_⟩
  have e : (g2 t b).natAbs = Nat.gcd t.natAbs b.natAbs := by unfold g2; exact Int.natAbs_natCast _
  have ex : t.natAbs = (g2 t b).natAbs * x.natAbs := by rw [← Int.natAbs_mul, ← hx]
  have ey : b.natAbs = (g2 t b).natAbs * y.natAbs := by rw [← Int.natAbs_mul, ← hy]
  have k : (g2 t b).natAbs = (g2 t b).natAbs * Nat.gcd x.natAbs y.natAbs := by
    rw [← Nat.gcd_mul_left, ← ex, ← ey]; exact e
  have gp2 : 0 < (g2 t b).natAbs := by omega
  exact Nat.eq_of_mul_eq_mul_left gp2 (by rw [Nat.mul_one]; exact k.symm)
theorem rep_norm {t b : Int} (hb : 0 < b) : Rep (norm t b) t b := by
  obtain ⟨x, y, hx, hy, dx, dy, c⟩ := g2_parts (t := t) (b := b) (.inr (by omega))
  have gp : 0 < g2 t b := g2_pos (by omega)
  unfold norm
  rw [dx, dy]
  refine ⟨⟨?_, c⟩, hb, ?_⟩
  · show 0 < y
    have z : 0 < g2 t b * y := hy ▸ hb
    exact (by
      rcases Int.lt_trichotomy 0 y with h | h | h
      · exact h
      · rw [← h, Int.mul_zero] at z; omega
      · have := Int.mul_neg_of_pos_of_neg gp h; omega)
  · show x * b = t * y
    have e1 : x * b = x * (g2 t b * y) := congrArg (x * ·) hy
    have e2 : t * y = (g2 t b * x) * y := congrArg (· * y) hx
    rw [e1, e2]; grind
theorem rep_self {r : Rt} (h : IsRat r) : Rep r r.1 r.2 := ⟨h, h.1, rfl⟩
theorem rat_eq {r s : Rt} (h : IsRat r) (k : IsRat s) (e : r.1 * s.2 = s.1 * r.2) : r = s := by
  obtain ⟨a, b⟩ := r
  obtain ⟨c, d⟩ := s
  obtain ⟨hb, h1⟩ := h
  obtain ⟨hd, k1⟩ := k
  dsimp only at *
  have en : a.natAbs * d.natAbs = c.natAbs * b.natAbs := by rw [← Int.natAbs_mul, ← Int.natAbs_mul, e]
  have bd : b.natAbs ∣ d.natAbs := by
    have : b.natAbs ∣ a.natAbs * d.natAbs := ⟨c.natAbs, by rw [en, Nat.mul_comm]⟩
    exact Nat.Coprime.dvd_of_dvd_mul_left (by rw [Nat.coprime_iff_gcd_eq_one, Nat.gcd_comm]; exact h1) this
  have db : d.natAbs ∣ b.natAbs := by
    have : d.natAbs ∣ c.natAbs * b.natAbs := ⟨a.natAbs, by rw [← en, Nat.mul_comm]⟩
    exact Nat.Coprime.dvd_of_dvd_mul_left (by rw [Nat.coprime_iff_gcd_eq_one, Nat.gcd_comm]; exact k1) this
  have e2 : b.natAbs = d.natAbs := Nat.dvd_antisymm bd db
  have e3 : b = d := by omega
  subst e3
  have e4 : a = c := Int.eq_of_mul_eq_mul_right (by omega) e
  rw [e4]
theorem rep_eq {r s : Rt} {t b t' b' : Int} (h : Rep r t b) (k : Rep s t' b') (e : t * b' = t' * b) : r = s := by
  obtain ⟨h1, hb, h2⟩ := h
  obtain ⟨k1, kb, k2⟩ := k
  refine rat_eq h1 k1 ?_
  have nz : b * b' ≠ 0 := by
    have : 0 < b * b' := Int.mul_pos hb kb
    omega
  refine Int.eq_of_mul_eq_mul_right nz ?_
  have e1 : r.1 * s.2 * (b * b') = (r.1 * b) * (s.2 * b') := by grind
  have e2 : s.1 * r.2 * (b * b') = (s.1 * b') * (r.2 * b) := by grind
  rw [e1, e2, h2, k2]
  have e3 : t * r.2 * (s.2 * b') = (t * b') * (r.2 * s.2) := by grind
  have e4 : t' * s.2 * (r.2 * b) = (t' * b) * (r.2 * s.2) := by grind
  rw [e3, e4, e]
theorem norm_of {r : Rt} {t b : Int} (h : Rep r t b) : norm t b = r := rep_eq (rep_norm h.2.1) h rfl
theorem norm_eq {t b t' b' : Int} (h : 0 < b) (k : 0 < b') (e : t * b' = t' * b) : norm t b = norm t' b' := rep_eq (rep_norm h) (rep_norm k) e
theorem norm_rat {t b : Int} (h : 0 < b) : IsRat (norm t b) := (rep_norm h).1
def radd (r s : Rt) : Rt := norm (r.1 * s.2 + s.1 * r.2) (r.2 * s.2)
def rneg (r : Rt) : Rt := (-r.1, r.2)
def rsub (r s : Rt) : Rt := norm (r.1 * s.2 - s.1 * r.2) (r.2 * s.2)
def rmul (r s : Rt) : Rt := norm (r.1 * s.1) (r.2 * s.2)
theorem rep_add {r s : Rt} {t b t' b' : Int} (h : Rep r t b) (k : Rep s t' b') : Rep (radd r s) (t * b' + t' * b) (b * b') := by
  obtain ⟨h1, hb, h2⟩ := h
  obtain ⟨k1, kb, k2⟩ := k
  have z := rep_norm (t := r.1 * s.2 + s.1 * r.2) (Int.mul_pos h1.1 k1.1)
  have pp : 0 < r.2 * s.2 := Int.mul_pos h1.1 k1.1
  refine ⟨z.1, Int.mul_pos hb kb, ?_⟩
  have nz : r.2 * s.2 ≠ 0 := by omega
  refine Int.eq_of_mul_eq_mul_right nz ?_
  have e := z.2.2
  show (norm (r.1 * s.2 + s.1 * r.2) (r.2 * s.2)).1 * (b * b') * (r.2 * s.2) = (t * b' + t' * b) * (norm (r.1 * s.2 + s.1 * r.2) (r.2 * s.2)).2 * (r.2 * s.2)
  generalize norm (r.1 * s.2 + s.1 * r.2) (r.2 * s.2) = n at e ⊢
  have e1 : n.1 * (b * b') * (r.2 * s.2) = (n.1 * (r.2 * s.2)) * (b * b') := by grind
  have e2 : (t * b' + t' * b) * n.2 * (r.2 * s.2) = ((t * r.2) * (s.2 * b') + (t' * s.2) * (r.2 * b)) * n.2 := by grind
  rw [e1, e2, e, ← h2, ← k2]; grind
theorem rep_neg {r : Rt} {t b : Int} (h : Rep r t b) : Rep (rneg r) (-t) b := by
  obtain ⟨⟨h0, h1⟩, hb, h2⟩ := h
  refine ⟨⟨h0, ?_⟩, hb, ?_⟩
  · show Nat.gcd (-r.1).natAbs r.2.natAbs = 1
    rw [Int.natAbs_neg]; exact h1
  · show -r.1 * b = -t * r.2
    rw [Int.neg_mul, Int.neg_mul, h2]
theorem rsub_eq (r s : Rt) : rsub r s = radd r (rneg s) := by
  unfold rsub radd rneg
  have : r.1 * s.2 - s.1 * r.2 = r.1 * s.2 + -s.1 * r.2 := by grind
  rw [this]
theorem rep_sub {r s : Rt} {t b t' b' : Int} (h : Rep r t b) (k : Rep s t' b') : Rep (rsub r s) (t * b' - t' * b) (b * b') := by
  rw [rsub_eq]
  have z := rep_add h (rep_neg k)
  have e : t * b' - t' * b = t * b' + -t' * b := by grind
  rw [e]; exact z
theorem rep_mul {r s : Rt} {t b t' b' : Int} (h : Rep r t b) (k : Rep s t' b') : Rep (rmul r s) (t * t') (b * b') := by
  obtain ⟨h1, hb, h2⟩ := h
  obtain ⟨k1, kb, k2⟩ := k
  have z := rep_norm (t := r.1 * s.1) (Int.mul_pos h1.1 k1.1)
  have pp : 0 < r.2 * s.2 := Int.mul_pos h1.1 k1.1
  refine ⟨z.1, Int.mul_pos hb kb, ?_⟩
  have nz : r.2 * s.2 ≠ 0 := by omega
  refine Int.eq_of_mul_eq_mul_right nz ?_
  have e := z.2.2
  show (norm (r.1 * s.1) (r.2 * s.2)).1 * (b * b') * (r.2 * s.2) = (t * t') * (norm (r.1 * s.1) (r.2 * s.2)).2 * (r.2 * s.2)
  generalize norm (r.1 * s.1) (r.2 * s.2) = n at e ⊢
  have e1 : n.1 * (b * b') * (r.2 * s.2) = (n.1 * (r.2 * s.2)) * (b * b') := by grind
  have e2 : (t * t') * n.2 * (r.2 * s.2) = ((t * r.2) * (t' * s.2)) * n.2 := by grind
  rw [e1, e2, e, ← h2, ← k2]; grind
/-! sizes -/
def Sz (n : Nat) (x : Int) : Prop := x.natAbs < 2 ^ n
theorem sz_mono {n m : Nat} {x : Int} (h : Sz n x) (k : n ≤ m) : Sz m x := Nat.lt_of_lt_of_le h (Nat.pow_le_pow_right (by decide) k)
theorem sz_neg {n : Nat} {x : Int} (h : Sz n x) : Sz n (-x) := by unfold Sz; rw [Int.natAbs_neg]; exact h
theorem sz_mul {n m : Nat} {x y : Int} (h : Sz n x) (k : Sz m y) : Sz (n + m) (x * y) := by
  unfold Sz
  rw [Int.natAbs_mul, Nat.pow_add]
  exact Nat.mul_lt_mul'' h k
theorem sz_add {n : Nat} {x y : Int} (h : Sz n x) (k : Sz n y) : Sz (n + 1) (x + y) := by
  unfold Sz at *
  have := Int.natAbs_add_le x y
  rw [Nat.pow_succ]; omega
theorem sz_sub {n : Nat} {x y : Int} (h : Sz n x) (k : Sz n y) : Sz (n + 1) (x - y) := by
  rw [Int.sub_eq_add_neg]; exact sz_add h (sz_neg k)
theorem sz_div {n : Nat} {t b : Int} (hb : t ≠ 0 ∨ b ≠ 0) (h : Sz n t) : Sz n (t / g2 t b) := by
  obtain ⟨x, y, hx, hy, dx, dy, c⟩ := g2_parts hb
  rw [dx]
  refine Nat.lt_of_le_of_lt ?_ h
  have e : t.natAbs = (g2 t b).natAbs * x.natAbs := by rw [← Int.natAbs_mul, ← hx]
  have gp : 0 < (g2 t b).natAbs := by
    rcases hb with z | z
    · have := g2_pos' (b := b) z; omega
    · have := g2_pos (t := t) z; omega
  rw [e]
  exact Nat.le_mul_of_pos_left _ gp
theorem sz_div' {n : Nat} {t b : Int} (hb : t ≠ 0 ∨ b ≠ 0) (h : Sz n b) : Sz n (b / g2 t b) := by
  obtain ⟨x, y, hx, hy, dx, dy, c⟩ := g2_parts hb
  rw [dy]
  refine Nat.lt_of_le_of_lt ?_ h
  have e : b.natAbs = (g2 t b).natAbs * y.natAbs := by rw [← Int.natAbs_mul, ← hy]
  have gp : 0 < (g2 t b).natAbs := by
    rcases hb with z | z
    · have := g2_pos' (b := b) z; omega
    · have := g2_pos (t := t) z; omega
  rw [e]
  exact Nat.le_mul_of_pos_left _ gp
theorem sz_g {n : Nat} {t b : Int} (hb : b ≠ 0) (h : Sz n b) : Sz n (g2 t b) := by
  refine Nat.lt_of_le_of_lt ?_ h
  unfold g2
  rw [Int.natAbs_natCast]
  exact Nat.gcd_le_right _ (by omega)
def SzR (n : Nat) (r : Rt) : Prop := Sz n r.1 ∧ Sz n r.2
theorem szr_mono {n m : Nat} {r : Rt} (h : SzR n r) (k : n ≤ m) : SzR m r := ⟨sz_mono h.1 k, sz_mono h.2 k⟩
theorem szr_norm {n : Nat} {t b : Int} (hb : 0 < b) (h : Sz n t) (k : Sz n b) : SzR n (norm t b) := ⟨sz_div (.inr (by omega)) h, sz_div' (.inr (by omega)) k⟩
theorem szr_add {n m : Nat} {r s : Rt} (hr : IsRat r) (hs : IsRat s) (h : SzR n r) (k : SzR m s) : SzR (n + m + 1) (radd r s) :=
  szr_norm (Int.mul_pos hr.1 hs.1) (sz_add (sz_mul h.1 k.2) (by rw [Nat.add_comm]; exact sz_mul k.1 h.2)) (sz_mono (sz_mul h.2 k.2) (Nat.le_succ _))
theorem szr_neg {n : Nat} {r : Rt} (h : SzR n r) : SzR n (rneg r) := ⟨sz_neg h.1, h.2⟩
theorem rat_neg {r : Rt} (h : IsRat r) : IsRat (rneg r) := ⟨h.1, by show Nat.gcd (-r.1).natAbs r.2.natAbs = 1; rw [Int.natAbs_neg]; exact h.2⟩
theorem szr_sub {n m : Nat} {r s : Rt} (hr : IsRat r) (hs : IsRat s) (h : SzR n r) (k : SzR m s) : SzR (n + m + 1) (rsub r s) := by
  rw [rsub_eq]; exact szr_add hr (rat_neg hs) h (szr_neg k)
theorem szr_mul {n m : Nat} {r s : Rt} (hr : IsRat r) (hs : IsRat s) (h : SzR n r) (k : SzR m s) : SzR (n + m) (rmul r s) :=
  szr_norm (Int.mul_pos hr.1 hs.1) (sz_mul h.1 k.1) (sz_mul h.2 k.2)
theorem rat_add {r s : Rt} (hr : IsRat r) (hs : IsRat s) : IsRat (radd r s) := norm_rat (Int.mul_pos hr.1 hs.1)
theorem rat_sub {r s : Rt} (hr : IsRat r) (hs : IsRat s) : IsRat (rsub r s) := norm_rat (Int.mul_pos hr.1 hs.1)
theorem rat_mul {r s : Rt} (hr : IsRat r) (hs : IsRat s) : IsRat (rmul r s) := norm_rat (Int.mul_pos hr.1 hs.1)
theorem rat_zero : IsRat (0, 1) := ⟨by decide, by decide⟩
theorem rat_one : IsRat (1, 1) := ⟨by decide, by decide⟩
end RM
set_option Elab.async false
set_option linter.all false
set_option maxRecDepth 100000
set_option maxHeartbeats 4000000
/-! data that does not change: what is known of it stays; defs by their names -/
namespace PB
open PySem PySem.Spec PyProof.Rows L2 FX RM
theorem same_t {K : PySem.W.Frag} {H H' : Hp} {a : Addr} {xs : List V} (s : Same H H') (h : SqT K H a xs) : SqT K H' a xs := by
  rcases h with (h | ⟨o, h⟩) | h
  · exact .inl (.inl (s _ _ h))
  · exact .inl (.inr ⟨o, s _ _ h⟩)
  · exact .inr h
mutual
theorem Dp_same {K : PySem.W.Frag} {H H' : Hp} (s : Same H H') : ∀ {v : V} {d : PyData}, Dp K H v d → Dp K H' v d
  | _, _, .non => .non
  | _, _, .bl b => .bl b
  | _, _, .int i => .int i
  | _, _, .str x => .str x
  | _, _, .lst h g => .lst (s.seq h) (DpAll_same s g)
  | _, _, .tup h g => .tup (same_t s h) (DpAll_same s g)
theorem DpAll_same {K : PySem.W.Frag} {H H' : Hp} (s : Same H H') : ∀ {vs : List V} {ds : List PyData}, DpAll K H vs ds → DpAll K H' vs ds
  | _, _, .nil => .nil
  | _, _, .cons h g => .cons (Dp_same s h) (DpAll_same s g)
end
theorem same_new {H : Hp} {p : Addr} {o : HO} (h : H p = none) : Same H (upd H p o) := fun b x e => by
  rw [upd_ne (ne_of_none e h)]; exact e
def rD (r : Rt) : PyData := .tuple [.int r.1, .int r.2]
def pD (p : Rt × Rt) : PyData := .tuple [rD p.1, rD p.2]
def plD (p : Rt × Rt) : PyData := .list [rD p.1, rD p.2]
section
variable {K : PySem.W.Frag} {H H' : Hp} {v : V}
theorem dp_int {i : Int} (h : Dp K H v (.int i)) : v = .int i := by cases h; rfl
theorem dpa2 {vs : List V} {a b : PyData} (h : DpAll K H vs [a, b]) : ∃ x y, vs = [x, y] ∧ Dp K H x a ∧ Dp K H y b := by
  cases h with
  | cons h1 h => cases h with
    | cons h2 h => cases h with
      | nil => exact ⟨_, _, rfl, h1, h2⟩
theorem dp_t2 {a b : PyData} (h : Dp K H v (.tuple [a, b])) : ∃ p x y, v = .ref p ∧ SqT K H p [x, y] ∧ Dp K H x a ∧ Dp K H y b := by
  cases h with
  | tup h g =>
    obtain ⟨x, y, rfl, h1, h2⟩ := dpa2 g
    exact ⟨_, x, y, rfl, h, h1, h2⟩
theorem dp_l2 {a b : PyData} (h : Dp K H v (.list [a, b])) : ∃ p x y, v = .ref p ∧ SqL K H p [x, y] ∧ Dp K H x a ∧ Dp K H y b := by
  cases h with
  | lst h g =>
    obtain ⟨x, y, rfl, h1, h2⟩ := dpa2 g
    exact ⟨_, x, y, rfl, h, h1, h2⟩
theorem dp_r {r : Rt} (h : Dp K H v (rD r)) : ∃ p, v = .ref p ∧ SqT K H p [.int r.1, .int r.2] := by
  obtain ⟨p, x, y, rfl, hs, h1, h2⟩ := dp_t2 h
  rw [dp_int h1, dp_int h2] at hs
  exact ⟨p, rfl, hs⟩
theorem dp_mk2 {p : Addr} {x y : V} {a b : PyData} (hn : H p = none) (h1 : Dp K H x a) (h2 : Dp K H y b) : Dp K (upd H p (.tup [x, y])) (.ref p) (.tuple [a, b]) :=
  .tup (.inl (.inl upd_same)) (.cons (Dp_same (same_new hn) h1) (.cons (Dp_same (same_new hn) h2) .nil))
theorem dp_mkr {p : Addr} {a b : Int} (hn : H p = none) : Dp K (upd H p (.tup [.int a, .int b])) (.ref p) (rD (a, b)) := dp_mk2 hn (.int a) (.int b)
/-- a couple, a list or a tuple -/
def Cou (K : PySem.W.Frag) (H : Hp) (v : V) (x y : V) : Prop := ∃ p, v = .ref p ∧ (SqT K H p [x, y] ∨ SqL K H p [x, y])
theorem Cou.same {x y : V} (h : Cou K H v x y) (s : Same H H') : Cou K H' v x y := by
  obtain ⟨p, e, h | h⟩ := h
  · exact ⟨p, e, .inl (same_t s h)⟩
  · exact ⟨p, e, .inr (s.seq h)⟩
/-- a place or a step -/
def Pla (K : PySem.W.Frag) (H : Hp) (v : V) (p : Rt × Rt) : Prop := ∃ x y, Cou K H v x y ∧ Dp K H x (rD p.1) ∧ Dp K H y (rD p.2)
theorem Pla.same {p : Rt × Rt} (h : Pla K H v p) (s : Same H H') : Pla K H' v p := by
  obtain ⟨x, y, c, h1, h2⟩ := h
  exact ⟨x, y, c.same s, Dp_same s h1, Dp_same s h2⟩
theorem pla_t {p : Rt × Rt} (h : Dp K H v (pD p)) : Pla K H v p := by
  obtain ⟨a, x, y, rfl, hs, h1, h2⟩ := dp_t2 h
  exact ⟨x, y, ⟨a, rfl, .inl hs⟩, h1, h2⟩
theorem pla_l {p : Rt × Rt} (h : Dp K H v (plD p)) : Pla K H v p := by
  obtain ⟨a, x, y, rfl, hs, h1, h2⟩ := dp_l2 h
  exact ⟨x, y, ⟨a, rfl, .inr hs⟩, h1, h2⟩
/-- a direction -/
def Dir (K : PySem.W.Frag) (H : Hp) (v : V) (d : Int × Int) : Prop := Cou K H v (.int d.1) (.int d.2)
theorem dir_t {d : Int × Int} (h : Dp K H v (rD d)) : Dir K H v d := by
  obtain ⟨p, rfl, hs⟩ := dp_r h
  exact ⟨p, rfl, .inl hs⟩
end
/-! items and couples taken apart -/
section
variable {X : Cx}
/-- c[i] of a couple, a list or a tuple -/
def rIt (K : PySem.W.Frag) : L2.R2 := fun v y H Q => ∃ (x0 x1 : V) (i : Nat) (z : V), y = .int i ∧ Cou K H v x0 x1 ∧ [x0, x1][i]? = some z ∧ Q z H
theorem ix_it : IxR X (rIt X.K) := by
  intro value slice pins s σ H x y v u Q I rx ry h hs
  obtain ⟨x0, x1, i, z, rfl, ⟨p, rfl, c | c⟩, e, q⟩ := h
  · exact ix_tup value slice pins s σ H _ _ v u Q I rx ry ⟨p, _, _, _, rfl, rfl, c, atI_nat e, q⟩ hs
  · exact ix_list value slice pins s σ H _ _ v u Q I rx ry ⟨p, _, _, _, rfl, rfl, c, atI_nat e, q⟩ hs
theorem ix_itK (K : PySem.W.Frag) (e : X.K = K := by rfl) : IxR X (rIt K) := e ▸ ix_it
/-- x, y = c -/
def gCou (K : PySem.W.Frag) (t : TGs) : TG := fun v σ H Q => ∃ x y, Cou K H v x y ∧ t [x, y] σ H Q
theorem pg_cou {a b : Expr} {k : Nat} {t : TGs} {pos : Pos} (hc : X.calm = true) (h : PGs X [a, b] t) (hn : (assignEach [a, b] X.env).length = 2 := by rfl) (hst : (assignEach [a, b] X.env).findIdx? (·.1) = none := by rfl) : PG X (.Tuple [a, b] k pos) (gCou X.K t) := by
  have h1 := pg_tup (k := k) (pos := pos) hc h hn hst
  have h2 := pg_unl (k := k) (pos := pos) hc h hn hst
  refine ⟨fun pins s σ H v u Q I r q => ?_⟩
  obtain ⟨x, y, ⟨p, rfl, c | c⟩, q⟩ := q
  · exact h1.run pins s σ H _ u Q I r ⟨p, _, rfl, c, rfl, q⟩
  · exact h2.run pins s σ H _ u Q I r ⟨p, _, rfl, c, rfl, q⟩
end
/-! comprehensions over a list or a tuple -/
mutual
def noL : PyData → Bool
  | .list _ => false
  | .dict _ => false
  | .tuple xs => noLs xs
  | .none => true
  | .bool _ => true
  | .int _ => true
  | .str _ => true
def noLs : List PyData → Bool
  | [] => true
  | x :: xs => noL x && noLs xs
end
mutual
theorem Dp_but {K : PySem.W.Frag} {H H' : Hp} {p : Addr} {ys : List V} (hp : H p = some (.lst ys)) (s : ∀ b o, b ≠ p → H b = some o → H' b = some o) : ∀ {v : V} {d : PyData}, noL d = true → Dp K H v d → Dp K H' v d
  | _, _, _, .non => .non
  | _, _, _, .bl b => .bl b
  | _, _, _, .int i => .int i
  | _, _, _, .str x => .str x
  | _, _, n, .lst _ _ => by simp [noL] at n
  | _, _, n, .tup (a := a) h g => by
    have n2 := n
    simp only [noL] at n2
    refine .tup ?_ (DpAll_but hp s n2 g)
    rcases h with (h | ⟨o, h⟩) | h
    · exact .inl (.inl (s _ _ (fun e => by rw [e, hp] at h; cases h) h))
    · exact .inl (.inr ⟨o, s _ _ (fun e => by rw [e, hp] at h; cases h) h⟩)
    · exact .inr h
theorem DpAll_but {K : PySem.W.Frag} {H H' : Hp} {p : Addr} {ys : List V} (hp : H p = some (.lst ys)) (s : ∀ b o, b ≠ p → H b = some o → H' b = some o) : ∀ {vs : List V} {ds : List PyData}, noLs ds = true → DpAll K H vs ds → DpAll K H' vs ds
  | _, _, _, .nil => .nil
  | _, _, n, .cons h g => by
    have n2 := n
    simp only [noLs, Bool.and_eq_true] at n2
    exact .cons (Dp_but hp s n2.1 h) (DpAll_but hp s n2.2 g)
end
theorem noLs_all : ∀ {ds : List PyData}, (∀ d ∈ ds, noL d = true) → noLs ds = true
  | [], _ => by simp [noLs]
  | d :: ds, h => by simp [noLs, h d (List.mem_cons_self ..), noLs_all fun x hx => h x (List.mem_cons_of_mem _ hx)]
theorem DpAll_snoc {K : PySem.W.Frag} {H : Hp} {v : V} {d : PyData} (h : Dp K H v d) : ∀ {vs : List V} {ds : List PyData}, DpAll K H vs ds → DpAll K H (vs ++ [v]) (ds ++ [d])
  | _, _, .nil => .cons h .nil
  | _, _, .cons a b => .cons a (DpAll_snoc h b)
theorem DpAll_len {K : PySem.W.Frag} {H : Hp} : ∀ {vs : List V} {ds : List PyData}, DpAll K H vs ds → vs.length = ds.length
  | _, _, .nil => rfl
  | _, _, .cons _ b => congrArg (· + 1) (DpAll_len b)
theorem DpAll_at {K : PySem.W.Frag} {H : Hp} : ∀ {vs : List V} {ds : List PyData} {i : Nat} {v : V}, DpAll K H vs ds → vs[i]? = some v → ∃ d, ds[i]? = some d ∧ Dp K H v d
  | _, _, _, _, .nil, e => by cases e
  | _, _, 0, _, .cons a _, e => by cases e; exact ⟨_, rfl, a⟩
  | _, _, i + 1, _, .cons _ b, e => DpAll_at (i := i) b e
theorem DpAll_at' {K : PySem.W.Frag} {H : Hp} : ∀ {vs : List V} {ds : List PyData} {i : Nat} {d : PyData}, DpAll K H vs ds → ds[i]? = some d → ∃ v, vs[i]? = some v ∧ Dp K H v d
  | _, _, _, _, .nil, e => by cases e
  | _, _, 0, _, .cons a _, e => by cases e; exact ⟨_, rfl, a⟩
  | _, _, i + 1, _, .cons _ b, e => DpAll_at' (i := i) b e
def iSeq (K : PySem.W.Frag) (tl : TE) : TI := fun σ H R => iList K tl σ H R ∨ iTup K tl σ H R
section
variable {X : Cx}
theorem pi_seq {tg l : Expr} {tl : TE} (hl : PE X l tl) : PI X tg l (iSeq X.K tl) := ⟨fun pins s σ H R I h => h.elim (fun z => (pi_list (tg := tg) hl).run pins s σ H R I z) fun z => (pi_tup (tg := tg) hl).run pins s σ H R I z⟩
end
/-- [e for x in seq], each e some data that holds no list -/
theorem lc_map {K : PySem.W.Frag} {a : Addr} {xs : List V} {j : Nat} {g : TG} {te : TE} {vs : List Nat} {σ : L2.St} {H : Hp} {Q : VK} (f : Nat → PyData) (hn : ∀ i, noL (f i) = true) (hj : σ[j]? = some (some (.ref a))) (h0 : SqL K H a xs ∨ SqT K H a xs) (hz : xs.length < sizeLine)
    (hs : ∀ i x H' (R : V → Hp → Prop), xs[i]? = some x → Same H H' → (∀ y H4, Same H' H4 → Dp K H4 y (f i) → R y H4) → g x (wipe σ vs) H' fun σ2 H2 => wipe σ2 vs = wipe σ vs ∧ te σ2 H2 R)
    (hd : ∀ D H' ys, Same H H' → H D = none → H' D = some (.lst ys) → DpAll K H' ys ((List.range xs.length).map f) → Q (.ref D) H') : tLc (iSeq K (tVar j)) g tYes te vs σ H Q := by
  have main : ∀ D, H D = none → ∃ Pv : Nat → Hp → Prop, Pv 0 (upd H D (.lst [])) ∧ (∀ i H', Pv i H' → Same H H') ∧ (∀ i x H', xs[i]? = some x → Pv i H' → g x (wipe σ vs) H' fun σ2 H2 => wipe σ2 vs = wipe σ vs ∧ tYes σ2 H2 fun b H3 =>
      if b = true then te σ2 H3 fun y H4 => ∃ acc, H4 D = some (.lst acc) ∧ acc.length < sizeLine ∧ Pv (i + 1) (upd H4 D (.lst (acc ++ [y]))) else Pv (i + 1) H3) ∧ (∀ H', Pv xs.length H' → Q (.ref D) H') := by
    intro D nD
    refine ⟨fun i H' => Same H H' ∧ ∃ ys, H' D = some (.lst ys) ∧ ys.length = i ∧ DpAll K H' ys ((List.range i).map f), ⟨same_new nD, [], upd_same, rfl, .nil⟩, fun i H' h => h.1, ?_, ?_⟩
    · rintro i x H' hi ⟨s1, ys, hD, yl, hy⟩
      have il := (List.getElem?_eq_some_iff.mp hi).1
      refine hs i x H' _ hi s1 fun y H4 s4 h4 => ⟨ys, s4 _ _ hD, by omega, ?_, ys ++ [y], upd_same, by rw [List.length_append, yl]; rfl, ?_⟩
      · intro b o e
        rw [upd_ne (ne_of_none e nD)]; exact s4 _ _ (s1 _ _ e)
      · rw [List.range_succ, List.map_append]
        have sb : ∀ b o, b ≠ D → H4 b = some o → (upd H4 D (.lst (ys ++ [y]))) b = some o := fun b o n e => by rw [upd_ne n]; exact e
        refine DpAll_but (s4 _ _ hD) sb ?_ (DpAll_snoc h4 (DpAll_same s4 hy))
        refine noLs_all fun d hd => ?_
        rcases List.mem_append.mp hd with hd | hd
        · obtain ⟨k, _, rfl⟩ := List.mem_map.mp hd; exact hn k
        · rw [List.mem_singleton.mp hd]; exact hn i
    · rintro H' ⟨s1, ys, hD, yl, hy⟩
      exact hd D H' ys s1 nD hD hy
  rcases h0 with h0 | h0
  · refine .inl ⟨_, hj, a, rfl, ⟨_, h0⟩, fun D nD => ?_⟩
    obtain ⟨Pv, p0, p1, p2, p3⟩ := main D nD
    exact lc_list (K := K) (a := a) (xs := xs) Pv p0 (fun i H' _ h => (p1 i H' h).seq h0) p2 p3
  · refine .inr ⟨_, hj, a, rfl, ⟨_, h0⟩, fun D nD => ?_⟩
    obtain ⟨Pv, p0, p1, p2, p3⟩ := main D nD
    exact lc_tup (K := K) (a := a) (xs := xs) Pv p0 (fun i H' _ h => same_t (p1 i H' h) h0) p2 p3
/-! defs by their names -/
structure DefOk (P : Program) (w : World) (K : PySem.W.Frag) (mg : Str → Option Value) (base : Heap) (CX : CXT) (x : Str) (k : Nat) (ps : List Str) (sp : Sp) : Prop where
  ex : ∃ (f : Addr) (fd : FuncData), mg x = some (.ref f) ∧ PySem.W.keepIn K (.ref f) = true ∧ L2.Binds K fd ps [] ∧ FnOk P w K mg base CX k f fd ps sp
def Txt (K : PySem.W.Frag) (mg : Str → Option Value) (x : Str) (st : Stmt) : Prop := ∃ (f : Addr) (fd : FuncData), Fun K x x st f fd ∧ mg x = some (.ref f)
section
variable {X : Cx}
theorem pe_def {CX : CXT} {x : Str} {k : Nat} {ps : List Str} {sp : Sp} {e : Expr} {es : List Expr} {t : TA} {p pos : Pos} (D : DefOk X.prog X.w X.K X.mg X.base CX x k ps sp) (hr : Room k X.A) (hg : Gl X x) (ha : PA X (e :: es) t) (hx : Passes CX X E0 := by first | exact pass0 | exact passL)
    (hdb : (x == ("__debug__" : Str)) = false := by decide) (he : starEach (e :: es) X.env = (false, eval e X.env) :: starEach es X.env := by rfl) (hpl : (backTo pos (starEach es X.env)).any (·.1) = false := by rfl) :
    PE X (.Call (.Name x p) (e :: es) [] pos) (tCall sp [] E0 t) := by
  obtain ⟨f, fd, g, k, b, F⟩ := D.ex
  exact pe_call F hr hg g k b .nil hx ha hdb he hpl
end
end PB
set_option Elab.async false
set_option linter.all false
set_option maxRecDepth 100000
set_option maxHeartbeats 4000000
/-! sorted(..) and max(.., default=..) of rows of data -/
namespace KS
open PySem PySem.Spec PyProof.Rows L2 FX RM PB
open PySem.W (EachIs AllAlike Sortable dataLe AlikeAll)
theorem DpAll_lenK {K : PySem.W.Frag} {H : Hp} : ∀ {vs : List V} {ds : List PyData}, DpAll K H vs ds → vs.length = ds.length
  | _, _, .nil => rfl
  | _, _, .cons _ b => congrArg (· + 1) (DpAll_lenK b)
theorem each_zip {K : PySem.W.Frag} {H : Hp} : ∀ {xs : List V} {us : List Value} {ds : List PyData}, Vals xs us → DpAll K H xs ds → EachIs (fun (u : Value) (p : V × PyData) => L2.RelV p.1 u ∧ Dp K H p.1 p.2) us (xs.zip ds)
  | [], _, _, .nil, .nil => .nil
  | _ :: _, _, _, .cons a b, .cons c d => .cons ⟨a, c⟩ (each_zip b d)
theorem zip_snd {K : PySem.W.Frag} {H : Hp} : ∀ {xs : List V} {ds : List PyData}, DpAll K H xs ds → (xs.zip ds).map Prod.snd = ds
  | _, _, .nil => rfl
  | _, _, .cons _ d => by rw [List.zip_cons_cons, List.map_cons, zip_snd d]
theorem each_vals {K : PySem.W.Frag} {H : Hp} : ∀ {us : List Value} {ps : List (V × PyData)}, EachIs (fun (u : Value) (p : V × PyData) => L2.RelV p.1 u ∧ Dp K H p.1 p.2) us ps → Vals (ps.map Prod.fst) us ∧ DpAll K H (ps.map Prod.fst) (ps.map Prod.snd)
  | _, _, .nil => ⟨.nil, .nil⟩
  | _, _, .cons a b => ⟨.cons a.1 (each_vals b).1, .cons a.2 (each_vals b).2⟩
/-- sorted(xs), xs alike data -/
def rSortDat (K : PySem.W.Frag) : List V → Hp → VK → Prop := fun vs H Q => ∃ (a : Addr) (xs : List V) (ds : List PyData), vs = [V.ref a] ∧ SqL K H a xs ∧ DpAll K H xs ds ∧ AllAlike ds ∧ Sortable ds ∧ (∀ d ∈ ds, d.depth ≤ 60) ∧
  ∀ (ps : List (V × PyData)) (p : Addr), ps.Perm (xs.zip ds) → ps.Pairwise (fun x y => dataLe false Prod.snd x y = true) → H p = none → Q (.ref p) (upd H p (.lst (ps.map Prod.fst)))
section
variable {X : Cx}
theorem cr_sortDat (hu : X.A.units + 65 < cLine) : CallR X (.builtin "sorted") (rSortDat X.K) := by
  intro pins s σ H vs us Q I r h
  obtain ⟨a, xs, ds, rfl, hs, hA, hal, hk, hdp, q⟩ := h
  obtain ⟨its, rv, hl, hz⟩ := I.list hs
  rw [Vals.ref1 r]
  have e := each_zip rv hA
  have ln : (xs.zip ds).length = xs.length := by rw [List.length_zip, ← DpAll_lenK hA]; exact Nat.min_self _
  have er : EachIs (fun (v : Value) (b : V × PyData) => ∃ as, Reads s.heap v b.2 as) its (xs.zip ds) := e.mono fun u p hp => Dp.reads I p.2 p.1 u hp.2 hp.1
  have mp : (xs.zip ds).map Prod.snd = ds := zip_snd hA
  refine PySem.W.sorted_data (enc := Prod.snd) hl.isList e er (by rw [mp]; exact hal) (by rw [mp]; exact hk) (by rw [ln]; exact hz) (fun b hb => ?_) fun out ho eo => ?_
  · have : b.2 ∈ ds := by rw [← mp]; exact List.mem_map.mpr ⟨b, hb, rfl⟩
    have := hdp _ this
    omega
  · obtain ⟨vo, dd⟩ := each_vals eo
    obtain ⟨ep, he'⟩ := PyProof.Rows.sortedAll_at s.heap its out.toArray
    have pm : ((xs.zip ds).mergeSort (dataLe false Prod.snd)).Perm (xs.zip ds) := List.mergeSort_perm _ _
    have hlen : (((xs.zip ds).mergeSort (dataLe false Prod.snd)).map Prod.fst).length ≤ sizeLine := by
      rw [List.length_map, pm.length_eq, ln]; exact hz
    exact ⟨.ref _, upd H (s.heap.objs.size + 1) (.lst (((xs.zip ds).mergeSort (dataLe false Prod.snd)).map Prod.fst)), I.laid (t' := s.toks) (fun _ _ => PyProof.Rows.sortedAll_old) (Nat.le_succ _) ⟨hlen, out, ep, vo, he'⟩, rfl,
      q _ _ pm (PySem.W.sort_pairwise (PySem.W.sortLe_total _ _ _) _) (I.hok.fresh (Nat.le_succ _))⟩
/-- max(xs, default=d), xs ints -/
def rMaxDf (K : PySem.W.Frag) : List V → List V → Hp → VK → Prop := fun vs zs H Q => ∃ (a : Addr) (ns : List Int) (d : Int), vs = [V.ref a] ∧ zs = [V.int d] ∧ SqL K H a (ns.map V.int) ∧ ∀ m : Int, (ns = [] → m = d) → (ns ≠ [] → m ∈ ns ∧ ∀ y ∈ ns, y ≤ m) → Q (.int m) H
theorem fold_max : ∀ (ns : List Int) (n : Int), (ns.foldl max n = n ∨ ns.foldl max n ∈ ns) ∧ n ≤ ns.foldl max n ∧ ∀ y ∈ ns, y ≤ ns.foldl max n
  | [], n => ⟨.inl rfl, Int.le_refl _, fun _ h => nomatch h⟩
  | x :: ns, n => by
    obtain ⟨h1, h2, h3⟩ := fold_max ns (max n x)
    have hn : n ≤ max n x := Int.le_max_left ..
    have hx : x ≤ max n x := Int.le_max_right ..
    refine ⟨?_, Int.le_trans hn h2, fun y hy => ?_⟩
    · rcases h1 with h1 | h1
      · rw [List.foldl_cons, h1]
        by_cases c : n ≤ x
        · right; rw [Int.max_eq_right c]; exact List.mem_cons_self ..
        · left; exact Int.max_eq_left (by omega)
      · exact .inr (List.mem_cons_of_mem _ h1)
    · rcases List.mem_cons.mp hy with rfl | hy
      · exact Int.le_trans hx h2
      · exact h3 y hy
theorem dps_ints {K : PySem.W.Frag} {H : Hp} : ∀ ns : List Int, DpAll K H (ns.map V.int) (ns.map PyData.int)
  | [] => .nil
  | n :: ns => .cons (.int n) (dps_ints ns)
theorem alike_is (ns : List Int) : AlikeAll (ns.map PyData.int) := ⟨fun x hx y hy => by
  obtain ⟨a, _, rfl⟩ := List.mem_map.mp hx
  obtain ⟨b, _, rfl⟩ := List.mem_map.mp hy
  rfl, fun x hx => by
  obtain ⟨a, _, rfl⟩ := List.mem_map.mp hx
  intro e; cases e⟩
theorem cr_maxDf (hc : X.calm = true) (hu : X.A.units + 65 < cLine) : CallRK X (.builtin "max") [Str.ofString "default"] (rMaxDf X.K) := by
  intro pins s σ H vs zs us ws Q I r rz h
  obtain ⟨a, ns, d, rfl, rfl, hs, q⟩ := h
  obtain rfl := Vals.ref1 r
  obtain ⟨w1, rfl, t1, rfl⟩ := vals1 rz
  obtain ⟨its, rv, hl, hz⟩ := I.list hs
  obtain ⟨as, ra⟩ := Dp.readsAll I (ns.map PyData.int) (ns.map V.int) its (dps_ints ns) rv
  have dp : PyData.depthAll (ns.map PyData.int) = 0 := PySem.W.depth_ints ns
  refine PySem.W.max_list_default (I.ok.hd hc) hl.isList ra (alike_is ns) (by rw [dp]; omega) (fun e h' tk kp => ?_) fun y ys i v h' tk bs e hv rd kp => ?_
  · have e0 : ns = [] := List.map_eq_nil_iff.mp e
    exact ⟨.int d, H, I.kept kp, ⟨_, rfl⟩, q d (fun _ => rfl) (fun n => absurd e0 n)⟩
  · cases ns with
    | nil => cases e
    | cons n ns =>
      cases e
      rw [PySem.W.maxD_ints] at rd
      obtain ⟨t, rfl⟩ : ∃ t, v = Value.int (ns.foldl max n) t := by
        cases rd
        exact ⟨_, rfl⟩
      obtain ⟨h1, h2, h3⟩ := fold_max ns n
      refine ⟨.int (ns.foldl max n), H, I.kept kp, ⟨_, rfl⟩, q _ (fun z => by cases z) fun _ => ⟨?_, fun y hy => ?_⟩⟩
      · rcases h1 with h1 | h1
        · rw [h1]; exact List.mem_cons_self ..
        · exact List.mem_cons_of_mem _ h1
      · rcases List.mem_cons.mp hy with rfl | hy
        · exact h2
        · exact h3 y hy
end
end KS
set_option Elab.async false
set_option linter.all false
set_option maxRecDepth 100000
set_option maxHeartbeats 4000000
/-! dict comprehensions whose keys may be tuples; list(such a dict); membership in tuples of data -/
namespace KD
open PySem PySem.Spec PyProof.Rows L2 FX RM PB
section
variable {X : Cx}
theorem put_in {pins : List (Addr × Obj)} {τ : L2.St} {H G : Hp} {s : Shared} {E : Value → Shared → Prop} {D : Addr} {y z : V} {u r : Value} {R : Unit → Shared → Prop} (room : X.A.units < cLine) (I : Inv X pins τ H s) (g : DPut H D y z G) (ry : RelV y u) (rz : RelV z r)
    (k : ∀ t, Inv X pins τ G t → R () t) : wpAny (model X.prog X.w) X.A (dictSet D u r) R E s := by
  rcases g with ⟨kvs, c, e, rfl, l, rfl⟩ | ⟨kvs, c, b, e, rfl, eb, l, rfl⟩
  · exact d_dictSet I e l ry rz k
  · cases (show u = Value.ref b from ry)
    obtain ⟨big, nm, xs, rel, dh⟩ := dt_of I.hok e
    have lx : xs.length ≤ sizeLine := by rw [← Paired.length rel]; exact big
    have ln : (putK kvs c z).length ≤ sizeLine := by have := length_putK kvs c z; omega
    refine wpAny_dictSet_heap (hsz := lx) (knd := tupleKind (mixKind X.prog X.w)) (show X.A.units < cLine from room) (key_of I.hok eb) dh fun h2 dh2 same => k _ ?_
    obtain ⟨ob, es, ep, ho, hx, hd, hes, _, hn⟩ := dh2
    refine d_write I (by rw [e]; exact True.intro) same ⟨ob, ho⟩ ⟨ln, nm, _, (rel.put c eb rz).keeps fun b2 ys e2 => ?_, ob, es, ep, ho, hx, hd, hes, hn⟩
    rw [upd_ne (ne_of e2 e (fun w => nomatch w))]
    exact e2
/-- {k: v for target in walk}: D the new dict, W what holds before each turn -/
def tDP (wi : TI) (g : TG) (tk tv : TE) (own : List Nat) : TE := fun τ H Q => wi τ H fun J G => ∀ D, G D = none → ∃ W : Nat → Nat → Hp → Prop, (∃ m, W 0 m (upd G D (.dT []))) ∧ ∀ i m F, W i m F →
  (J.stop i F ∧ Q (.ref D) F) ∨ (J.go i F ∧ ∃ Nx : Hp → Prop, (∀ F', Nx F' → ∃ m', m' < m ∧ W (i + 1) m' F') ∧ ∀ x F', J.yld i F x F' → g x (wipe τ own) F' fun τ2 F2 => wipe τ2 own = wipe τ own ∧ tk τ2 F2 fun y F3 => tv τ2 F3 fun z F4 => ∃ F5, DPut F4 D y z F5 ∧ Nx F5)
theorem core {pins : List (Addr × Obj)} {s : Shared} {τ : L2.St} {H : Hp} {Q : VK} {kx vx tg it : Expr} {sc : Scope} {own : List (Str × Nat)} {pos pos' : Pos} {wi : TI} {g : TG} {tk tv : TE} {use : Option (Value → Sem Unit)} {Qf : Value → Shared → Prop}
    (room : X.A.units < cLine) (calm : X.calm = true) (nd : X.N.Nodup) (I : Inv X pins τ H s) (walk : PI X tg it wi) (blk : BlkOk X.N X.env.scope sc own)
    (pg : ∀ (s : Shared) (H : Hp) (C : Addr) (cl : List (Str × Addr)) (fp : List Addr), PG (X.blk s H sc (compEnvC sc cl C X.env) fp) tg g)
    (pk : ∀ (s : Shared) (H : Hp) (C : Addr) (cl : List (Str × Addr)) (fp : List Addr), PE (X.blk s H sc (compEnvC sc cl C X.env) fp) kx tk)
    (pv : ∀ (s : Shared) (H : Hp) (C : Addr) (cl : List (Str × Addr)) (fp : List Addr), PE (X.blk s H sc (compEnvC sc cl C X.env) fp) vx tv)
    (fold : ∀ x, foldedSetIterable it X.env x = pure x) (h : tDP wi g tk tv (own.map (·.2)) τ H Q)
    (back : ∀ D C t m G, Inv X pins τ G t → Q (.ref D) G → t.heap.Ns C m → FpOk X pins G C → compPost (model X.prog X.w) X.A X.xe use Qf (.ref D) C (.ok .next) t) :
    wpAny (model X.prog X.w) X.A (comprehension (.DictComp kx vx [⟨tg, it, [], 0⟩] sc pos) sc X.env pos' newDict false (eval it X.env) use) Qf X.xe s := by
  have cells : ∀ y ∈ sc.names, y.2 = .free → ∃ c, X.env.cells.lookup y.1 = some c := fun y m e => (blk.free y m e).elim (fun k => I.ok.has _ (.inl k)) fun k => I.ok.has _ (.inr k)
  refine wpAny_comprehension_free (use := use) rfl fold (closure_ok cells) blk.kind (fun y m e => by rw [blk.uniq y m, e]) (thn (walk.run pins s τ H _ I h) fun _ t1 hx => thn hx fun _ t2 ⟨it2, fp, tn, J, G, e, I2, T, stt, fpk, rest⟩ => ?_)
  subst e
  refine wpAny_newObj_type (newEnv_comp ?_)
  generalize hD : t2.heap.objs.size = D
  have free : G D = none := I2.hok.fresh (Nat.le_of_eq hD)
  obtain ⟨W, ⟨m0, w0⟩, turn⟩ := rest D free
  generalize ht3 : ({ t2 with heap := t2.heap.push { cls := .type "dict", data := .dict #[] } } : Shared) = t3
  have hp3 : t3.heap = t2.heap.push { cls := .type "dict", data := .dict #[] } := by rw [← ht3]
  have I3 : Inv X pins τ (upd G D (.dT [])) t3 := by
    rw [← ht3]
    refine I2.laid (t' := t2.toks) (fun _ _ e => Heap.get?_push_of_some _ e) (Nat.le_of_eq hD) ?_
    rw [← hD]
    exact dt_empty t2.heap I2.big
  have below : ∀ b ∈ fp, b < t2.heap.objs.size := fun b hb => by
    obtain ⟨_, e, _⟩ := T.obj _ _ stt b hb
    exact Heap.lt_size e
  have fp3 : ∀ b ∈ fp, FpOk X pins (upd G D (.dT [])) b ∧ b < t3.heap.objs.size := fun b hb => by
    have lt := below b hb
    exact ⟨⟨by rw [upd_ne (by rw [← hD]; exact Nat.ne_of_lt lt)]; exact (fpk b hb).1, (fpk b hb).2⟩, by rw [hp3, Heap.size_push]; exact Nat.lt_succ_of_lt lt⟩
  have stt3 : tn 0 t3.heap := T.keep _ _ _ stt fun b _ o e => by rw [hp3]; exact Heap.get?_push_of_some _ e
  have I4 := block_start I3 blk nd fp3
  have rg := pg t3 (upd G D (.dT [])) t3.heap.objs.size (cellsFrom (t3.heap.objs.size + 1) sc.names (cloFrom X.env.cells sc.names [])) fp
  have rk := pk t3 (upd G D (.dT [])) t3.heap.objs.size (cellsFrom (t3.heap.objs.size + 1) sc.names (cloFrom X.env.cells sc.names [])) fp
  have rv := pv t3 (upd G D (.dT [])) t3.heap.objs.size (cellsFrom (t3.heap.objs.size + 1) sc.names (cloFrom X.env.cells sc.names [])) fp
  show codeAny _ _ (.compStart (.DictComp kx vx [⟨tg, it, [], 0⟩] sc pos) 0 (.ref it2) (.ref D) (compEnvC sc (cellsFrom (t3.heap.objs.size + 1) sc.names (cloFrom X.env.cells sc.names [])) t3.heap.objs.size X.env)) (compPost (model X.prog X.w) X.A X.xe use Qf (.ref D) t3.heap.objs.size) { t3 with heap := pushCells (t3.heap.push { cls := .type "dict", data := .dict #[] }) sc.names }
  have hid : ∀ b ∈ fp, (upd G D (.dT [])) b = none := fun b hb => (fp3 b hb).1.1
  generalize hen : compEnvC sc (cellsFrom (t3.heap.objs.size + 1) sc.names (cloFrom X.env.cells sc.names [])) t3.heap.objs.size X.env = en at I4 rg rk rv ⊢
  have enl : en.locals = t3.heap.objs.size := by subst hen; rfl
  generalize hG3 : upd G D (.dT []) = G3 at I3 I4 rg rk rv w0 hid fp3
  generalize ht4 : ({ t3 with heap := pushCells (t3.heap.push { cls := .type "dict", data := .dict #[] }) sc.names } : Shared) = t4 at I4 ⊢
  have stt4 : tn 0 t4.heap := T.keep _ _ _ stt3 fun b _ o e => by rw [← ht4]; exact pushCells_keeps _ _ _ _ (Heap.get?_push_of_some _ e)
  have still : ∀ {τ' : L2.St} {F : Hp} {t : Shared}, Inv (X.blk t3 G3 sc en fp) [] τ' F t → (∀ b ∈ fp, F b = none) → ∀ b ∈ fp, FpOk (X.blk t3 G3 sc en fp) [] F b := fun {τ' F t} J hn b hb =>
    ⟨hn b hb, (J.ok.exf b hb).1, J.ok.exfs b hb, .inl hb, fun x c e => (J.ok.exf b hb).2 x c e, fun p hp => absurd (show p ∈ ([] : List (Addr × Obj)) ++ [] from hp) (by simp)⟩
  have loop : codeAny (model X.prog X.w) X.A (.compLoop (.DictComp kx vx [⟨tg, it, [], 0⟩] sc pos) 0 (.ref it2) (.ref D) en) (compPost (model X.prog X.w) X.A X.xe use Qf (.ref D) t3.heap.objs.size) t4 := by
    refine compLoop_anyD (fun n t => ∃ i F, Inv (X.blk t3 G3 sc en fp) [] (wipe τ (own.map (·.2))) F t ∧ tn i t.heap ∧ (∀ b ∈ fp, F b = none) ∧ W i n F) ?_ m0 ⟨0, G3, I4, stt4, hid, w0⟩
    rintro n t5 ⟨i, F5, I5, stt5, hid5, w5⟩
    rcases turn i n F5 w5 with ⟨stop, fin⟩ | ⟨go, Nx, next, step⟩
    · refine thnF (T.done (X.blk t3 G3 sc en fp) rfl rfl rfl calm i [] t5 _ F5 (fun _ _ => False) I5 (still I5 hid5) stt5 stop) fun r t6 ⟨hr, I6⟩ => ?_
      subst hr
      have I7 : Inv X pins τ F5 t6 := I3.call' (ch := fp) I6.os I6.base I6.hok I6.bare fun b hb => ⟨(fp3 b hb).1.2.2.2.1, (fp3 b hb).1.2.1, (fp3 b hb).1.2.2.2.2.1, (fp3 b hb).1.2.2.2.2.2⟩
      have nC : F5 t3.heap.objs.size = none := enl ▸ (show F5 en.locals = none from I6.free)
      obtain ⟨m, hn, _⟩ := I6.loc
      have hn : t6.heap.Ns en.locals m := hn
      exact back D t3.heap.objs.size t6 m F5 I7 fin (enl ▸ hn) (I3.fpOk (Nat.le_refl _) nC)
    · refine thnF (T.item (X.blk t3 G3 sc en fp) rfl rfl rfl calm i [] t5 _ F5 (fun _ _ => False) I5 (still I5 hid5) stt5 go) fun r t6 ⟨u, hr, h6⟩ => ?_
      subst hr
      refine thnF h6 fun _ t7 ⟨x, F7, I7, r7, y7, stt7, hid7⟩ => ?_
      have J7 := I7.pinned (still I7 hid7) (T.obj _ _ stt7)
      refine thnF (rg.run _ t7 _ F7 x u _ J7 r7 (step x F7 y7)) fun _ t8 ⟨τ8, F8, I8, wip, more⟩ => ?_
      refine thnF ((pts_nil (X := X.blk t3 G3 sc en fp)).run _ t8 τ8 F8 (fun b G => b = true ∧ tk τ8 G fun y F3 => tv τ8 F3 fun z F4 => ∃ F5, DPut F4 D y z F5 ∧ Nx F5) I8 ⟨rfl, more⟩) fun b t9 ⟨F9, I9, eb, more9⟩ => ?_
      subst eb
      have close : ∀ {t : Shared} {F : Hp}, Inv (X.blk t3 G3 sc en fp) ([] ++ pinsAt fp t7.heap) τ8 F t → Nx F → ∃ m, m < n ∧ ∃ i F, Inv (X.blk t3 G3 sc en fp) [] (wipe τ (own.map (·.2))) F t ∧ tn i t.heap ∧ (∀ b ∈ fp, F b = none) ∧ W i m F := fun {t F} J nx => by
        obtain ⟨m', lt, w'⟩ := next F nx
        have pin : ∀ b ∈ fp, ∀ o, t7.heap.get? b = some o → t.heap.get? b = some o ∧ F b = none := fun b hb o e =>
          let z := J.pin (b, o) (List.mem_append_right _ (List.mem_append_right _ (mem_pinsAt hb e)))
          ⟨z.1, z.2.1⟩
        refine ⟨m', lt, i + 1, F, (J.unpinned (pins := [])).weak (by rw [← wip, wipe_length]) (fun j v e => by rw [← wip] at e; exact (wipe_some e).1), T.keep _ _ _ stt7 fun b hb o e => (pin b hb o e).1, fun b hb => ?_, w'⟩
        obtain ⟨o, e, _⟩ := T.obj _ _ stt7 b hb
        exact (pin b hb o e).2
      simp only [if_true]
      refine thnF (rk.run _ t9 τ8 F9 _ I9 more9) fun _ t10 ⟨y, F10, I10, r10, more10⟩ => ?_
      refine thnF (rv.run _ t10 τ8 F10 _ I10 more10) fun _ t11 ⟨z, F11, I11, r11, F12, put, nx⟩ => ?_
      exact put_in (X := X.blk t3 G3 sc en fp) room I11 put r10 r11 fun t12 I12 => close I12 nx
  exact codeAny_compStart_dict loop (T.self X.A 0 _ _ _ stt4 loop)
theorem pe_dcT {kx vx tg it : Expr} {sc : Scope} {own : List (Str × Nat)} {pos : Pos} {wi : TI} {g : TG} {tk tv : TE} (room : X.A.units < cLine) (calm : X.calm = true) (nd : X.N.Nodup) (walk : PI X tg it wi) (blk : BlkOk X.N X.env.scope sc own)
    (pg : ∀ (s : Shared) (H : Hp) (C : Addr) (cl : List (Str × Addr)) (fp : List Addr), PG (X.blk s H sc (compEnvC sc cl C X.env) fp) tg g)
    (pk : ∀ (s : Shared) (H : Hp) (C : Addr) (cl : List (Str × Addr)) (fp : List Addr), PE (X.blk s H sc (compEnvC sc cl C X.env) fp) kx tk)
    (pv : ∀ (s : Shared) (H : Hp) (C : Addr) (cl : List (Str × Addr)) (fp : List Addr), PE (X.blk s H sc (compEnvC sc cl C X.env) fp) vx tv)
    (fold : ∀ x, foldedSetIterable it X.env x = pure x := by intro _; rfl) : PE X (.DictComp kx vx [⟨tg, it, [], 0⟩] sc pos) (tDP wi g tk tv (own.map (·.2))) := by
  refine ⟨fun pins s τ H Q I h => ?_⟩
  rw [arm_eval_DictComp]
  refine core room calm nd I walk blk pg pk pv fold h fun D C t m G J q hn f => ⟨m, hn, fun h2 sb => ?_⟩
  obtain ⟨f0, f1, f2, f3, f4, f5⟩ := f
  exact ⟨.ref D, G, J.turned (t' := t.toks) (fun b o hb e => (sb.2 b hb).trans e) f0 f1 f3 f4 f5, rfl, q⟩
theorem swD {kx vx : Expr} {gs : List Comprehension} {sc : Scope} {pos py : Pos} {y : Str} {l : Nat} {env : Env} (fn : env.scope.kind = .function) (loc : env.scope.names.lookup y = some .local) (row : (py.line == pos.line) = true)
    (un : (sc.names.any fun (n, k) => n == y && (k == .local || k == .cell)) = false) : swapsWith (.DictComp kx vx gs sc pos) (some (.Name y py)) l env = pure true := by
  have k1 : env.kindOf y = some .local := loc
  have k2 : env.blockKind = .function := by unfold Env.blockKind; rw [fn]; rfl
  unfold swapsWith
  simp only [k2, k1, un, Expr.pos, row]
  rfl
/-- name = {k: v for ..} on one row, the name a local -/
theorem ps_setDc {i : Nat} {y : Str} {py : Pos} {kx vx tg it : Expr} {sc : Scope} {own : List (Str × Nat)} {pos spos : Pos} {wi : TI} {g : TG} {tk tv : TE} (room : X.A.units < cLine) (calm : X.calm = true) (nd : X.N.Nodup) (at_ : X.N[i]? = some y) (loc : X.env.scope.names.lookup y = some .local)
    (sw : swapsWith (.DictComp kx vx [⟨tg, it, [], 0⟩] sc pos) (some (.Name y py)) spos.line X.env = pure true) (walk : PI X tg it wi) (blk : BlkOk X.N X.env.scope sc own)
    (pg : ∀ (s : Shared) (H : Hp) (C : Addr) (cl : List (Str × Addr)) (fp : List Addr), PG (X.blk s H sc (compEnvC sc cl C X.env) fp) tg g)
    (pk : ∀ (s : Shared) (H : Hp) (C : Addr) (cl : List (Str × Addr)) (fp : List Addr), PE (X.blk s H sc (compEnvC sc cl C X.env) fp) kx tk)
    (pv : ∀ (s : Shared) (H : Hp) (C : Addr) (cl : List (Str × Addr)) (fp : List Addr), PE (X.blk s H sc (compEnvC sc cl C X.env) fp) vx tv)
    (fold : ∀ x, foldedSetIterable it X.env x = pure x := by intro _; rfl) : PS X (.Assign [.Name y py] (.DictComp kx vx [⟨tg, it, [], 0⟩] sc pos) spos) (tAsg (tDP wi g tk tv (own.map (·.2))) (gName i)) := by
  refine ⟨fun pins s τ H D I h => ?_⟩
  rw [exec_Assign_Name_used _ _ _ _ sw]
  refine wpAny_bind (wpAny_standAt (wpAny_bind ?_))
  show wpAny _ X.A (do let _ ← comprehension (.DictComp kx vx [⟨tg, it, [], 0⟩] sc pos) sc X.env (firstIterPos [⟨tg, it, [], 0⟩] pos) newDict false (eval it X.env) (some (assign (.Name y py) X.env))) _ _ s
  have h2 : tDP wi g tk tv (own.map (·.2)) τ H (fun x G => gName i x τ G D.nx) := h
  refine wpAny_bind (thn (core (Qf := fun _ t => SP X pins D .next t) room calm nd I walk blk pg pk pv fold h2 fun L C t m G J q hn f => ?_) fun _ _ hq => wpAny_pure (wpAny_pure hq))
  show wpAny _ _ (assign (.Name y py) X.env (.ref L)) _ _ _
  obtain ⟨f0, f1, f2, f3, f4, f5⟩ := f
  refine wpAny_assign_Name (store_ok2 (v := V.ref L) J nd at_ (.inl loc) rfl (fun t2 J2 ⟨a, sb, ha⟩ => ?_) (.inr loc))
  have ne : C ≠ a := ha.elim (fun z => by rw [z]; exact f1) fun z e => f4 y a z e.symm
  exact ⟨m, hn.sameBut sb ne, fun h3 sb3 => ⟨_, G, J2.turned (t' := t2.toks) (fun b o hb e => (sb3.2 b hb).trans e) f0 f1 f3 f4 f5, q⟩⟩
/-- i ** j of wide numbers -/
def CPowW (i j : Int) : Prop := 0 ≤ j ∧ (Builtin.Int.intBits i : Int) * j ≤ 2 ^ 27
theorem op_powW : OpR X (binaryOp .Pow) (rI CPowW fun i j => .int (i ^ j.toNat)) := opI fun _ _ _ _ _ _ _ hc q => pow_int hc.1 hc.2 q
end
/-! what such a dict holds: unlike couples of whole numbers -/
abbrev Dn := Int × Int
def kd (d : Dn) : List L2.Key × V := ([.inl d.1, .inl d.2], .bl true)
def ins (us : List Dn) (d : Dn) : List Dn := if d ∈ us then us else us ++ [d]
def uq (ds : List Dn) : List Dn := ds.foldl ins []
theorem kd_inj {d e : Dn} (h : (kd d).1 = (kd e).1) : d = e := by
  have h := List.cons.inj h
  have h2 := List.cons.inj h.2
  exact Prod.ext (Sum.inl.inj h.1) (Sum.inl.inj h2.1)
theorem put_ins (us : List Dn) (d : Dn) : putK (us.map kd) (kd d).1 (.bl true) = (ins us d).map kd := by
  unfold putK ins
  by_cases m : d ∈ us
  · have a : ((us.map kd).any fun kv => decide (kv.1 = (kd d).1)) = true := List.any_eq_true.mpr ⟨kd d, List.mem_map.mpr ⟨d, m, rfl⟩, decide_eq_true rfl⟩
    rw [if_pos a, if_pos m, List.map_map]
    refine List.map_congr_left fun e _ => ?_
    show (if (kd e).1 = (kd d).1 then ((kd e).1, V.bl true) else kd e) = kd e
    split <;> rfl
  · have a : ¬ ((us.map kd).any fun kv => decide (kv.1 = (kd d).1)) = true := fun z => by
      obtain ⟨kv, h1, h2⟩ := List.any_eq_true.mp z
      obtain ⟨e, he, rfl⟩ := List.mem_map.mp h1
      exact m (kd_inj (of_decide_eq_true h2) ▸ he)
    rw [if_neg a, if_neg m, List.map_append]
    rfl
theorem uq_snoc (ds : List Dn) (d : Dn) : uq (ds ++ [d]) = ins (uq ds) d := by unfold uq; rw [List.foldl_append]; rfl
theorem ins_mem {us : List Dn} {d e : Dn} : e ∈ ins us d ↔ e ∈ us ∨ e = d := by
  unfold ins
  split
  · rename_i m
    exact ⟨.inl, fun h => h.elim id fun z => z ▸ m⟩
  · rw [List.mem_append, List.mem_singleton]
theorem ins_nodup {us : List Dn} {d : Dn} (h : us.Nodup) : (ins us d).Nodup := by
  unfold ins
  split
  · exact h
  · rename_i m
    exact List.nodup_append.mpr ⟨h, by simp, fun a ha b hb => by rw [List.mem_singleton.mp hb]; intro z; exact m (z ▸ ha)⟩
theorem fold_spec : ∀ (ds us : List Dn), us.Nodup → (ds.foldl ins us).Nodup ∧ (∀ e, e ∈ ds.foldl ins us ↔ e ∈ us ∨ e ∈ ds) ∧ (ds.foldl ins us).length ≤ us.length + ds.length
  | [], us, h => ⟨h, fun e => by simp, by simp⟩
  | d :: ds, us, h => by
    obtain ⟨a, b, c⟩ := fold_spec ds (ins us d) (ins_nodup h)
    refine ⟨a, fun e => ?_, ?_⟩
    · rw [List.foldl_cons, b, ins_mem, List.mem_cons, or_assoc]
    · have : (ins us d).length ≤ us.length + 1 := by
        unfold ins
        split
        · omega
        · rw [List.length_append]; exact Nat.le_refl _
      rw [List.foldl_cons, List.length_cons]
      omega
theorem uq_nodup (ds : List Dn) : (uq ds).Nodup := (fold_spec ds [] List.nodup_nil).1
theorem uq_mem {ds : List Dn} {e : Dn} : e ∈ uq ds ↔ e ∈ ds := by rw [show uq ds = ds.foldl ins [] from rfl, (fold_spec ds [] List.nodup_nil).2.1]; simp
theorem uq_len (ds : List Dn) : (uq ds).length ≤ ds.length := by have := (fold_spec ds [] List.nodup_nil).2.2; rw [show uq ds = ds.foldl ins [] from rfl]; simpa using this
/-- the walk over a list or a tuple of couples -/
theorem dc_seq {K : PySem.W.Frag} {a : Addr} {xs : List V} {j : Nat} {g : TG} {tk tv : TE} {own : List Nat} {τ : L2.St} {H : Hp} {Q : VK} (ds : List Dn) (hj : τ[j]? = some (some (.ref a))) (h0 : SqL K H a xs ∨ SqT K H a xs) (hl : ds.length = xs.length) (hz : xs.length < sizeLine)
    (hs : ∀ (i : Nat) (x : V) (F : Hp) (R : V → V → Hp → Prop) (d : Dn), xs[i]? = some x → ds[i]? = some d → Same H F → (∀ p, F p = none → R (.ref p) (.bl true) (upd F p (.tup [.int d.1, .int d.2]))) → g x (wipe τ own) F fun τ2 F2 => wipe τ2 own = wipe τ own ∧ tk τ2 F2 fun y F3 => tv τ2 F3 fun z F4 => R y z F4)
    (hd : ∀ D F, Same H F → F D = some (.dT ((uq ds).map kd)) → Q (.ref D) F) : tDP (iSeq K (tVar j)) g tk tv own τ H Q := by
  have turnD : ∀ (D : Addr) (i : Nat) (F : Hp) (x : V), H D = none → xs[i]? = some x → (Same H F ∧ F D = some (.dT ((uq (ds.take i)).map kd))) →
      g x (wipe τ own) F fun τ2 F2 => wipe τ2 own = wipe τ own ∧ tk τ2 F2 fun y F3 => tv τ2 F3 fun z F4 => ∃ F5, DPut F4 D y z F5 ∧ (Same H F5 ∧ F5 D = some (.dT ((uq (ds.take (i + 1))).map kd))) := by
    rintro D i F x nD ex ⟨sF, eD⟩
    have il : i < ds.length := by rw [hl]; exact (List.getElem?_eq_some_iff.mp ex).1
    refine hs i x F _ ds[i] ex (List.getElem?_eq_getElem il) sF fun p np => ?_
    have ne : D ≠ p := ne_of_none eD np
    refine ⟨_, DPut.t (k := (kd ds[i]).1) (kvs := (uq (ds.take i)).map kd) (by rw [upd_ne ne]; exact eD) upd_same ?_, fun b o e => ?_, ?_⟩
    · rw [List.length_map]
      have := uq_len (ds.take i)
      rw [List.length_take] at this
      omega
    · have bD : b ≠ D := ne_of_none e nD
      rw [upd_ne bD]
      exact PB.same_new np _ _ (sF _ _ e)
    · rw [upd_same, put_ins, List.take_succ_eq_append_getElem il, uq_snoc]
  have mk : ∀ (D : Addr) (nD : H D = none), (Same H (upd H D (.dT []))) ∧ (upd H D (.dT [])) D = some (.dT ((uq (ds.take 0)).map kd)) := fun D nD => ⟨PB.same_new nD, by rw [upd_same]; rfl⟩
  have fin : ∀ D F, (Same H F ∧ F D = some (.dT ((uq (ds.take xs.length)).map kd))) → Q (.ref D) F := fun D F h => hd D F h.1 (by rw [h.2, ← hl, List.take_length])
  rcases h0 with h0 | h0
  · refine .inl ⟨_, hj, a, rfl, ⟨_, h0⟩, fun D nD => ⟨fun i m F => m = xs.length - i ∧ i ≤ xs.length ∧ (Same H F ∧ F D = some (.dT ((uq (ds.take i)).map kd))), ⟨_, rfl, Nat.zero_le _, mk D nD⟩, ?_⟩⟩
    rintro i m F ⟨rfl, hi, p⟩
    have sq := p.1.seq h0
    by_cases lt : i < xs.length
    · exact .inr ⟨⟨xs, xs[i], sq, List.getElem?_eq_getElem lt⟩, _, fun F' p' => ⟨xs.length - (i + 1), by omega, rfl, lt, p'⟩, fun x F' y => by
        obtain ⟨rfl, y⟩ := y
        exact turnD D i _ x nD (y xs sq) p⟩
    · obtain rfl : i = xs.length := by omega
      exact .inl ⟨⟨xs, sq, Nat.le_refl _⟩, fin D F p⟩
  · refine .inr ⟨_, hj, a, rfl, ⟨_, h0⟩, fun D nD => ⟨fun i m F => m = xs.length - i ∧ i ≤ xs.length ∧ (Same H F ∧ F D = some (.dT ((uq (ds.take i)).map kd))), ⟨_, rfl, Nat.zero_le _, mk D nD⟩, ?_⟩⟩
    rintro i m F ⟨rfl, hi, p⟩
    have sq := PB.same_t p.1 h0
    by_cases lt : i < xs.length
    · exact .inr ⟨⟨xs, xs[i], sq, List.getElem?_eq_getElem lt⟩, _, fun F' p' => ⟨xs.length - (i + 1), by omega, rfl, lt, p'⟩, fun x F' y => by
        obtain ⟨rfl, y⟩ := y
        exact turnD D i _ x nD (y xs sq) p⟩
    · obtain rfl : i = xs.length := by omega
      exact .inl ⟨⟨xs, sq, Nat.le_refl _⟩, fin D F p⟩
/-- the keys of such a dict in a list -/
theorem keys_dp {K : PySem.W.Frag} {H : Hp} : ∀ {us : List Dn} {bs : List Addr}, IsKeys H (us.map kd) bs → DpAll K H (bs.map V.ref) (us.map rD)
  | [], _, .nil => .nil
  | _ :: _, _, .cons a b => .cons (.tup (.inl (.inl a)) (.cons (.int _) (.cons (.int _) .nil))) (keys_dp b)
/-- x not in t, a tuple of data -/
def rNotInT (K : PySem.W.Frag) : L2.R2 := fun x y H Q => ∃ d ds, Dp K H x d ∧ Dp K H y (.tuple ds) ∧ SeqAt.shaped d = true ∧ SeqAt.shaped (.tuple ds) = true ∧ Q (.bl (!ds.any fun z => PyData.eqv z d)) H
section
variable {X : Cx}
theorem op_notInT (hu : X.A.units + 65 < cLine) : OpR X (compareOp .NotIn) (rNotInT X.K) := by
  rintro pins s τ H x y v u Q I rx ry ⟨d, ds, hd, he, sd, se, q⟩
  obtain ⟨as, r1⟩ := Dp.reads I d x v hd rx
  obtain ⟨bs, r2⟩ := Dp.reads I (.tuple ds) y u he ry
  exact SeqAt.notIn_tuple_reads r2 r1 (SeqAt.canLay_of_shaped se) (SeqAt.canLay_of_shaped sd) (room_in_shaped sd hu) ⟨.bl _, H, I, rfl, q⟩
/-- [e for x in l], l any expression that comes to a list, each e some data that holds no list -/
theorem lc_mapG {K : PySem.W.Frag} {g : TG} {te tl : TE} {own : List Nat} {τ : L2.St} {H : Hp} {Q : VK} (facts : Addr → List V → Hp → Prop) (ht : ∀ R : VK, (∀ a xs F, facts a xs F → R (.ref a) F) → tl τ H R)
    (hk : ∀ a xs F, facts a xs F → SqL K F a xs ∧ xs.length < sizeLine ∧ ∃ f : Nat → PyData, (∀ i, noL (f i) = true) ∧
      (∀ i x F' (R' : V → Hp → Prop), xs[i]? = some x → Same F F' → (∀ y F4, Same F' F4 → Dp K F4 y (f i) → R' y F4) → g x (wipe τ own) F' fun τ2 F2 => wipe τ2 own = wipe τ own ∧ te τ2 F2 R') ∧
      (∀ D F' ys, Same F F' → F D = none → F' D = some (.lst ys) → DpAll K F' ys ((List.range xs.length).map f) → Q (.ref D) F')) : tLc (iSeq K tl) g tYes te own τ H Q := by
  refine .inl (ht _ fun a xs F hf => ?_)
  obtain ⟨h0, hz, f, hn, hs, hd⟩ := hk a xs F hf
  refine ⟨a, rfl, ⟨_, h0⟩, fun D nD => ?_⟩
  refine lc_list (K := K) (a := a) (xs := xs) (fun i F' => Same F F' ∧ ∃ ys, F' D = some (.lst ys) ∧ ys.length = i ∧ DpAll K F' ys ((List.range i).map f)) ⟨PB.same_new nD, [], upd_same, rfl, .nil⟩ (fun i F' _ h => h.1.seq h0) ?_ ?_
  · rintro i x F' hi ⟨s1, ys, eD, yl, hy⟩
    have il := (List.getElem?_eq_some_iff.mp hi).1
    refine hs i x F' _ hi s1 fun y F4 s4 h4 => ⟨ys, s4 _ _ eD, by omega, ?_, ys ++ [y], upd_same, by rw [List.length_append, yl]; rfl, ?_⟩
    · intro b o e
      rw [upd_ne (ne_of_none e nD)]; exact s4 _ _ (s1 _ _ e)
    · rw [List.range_succ, List.map_append]
      refine DpAll_but (s4 _ _ eD) (fun b o n e => by rw [upd_ne n]; exact e) ?_ (DpAll_snoc h4 (DpAll_same s4 hy))
      refine noLs_all fun d hd => ?_
      rcases List.mem_append.mp hd with hd | hd
      · obtain ⟨k, _, rfl⟩ := List.mem_map.mp hd; exact hn k
      · rw [List.mem_singleton.mp hd]; exact hn i
  · rintro F' ⟨s1, ys, eD, yl, hy⟩
    exact hd D F' ys s1 nD eD hy
end
end KD
set_option Elab.async false
set_option linter.all false
set_option maxRecDepth 100000
set_option maxHeartbeats 4000000
/-! dict comprehensions whose keys are places -/
namespace KN
open PySem PySem.Spec PyProof.Rows L2 FX RM PB KD
section
variable {X : Cx}
/-- {k: v for target in walk}: D the new dict, W what holds before each turn -/
def tDN (o0 : Addr → HO) (Put : Hp → Addr → V → V → Hp → Prop) (wi : TI) (g : TG) (tk tv : TE) (own : List Nat) : TE := fun τ H Q => wi τ H fun J G => ∀ D, G D = none → ∃ W : Nat → Nat → Hp → Prop, (∃ m, W 0 m (upd G D (o0 D))) ∧ ∀ i m F, W i m F →
  (J.stop i F ∧ Q (.ref D) F) ∨ (J.go i F ∧ ∃ Nx : Hp → Prop, (∀ F', Nx F' → ∃ m', m' < m ∧ W (i + 1) m' F') ∧ ∀ x F', J.yld i F x F' → g x (wipe τ own) F' fun τ2 F2 => wipe τ2 own = wipe τ own ∧ tk τ2 F2 fun y F3 => tv τ2 F3 fun z F4 => ∃ F5, Put F4 D y z F5 ∧ Nx F5)
theorem core {o0 : Addr → HO} {Put : Hp → Addr → V → V → Hp → Prop} {pins : List (Addr × Obj)} {s : Shared} {τ : L2.St} {H : Hp} {Q : VK} {kx vx tg it : Expr} {sc : Scope} {own : List (Str × Nat)} {pos pos' : Pos} {wi : TI} {g : TG} {tk tv : TE} {use : Option (Value → Sem Unit)} {Qf : Value → Shared → Prop}
    (hnew : ∀ (h : Heap) (H : Hp), sysModules < h.objs.size → ObjOk X.prog X.w H (h.push { cls := .type "dict", data := .dict #[] }) h.objs.size (o0 h.objs.size))
    (hput : ∀ (X' : Cx), X'.prog = X.prog → X'.w = X.w → X'.A = X.A → X'.K = X.K → ∀ {pins : List (Addr × Obj)} {τ : L2.St} {H G : Hp} {s : Shared} {E : Value → Shared → Prop} {D : Addr} {y z : V} {u r : Value} {R : Unit → Shared → Prop}, Inv X' pins τ H s → Put H D y z G → RelV y u → RelV z r →
      (∀ t, Inv X' pins τ G t → R () t) → wpAny (model X'.prog X'.w) X'.A (dictSet D u r) R E s) (calm : X.calm = true) (nd : X.N.Nodup) (I : Inv X pins τ H s) (walk : PI X tg it wi) (blk : BlkOk X.N X.env.scope sc own)
    (pg : ∀ (s : Shared) (H : Hp) (C : Addr) (cl : List (Str × Addr)) (fp : List Addr), PG (X.blk s H sc (compEnvC sc cl C X.env) fp) tg g)
    (pk : ∀ (s : Shared) (H : Hp) (C : Addr) (cl : List (Str × Addr)) (fp : List Addr), PE (X.blk s H sc (compEnvC sc cl C X.env) fp) kx tk)
    (pv : ∀ (s : Shared) (H : Hp) (C : Addr) (cl : List (Str × Addr)) (fp : List Addr), PE (X.blk s H sc (compEnvC sc cl C X.env) fp) vx tv)
    (fold : ∀ x, foldedSetIterable it X.env x = pure x) (h : tDN o0 Put wi g tk tv (own.map (·.2)) τ H Q)
    (back : ∀ D C t m G, Inv X pins τ G t → Q (.ref D) G → t.heap.Ns C m → FpOk X pins G C → compPost (model X.prog X.w) X.A X.xe use Qf (.ref D) C (.ok .next) t) :
    wpAny (model X.prog X.w) X.A (comprehension (.DictComp kx vx [⟨tg, it, [], 0⟩] sc pos) sc X.env pos' newDict false (eval it X.env) use) Qf X.xe s := by
  have cells : ∀ y ∈ sc.names, y.2 = .free → ∃ c, X.env.cells.lookup y.1 = some c := fun y m e => (blk.free y m e).elim (fun k => I.ok.has _ (.inl k)) fun k => I.ok.has _ (.inr k)
  refine wpAny_comprehension_free (use := use) rfl fold (closure_ok cells) blk.kind (fun y m e => by rw [blk.uniq y m, e]) (thn (walk.run pins s τ H _ I h) fun _ t1 hx => thn hx fun _ t2 ⟨it2, fp, tn, J, G, e, I2, T, stt, fpk, rest⟩ => ?_)
  subst e
  refine wpAny_newObj_type (newEnv_comp ?_)
  generalize hD : t2.heap.objs.size = D
  have free : G D = none := I2.hok.fresh (Nat.le_of_eq hD)
  obtain ⟨W, ⟨m0, w0⟩, turn⟩ := rest D free
  generalize ht3 : ({ t2 with heap := t2.heap.push { cls := .type "dict", data := .dict #[] } } : Shared) = t3
  have hp3 : t3.heap = t2.heap.push { cls := .type "dict", data := .dict #[] } := by rw [← ht3]
  have I3 : Inv X pins τ (upd G D (o0 D)) t3 := by
    rw [← ht3]
    refine I2.laid (t' := t2.toks) (fun _ _ e => Heap.get?_push_of_some _ e) (Nat.le_of_eq hD) ?_
    rw [← hD]
    exact hnew t2.heap _ I2.big
  have below : ∀ b ∈ fp, b < t2.heap.objs.size := fun b hb => by
    obtain ⟨_, e, _⟩ := T.obj _ _ stt b hb
    exact Heap.lt_size e
  have fp3 : ∀ b ∈ fp, FpOk X pins (upd G D (o0 D)) b ∧ b < t3.heap.objs.size := fun b hb => by
    have lt := below b hb
    exact ⟨⟨by rw [upd_ne (by rw [← hD]; exact Nat.ne_of_lt lt)]; exact (fpk b hb).1, (fpk b hb).2⟩, by rw [hp3, Heap.size_push]; exact Nat.lt_succ_of_lt lt⟩
  have stt3 : tn 0 t3.heap := T.keep _ _ _ stt fun b _ o e => by rw [hp3]; exact Heap.get?_push_of_some _ e
  have I4 := block_start I3 blk nd fp3
  have rg := pg t3 (upd G D (o0 D)) t3.heap.objs.size (cellsFrom (t3.heap.objs.size + 1) sc.names (cloFrom X.env.cells sc.names [])) fp
  have rk := pk t3 (upd G D (o0 D)) t3.heap.objs.size (cellsFrom (t3.heap.objs.size + 1) sc.names (cloFrom X.env.cells sc.names [])) fp
  have rv := pv t3 (upd G D (o0 D)) t3.heap.objs.size (cellsFrom (t3.heap.objs.size + 1) sc.names (cloFrom X.env.cells sc.names [])) fp
  show codeAny _ _ (.compStart (.DictComp kx vx [⟨tg, it, [], 0⟩] sc pos) 0 (.ref it2) (.ref D) (compEnvC sc (cellsFrom (t3.heap.objs.size + 1) sc.names (cloFrom X.env.cells sc.names [])) t3.heap.objs.size X.env)) (compPost (model X.prog X.w) X.A X.xe use Qf (.ref D) t3.heap.objs.size) { t3 with heap := pushCells (t3.heap.push { cls := .type "dict", data := .dict #[] }) sc.names }
  have hid : ∀ b ∈ fp, (upd G D (o0 D)) b = none := fun b hb => (fp3 b hb).1.1
  generalize hen : compEnvC sc (cellsFrom (t3.heap.objs.size + 1) sc.names (cloFrom X.env.cells sc.names [])) t3.heap.objs.size X.env = en at I4 rg rk rv ⊢
  have enl : en.locals = t3.heap.objs.size := by subst hen; rfl
  generalize hG3 : upd G D (o0 D) = G3 at I3 I4 rg rk rv w0 hid fp3
  generalize ht4 : ({ t3 with heap := pushCells (t3.heap.push { cls := .type "dict", data := .dict #[] }) sc.names } : Shared) = t4 at I4 ⊢
  have stt4 : tn 0 t4.heap := T.keep _ _ _ stt3 fun b _ o e => by rw [← ht4]; exact pushCells_keeps _ _ _ _ (Heap.get?_push_of_some _ e)
  have still : ∀ {τ' : L2.St} {F : Hp} {t : Shared}, Inv (X.blk t3 G3 sc en fp) [] τ' F t → (∀ b ∈ fp, F b = none) → ∀ b ∈ fp, FpOk (X.blk t3 G3 sc en fp) [] F b := fun {τ' F t} J hn b hb =>
    ⟨hn b hb, (J.ok.exf b hb).1, J.ok.exfs b hb, .inl hb, fun x c e => (J.ok.exf b hb).2 x c e, fun p hp => absurd (show p ∈ ([] : List (Addr × Obj)) ++ [] from hp) (by simp)⟩
  have loop : codeAny (model X.prog X.w) X.A (.compLoop (.DictComp kx vx [⟨tg, it, [], 0⟩] sc pos) 0 (.ref it2) (.ref D) en) (compPost (model X.prog X.w) X.A X.xe use Qf (.ref D) t3.heap.objs.size) t4 := by
    refine compLoop_anyD (fun n t => ∃ i F, Inv (X.blk t3 G3 sc en fp) [] (wipe τ (own.map (·.2))) F t ∧ tn i t.heap ∧ (∀ b ∈ fp, F b = none) ∧ W i n F) ?_ m0 ⟨0, G3, I4, stt4, hid, w0⟩
    rintro n t5 ⟨i, F5, I5, stt5, hid5, w5⟩
    rcases turn i n F5 w5 with ⟨stop, fin⟩ | ⟨go, Nx, next, step⟩
    · refine thnF (T.done (X.blk t3 G3 sc en fp) rfl rfl rfl calm i [] t5 _ F5 (fun _ _ => False) I5 (still I5 hid5) stt5 stop) fun r t6 ⟨hr, I6⟩ => ?_
      subst hr
      have I7 : Inv X pins τ F5 t6 := I3.call' (ch := fp) I6.os I6.base I6.hok I6.bare fun b hb => ⟨(fp3 b hb).1.2.2.2.1, (fp3 b hb).1.2.1, (fp3 b hb).1.2.2.2.2.1, (fp3 b hb).1.2.2.2.2.2⟩
      have nC : F5 t3.heap.objs.size = none := enl ▸ (show F5 en.locals = none from I6.free)
      obtain ⟨m, hn, _⟩ := I6.loc
      have hn : t6.heap.Ns en.locals m := hn
      exact back D t3.heap.objs.size t6 m F5 I7 fin (enl ▸ hn) (I3.fpOk (Nat.le_refl _) nC)
    · refine thnF (T.item (X.blk t3 G3 sc en fp) rfl rfl rfl calm i [] t5 _ F5 (fun _ _ => False) I5 (still I5 hid5) stt5 go) fun r t6 ⟨u, hr, h6⟩ => ?_
      subst hr
      refine thnF h6 fun _ t7 ⟨x, F7, I7, r7, y7, stt7, hid7⟩ => ?_
      have J7 := I7.pinned (still I7 hid7) (T.obj _ _ stt7)
      refine thnF (rg.run _ t7 _ F7 x u _ J7 r7 (step x F7 y7)) fun _ t8 ⟨τ8, F8, I8, wip, more⟩ => ?_
      refine thnF ((pts_nil (X := X.blk t3 G3 sc en fp)).run _ t8 τ8 F8 (fun b G => b = true ∧ tk τ8 G fun y F3 => tv τ8 F3 fun z F4 => ∃ F5, Put F4 D y z F5 ∧ Nx F5) I8 ⟨rfl, more⟩) fun b t9 ⟨F9, I9, eb, more9⟩ => ?_
      subst eb
      have close : ∀ {t : Shared} {F : Hp}, Inv (X.blk t3 G3 sc en fp) ([] ++ pinsAt fp t7.heap) τ8 F t → Nx F → ∃ m, m < n ∧ ∃ i F, Inv (X.blk t3 G3 sc en fp) [] (wipe τ (own.map (·.2))) F t ∧ tn i t.heap ∧ (∀ b ∈ fp, F b = none) ∧ W i m F := fun {t F} J nx => by
        obtain ⟨m', lt, w'⟩ := next F nx
        have pin : ∀ b ∈ fp, ∀ o, t7.heap.get? b = some o → t.heap.get? b = some o ∧ F b = none := fun b hb o e =>
          let z := J.pin (b, o) (List.mem_append_right _ (List.mem_append_right _ (mem_pinsAt hb e)))
          ⟨z.1, z.2.1⟩
        refine ⟨m', lt, i + 1, F, (J.unpinned (pins := [])).weak (by rw [← wip, wipe_length]) (fun j v e => by rw [← wip] at e; exact (wipe_some e).1), T.keep _ _ _ stt7 fun b hb o e => (pin b hb o e).1, fun b hb => ?_, w'⟩
        obtain ⟨o, e, _⟩ := T.obj _ _ stt7 b hb
        exact (pin b hb o e).2
      simp only [if_true]
      refine thnF (rk.run _ t9 τ8 F9 _ I9 more9) fun _ t10 ⟨y, F10, I10, r10, more10⟩ => ?_
      refine thnF (rv.run _ t10 τ8 F10 _ I10 more10) fun _ t11 ⟨z, F11, I11, r11, F12, put, nx⟩ => ?_
      exact hput (X.blk t3 G3 sc en fp) rfl rfl rfl rfl I11 put r10 r11 fun t12 I12 => close I12 nx
  exact codeAny_compStart_dict loop (T.self X.A 0 _ _ _ stt4 loop)
theorem pe_dcN {o0 : Addr → HO} {Put : Hp → Addr → V → V → Hp → Prop} {kx vx tg it : Expr} {sc : Scope} {own : List (Str × Nat)} {pos : Pos} {wi : TI} {g : TG} {tk tv : TE} (hnew : ∀ (h : Heap) (H : Hp), sysModules < h.objs.size → ObjOk X.prog X.w H (h.push { cls := .type "dict", data := .dict #[] }) h.objs.size (o0 h.objs.size))
    (hput : ∀ (X' : Cx), X'.prog = X.prog → X'.w = X.w → X'.A = X.A → X'.K = X.K → ∀ {pins : List (Addr × Obj)} {τ : L2.St} {H G : Hp} {s : Shared} {E : Value → Shared → Prop} {D : Addr} {y z : V} {u r : Value} {R : Unit → Shared → Prop}, Inv X' pins τ H s → Put H D y z G → RelV y u → RelV z r →
      (∀ t, Inv X' pins τ G t → R () t) → wpAny (model X'.prog X'.w) X'.A (dictSet D u r) R E s) (calm : X.calm = true) (nd : X.N.Nodup) (walk : PI X tg it wi) (blk : BlkOk X.N X.env.scope sc own)
    (pg : ∀ (s : Shared) (H : Hp) (C : Addr) (cl : List (Str × Addr)) (fp : List Addr), PG (X.blk s H sc (compEnvC sc cl C X.env) fp) tg g)
    (pk : ∀ (s : Shared) (H : Hp) (C : Addr) (cl : List (Str × Addr)) (fp : List Addr), PE (X.blk s H sc (compEnvC sc cl C X.env) fp) kx tk)
    (pv : ∀ (s : Shared) (H : Hp) (C : Addr) (cl : List (Str × Addr)) (fp : List Addr), PE (X.blk s H sc (compEnvC sc cl C X.env) fp) vx tv)
    (fold : ∀ x, foldedSetIterable it X.env x = pure x := by intro _; rfl) : PE X (.DictComp kx vx [⟨tg, it, [], 0⟩] sc pos) (tDN o0 Put wi g tk tv (own.map (·.2))) := by
  refine ⟨fun pins s τ H Q I h => ?_⟩
  rw [arm_eval_DictComp]
  refine core hnew hput calm nd I walk blk pg pk pv fold h fun D C t m G J q hn f => ⟨m, hn, fun h2 sb => ?_⟩
  obtain ⟨f0, f1, f2, f3, f4, f5⟩ := f
  exact ⟨.ref D, G, J.turned (t' := t.toks) (fun b o hb e => (sb.2 b hb).trans e) f0 f1 f3 f4 f5, rfl, q⟩
end
abbrev Pl := Rt × Rt
abbrev Ent := NestedKey × Addr × Value
def kR (r : Rt) : NestedKey := .tup [.num r.1, .num r.2]
def kP (p : Pl) : NestedKey := .tup [kR p.1, kR p.2]
/-- a dict with such keys -/
def ND (P : Program) (w : World) (D : Addr) (xs : List Ent) : HO := .ext fun h => (D == sysModules) = false ∧ xs.length ≤ sizeLine ∧ (xs.map (·.1)).Nodup ∧ ∃ o es ep, h.get? D = some o ∧ o.ExactDict ∧ o.data = .dict es ep ∧ es.toList = xs.map (entryOfKey (nestedKind P w))
/-- its entries, by what is known of the heap: places, each with True -/
def LP (K : PySem.W.Frag) (H : Hp) (us : List Pl) (xs : List Ent) : Prop := Paired (fun (p : Pl) (x : Ent) => x.1 = kP p ∧ Dp K H (.ref x.2.1) (pD p) ∧ x.2.2 = .bool true) us xs
theorem LP.same {K : PySem.W.Frag} {H H' : Hp} {us : List Pl} {xs : List Ent} (h : LP K H us xs) (s : Same H H') : LP K H' us xs := Paired.mapP h fun p x k => ⟨k.1, Dp_same s k.2.1, k.2.2⟩
theorem kR_inj {r s : Rt} (h : kR r = kR s) : r = s := by
  unfold kR at h
  injection h with h
  injection h with h1 h
  injection h with h2 h
  injection h1 with h1
  injection h2 with h2
  exact Prod.ext h1 h2
theorem kP_inj {p q : Pl} (h : kP p = kP q) : p = q := by
  unfold kP at h
  injection h with h
  injection h with h1 h
  injection h with h2 h
  exact Prod.ext (kR_inj h1) (kR_inj h2)
theorem nested_r {X : Cx} {pins : List (Addr × Obj)} {τ : L2.St} {H : Hp} {s : Shared} {v : V} {u : Value} {r : Rt} (I : Inv X pins τ H s) (h : Dp X.K H v (rD r)) (ru : RelV v u) : NestedIs s.heap (kR r) u := by
  obtain ⟨p, rfl, hs⟩ := dp_r h
  cases (show u = Value.ref p from ru)
  obtain ⟨its, rv, ⟨o, e, c, n, d⟩, _⟩ := I.tuple hs
  obtain ⟨i1, i2, rfl, r1, r2⟩ : ∃ i1 i2, its = [i1, i2] ∧ RelV (.int r.1) i1 ∧ RelV (.int r.2) i2 := by
    cases rv with
    | cons k1 k2 => cases k2 with
      | cons k3 k4 => cases k4 with
        | nil => exact ⟨_, _, rfl, k1, k3⟩
  obtain ⟨t1, rfl⟩ := r1
  obtain ⟨t2, rfl⟩ := r2
  exact .tup e c d (.cons (.int _ _) (.cons (.int _ _) .nil))
theorem nested_p {X : Cx} {pins : List (Addr × Obj)} {τ : L2.St} {H : Hp} {s : Shared} {b : Addr} {p : Pl} (I : Inv X pins τ H s) (h : Dp X.K H (.ref b) (pD p)) : (nestedKind X.prog X.w).is s.heap (kP p) b := by
  refine ⟨?_, by simp [kP, kR, NestedKey.depth, NestedKey.depthAll]⟩
  obtain ⟨b', x, y, e, hs, hx, hy⟩ := dp_t2 h
  cases e
  obtain ⟨its, rv, ⟨o, e, c, n, d⟩, _⟩ := I.tuple hs
  obtain ⟨i1, i2, rfl, r1, r2⟩ : ∃ i1 i2, its = [i1, i2] ∧ RelV x i1 ∧ RelV y i2 := by
    cases rv with
    | cons k1 k2 => cases k2 with
      | cons k3 k4 => cases k4 with
        | nil => exact ⟨_, _, rfl, k1, k3⟩
  exact .tup e c d (.cons (nested_r I hx r1) (.cons (nested_r I hy r2) .nil))
/-- D[place] = True -/
def PutN (K : PySem.W.Frag) (P : Program) (w : World) (H : Hp) (D : Addr) (y z : V) (G : Hp) : Prop := ∃ (us : List Pl) (xs : List Ent) (b : Addr) (p : Pl), H D = some (ND P w D xs) ∧ LP K H us xs ∧ y = .ref b ∧ Dp K H (.ref b) (pD p) ∧ xs.length < sizeLine ∧ z = .bl true ∧ G = upd H D (ND P w D (storedH xs (kP p) b (.bool true)))
theorem stored_len (xs : List Ent) (k : NestedKey) (b : Addr) (v : Value) : (storedH xs k b v).length ≤ xs.length + 1 := by
  unfold storedH
  split
  · rw [List.length_map]; omega
  · rw [List.length_append]; exact Nat.le_refl _
theorem hnewN (P : Program) (w : World) (h : Heap) (H : Hp) (hb : sysModules < h.objs.size) : ObjOk P w H (h.push { cls := .type "dict", data := .dict #[] }) h.objs.size (ND P w h.objs.size []) :=
  ⟨⟨beq_eq_false_iff_ne.mpr (Ne.symm (Nat.ne_of_lt hb)), Nat.zero_le _, List.nodup_nil, _, #[], 0, Heap.get?_push_size _ rfl, ⟨rfl, rfl, rfl⟩, rfl, rfl⟩, ⟨_, Heap.get?_push_size _ rfl⟩, fun h1 h2 ⟨a, b, c, o, es, ep, e, q⟩ k => ⟨a, b, c, o, es, ep, k o e, q⟩⟩
theorem lp_is {X : Cx} {pins : List (Addr × Obj)} {τ : L2.St} {H : Hp} {s : Shared} (I : Inv X pins τ H s) : ∀ {us : List Pl} {xs : List Ent}, LP X.K H us xs → ∀ x ∈ xs, (nestedKind X.prog X.w).is s.heap x.1 x.2.1
  | _, _, .nil, _, h => nomatch h
  | _, _, .cons a t, x, h => by
    rcases List.mem_cons.mp h with rfl | h
    · rw [a.1]; exact nested_p I a.2.1
    · exact lp_is I t x h
theorem putN_ok {X : Cx} {K : PySem.W.Frag} (eK : X.K = K) (room : X.A.units + 8 < cLine) {pins : List (Addr × Obj)} {τ : L2.St} {H G : Hp} {s : Shared} {E : Value → Shared → Prop} {D : Addr} {y z : V} {u r : Value} {R : Unit → Shared → Prop} (I : Inv X pins τ H s) (g : PutN K X.prog X.w H D y z G) (ry : RelV y u) (rz : RelV z r)
    (k : ∀ t, Inv X pins τ G t → R () t) : wpAny (model X.prog X.w) X.A (dictSet D u r) R E s := by
  subst eK
  obtain ⟨us, xs, b, p, eD, lp, rfl, hb, ln, rfl, rfl⟩ := g
  cases (show u = Value.ref b from ry)
  cases (show r = Value.bool true from rz)
  obtain ⟨⟨nm, big, nd, o, es, ep, ho, hx, hd, hes⟩, _, _⟩ := (show ObjOk X.prog X.w H s.heap D (ND X.prog X.w D xs) from I.hok D _ eD)
  refine wpAny_dictSet_heap (hsz := big) (knd := nestedKind X.prog X.w) room (nested_p I hb) ⟨o, es, ep, ho, hx, hd, hes, lp_is I lp, nd⟩ fun h2 dh2 same => k _ ?_
  obtain ⟨o2, es2, ep2, ho2, hx2, hd2, hes2, _, hn2⟩ := dh2
  refine d_write I (by rw [eD]; exact True.intro) same ⟨o2, ho2⟩ ⟨⟨nm, ?_, hn2, o2, es2, ep2, ho2, hx2, hd2, hes2⟩, ⟨o2, ho2⟩, fun h1 h2 ⟨a, b, c, o, es, ep, e, q⟩ k => ⟨a, b, c, o, es, ep, k o e, q⟩⟩
  have := stored_len xs (kP p) b (.bool true)
  omega
theorem hputN {X : Cx} {K : PySem.W.Frag} {P : Program} {w : World} (eK : X.K = K) (room : X.A.units + 8 < cLine) (eP : X.prog = P) (ew : X.w = w) (X' : Cx) (e1 : X'.prog = X.prog) (e2 : X'.w = X.w) (e3 : X'.A = X.A) (e4 : X'.K = X.K) {pins : List (Addr × Obj)} {τ : L2.St} {H G : Hp} {s : Shared} {E : Value → Shared → Prop} {D : Addr} {y z : V} {u r : Value} {R : Unit → Shared → Prop}
    (I : Inv X' pins τ H s) (g : PutN K P w H D y z G) (ry : RelV y u) (rz : RelV z r) (k : ∀ t, Inv X' pins τ G t → R () t) : wpAny (model X'.prog X'.w) X'.A (dictSet D u r) R E s :=
  putN_ok (X := X') (e4.trans eK) (by rw [e3]; exact room) I (by rw [e1, e2, eP, ew]; exact g) ry rz k
/-- what comes of a store -/
def insP (us : List Pl) (p : Pl) : List Pl := if p ∈ us then us else us ++ [p]
def uqP (ps : List Pl) : List Pl := ps.foldl insP []
theorem lp_at {K : PySem.W.Frag} {H : Hp} : ∀ {us : List Pl} {xs : List Ent} (_ : LP K H us xs) (p : Pl), (atKey xs (kP p)).isSome = true ↔ p ∈ us
  | _, _, .nil, p => by simp [atKey]
  | q :: us, x :: xs, .cons a t, p => by
    have ih := lp_at t p
    by_cases e : q = p
    · subst e
      have : atKey (x :: xs) (kP q) = some x.2 := by
        unfold atKey
        rw [List.find?_cons]
        simp [a.1]
      rw [this]
      simp
    · have : atKey (x :: xs) (kP p) = atKey xs (kP p) := by
        unfold atKey
        have n : decide (x.1 = kP p) = false := decide_eq_false fun z => e (kP_inj (a.1.symm.trans z))
        rw [List.find?_cons]
        simp [n]
      rw [this, ih, List.mem_cons]
      constructor
      · exact .inr
      · rintro (z | z)
        · exact absurd z.symm e
        · exact z
theorem lp_put {K : PySem.W.Frag} {H : Hp} {us : List Pl} {xs : List Ent} {b : Addr} {p : Pl} (h : LP K H us xs) (hb : Dp K H (.ref b) (pD p)) : LP K H (insP us p) (storedH xs (kP p) b (.bool true)) := by
  unfold storedH insP
  by_cases m : p ∈ us
  · rw [if_pos m, if_pos ((lp_at h p).mpr m)]
    have : xs.map (putAt (kP p) (.bool true)) = xs := by
      have : ∀ {us : List Pl} {xs : List Ent}, LP K H us xs → xs.map (putAt (kP p) (.bool true)) = xs := by
        intro us xs h
        induction h with
        | nil => rfl
        | cons a t ih =>
          rename_i q x us xs
          rw [List.map_cons, ih]
          congr 1
          unfold putAt
          split
          · exact Prod.ext rfl (Prod.ext rfl a.2.2.symm)
          · rfl
      exact this h
    rw [this]
    exact h
  · rw [if_neg m, if_neg fun z => m ((lp_at h p).mp z)]
    have : ∀ {us : List Pl} {xs : List Ent}, LP K H us xs → LP K H (us ++ [p]) (xs ++ [(kP p, b, .bool true)]) := by
      intro us xs h
      induction h with
      | nil => exact .cons ⟨rfl, hb, rfl⟩ .nil
      | cons a t ih => exact .cons a ih
    exact this h
theorem uqP_snoc (ps : List Pl) (p : Pl) : uqP (ps ++ [p]) = insP (uqP ps) p := by unfold uqP; rw [List.foldl_append]; rfl
theorem insP_mem {us : List Pl} {p q : Pl} : q ∈ insP us p ↔ q ∈ us ∨ q = p := by
  unfold insP
  split
  · rename_i m
    exact ⟨.inl, fun h => h.elim id fun z => z ▸ m⟩
  · rw [List.mem_append, List.mem_singleton]
theorem insP_nodup {us : List Pl} {p : Pl} (h : us.Nodup) : (insP us p).Nodup := by
  unfold insP
  split
  · exact h
  · rename_i m
    exact List.nodup_append.mpr ⟨h, by simp, fun a ha b hb => by rw [List.mem_singleton.mp hb]; intro z; exact m (z ▸ ha)⟩
theorem foldP_spec : ∀ (ds us : List Pl), us.Nodup → (ds.foldl insP us).Nodup ∧ (∀ e, e ∈ ds.foldl insP us ↔ e ∈ us ∨ e ∈ ds) ∧ (ds.foldl insP us).length ≤ us.length + ds.length
  | [], us, h => ⟨h, fun e => by simp, by simp⟩
  | d :: ds, us, h => by
    obtain ⟨a, b, c⟩ := foldP_spec ds (insP us d) (insP_nodup h)
    refine ⟨a, fun e => ?_, ?_⟩
    · rw [List.foldl_cons, b, insP_mem, List.mem_cons, or_assoc]
    · have : (insP us d).length ≤ us.length + 1 := by
        unfold insP
        split
        · omega
        · rw [List.length_append]; exact Nat.le_refl _
      rw [List.foldl_cons, List.length_cons]
      omega
theorem uqP_nodup (ds : List Pl) : (uqP ds).Nodup := (foldP_spec ds [] List.nodup_nil).1
theorem uqP_mem {ds : List Pl} {e : Pl} : e ∈ uqP ds ↔ e ∈ ds := by rw [show uqP ds = ds.foldl insP [] from rfl, (foldP_spec ds [] List.nodup_nil).2.1]; simp
theorem uqP_len (ds : List Pl) : (uqP ds).length ≤ ds.length := by have := (foldP_spec ds [] List.nodup_nil).2.2; rw [show uqP ds = ds.foldl insP [] from rfl]; simpa using this
mutual
/-- data without lists stays, where a thing that is no tuple changes -/
theorem Dp_notT {K : PySem.W.Frag} {H H' : Hp} {p : Addr} {φ : Heap → Prop} (hp : H p = some (.ext φ)) (s : ∀ b o, b ≠ p → H b = some o → H' b = some o) : ∀ {v : V} {d : PyData}, noL d = true → Dp K H v d → Dp K H' v d
  | _, _, _, .non => .non
  | _, _, _, .bl b => .bl b
  | _, _, _, .int i => .int i
  | _, _, _, .str x => .str x
  | _, _, n, .lst _ _ => by simp [noL] at n
  | _, _, n, .tup (a := a) h g => by
    have n2 := n
    simp only [noL] at n2
    refine .tup ?_ (DpAll_notT hp s n2 g)
    rcases h with (h | ⟨o, h⟩) | h
    · exact .inl (.inl (s _ _ (fun e => by rw [e, hp] at h; cases h) h))
    · exact .inl (.inr ⟨o, s _ _ (fun e => by rw [e, hp] at h; cases h) h⟩)
    · exact .inr h
theorem DpAll_notT {K : PySem.W.Frag} {H H' : Hp} {p : Addr} {φ : Heap → Prop} (hp : H p = some (.ext φ)) (s : ∀ b o, b ≠ p → H b = some o → H' b = some o) : ∀ {vs : List V} {ds : List PyData}, noLs ds = true → DpAll K H vs ds → DpAll K H' vs ds
  | _, _, _, .nil => .nil
  | _, _, n, .cons h g => by
    have n2 := n
    simp only [noLs, Bool.and_eq_true] at n2
    exact .cons (Dp_notT hp s n2.1 h) (DpAll_notT hp s n2.2 g)
end
/-- the walk over a list or a tuple of places -/
theorem dc_places {K : PySem.W.Frag} {P : Program} {w : World} {a : Addr} {xs : List V} {j : Nat} {g : TG} {tk tv : TE} {own : List Nat} {τ : L2.St} {H : Hp} {Q : VK} (ps : List Pl) (hj : τ[j]? = some (some (.ref a))) (h0 : SqL K H a xs ∨ SqT K H a xs) (hl : ps.length = xs.length) (hz : xs.length < sizeLine)
    (hs : ∀ (i : Nat) (x : V) (F : Hp) (R : V → V → Hp → Prop) (p : Pl), xs[i]? = some x → ps[i]? = some p → Same H F → (∀ b G, Same F G → Dp K G (.ref b) (pD p) → R (.ref b) (.bl true) G) → g x (wipe τ own) F fun τ2 F2 => wipe τ2 own = wipe τ own ∧ tk τ2 F2 fun y F3 => tv τ2 F3 fun z F4 => R y z F4)
    (hd : ∀ (D : Addr) (F : Hp) (es : List Ent), Same H F → F D = some (ND P w D es) → LP K F (uqP ps) es → Q (.ref D) F) : tDN (fun D => ND P w D []) (PutN K P w) (iSeq K (tVar j)) g tk tv own τ H Q := by
  have turnD : ∀ (D : Addr) (i : Nat) (F : Hp) (x : V), H D = none → xs[i]? = some x → (Same H F ∧ ∃ es, F D = some (ND P w D es) ∧ LP K F (uqP (ps.take i)) es) →
      g x (wipe τ own) F fun τ2 F2 => wipe τ2 own = wipe τ own ∧ tk τ2 F2 fun y F3 => tv τ2 F3 fun z F4 => ∃ F5, PutN K P w F4 D y z F5 ∧ (Same H F5 ∧ ∃ es, F5 D = some (ND P w D es) ∧ LP K F5 (uqP (ps.take (i + 1))) es) := by
    rintro D i F x nD ex ⟨sF, es, eD, lp⟩
    have il : i < ps.length := by rw [hl]; exact (List.getElem?_eq_some_iff.mp ex).1
    refine hs i x F _ ps[i] ex (List.getElem?_eq_getElem il) sF fun b G sG hb => ?_
    have le : es.length = (uqP (ps.take i)).length := (Paired.length lp).symm
    have ll := uqP_len (ps.take i)
    rw [List.length_take] at ll
    have eG := sG _ _ eD
    have keepD : ∀ {v : V} {d : PyData}, noL d = true → Dp K G v d → Dp K (upd G D (ND P w D (storedH es (kP ps[i]) b (.bool true)))) v d := fun {v d} n h => by
      exact Dp_notT eG (fun b o n e => by rw [upd_ne n]; exact e) n h
    refine ⟨_, ⟨_, es, b, ps[i], eG, lp.same sG, rfl, hb, by omega, rfl, rfl⟩, fun c o e => ?_, _, upd_same, ?_⟩
    · have cD : c ≠ D := ne_of_none e nD
      rw [upd_ne cD]
      exact sG _ _ (sF _ _ e)
    · rw [List.take_succ_eq_append_getElem il, uqP_snoc]
      exact Paired.mapP (lp_put (lp.same sG) hb) fun p x k => ⟨k.1, keepD (by simp [pD, rD, noL, noLs]) k.2.1, k.2.2⟩
  have mk : ∀ (D : Addr) (nD : H D = none), Same H (upd H D (ND P w D [])) ∧ ∃ es, (upd H D (ND P w D [])) D = some (ND P w D es) ∧ LP K (upd H D (ND P w D [])) (uqP (ps.take 0)) es := fun D nD => ⟨PB.same_new nD, [], upd_same, .nil⟩
  have fin : ∀ D F, (Same H F ∧ ∃ es, F D = some (ND P w D es) ∧ LP K F (uqP (ps.take xs.length)) es) → Q (.ref D) F := fun D F ⟨s, es, e, lp⟩ => hd D F es s e (by rw [← hl, List.take_length] at lp; exact lp)
  rcases h0 with h0 | h0
  · refine .inl ⟨_, hj, a, rfl, ⟨_, h0⟩, fun D nD => ⟨fun i m F => m = xs.length - i ∧ i ≤ xs.length ∧ (Same H F ∧ ∃ es, F D = some (ND P w D es) ∧ LP K F (uqP (ps.take i)) es), ⟨_, rfl, Nat.zero_le _, mk D nD⟩, ?_⟩⟩
    rintro i m F ⟨rfl, hi, p⟩
    have sq := p.1.seq h0
    by_cases lt : i < xs.length
    · exact .inr ⟨⟨xs, xs[i], sq, List.getElem?_eq_getElem lt⟩, _, fun F' p' => ⟨xs.length - (i + 1), by omega, rfl, lt, p'⟩, fun x F' y => by
        obtain ⟨rfl, y⟩ := y
        exact turnD D i _ x nD (y xs sq) p⟩
    · obtain rfl : i = xs.length := by omega
      exact .inl ⟨⟨xs, sq, Nat.le_refl _⟩, fin D F p⟩
  · refine .inr ⟨_, hj, a, rfl, ⟨_, h0⟩, fun D nD => ⟨fun i m F => m = xs.length - i ∧ i ≤ xs.length ∧ (Same H F ∧ ∃ es, F D = some (ND P w D es) ∧ LP K F (uqP (ps.take i)) es), ⟨_, rfl, Nat.zero_le _, mk D nD⟩, ?_⟩⟩
    rintro i m F ⟨rfl, hi, p⟩
    have sq := PB.same_t p.1 h0
    by_cases lt : i < xs.length
    · exact .inr ⟨⟨xs, xs[i], sq, List.getElem?_eq_getElem lt⟩, _, fun F' p' => ⟨xs.length - (i + 1), by omega, rfl, lt, p'⟩, fun x F' y => by
        obtain ⟨rfl, y⟩ := y
        exact turnD D i _ x nD (y xs sq) p⟩
    · obtain rfl : i = xs.length := by omega
      exact .inl ⟨⟨xs, sq, Nat.le_refl _⟩, fin D F p⟩
/-- list(such a dict) -/
def rListN (K : PySem.W.Frag) (P : Program) (w : World) : List V → Hp → VK → Prop := fun vs H Q => ∃ (D : Addr) (es : List Ent) (us : List Pl), vs = [.ref D] ∧ H D = some (ND P w D es) ∧ LP K H us es ∧ ∀ (p : Addr) (ys : List V), H p = none → DpAll K H ys (us.map pD) → Q (.ref p) (upd H p (.lst ys))
theorem lp_dps {K : PySem.W.Frag} {H : Hp} : ∀ {us : List Pl} {xs : List Ent}, LP K H us xs → DpAll K H (xs.map fun x => V.ref x.2.1) (us.map pD)
  | _, _, .nil => .nil
  | _, _, .cons a t => .cons a.2.1 (lp_dps t)
section
variable {X : Cx}
theorem cr_listN (hc : X.calm = true) : CallR X (.type "list") (rListN X.K X.prog X.w) := by
  rintro pins s τ H vs args Q I r ⟨D, xs, us, rfl, eD, lp, q⟩
  obtain ⟨u, rfl, rx⟩ := r.one
  cases rx
  obtain ⟨⟨nm, big, nd, o, es, ep, ho, hx, hdt, he⟩, _, _⟩ := (show ObjOk X.prog X.w H s.heap D (ND X.prog X.w D xs) from I.hok D _ eD)
  have l1 : es.size = xs.length := by
    have := congrArg List.length he
    simpa using this
  refine PySem.W.kdl_call (kdl_raw nm hx hdt) (I.ok.hd hc) ho (by omega) fun h' tk acc' c' kp e it => ?_
  have ea : acc'.toList = xs.map fun x => Value.ref x.2.1 := by
    have hl : acc'.toList.length = xs.length := by rw [Array.length_toList, it.1]; exact l1
    refine List.ext_getElem? fun j => ?_
    rw [List.getElem?_map]
    by_cases jl : j < xs.length
    · obtain ⟨v, hv⟩ : ∃ v, acc'[j]? = some v := ⟨_, Array.getElem?_eq_getElem (by rw [← Array.length_toList]; omega)⟩
      obtain ⟨en, hen, ev⟩ := it.2 j v hv
      have q2 : es.toList[j]? = some en := by rw [Array.getElem?_toList]; exact hen
      rw [he, List.getElem?_map, List.getElem?_eq_getElem jl] at q2
      have q3 : en = entryOfKey (nestedKind X.prog X.w) xs[j] := (Option.some.inj q2).symm
      rw [Array.getElem?_toList, hv, List.getElem?_eq_getElem jl, ev, q3]
      rfl
    · rw [List.getElem?_eq_none (by omega), List.getElem?_eq_none (by omega)]
      rfl
  have rv : Vals (xs.map fun x => V.ref x.2.1) acc'.toList := by
    rw [ea]
    have : ∀ l : List Ent, Vals (l.map fun x => V.ref x.2.1) (l.map fun x => Value.ref x.2.1) := fun l => by
      induction l with
      | nil => exact .nil
      | cons a l ih => exact .cons rfl ih
    exact this xs
  refine ⟨.ref s.heap.objs.size, _, I.laid (t' := tk) (o := .lst (xs.map fun x => V.ref x.2.1)) kp (Nat.le_refl _) ?_, rfl, q _ _ (I.hok.fresh (Nat.le_refl _)) (lp_dps lp)⟩
  exact ⟨by rw [List.length_map]; exact big, acc'.toList, c', rv, by rw [Array.toArray_toList]; exact e⟩
end
end KN
set_option Elab.async false
set_option linter.all false
set_option maxRecDepth 100000
set_option maxHeartbeats 4000000
namespace F3
open PySem PySem.Spec PyProof.Rows L2 FX RM PB
def topS (i : Nat) : Stmt := PySem.Challenge.pw_feltstone_k04_whole_patches_made_and_ref.main.body.getD i (.Pass ⟨0, 0, 0, 0⟩)
theorem cou_r {K : PySem.W.Frag} {H : Hp} {v : V} {r : Rt} (h : Dp K H v (rD r)) : Cou K H v (.int r.1) (.int r.2) := dir_t h
theorem sz1 : Sz 2000 1 := by show (1 : Int).natAbs < 2 ^ 2000; exact Nat.one_lt_two_pow (by decide)
theorem g2_one (t : Int) : g2 t 1 = 1 := by unfold g2; show ((Nat.gcd t.natAbs 1 : Nat) : Int) = 1; rw [Nat.gcd_one_right]; rfl
theorem norm_one (t : Int) : norm t 1 = (t, 1) := by unfold norm; rw [g2_one]; simp
theorem radd_fast {r s : Rt} (hr : IsRat r) (e : r.2 = s.2) : norm (r.1 + s.1) r.2 = radd r s := by
  unfold radd
  refine norm_eq hr.1 (Int.mul_pos hr.1 (e ▸ hr.1)) ?_
  rw [← e]; grind
/-! promises: ratios -/
def spLow (K : PySem.W.Frag) : Sp := fun vs H Q _ => ∃ t b : Int, vs = [.int t, .int b] ∧ 0 < b ∧ Sz 8000 t ∧ Sz 8000 b ∧ ∀ H' v, Same H H' → Dp K H' v (rD (norm t b)) → Q v H'
def spBin (K : PySem.W.Frag) (o : Rt → Rt → Rt) : Sp := fun vs H Q _ => ∃ v u r s, vs = [v, u] ∧ Dp K H v (rD r) ∧ Dp K H u (rD s) ∧ IsRat r ∧ IsRat s ∧ SzR 2000 r ∧ SzR 2000 s ∧ ∀ H' z, Same H H' → Dp K H' z (rD (o r s)) → Q z H'
def spNeg (K : PySem.W.Frag) : Sp := fun vs H Q _ => ∃ v r, vs = [v] ∧ Dp K H v (rD r) ∧ ∀ H' z, Same H H' → Dp K H' z (rD (rneg r)) → Q z H'
/-- the first by a positive whole number -/
def spOver (K : PySem.W.Frag) : Sp := fun vs H Q _ => ∃ v u r n, vs = [v, u] ∧ Dp K H v (rD r) ∧ Dp K H u (rD (n, 1)) ∧ 0 < n ∧ IsRat r ∧ SzR 2000 r ∧ Sz 2000 n ∧ ∀ H' z, Same H H' → Dp K H' z (rD (rmul r (1, n))) → Q z H'
section
variable {P : Program} {w : World} {K : PySem.W.Frag} {mg : Str → Option Value} {base : Heap}
end
end F3
set_option Elab.async false
set_option linter.all false
set_option maxRecDepth 100000
set_option maxHeartbeats 4000000
set_option exponentiation.threshold 3000
namespace F3
open PySem PySem.Spec PyProof.Rows L2 FX RM PB
theorem sz_gg {n : Nat} {x y : Int} (h : x ≠ 0 ∨ y ≠ 0) (a : Sz n x) (b : Sz n y) : Sz n (g2 x y) := by
  by_cases z : y = 0
  · have hx : x ≠ 0 := by
      rcases h with h | h
      · exact h
      · exact absurd z h
    refine Nat.lt_of_le_of_lt ?_ a
    unfold g2
    rw [Int.natAbs_natCast]
    exact Nat.gcd_le_left _ (by omega)
  · exact sz_g z b
theorem g2_posO {x y : Int} (h : x ≠ 0 ∨ y ≠ 0) : 0 < g2 x y := by
  rcases h with h | h
  · exact g2_pos' h
  · exact g2_pos h
/-! places: what is reckoned -/
abbrev Pl := Rt × Rt
def RatP (p : Pl) : Prop := IsRat p.1 ∧ IsRat p.2
def SzP (n : Nat) (p : Pl) : Prop := SzR n p.1 ∧ SzR n p.2
def rawA (d : Int × Int) (p : Pl) : Int × Int := (d.1 * p.1.1 * p.2.2 + d.2 * p.2.1 * p.1.2, p.1.2 * p.2.2)
def amt (d : Int × Int) (p : Pl) : Rt := norm (rawA d p).1 (rawA d p).2
def stepF (p s : Pl) : Pl := (rsub s.1 p.1, rsub s.2 p.2)
def byP (p s : Pl) : Pl := (radd p.1 s.1, radd p.2 s.2)
def growP (p : Pl) (z : Rt) : Pl := (rmul p.1 z, rmul p.2 z)
def wrow (p : Pl) : Int × Int × Int := if p.1.2 = p.2.2 then (p.1.1, p.2.1, p.1.2) else (p.1.1 * p.2.2, p.2.1 * p.1.2, p.1.2 * p.2.2)
def rawC (f g h : Int × Int × Int) : Int × Int := (f.2.2 * (g.1 * h.2.1 - g.2.1 * h.1) + g.2.2 * (h.1 * f.2.1 - h.2.1 * f.1) + h.2.2 * (f.1 * g.2.1 - f.2.1 * g.1), f.2.2 * g.2.2 * h.2.2)
def crossP (a b c : Pl) : Rt := norm (rawC (wrow a) (wrow b) (wrow c)).1 (rawC (wrow a) (wrow b) (wrow c)).2
def dirOf (p : Pl) : Int × Int := norm (p.1.1 * p.2.2) (p.2.1 * p.1.2)
def sumR (rs : List Rt) : Rt := rs.foldl radd (0, 1)
theorem szr_zero : SzR 1 ((0, 1) : Rt) := ⟨by show (0 : Int).natAbs < 2; decide, by show (1 : Int).natAbs < 2; decide⟩
theorem sumR_snoc (rs : List Rt) (r : Rt) : sumR (rs ++ [r]) = radd (sumR rs) r := by unfold sumR; rw [List.foldl_append]; rfl
theorem fold_ok {n : Nat} : ∀ (rs : List Rt) (s : Rt) (m : Nat), IsRat s → SzR m s → (∀ r ∈ rs, IsRat r ∧ SzR n r) → IsRat (rs.foldl radd s) ∧ SzR (m + rs.length * (n + 1)) (rs.foldl radd s)
  | [], s, m, h1, h2, _ => ⟨h1, szr_mono h2 (by omega)⟩
  | r :: rs, s, m, h1, h2, h => by
    obtain ⟨a, b⟩ := h r (List.mem_cons_self ..)
    obtain ⟨c, d⟩ := fold_ok rs (radd s r) (m + n + 1) (rat_add h1 a) (szr_add h1 a h2 b) (fun x hx => h x (List.mem_cons_of_mem _ hx))
    refine ⟨c, szr_mono d ?_⟩
    rw [List.length_cons, Nat.add_mul]; omega
theorem sum_ok {n : Nat} {rs : List Rt} (h : ∀ r ∈ rs, IsRat r ∧ SzR n r) : IsRat (sumR rs) ∧ SzR (1 + rs.length * (n + 1)) (sumR rs) := fold_ok rs (0, 1) 1 rat_zero szr_zero h
/-! promises: places -/
def spSum (K : PySem.W.Frag) : Sp := fun vs H Q _ => ∃ p xs rs, vs = [.ref p] ∧ SqL K H p xs ∧ DpAll K H xs (rs.map rD) ∧ rs.length ≤ 4 ∧ (∀ r ∈ rs, IsRat r ∧ SzR 300 r) ∧ ∀ H' z, Same H H' → Dp K H' z (rD (sumR rs)) → Q z H'
def spWd (K : PySem.W.Frag) : Sp := fun vs H Q _ => ∃ x y : Int, vs = [.int x, .int y] ∧ (x ≠ 0 ∨ y ≠ 0) ∧ Sz 8000 x ∧ Sz 8000 y ∧ ∀ H' z, Same H H' → Dp K H' z (rD (norm x y)) → Q z H'
def spDirOf (K : PySem.W.Frag) : Sp := fun vs H Q _ => ∃ v p, vs = [v] ∧ Pla K H v p ∧ RatP p ∧ SzP 2000 p ∧ (p.1.1 ≠ 0 ∨ p.2.1 ≠ 0) ∧ ∀ H' z, Same H H' → Dp K H' z (rD (dirOf p)) → Q z H'
def spRawA (K : PySem.W.Frag) (o : Int × Int → Pl → Int × Int) : Sp := fun vs H Q _ => ∃ v u d p, vs = [v, u] ∧ Dir K H v d ∧ Pla K H u p ∧ RatP p ∧ SzR 600 d ∧ SzP 600 p ∧ ∀ H' z, Same H H' → Dp K H' z (rD (o d p)) → Q z H'
def spPP (K : PySem.W.Frag) (n : Nat) (o : Pl → Pl → Pl) : Sp := fun vs H Q _ => ∃ v u p s, vs = [v, u] ∧ Pla K H v p ∧ Pla K H u s ∧ RatP p ∧ RatP s ∧ SzP n p ∧ SzP n s ∧ ∀ H' z, Same H H' → Dp K H' z (pD (o p s)) → Q z H'
def spGrow (K : PySem.W.Frag) : Sp := fun vs H Q _ => ∃ v u p s, vs = [v, u] ∧ Pla K H v p ∧ Dp K H u (rD s) ∧ RatP p ∧ IsRat s ∧ SzP 2000 p ∧ SzR 2000 s ∧ ∀ H' z, Same H H' → Dp K H' z (pD (growP p s)) → Q z H'
def spOn (K : PySem.W.Frag) : Sp := fun vs H Q _ => ∃ v u t p s r, vs = [v, u, t] ∧ Pla K H v p ∧ Pla K H u s ∧ Dp K H t (rD r) ∧ RatP p ∧ RatP s ∧ IsRat r ∧ SzP 600 p ∧ SzP 600 s ∧ SzR 600 r ∧ ∀ H' z, Same H H' → Dp K H' z (pD (byP p (growP (stepF p s) r))) → Q z H'
def tD (f : Int × Int × Int) : PyData := .tuple [.int f.1, .int f.2.1, .int f.2.2]
def spWrow (K : PySem.W.Frag) : Sp := fun vs H Q _ => ∃ v p, vs = [v] ∧ Pla K H v p ∧ RatP p ∧ SzP 600 p ∧ ∀ H' z, Same H H' → Dp K H' z (tD (wrow p)) → Q z H'
def spCross (K : PySem.W.Frag) (o : Pl → Pl → Pl → Rt) : Sp := fun vs H Q _ => ∃ v u t a b c, vs = [v, u, t] ∧ Pla K H v a ∧ Pla K H u b ∧ Pla K H t c ∧ RatP a ∧ RatP b ∧ RatP c ∧ SzP 600 a ∧ SzP 600 b ∧ SzP 600 c ∧ ∀ H' z, Same H H' → Dp K H' z (rD (o a b c)) → Q z H'
def spNormal (K : PySem.W.Frag) : Sp := fun vs H Q _ => ∃ v u p s, vs = [v, u] ∧ Pla K H v p ∧ Pla K H u s ∧ RatP p ∧ RatP s ∧ SzP 600 p ∧ SzP 600 s ∧ ((stepF p s).1.1 ≠ 0 ∨ (stepF p s).2.1 ≠ 0) ∧ ∀ H' z, Same H H' → Dp K H' z (rD (dirOf ((stepF p s).2, rneg (stepF p s).1))) → Q z H'
def spP1 (K : PySem.W.Frag) (o : Pl → Pl) : Sp := fun vs H Q _ => ∃ v p, vs = [v] ∧ Pla K H v p ∧ ∀ H' z, Same H H' → Dp K H' z (pD (o p)) → Q z H'
theorem wrow_spec {p : Pl} (h : RatP p) : 0 < (wrow p).2.2 ∧ (wrow p).1 * p.1.2 = p.1.1 * (wrow p).2.2 ∧ (wrow p).2.1 * p.2.2 = p.2.1 * (wrow p).2.2 := by
  unfold wrow
  by_cases e : p.1.2 = p.2.2
  · rw [if_pos e]; exact ⟨h.1.1, rfl, by show p.2.1 * p.2.2 = p.2.1 * p.1.2; rw [e]⟩
  · rw [if_neg e]; exact ⟨Int.mul_pos h.1.1 h.2.1, by show p.1.1 * p.2.2 * p.1.2 = p.1.1 * (p.1.2 * p.2.2); grind, by show p.2.1 * p.1.2 * p.2.2 = p.2.1 * (p.1.2 * p.2.2); grind⟩
theorem wrow_sz {n : Nat} {p : Pl} (h : SzP n p) : Sz (n + n) (wrow p).1 ∧ Sz (n + n) (wrow p).2.1 ∧ Sz (n + n) (wrow p).2.2 := by
  unfold wrow
  split
  · exact ⟨sz_mono h.1.1 (by omega), sz_mono h.2.1 (by omega), sz_mono h.1.2 (by omega)⟩
  · exact ⟨sz_mul h.1.1 h.2.2, sz_mul h.2.1 h.1.2, sz_mul h.1.2 h.2.2⟩
section
variable {P : Program} {w : World} {K : PySem.W.Frag} {mg : Str → Option Value} {base : Heap}
theorem dp_t3 {H : Hp} {v : V} {f : Int × Int × Int} (h : Dp K H v (tD f)) : ∃ p, v = .ref p ∧ SqT K H p [.int f.1, .int f.2.1, .int f.2.2] := by
  cases h with
  | tup h g =>
    cases g with
    | cons h1 g => cases g with
      | cons h2 g => cases g with
        | cons h3 g => cases g with
          | nil =>
            rw [dp_int h1, dp_int h2, dp_int h3] at h
            exact ⟨_, rfl, h⟩
end
end F3
set_option Elab.async false
set_option linter.all false
set_option maxRecDepth 100000
set_option maxHeartbeats 4000000
set_option exponentiation.threshold 3000
namespace F3
open PySem PySem.Spec PyProof.Rows L2 FX RM PB
def rstep (p s : Pl) : Int × Int := ((wrow s).1 * (wrow p).2.2 - (wrow p).1 * (wrow s).2.2, (wrow s).2.1 * (wrow p).2.2 - (wrow p).2.1 * (wrow s).2.2)
def spRawS (K : PySem.W.Frag) : Sp := fun vs H Q _ => ∃ v u p s, vs = [v, u] ∧ Pla K H v p ∧ Pla K H u s ∧ RatP p ∧ RatP s ∧ SzP 600 p ∧ SzP 600 s ∧ ∀ H' z, Same H H' → Dp K H' z (rD (rstep p s)) → Q z H'
theorem norm_scaled {a b c : Int} (h : 0 < c) : norm (a * c) (b * c) = norm a b := by
  have e : g2 (a * c) (b * c) = g2 a b * c := by
    unfold g2
    rw [Int.natAbs_mul, Int.natAbs_mul, Nat.gcd_mul_right]
    rw [Int.natCast_mul, Int.natAbs_of_nonneg (Int.le_of_lt h)]
  unfold norm
  rw [e, Int.mul_ediv_mul_of_pos_left _ _ h, Int.mul_ediv_mul_of_pos_left _ _ h]
theorem norm_like {a b a' b' c c' : Int} (h : 0 < c) (h' : 0 < c') (e : a * c = a' * c') (e' : b * c = b' * c') : norm a b = norm a' b' := by
  rw [← norm_scaled h, e, e', norm_scaled h']
theorem rstep_rep {p s : Pl} (hp : RatP p) (hs : RatP s) : Rep (stepF p s).1 (rstep p s).1 ((wrow s).2.2 * (wrow p).2.2) ∧ Rep (stepF p s).2 (rstep p s).2 ((wrow s).2.2 * (wrow p).2.2) := by
  obtain ⟨a1, a2, a3⟩ := wrow_spec hp
  obtain ⟨b1, b2, b3⟩ := wrow_spec hs
  exact ⟨rep_sub (r := s.1) (s := p.1) ⟨hs.1, b1, b2.symm⟩ ⟨hp.1, a1, a2.symm⟩, rep_sub (r := s.2) (s := p.2) ⟨hs.2, b1, b3.symm⟩ ⟨hp.2, a1, a3.symm⟩⟩
theorem rep_zero {r : Rt} {t b : Int} (h : IsRat r) (w : 0 < b) (e : r.1 * b = t * r.2) : t = 0 ↔ r.1 = 0 := by
  constructor
  · intro z
    rw [z, Int.zero_mul] at e
    rcases Int.mul_eq_zero.mp e with k | k
    · exact k
    · omega
  · intro z
    rw [z, Int.zero_mul] at e
    rcases Int.mul_eq_zero.mp e.symm with k | k
    · exact k
    · have := h.1; omega
theorem rstep_zero {p s : Pl} (hp : RatP p) (hs : RatP s) : ((rstep p s).1 = 0 ↔ (stepF p s).1.1 = 0) ∧ ((rstep p s).2 = 0 ↔ (stepF p s).2.1 = 0) := by
  obtain ⟨⟨i1, w, e1⟩, ⟨i2, _, e2⟩⟩ := rstep_rep hp hs
  exact ⟨rep_zero i1 w e1, rep_zero i2 w e2⟩
theorem rstep_dir {p s : Pl} (hp : RatP p) (hs : RatP s) : norm (rstep p s).2 (-(rstep p s).1) = dirOf ((stepF p s).2, rneg (stepF p s).1) := by
  obtain ⟨⟨i1, w, e1⟩, ⟨i2, _, e2⟩⟩ := rstep_rep hp hs
  unfold dirOf
  refine norm_like (c := (stepF p s).1.2 * (stepF p s).2.2) (c' := (wrow s).2.2 * (wrow p).2.2) (Int.mul_pos i1.1 i2.1) w ?_ ?_
  · show (rstep p s).2 * ((stepF p s).1.2 * (stepF p s).2.2) = (stepF p s).2.1 * (stepF p s).1.2 * ((wrow s).2.2 * (wrow p).2.2)
    grind
  · show -(rstep p s).1 * ((stepF p s).1.2 * (stepF p s).2.2) = -(stepF p s).1.1 * (stepF p s).2.2 * ((wrow s).2.2 * (wrow p).2.2)
    grind
theorem rstep_sz {p s : Pl} (zp : SzP 600 p) (zs : SzP 600 s) : Sz 2401 (rstep p s).1 ∧ Sz 2401 (rstep p s).2 := by
  obtain ⟨ax, ay, aa⟩ := wrow_sz zp
  obtain ⟨bx, by_, bb⟩ := wrow_sz zs
  exact ⟨sz_sub (sz_mul bx aa) (sz_mul ax bb), sz_sub (sz_mul by_ aa) (sz_mul ay bb)⟩
def meanP (ps : List Pl) : Pl := (rmul (sumR (ps.map (·.1))) (1, (ps.length : Int)), rmul (sumR (ps.map (·.2))) (1, (ps.length : Int)))
def spMean (K : PySem.W.Frag) : Sp := fun vs H Q _ => ∃ p xs ps, vs = [.ref p] ∧ (SqL K H p xs ∨ SqT K H p xs) ∧ DpAll K H xs (ps.map pD) ∧ 0 < ps.length ∧ ps.length ≤ 4 ∧ (∀ r ∈ ps, RatP r ∧ SzP 300 r) ∧ ∀ H' z, Same H H' → Dp K H' z (pD (meanP ps)) → Q z H'
def spRawC (K : PySem.W.Frag) : Sp := fun vs H Q _ => ∃ v u t a b c, vs = [v, u, t] ∧ Pla K H v a ∧ Pla K H u b ∧ Pla K H t c ∧ RatP a ∧ RatP b ∧ RatP c ∧ SzP 600 a ∧ SzP 600 b ∧ SzP 600 c ∧ ∀ H' z, Same H H' → Dp K H' z (rD (rawC (wrow a) (wrow b) (wrow c))) → Q z H'
section
variable {P : Program} {w : World} {K : PySem.W.Frag} {mg : Str → Option Value} {base : Heap}
abbrev swhole_row : Stmt := topS 14
theorem scwhole_row : FnScope ["place", "x", "y"] ["place"] (defScope swhole_row) := ⟨rfl, rfl, rfl, by decide +kernel, rfl, by decide +kernel, by decide +kernel⟩
theorem okwhole_row (T : Txt K mg "whole_row" swhole_row)  : DefOk P w K mg base CX0 "whole_row" 1 ["place"] (spWrow K) := by
  obtain ⟨f, fd, F, gf⟩ := T
  refine ⟨f, fd, gf, F.kp, F.binds (fun _ _ _ _ _ _ us hl => match us, hl with | [_], _ => rfl), F.ok scwhole_row (fun vs H Q E h => ?_) (fun cdv A outer s H vs Q E hr h => ?_)⟩
  · obtain ⟨v, p, rfl, _⟩ := h; rfl
  · obtain ⟨v, p, rfl, ⟨x, y, c, hx, hy⟩, rp, zp, q⟩ := h
    refine ⟨_, (pss_cons (ps_asg (pv 0) (pg_cou rfl (pgs_cons (pg_name (i := 1) scwhole_row.nd rfl (.inl rfl)) (pgs_cons (pg_name (i := 2) scwhole_row.nd rfl (.inl rfl)) pgs_nil)))) (pss_cons (ps_if (pt_cmpR op_eq (pe_ix ix_it (pv 1) pe_int (fun _ _ => rfl)) (pe_ix ix_it (pv 2) pe_int (fun _ _ => rfl)) (nomark _)) (pss_one (ps_ret (pe_tup (pa_cons (pe_ix ix_it (pv 1) pe_int (fun _ _ => rfl)) (pa_cons (pe_ix ix_it (pv 2) pe_int (fun _ _ => rfl)) (pa_cons (pe_ix ix_it (pv 1) pe_int (fun _ _ => rfl)) pa_nil)))))) pss_nil) (pss_one (ps_ret (pe_tup (pa_cons (pe_op op_mulW (pe_ix ix_it (pv 1) pe_int (fun _ _ => rfl)) (pe_ix ix_it (pv 2) pe_int (fun _ _ => rfl))) (pa_cons (pe_op op_mulW (pe_ix ix_it (pv 2) pe_int (fun _ _ => rfl)) (pe_ix ix_it (pv 1) pe_int (fun _ _ => rfl))) (pa_cons (pe_op op_mulW (pe_ix ix_it (pv 1) pe_int (fun _ _ => rfl)) (pe_ix ix_it (pv 2) pe_int (fun _ _ => rfl))) pa_nil)))))))), ?_⟩
    have cx := cou_r hx
    have cy := cou_r hy
    refine ⟨v, rfl, x, y, c, x, [y], rfl, y, [], rfl, rfl, ?_⟩
    refine ⟨x, rfl, _, _, 1, _, rfl, cx, rfl, y, rfl, _, _, 1, _, rfl, cy, rfl, rfl, _, rfl, ite2 (fun e => ?_) (fun e => ?_)⟩
    · have e2 : p.1.2 = p.2.2 := V.int.inj (of_decide_eq_true e)
      refine ⟨x, rfl, _, _, 0, _, rfl, cx, rfl, y, rfl, _, _, 0, _, rfl, cy, rfl, x, rfl, _, _, 1, _, rfl, cx, rfl, (by show 3 ≤ sizeLine; decide), fun r nr => q _ _ (PB.same_new nr) ?_⟩
      have : wrow p = (p.1.1, p.2.1, p.1.2) := if_pos e2
      rw [this]
      exact .tup (.inl (.inl upd_same)) (.cons (.int _) (.cons (.int _) (.cons (.int _) .nil)))
    · have e2 : ¬ p.1.2 = p.2.2 := fun z => e (decide_eq_true (by rw [z]))
      refine ⟨x, rfl, _, _, 0, _, rfl, cx, rfl, y, rfl, _, _, 1, _, rfl, cy, rfl, _, _, rfl, rfl, wide_mul zp.1.1 zp.2.2 (by decide) (by decide) (by decide), y, rfl, _, _, 0, _, rfl, cy, rfl, x, rfl, _, _, 1, _, rfl, cx, rfl, _, _, rfl, rfl, wide_mul zp.2.1 zp.1.2 (by decide) (by decide) (by decide), x, rfl, _, _, 1, _, rfl, cx, rfl, y, rfl, _, _, 1, _, rfl, cy, rfl, _, _, rfl, rfl, wide_mul zp.1.2 zp.2.2 (by decide) (by decide) (by decide), (by show 3 ≤ sizeLine; decide), fun r nr => q _ _ (PB.same_new nr) ?_⟩
      have : wrow p = (p.1.1 * p.2.2, p.2.1 * p.1.2, p.1.2 * p.2.2) := if_neg e2
      rw [this]
      exact .tup (.inl (.inl upd_same)) (.cons (.int _) (.cons (.int _) (.cons (.int _) .nil)))
abbrev sraw_cross : Stmt := topS 15
theorem scraw_cross : FnScope ["first", "second", "third", "ax", "ay", "a", "bx", "by", "b", "cx", "cy", "c", "top"] ["first", "second", "third"] (defScope sraw_cross) := ⟨rfl, rfl, rfl, by decide +kernel, rfl, by decide +kernel, by decide +kernel⟩
theorem okraw_cross (T : Txt K mg "raw_cross" sraw_cross) (Gwhole_row : DefOk P w K mg base CX0 "whole_row" 1 ["place"] (spWrow K)) : DefOk P w K mg base CX0 "raw_cross" 2 ["first", "second", "third"] (spRawC K) := by
  obtain ⟨f, fd, F, gf⟩ := T
  refine ⟨f, fd, gf, F.kp, F.binds (fun _ _ _ _ _ _ us hl => match us, hl with | [_, _, _], _ => rfl), F.ok scraw_cross (fun vs H Q E h => ?_) (fun cdv A outer s H vs Q E hr h => ?_)⟩
  · obtain ⟨v, u, t, a, b, c, rfl, _⟩ := h; rfl
  · obtain ⟨v, u, t, a, b, c, rfl, ha, hb, hc, ra, rb, rc, za, zb, zc, q⟩ := h
    refine ⟨_, (pss_cons (ps_asg (pe_def Gwhole_row (hr.mono (by decide)) (by rfl) (pa_cons (pv 0) pa_nil)) (pg_tup rfl (pgs_cons (pg_name (i := 3) scraw_cross.nd rfl (.inl rfl)) (pgs_cons (pg_name (i := 4) scraw_cross.nd rfl (.inl rfl)) (pgs_cons (pg_name (i := 5) scraw_cross.nd rfl (.inl rfl)) pgs_nil))))) (pss_cons (ps_asg (pe_def Gwhole_row (hr.mono (by decide)) (by rfl) (pa_cons (pv 1) pa_nil)) (pg_tup rfl (pgs_cons (pg_name (i := 6) scraw_cross.nd rfl (.inl rfl)) (pgs_cons (pg_name (i := 7) scraw_cross.nd rfl (.inl rfl)) (pgs_cons (pg_name (i := 8) scraw_cross.nd rfl (.inl rfl)) pgs_nil))))) (pss_cons (ps_asg (pe_def Gwhole_row (hr.mono (by decide)) (by rfl) (pa_cons (pv 2) pa_nil)) (pg_tup rfl (pgs_cons (pg_name (i := 9) scraw_cross.nd rfl (.inl rfl)) (pgs_cons (pg_name (i := 10) scraw_cross.nd rfl (.inl rfl)) (pgs_cons (pg_name (i := 11) scraw_cross.nd rfl (.inl rfl)) pgs_nil))))) (pss_cons (ps_set (i := 12) scraw_cross.nd rfl (.inl rfl) (pe_op op_add (pe_op op_add (pe_op op_mulW (pv 5) (pe_op op_sub (pe_op op_mulW (pv 6) (pv 10)) (pe_op op_mulW (pv 7) (pv 9)))) (pe_op op_mulW (pv 8) (pe_op op_sub (pe_op op_mulW (pv 9) (pv 4)) (pe_op op_mulW (pv 10) (pv 3))))) (pe_op op_mulW (pv 11) (pe_op op_sub (pe_op op_mulW (pv 3) (pv 7)) (pe_op op_mulW (pv 4) (pv 6)))))) (pss_one (ps_ret (pe_tup (pa_cons (pv 12) (pa_cons (pe_op op_mulW (pe_op op_mulW (pv 5) (pv 8)) (pv 11)) pa_nil))))))))), ?_⟩
    obtain ⟨ax, ay, aa⟩ := wrow_sz za
    obtain ⟨bx, by_, bb⟩ := wrow_sz zb
    obtain ⟨cx, cy, cc⟩ := wrow_sz zc
    refine ⟨v, rfl, v, a, rfl, ha, ra, za, fun H1 z1 s1 h1 => ?_⟩
    obtain ⟨p1, rfl, t1⟩ := dp_t3 h1
    refine ⟨p1, _, rfl, t1, rfl, _, _, rfl, _, _, rfl, _, [], rfl, rfl, ?_⟩
    refine ⟨u, rfl, u, b, rfl, hb.same s1, rb, zb, fun H2 z2 s2 h2 => ?_⟩
    obtain ⟨p2, rfl, t2⟩ := dp_t3 h2
    refine ⟨p2, _, rfl, t2, rfl, _, _, rfl, _, _, rfl, _, [], rfl, rfl, ?_⟩
    refine ⟨t, rfl, t, c, rfl, hc.same (s1.trans s2), rc, zc, fun H3 z3 s3 h3 => ?_⟩
    obtain ⟨p3, rfl, t3⟩ := dp_t3 h3
    refine ⟨p3, _, rfl, t3, rfl, _, _, rfl, _, _, rfl, _, [], rfl, rfl, ?_⟩
    refine ⟨_, rfl, _, rfl, _, rfl, _, _, rfl, rfl, wide_mul bx cy (by decide) (by decide) (by decide), _, rfl, _, rfl, _, _, rfl, rfl, wide_mul by_ cx (by decide) (by decide) (by decide), _, _, rfl, rfl, _, _, rfl, rfl, wide_mul aa (sz_sub (sz_mul bx cy) (sz_mul by_ cx)) (by decide) (by decide) (by decide), _, rfl, _, rfl, _, rfl, _, _, rfl, rfl, wide_mul cx ay (by decide) (by decide) (by decide), _, rfl, _, rfl, _, _, rfl, rfl, wide_mul cy ax (by decide) (by decide) (by decide), _, _, rfl, rfl, _, _, rfl, rfl, wide_mul bb (sz_sub (sz_mul cx ay) (sz_mul cy ax)) (by decide) (by decide) (by decide), _, _, rfl, rfl, _, rfl, _, rfl, _, rfl, _, _, rfl, rfl, wide_mul ax by_ (by decide) (by decide) (by decide), _, rfl, _, rfl, _, _, rfl, rfl, wide_mul ay bx (by decide) (by decide) (by decide), _, _, rfl, rfl, _, _, rfl, rfl, wide_mul cc (sz_sub (sz_mul ax by_) (sz_mul ay bx)) (by decide) (by decide) (by decide), _, _, rfl, rfl, ?_⟩
    exact ⟨_, rfl, _, rfl, _, rfl, _, _, rfl, rfl, wide_mul aa bb (by decide) (by decide) (by decide), _, rfl, _, _, rfl, rfl, wide_mul (sz_mul aa bb) cc (by decide) (by decide) (by decide), (by show 2 ≤ sizeLine; decide), fun r nr => q _ _ (((s1.trans s2).trans s3).trans (PB.same_new nr)) (dp_mkr nr)⟩
end
end F3
set_option Elab.async false
set_option linter.all false
set_option maxRecDepth 100000
set_option maxHeartbeats 4000000
namespace F3
open PySem PySem.Spec PyProof.Rows L2 FX RM PB
/-! kinds of data -/
def tyN : PyData → String
  | .none => "NoneType"
  | .bool _ => "bool"
  | .int _ => "int"
  | .str _ => "str"
  | .list _ => "list"
  | .tuple _ => "tuple"
  | .dict _ => "dict"
def isI : PyData → Bool
  | .int _ => true
  | .bool _ => true
  | _ => false
def isBo : PyData → Bool
  | .bool _ => true
  | _ => false
def isTu : PyData → Bool
  | .tuple _ => true
  | _ => false
def isRo : PyData → Bool
  | .tuple _ => true
  | .list _ => true
  | _ => false
theorem kit_int : ∀ d, kitB (tyN d) "int" = some (isI d)
  | .none => by show kitB "NoneType" "int" = some false; decide +kernel
  | .bool _ => by show kitB "bool" "int" = some true; decide +kernel
  | .int _ => by show kitB "int" "int" = some true; decide +kernel
  | .str _ => by show kitB "str" "int" = some false; decide +kernel
  | .list _ => by show kitB "list" "int" = some false; decide +kernel
  | .tuple _ => by show kitB "tuple" "int" = some false; decide +kernel
  | .dict _ => by show kitB "dict" "int" = some false; decide +kernel
theorem kit_bool : ∀ d, kitB (tyN d) "bool" = some (isBo d)
  | .none => by show kitB "NoneType" "bool" = some false; decide +kernel
  | .bool _ => by show kitB "bool" "bool" = some true; decide +kernel
  | .int _ => by show kitB "int" "bool" = some false; decide +kernel
  | .str _ => by show kitB "str" "bool" = some false; decide +kernel
  | .list _ => by show kitB "list" "bool" = some false; decide +kernel
  | .tuple _ => by show kitB "tuple" "bool" = some false; decide +kernel
  | .dict _ => by show kitB "dict" "bool" = some false; decide +kernel
theorem kit_tuple : ∀ d, kitB (tyN d) "tuple" = some (isTu d)
  | .none => by show kitB "NoneType" "tuple" = some false; decide +kernel
  | .bool _ => by show kitB "bool" "tuple" = some false; decide +kernel
  | .int _ => by show kitB "int" "tuple" = some false; decide +kernel
  | .str _ => by show kitB "str" "tuple" = some false; decide +kernel
  | .list _ => by show kitB "list" "tuple" = some false; decide +kernel
  | .tuple _ => by show kitB "tuple" "tuple" = some true; decide +kernel
  | .dict _ => by show kitB "dict" "tuple" = some false; decide +kernel
theorem kit_list : ∀ d, kitB (tyN d) "list" = some (match d with | .list _ => true | _ => false)
  | .none => by show kitB "NoneType" "list" = some false; decide +kernel
  | .bool _ => by show kitB "bool" "list" = some false; decide +kernel
  | .int _ => by show kitB "int" "list" = some false; decide +kernel
  | .str _ => by show kitB "str" "list" = some false; decide +kernel
  | .list _ => by show kitB "list" "list" = some true; decide +kernel
  | .tuple _ => by show kitB "tuple" "list" = some false; decide +kernel
  | .dict _ => by show kitB "dict" "list" = some false; decide +kernel
theorem kit_row {K : PySem.W.Frag} (d : PyData) : PySem.W.kitAny K (.type (tyN d)) [.type "list", .type "tuple"] = some (isRo d) := by
  refine kitAny_cons (kit_ty (kit_list d)) (fun _ => kitAny_cons (b := isTu d) (r := isRo d) (kit_ty (kit_tuple d)) (fun e => ?_) (fun e => ?_)) (fun e => ?_)
  · rw [kitAny_nil]; cases d <;> simp_all [isTu, isRo]
  · cases d <;> simp_all [isTu, isRo]
  · cases d <;> simp_all [isRo]
theorem tyx_t {K : PySem.W.Frag} {H : Hp} {a : Addr} {xs : List V} (h : SqT K H a xs) : TyX K H (.ref a) (.type "tuple") := by
  rcases h with (h | ⟨o, h⟩) | ⟨o, its, n, h, c, _⟩
  · exact .base (.tup h)
  · exact .fTuple h
  · exact .kTuple h c
theorem tyx_l {K : PySem.W.Frag} {H : Hp} {a : Addr} {xs : List V} (h : SqL K H a xs) : TyX K H (.ref a) (.type "list") := by
  rcases h with (h | ⟨o, h⟩) | ⟨o, its, n, h, c, _⟩
  · exact .base (.lst h)
  · exact .base (.frz h)
  · exact .kList h c
theorem dp_tyx {K : PySem.W.Frag} {H : Hp} {v : V} {d : PyData} (h : Dp K H v d) : TyX K H v (.type (tyN d)) := by
  cases h with
  | non => exact .base .non
  | bl b => exact .base (.bl b)
  | int i => exact .base (.int i)
  | str x => exact .base (.str x)
  | lst h _ => exact tyx_l h
  | tup h _ => exact tyx_t h
def isWh : PyData → Option Int → Bool
  | .int _, none => true
  | .int i, some l => decide (l ≤ i)
  | _, _ => false
def isRat : PyData → Bool
  | .tuple [.int t, .int b] => decide ((1 : Int) ≤ b) && decide (g2 t b = 1)
  | _ => false
def isPla : PyData → Bool
  | .tuple [a, b] => isRat a && isRat b
  | .list [a, b] => isRat a && isRat b
  | _ => false
def lowV : Option Int → V
  | none => .non
  | some l => .int l
theorem itF {c : Bool} {A B : Prop} (h : c = false) (b : B) : if c = true then A else B := by rw [h, if_neg Bool.false_ne_true]; exact b
theorem itT {c : Bool} {A B : Prop} (h : c = true) (a : A) : if c = true then A else B := by rw [h, if_pos rfl]; exact a
/-- a def with defaults -/
structure DefDf (P : Program) (w : World) (K : PySem.W.Frag) (mg : Str → Option Value) (base : Heap) (x : Str) (k : Nat) (ps : List Str) (dvs : List V) (sp : Sp) : Prop where
  ex : ∃ (f : Addr) (fd : FuncData) (ds : List Value), mg x = some (.ref f) ∧ PySem.W.keepIn K (.ref f) = true ∧ Vals dvs ds ∧ L2.Binds K fd ps ds ∧ FnOk P w K mg base CX0 k f fd ps sp
theorem len_two' {α : Type} : ∀ {l : List α}, l.length = 2 → ∃ a b, l = [a, b]
  | [a, b], _ => ⟨a, b, rfl⟩
section
variable {X : Cx}
theorem pe_defd {x : Str} {k : Nat} {ps : List Str} {dvs : List V} {sp : Sp} {e : Expr} {es : List Expr} {t : TA} {p pos : Pos} (D : DefDf X.prog X.w X.K X.mg X.base x k ps dvs sp) (hr : Room k X.A) (hg : Gl X x) (ha : PA X (e :: es) t)
    (hdb : (x == ("__debug__" : Str)) = false := by decide) (he : starEach (e :: es) X.env = (false, eval e X.env) :: starEach es X.env := by rfl) (hpl : (backTo pos (starEach es X.env)).any (·.1) = false := by rfl) :
    PE X (.Call (.Name x p) (e :: es) [] pos) (tCall sp dvs E0 t) := by
  obtain ⟨f, fd, ds, g, k, v, b, F⟩ := D.ex
  exact pe_call F hr hg g k b v pass0 ha hdb he hpl
end
def spWhole (K : PySem.W.Frag) : Sp := fun vs H Q _ => ∃ v d low, vs = [v, lowV low, .non] ∧ Dp K H v d ∧ Q (.bl (isWh d low)) H
def spIsR (K : PySem.W.Frag) : Sp := fun vs H Q _ => ∃ v d, vs = [v] ∧ Dp K H v d ∧ Q (.bl (isRat d)) H
def spRow (K : PySem.W.Frag) (o : PyData → Bool) : Sp := fun vs H Q _ => ∃ v d, vs = [v] ∧ Dp K H v d ∧ ∀ H', Same H H' → Q (.bl (o d)) H'
section
variable {P : Program} {w : World} {K : PySem.W.Frag} {mg : Str → Option Value} {base : Heap}
abbrev sis_whole : Stmt := topS 7
theorem scis_whole : FnScope ["thing", "low", "high"] ["thing", "low", "high"] (defScope sis_whole) := ⟨rfl, rfl, rfl, by decide +kernel, rfl, by decide +kernel, by decide +kernel⟩
theorem fnis_whole {f : Addr} {fd : FuncData} (F : FunD K "is_whole" "is_whole" (defArgs sis_whole) (defBody sis_whole) (defScope sis_whole) [.non, .non] [] f fd) (misinstance : mg "isinstance" = none) (mint : mg "int" = none) (mbool : mg "bool" = none) :
    FnOk P w K mg base CX0 1 f fd ["thing", "low", "high"] (spWhole K) := by
  refine F.ok scis_whole (fun vs H Q E h => ?_) (fun cdv A outer s H vs Q E hr h => ?_)
  · obtain ⟨v, d, low, rfl, _⟩ := h; rfl
  · obtain ⟨v, d, low, rfl, hv, q⟩ := h
    refine ⟨_, PSs.nox (pss_cons (ps_if (PW.pt (pw_or (pt_not (pt_val (pe_callB call_isi (by rfl) misinstance boot_isinstance (pa_cons (pv 0) (pa_cons (pe_bltn (v := .ty "int") (by rfl) mint (by decide +kernel) rfl) pa_nil))))) (pw_or1 (pt_val (pe_callB call_isi (by rfl) misinstance boot_isinstance (pa_cons (pv 0) (pa_cons (pe_bltn (v := .ty "bool") (by rfl) mbool (by decide +kernel) rfl) pa_nil))))))) (pss_one (ps_ret pe_bl)) pss_nil) (pss_one (ps_ret (pe_and (pe_or (pe_cmpR op_isN (pv 1) pe_non (nomark _)) (pe_one (pe_cmpR op_ge (pv 0) (pv 1) (nomark _)))) (pe_one (pe_or (pe_cmpR op_isN (pv 2) pe_non (nomark _)) (pe_one (pe_cmpR op_le (pv 0) (pv 2) (nomark _))))))))), ?_⟩
    have no : isI d = false → isWh d low = false := fun e => by cases d <;> simp_all [isI, isWh]
    have nb : isBo d = true → isWh d low = false := fun e => by cases d <;> simp_all [isBo, isWh]
    refine ⟨v, rfl, v, _, _, _, _, rfl, .ty _, dp_tyx hv, kit_ty (kit_int d), _, rfl, ?_⟩
    cases eI : isI d with
    | false => exact itT rfl (itT rfl (by show Q (.bl false) H; rw [no eI] at q; exact q))
    | true =>
      refine itF rfl ⟨v, rfl, v, _, _, _, _, rfl, .ty _, dp_tyx hv, kit_ty (kit_bool d), _, rfl, ?_⟩
      cases eB : isBo d with
      | true => exact itT rfl (by show Q (.bl false) H; rw [nb eB] at q; exact q)
      | false =>
        obtain ⟨i, rfl⟩ : ∃ i, d = .int i := by cases d <;> simp_all [isI, isBo]
        obtain rfl := dp_int hv
        refine itF rfl ?_
        cases low with
        | none => exact ⟨_, rfl, rfl, true, rfl, itT rfl ⟨true, rfl, itT rfl ⟨_, rfl, rfl, true, rfl, itT rfl q⟩⟩⟩
        | some l =>
          refine ⟨_, rfl, rfl, false, rfl, itF rfl ⟨_, rfl, _, rfl, _, _, rfl, rfl, _, rfl, ?_⟩⟩
          by_cases c : l ≤ i
          · rw [decide_eq_true c]
            have q2 : Q (.bl true) H := by have z : isWh (.int i) (some l) = true := decide_eq_true c; rw [z] at q; exact q
            exact itT rfl ⟨_, rfl, rfl, true, rfl, itT rfl q2⟩
          · rw [decide_eq_false c]
            have q2 : Q (.bl false) H := by have z : isWh (.int i) (some l) = false := decide_eq_false c; rw [z] at q; exact q
            exact itF rfl q2
theorem okis_whole1 {f : Addr} {fd : FuncData} (g : mg "is_whole" = some (.ref f)) (F : FunD K "is_whole" "is_whole" (defArgs sis_whole) (defBody sis_whole) (defScope sis_whole) [.non, .non] [] f fd) (misinstance : mg "isinstance" = none) (mint : mg "int" = none) (mbool : mg "bool" = none) :
    DefDf P w K mg base "is_whole" 1 ["thing", "low", "high"] [.non, .non] (spWhole K) := by
  obtain ⟨ds, hd, b⟩ := F.binds1 (ps := ["thing", "low", "high"]) 1 0 (List.cons_ne_nil _ _) rfl fun T kV doc pm an cdv ct us its hu hi => match us, hu, its, hi with | [_], _, [_, _], _ => ⟨_, rfl, rfl⟩
  exact ⟨f, fd, ds, g, F.kp, hd, b, fnis_whole F misinstance mint mbool⟩
theorem okis_whole2 {f : Addr} {fd : FuncData} (g : mg "is_whole" = some (.ref f)) (F : FunD K "is_whole" "is_whole" (defArgs sis_whole) (defBody sis_whole) (defScope sis_whole) [.non, .non] [] f fd) (misinstance : mg "isinstance" = none) (mint : mg "int" = none) (mbool : mg "bool" = none) :
    DefDf P w K mg base "is_whole" 1 ["thing", "low", "high"] [.non] (spWhole K) := by
  obtain ⟨ds, hd, b⟩ := F.binds1 (ps := ["thing", "low", "high"]) 2 1 (List.cons_ne_nil _ _) rfl fun T kV doc pm an cdv ct us its hu hi => match us, hu, its, hi with | [_, _], _, [_, _], _ => ⟨_, rfl, rfl⟩
  exact ⟨f, fd, ds, g, F.kp, hd, b, fnis_whole F misinstance mint mbool⟩
abbrev sis_ratio : Stmt := topS 8
theorem scis_ratio : FnScope ["thing"] ["thing"] (defScope sis_ratio) := ⟨rfl, rfl, rfl, by decide +kernel, rfl, by decide +kernel, by decide +kernel⟩
theorem okis_ratio (T : Txt K mg "is_ratio" sis_ratio) (Gw1 : DefDf P w K mg base "is_whole" 1 ["thing", "low", "high"] [.non, .non] (spWhole K)) (Gw2 : DefDf P w K mg base "is_whole" 1 ["thing", "low", "high"] [.non] (spWhole K)) (misinstance : mg "isinstance" = none) (mtuple : mg "tuple" = none) (mlen : mg "len" = none) (mgcd : mg "gcd" = some (.builtin "math.gcd")) : DefOk P w K mg base CX0 "is_ratio" 2 ["thing"] (spIsR K) := by
  obtain ⟨f, fd, F, gf⟩ := T
  refine ⟨f, fd, gf, F.kp, F.binds (fun _ _ _ _ _ _ us hl => match us, hl with | [_], _ => rfl), F.ok scis_ratio (fun vs H Q E h => ?_) (fun cdv A outer s H vs Q E hr h => ?_)⟩
  · obtain ⟨v, d, rfl, _⟩ := h; rfl
  · obtain ⟨v, d, rfl, hv, q⟩ := h
    refine ⟨_, (pss_cons (ps_if (PW.pt (pw_or (pt_not (pt_val (pe_callB call_isi (by rfl) misinstance boot_isinstance (pa_cons (pv 0) (pa_cons (pe_bltn (v := .ty "tuple") (by rfl) mtuple (by decide +kernel) rfl) pa_nil))))) (pw_or1 (pt_cmpR op_ne (pe_callB call_len_seq (by rfl) mlen PySem.boot_len (pa_cons (pv 0) pa_nil)) pe_int (nomark _))))) (pss_one (ps_ret pe_bl)) pss_nil) (pss_one (ps_ret (pe_and (pe_defd Gw1 (hr.mono (by decide)) (by rfl) (pa_cons (pe_ix ix_it (pv 0) pe_int (fun _ _ => rfl)) pa_nil)) (pe_and (pe_defd Gw2 (hr.mono (by decide)) (by rfl) (pa_cons (pe_ix ix_it (pv 0) pe_int (fun _ _ => rfl)) (pa_cons pe_int pa_nil))) (pe_one (pe_cmpR op_eq (pe_callBfun cr_gcd (by rfl) mgcd (pa_cons (pe_ix ix_it (pv 0) pe_int (fun _ _ => rfl)) (pa_cons (pe_ix ix_it (pv 0) pe_int (fun _ _ => rfl)) pa_nil))) pe_int (nomark _)))))))), ?_⟩
    refine ⟨v, rfl, v, _, _, _, _, rfl, .ty _, dp_tyx hv, kit_ty (kit_tuple d), _, rfl, ?_⟩
    cases eT : isTu d with
    | false =>
      have z : isRat d = false := by cases d <;> simp_all [isTu, isRat]
      rw [z] at q
      exact itT rfl (itT rfl q)
    | true =>
      cases hv with
      | non => cases eT
      | bl _ => cases eT
      | int _ => cases eT
      | str _ => cases eT
      | lst _ _ => cases eT
      | @tup a xs ds hs hd =>
        refine itF rfl ⟨.ref a, rfl, a, xs, rfl, .inr hs, rfl, _, rfl, ?_⟩
        by_cases l2 : xs.length = 2
        · have e0 : (!decide (V.int (xs.length : Int) = V.int 2)) = false := by rw [l2]; rfl
          refine itF e0 ?_
          obtain ⟨x, y, rfl⟩ := len_two' l2
          cases hd with
          | cons hx hd => cases hd with
            | @cons _ _ dy ds2 hy hd => cases hd with
              | nil =>
                rename_i dx
                have c : Cou K H (.ref a) x y := ⟨a, rfl, .inl hs⟩
                refine ⟨.ref a, rfl, x, y, 0, _, rfl, c, rfl, x, dx, none, rfl, hx, _, rfl, ?_⟩
                cases w1 : isWh dx none with
                | false =>
                  have z : isRat (.tuple [dx, dy]) = false := by cases dx <;> simp_all [isWh, isRat]
                  rw [z] at q
                  exact itF rfl q
                | true =>
                  obtain ⟨t, rfl⟩ : ∃ t, dx = .int t := by cases dx <;> simp_all [isWh]
                  refine itT rfl ⟨.ref a, rfl, x, y, 1, _, rfl, c, rfl, y, dy, some 1, rfl, hy, _, rfl, ?_⟩
                  cases w2 : isWh dy (some 1) with
                  | false =>
                    have z : isRat (.tuple [.int t, dy]) = false := by cases dy <;> simp_all [isWh, isRat] <;> (intro h; omega)
                    rw [z] at q
                    exact itF rfl q
                  | true =>
                    obtain ⟨b, rfl⟩ : ∃ b, dy = .int b := by cases dy <;> simp_all [isWh]
                    obtain rfl := dp_int hx
                    obtain rfl := dp_int hy
                    have b1 : (1 : Int) ≤ b := of_decide_eq_true w2
                    refine itT rfl ⟨.ref a, rfl, _, _, 0, _, rfl, c, rfl, .ref a, rfl, _, _, 1, _, rfl, c, rfl, t, b, rfl, rfl, ?_⟩
                    have z : isRat (.tuple [.int t, .int b]) = decide (V.int (g2 t b) = V.int 1) := by
                      show (decide ((1 : Int) ≤ b) && decide (g2 t b = 1)) = _
                      rw [decide_eq_true b1, Bool.true_and]
                      by_cases k : g2 t b = 1
                      · rw [decide_eq_true k, k]; rfl
                      · rw [decide_eq_false k, decide_eq_false (fun z => k (V.int.inj z))]
                    rw [z] at q
                    exact q
        · have e0 : (!decide (V.int (xs.length : Int) = V.int 2)) = true := by
            rw [decide_eq_false (fun z => l2 (by have := V.int.inj z; omega))]; rfl
          have z : isRat (.tuple ds) = false := by
            have dl := DpAll_len hd
            match ds, dl with
            | [], _ => rfl
            | [_], _ => simp [isRat]
            | [_, _], dl => exact absurd dl l2
            | _ :: _ :: _ :: _, _ => simp [isRat]
          rw [z] at q
          exact itT e0 q
abbrev sis_row : Stmt := topS 6
theorem scis_row : FnScope ["thing"] ["thing"] (defScope sis_row) := ⟨rfl, rfl, rfl, by decide +kernel, rfl, by decide +kernel, by decide +kernel⟩
theorem okis_row (T : Txt K mg "is_row" sis_row) (misinstance : mg "isinstance" = none) (mtuple : mg "tuple" = none) (mlist : mg "list" = none) : DefOk P w K mg base CX0 "is_row" 1 ["thing"] (spRow K isRo) := by
  obtain ⟨f, fd, F, gf⟩ := T
  refine ⟨f, fd, gf, F.kp, F.binds (fun _ _ _ _ _ _ us hl => match us, hl with | [_], _ => rfl), F.ok scis_row (fun vs H Q E h => ?_) (fun cdv A outer s H vs Q E hr h => ?_)⟩
  · obtain ⟨v, d, rfl, _⟩ := h; rfl
  · obtain ⟨v, d, rfl, hv, q⟩ := h
    refine ⟨_, (pss_one (ps_ret (pe_callB call_isiT (by rfl) misinstance boot_isinstance (pa_cons (pv 0) (pa_cons (pe_tup (pa_cons (pe_bltn (v := .ty "list") (by rfl) mlist (by decide +kernel) rfl) (pa_cons (pe_bltn (v := .ty "tuple") (by rfl) mtuple (by decide +kernel) rfl) pa_nil))) pa_nil))))), ?_⟩
    refine ⟨v, rfl, (by show 2 ≤ sizeLine; decide), fun p np => ?_⟩
    exact ⟨v, p, _, _, _, _, rfl, upd_same, .cons (.ty _) (.cons (.ty _) .nil), dp_tyx (Dp_same (PB.same_new np) hv), kit_row d, q _ (PB.same_new np)⟩
abbrev sis_place : Stmt := topS 12
theorem scis_place : FnScope ["thing"] ["thing"] (defScope sis_place) := ⟨rfl, rfl, rfl, by decide +kernel, rfl, by decide +kernel, by decide +kernel⟩
theorem okis_place (T : Txt K mg "is_place" sis_place) (Gis_row : DefOk P w K mg base CX0 "is_row" 1 ["thing"] (spRow K isRo)) (Gis_ratio : DefOk P w K mg base CX0 "is_ratio" 2 ["thing"] (spIsR K)) (mlen : mg "len" = none) : DefOk P w K mg base CX0 "is_place" 3 ["thing"] (spRow K isPla) := by
  obtain ⟨f, fd, F, gf⟩ := T
  refine ⟨f, fd, gf, F.kp, F.binds (fun _ _ _ _ _ _ us hl => match us, hl with | [_], _ => rfl), F.ok scis_place (fun vs H Q E h => ?_) (fun cdv A outer s H vs Q E hr h => ?_)⟩
  · obtain ⟨v, d, rfl, _⟩ := h; rfl
  · obtain ⟨v, d, rfl, hv, q⟩ := h
    refine ⟨_, (pss_one (ps_ret (pe_and (pe_def Gis_row (hr.mono (by decide)) (by rfl) (pa_cons (pv 0) pa_nil)) (pe_and (pe_cmpR op_eq (pe_callB call_len_seq (by rfl) mlen PySem.boot_len (pa_cons (pv 0) pa_nil)) pe_int (nomark _)) (pe_and (pe_def Gis_ratio (hr.mono (by decide)) (by rfl) (pa_cons (pe_ix ix_it (pv 0) pe_int (fun _ _ => rfl)) pa_nil)) (pe_one (pe_def Gis_ratio (hr.mono (by decide)) (by rfl) (pa_cons (pe_ix ix_it (pv 0) pe_int (fun _ _ => rfl)) pa_nil)))))))), ?_⟩
    refine ⟨v, rfl, v, d, rfl, hv, fun H1 s1 => ⟨_, rfl, ?_⟩⟩
    have hv1 := Dp_same s1 hv
    cases eR : isRo d with
    | false =>
      have z : isPla d = false := by cases d <;> simp_all [isRo, isPla]
      have q2 := q H1 s1
      rw [z] at q2
      exact itF rfl q2
    | true =>
      have seq : ∃ a xs ds, v = .ref a ∧ (SqL K H1 a xs ∨ SqT K H1 a xs) ∧ DpAll K H1 xs ds ∧ (d = .list ds ∨ d = .tuple ds) := by
        cases hv1 with
        | non => cases eR
        | bl _ => cases eR
        | int _ => cases eR
        | str _ => cases eR
        | @lst a xs ds hs hd => exact ⟨a, xs, ds, rfl, .inl hs, hd, .inl rfl⟩
        | @tup a xs ds hs hd => exact ⟨a, xs, ds, rfl, .inr hs, hd, .inr rfl⟩
      obtain ⟨a, xs, ds, rfl, hs, hd, ed⟩ := seq
      refine itT rfl ⟨.ref a, rfl, a, xs, rfl, hs, rfl, _, rfl, ?_⟩
      by_cases l2 : xs.length = 2
      · refine itT (by rw [l2]; rfl) ?_
        obtain ⟨x, y, rfl⟩ := len_two' l2
        obtain ⟨dx, dy, rfl⟩ := len_two' (by rw [← DpAll_len hd]; exact l2)
        obtain ⟨x_, y_, e, hx, hy⟩ := dpa2 hd
        cases e
        have c : Cou K H1 (.ref a) x y := ⟨a, rfl, hs.symm⟩
        have z : isPla d = (isRat dx && isRat dy) := by rcases ed with rfl | rfl <;> rfl
        have q2 := q H1 s1
        rw [z] at q2
        refine ⟨.ref a, rfl, x, y, 0, _, rfl, c, rfl, x, dx, rfl, hx, _, rfl, ?_⟩
        cases e1 : isRat dx with
        | false => rw [e1] at q2; exact itF rfl q2
        | true =>
          rw [e1] at q2
          exact itT rfl ⟨.ref a, rfl, x, y, 1, _, rfl, c, rfl, y, dy, rfl, hy, q2⟩
      · refine itF (decide_eq_false (fun z => l2 (by have := V.int.inj z; omega))) ?_
        have z : isPla d = false := by
          have dl := DpAll_len hd
          have k : ds.length ≠ 2 := by rw [← dl]; exact l2
          match ds, k with
          | [], _ => rcases ed with rfl | rfl <;> rfl
          | [_], _ => rcases ed with rfl | rfl <;> simp [isPla]
          | [_, _], k => exact absurd rfl k
          | _ :: _ :: _ :: _, _ => rcases ed with rfl | rfl <;> simp [isPla]
        have q2 := q H1 s1
        rw [z] at q2
        exact q2
end
end F3
set_option Elab.async false
set_option linter.all false
set_option maxRecDepth 100000
set_option maxHeartbeats 4000000
set_option exponentiation.threshold 3000
namespace F3
open PySem PySem.Spec PyProof.Rows L2 FX RM PB
section
variable {X : Cx}
theorem pe_defX {x : Str} {k : Nat} {ps : List Str} {sp : Sp} {E : XK} {e : Expr} {es : List Expr} {t : TA} {p pos : Pos} (D : DefOk X.prog X.w X.K X.mg X.base (L2.CX X.prog X.w) x k ps sp) (hr : Room k X.A) (hg : Gl X x) (ha : PA X (e :: es) t) (tk : Takes X (fun cls d _ H => E cls d H))
    (hdb : (x == ("__debug__" : Str)) = false := by decide) (he : starEach (e :: es) X.env = (false, eval e X.env) :: starEach es X.env := by rfl) (hpl : (backTo pos (starEach es X.env)).any (·.1) = false := by rfl) :
    PE X (.Call (.Name x p) (e :: es) [] pos) (tCall sp [] E t) := by
  obtain ⟨f, fd, g, k, b, F⟩ := D.ex
  exact pe_call F hr hg g k b .nil (passes_call tk fun _ _ _ _ h => h) ha hdb he hpl
theorem pe_defS {x : Str} {k : Nat} {ps : List Str} {sp : Sp} {W : WX} {e : Expr} {es : List Expr} {t : TA} {p pos : Pos} (D : DefOk X.prog X.w X.K X.mg X.base (L2.CX X.prog X.w) x k ps sp) (hr : Room k X.A) (hg : Gl X x) (ha : PA X (e :: es) t) (tk : Takes X W)
    (hdb : (x == ("__debug__" : Str)) = false := by decide) (he : starEach (e :: es) X.env = (false, eval e X.env) :: starEach es X.env := by rfl) (hpl : (backTo pos (starEach es X.env)).any (·.1) = false := by rfl) :
    PE X (.Call (.Name x p) (e :: es) [] pos) (tCallS sp (WE W) t) := by
  obtain ⟨f, fd, g, k, b, F⟩ := D.ex
  exact pe_callS F hr hg g k b (fun σ => passAt tk σ) ha hdb he hpl
end
def isSz : PyData → Bool
  | .tuple [.int t, .int b] => isRat (.tuple [.int t, .int b]) && decide (0 < t)
  | _ => false
def spCkP (K : PySem.W.Frag) : Sp := fun vs H Q E => ∃ v d, vs = [v] ∧ Dp K H v d ∧ (∀ a b, (d = .tuple [a, b] ∨ d = .list [a, b]) → isPla d = true → ∀ H' z, Same H H' → Dp K H' z (.tuple [a, b]) → Q z H') ∧ (isPla d = false → ∀ H', Same H H' → E (.ref (He.ga K "BadPlace")) none H')
def spCkA (K : PySem.W.Frag) (o : PyData → Bool) (x : Str) : Sp := fun vs H Q E => ∃ v d, vs = [v] ∧ Dp K H v d ∧ (o d = true → Q v H) ∧ (o d = false → E (.ref (He.ga K x)) none H)
def spWdX (K : PySem.W.Frag) : Sp := fun vs H Q E => ∃ x y : Int, vs = [.int x, .int y] ∧ Sz 8000 x ∧ Sz 8000 y ∧ ((x ≠ 0 ∨ y ≠ 0) → ∀ H' z, Same H H' → Dp K H' z (rD (norm x y)) → Q z H') ∧ ((x = 0 ∧ y = 0) → E (.ref (He.ga K "BadDirection")) none H)
def spDirX (K : PySem.W.Frag) : Sp := fun vs H Q E => ∃ v p, vs = [v] ∧ Pla K H v p ∧ RatP p ∧ SzP 2000 p ∧ ((p.1.1 ≠ 0 ∨ p.2.1 ≠ 0) → ∀ H' z, Same H H' → Dp K H' z (rD (dirOf p)) → Q z H') ∧ ((p.1.1 = 0 ∧ p.2.1 = 0) → E (.ref (He.ga K "BadDirection")) none H)
def spNorX (K : PySem.W.Frag) : Sp := fun vs H Q E => ∃ v u p s, vs = [v, u] ∧ Pla K H v p ∧ Pla K H u s ∧ RatP p ∧ RatP s ∧ SzP 600 p ∧ SzP 600 s ∧ (((stepF p s).1.1 ≠ 0 ∨ (stepF p s).2.1 ≠ 0) → ∀ H' z, Same H H' → Dp K H' z (rD (dirOf ((stepF p s).2, rneg (stepF p s).1))) → Q z H') ∧
  (((stepF p s).1.1 = 0 ∧ (stepF p s).2.1 = 0) → ∀ H', Same H H' → E (.ref (He.ga K "BadDirection")) none H')
section
variable {P : Program} {w : World} {K : PySem.W.Frag} {mg : Str → Option Value} {base : Heap}
end
end F3
set_option Elab.async false
set_option linter.all false
set_option maxRecDepth 100000
set_option maxHeartbeats 4000000
set_option exponentiation.threshold 3000
namespace F3
open PySem PySem.Spec PyProof.Rows L2 FX RM PB
def spGcd : Sp := fun vs H Q _ => ∃ x y : Int, vs = [.int x, .int y] ∧ Q (.int (g2 x y)) H
def amtL (d : Int × Int) (p : Pl) : Rt := radd (rmul (d.1, 1) p.1) (rmul (d.2, 1) p.2)
def crossL (a b c : Pl) : Rt := rsub (rmul (rsub b.1 a.1) (rsub c.2 a.2)) (rmul (rsub b.2 a.2) (rsub c.1 a.1))
def spAmtL (K : PySem.W.Frag) : Sp := fun vs H Q _ => ∃ v u d p, vs = [v, u] ∧ Dp K H v (rD d) ∧ Dp K H u (pD p) ∧ RatP p ∧ SzR 600 d ∧ SzP 600 p ∧ ∀ H' z, Same H H' → Dp K H' z (rD (amtL d p)) → Q z H'
def spCroL (K : PySem.W.Frag) : Sp := fun vs H Q _ => ∃ v u t a b c, vs = [v, u, t] ∧ Dp K H v (pD a) ∧ Dp K H u (pD b) ∧ Dp K H t (pD c) ∧ RatP a ∧ RatP b ∧ RatP c ∧ SzP 300 a ∧ SzP 300 b ∧ SzP 300 c ∧ ∀ H' z, Same H H' → Dp K H' z (rD (crossL a b c)) → Q z H'
def spPT (K : PySem.W.Frag) (o : Pl → Pl → Pl) : Sp := fun vs H Q _ => ∃ v u p s, vs = [v, u] ∧ Dp K H v (pD p) ∧ Dp K H u (pD s) ∧ RatP p ∧ RatP s ∧ SzP 2000 p ∧ SzP 2000 s ∧ ∀ H' z, Same H H' → Dp K H' z (pD (o p s)) → Q z H'
def spPlain (K : PySem.W.Frag) : Sp := fun vs H Q _ => ∃ v u r, vs = [v, u] ∧ Dp K H v (rD r) ∧ Dp K H u (rD r) ∧ Q (.bl true) H
theorem rat_int (n : Int) : IsRat (n, 1) := ⟨by show (0 : Int) < 1; decide, by show Nat.gcd n.natAbs 1 = 1; exact Nat.gcd_one_right _⟩
theorem szr_int {n : Nat} {x : Int} (h : Sz n x) (k : 1 ≤ n) : SzR n (x, 1) := ⟨h, sz_mono (by show (1 : Int).natAbs < 2 ^ 1; decide) k⟩
theorem shaped_r (r : Rt) : SeqAt.shaped (rD r) = true ∧ PyData.canLay0 (rD r) = true := by
  have c : PyData.canLay0 (rD r) = true := by simp [rD, PyData.canLay0, PyData.canLayAll0]
  exact ⟨by unfold SeqAt.shaped; rw [c]; simp [rD, PyData.depth, PyData.depthAll], c⟩
theorem shaped_p (p : Pl) : SeqAt.shaped (pD p) = true ∧ PyData.canLay0 (pD p) = true := by
  have c : PyData.canLay0 (pD p) = true := by simp [pD, rD, PyData.canLay0, PyData.canLayAll0]
  exact ⟨by unfold SeqAt.shaped; rw [c]; simp [pD, rD, PyData.depth, PyData.depthAll], c⟩
/-- == and != of equal data -/
theorem eq_same {K : PySem.W.Frag} {H : Hp} {v u : V} {d : PyData} {Q : VK} (s : SeqAt.shaped d = true ∧ PyData.canLay0 d = true) (h1 : Dp K H v d) (h2 : Dp K H u d) (q : Q (.bl true) H) : rEqD K v u H Q :=
  ⟨d, d, h1, h2, s.1, s.1, by rw [SeqAt.eqv_refl _ s.2]; exact q⟩
theorem ne_same {K : PySem.W.Frag} {H : Hp} {v u : V} {d : PyData} {Q : VK} (s : SeqAt.shaped d = true ∧ PyData.canLay0 d = true) (h1 : Dp K H v d) (h2 : Dp K H u d) (q : Q (.bl false) H) : rNeD K v u H Q :=
  ⟨d, d, h1, h2, s.1, s.1, by rw [SeqAt.eqv_refl _ s.2]; exact q⟩
section
variable {P : Program} {w : World} {K : PySem.W.Frag} {mg : Str → Option Value} {base : Heap}
abbrev s_law_gcd : Stmt := topS 39
theorem sc_law_gcd : FnScope ["_law_one", "_law_other"] ["_law_one", "_law_other"] (defScope s_law_gcd) := ⟨rfl, rfl, rfl, by decide +kernel, rfl, by decide +kernel, by decide +kernel⟩
theorem ok_law_gcd (T : Txt K mg "_law_gcd" s_law_gcd) (mint : mg "int" = none) (mabs : mg "abs" = none) : DefOk P w K mg base CX0 "_law_gcd" 1 ["_law_one", "_law_other"] spGcd := by
  obtain ⟨f, fd, F, gf⟩ := T
  refine ⟨f, fd, gf, F.kp, F.binds (fun _ _ _ _ _ _ us hl => match us, hl with | [_, _], _ => rfl), F.ok sc_law_gcd (fun vs H Q E h => ?_) (fun cdv A outer s H vs Q E hr h => ?_)⟩
  · obtain ⟨x, y, rfl, _⟩ := h; rfl
  · obtain ⟨x, y, rfl, q⟩ := h
    refine ⟨_, (pss_cons (ps_par (i := 0) (j := 1) rfl sc_law_gcd.nd rfl rfl (by decide) rfl rfl (pa_cons (pe_callB call_abs (by rfl) mabs (by decide +kernel) (pa_cons (pv 0) pa_nil)) (pa_cons (pe_callB call_abs (by rfl) mabs (by decide +kernel) (pa_cons (pv 1) pa_nil)) pa_nil)) rfl) (pss_cons (ps_while PassesOwn.never (pt_truth (pv 1) (fun _ => rfl)) (pss_one (ps_par (i := 0) (j := 1) rfl sc_law_gcd.nd rfl rfl (by decide) rfl rfl (pa_cons (pv 1) (pa_cons (pe_op op_mod (pe_callTy call_int1 (by rfl) mint boot_int (pa_cons (pv 0) pa_nil)) (pv 1)) pa_nil)) rfl))) (pss_one (ps_ret (pv 0))))), ?_⟩
    have ab : ∀ i : Int, (if i < 0 then -i else i) = (i.natAbs : Int) := fun i => by split <;> omega
    refine ⟨_, rfl, x, rfl, _, rfl, y, rfl, _, _, rfl, ?_⟩
    rw [ab, ab]
    dsimp only [tSeq]
    refine while_by (fun σ H' => ∃ a b : Nat, σ = [some (.int (a : Int)), some (.int (b : Int))] ∧ Nat.gcd a b = Nat.gcd x.natAbs y.natAbs ∧ H' = H)
      (fun σ H' => match σ with | [_, some (.int b)] => b.toNat | _ => 0) ⟨_, _, rfl, rfl, rfl⟩ ?_ (fun σ H Q Q' hq hc => by
      obtain ⟨v, e, k, t, q⟩ := hc
      exact ⟨v, e, k, t, hq _ _ q⟩)
    rintro σ H' ⟨a, b, rfl, e, rfl⟩
    refine ⟨_, rfl, ((b : Int) != 0), rfl, ?_⟩
    by_cases b0 : b = 0
    · subst b0
      refine itF rfl ?_
      refine ⟨_, rfl, ?_⟩
      rw [Nat.gcd_zero_right] at e
      rw [e]; exact q
    · refine itT (by simp [b0]) ?_
      refine ⟨_, rfl, _, rfl, .inl ⟨_, rfl, _, rfl, _, _, rfl, rfl, (by show (0 : Int) < _; omega), _, _, rfl, ⟨b, a % b, rfl, ?_, rfl⟩, ?_⟩⟩
      · rw [← e, Nat.gcd_comm a b, Nat.gcd_rec b a, Nat.gcd_comm]
      · show ((a : Int) % (b : Int)).toNat < ((b : Int)).toNat
        have := Int.emod_lt_of_pos (a : Int) (by omega : (0 : Int) < (b : Int))
        omega
abbrev s_law_ratio : Stmt := topS 40
theorem sc_law_ratio : FnScope ["_law_top", "_law_bottom", "_law_part"] ["_law_top", "_law_bottom"] (defScope s_law_ratio) := ⟨rfl, rfl, rfl, by decide +kernel, rfl, by decide +kernel, by decide +kernel⟩
theorem ok_law_ratio (T : Txt K mg "_law_ratio" s_law_ratio) (G_law_gcd : DefOk P w K mg base CX0 "_law_gcd" 1 ["_law_one", "_law_other"] spGcd) : DefOk P w K mg base CX0 "_law_ratio" 2 ["_law_top", "_law_bottom"] (spLow K) := by
  obtain ⟨f, fd, F, gf⟩ := T
  refine ⟨f, fd, gf, F.kp, F.binds (fun _ _ _ _ _ _ us hl => match us, hl with | [_, _], _ => rfl), F.ok sc_law_ratio (fun vs H Q E h => ?_) (fun cdv A outer s H vs Q E hr h => ?_)⟩
  · obtain ⟨t, b, rfl, _⟩ := h; rfl
  · obtain ⟨t, b, rfl, b0, zt, zb, q⟩ := h
    refine ⟨_, (pss_cons (ps_set (i := 2) sc_law_ratio.nd rfl (.inl rfl) (pe_def G_law_gcd (hr.mono (by decide)) (by rfl) (pa_cons (pv 0) (pa_cons (pv 1) pa_nil)))) (pss_cons (ps_if (pt_cmpR op_lt (pv 1) pe_int (nomark _)) (pss_one (ps_set (i := 2) sc_law_ratio.nd rfl (.inl rfl) (pe_un un_neg (pv 2)))) pss_nil) (pss_one (ps_ret (pe_tup (pa_cons (pe_op op_fdivW (pv 0) (pv 2)) (pa_cons (pe_op op_fdivW (pv 1) (pv 2)) pa_nil))))))), ?_⟩
    have bn : b ≠ 0 := by omega
    have gp := g2_pos (t := t) bn
    have gz := sz_g (t := t) bn zb
    refine ⟨_, rfl, _, rfl, t, b, rfl, ?_⟩
    refine ⟨_, rfl, _, _, rfl, rfl, _, rfl, itF (decide_eq_false (by omega)) ?_⟩
    refine ⟨_, rfl, _, rfl, _, _, rfl, rfl, wide_div gp gz (by decide) (by decide), _, rfl, _, rfl, _, _, rfl, rfl, wide_div gp gz (by decide) (by decide), (by show 2 ≤ sizeLine; decide), fun p np => q _ _ (PB.same_new np) (dp_mkr np)⟩
abbrev s_law_plus : Stmt := topS 41
theorem sc_law_plus : FnScope ["_law_one", "_law_other"] ["_law_one", "_law_other"] (defScope s_law_plus) := ⟨rfl, rfl, rfl, by decide +kernel, rfl, by decide +kernel, by decide +kernel⟩
theorem ok_law_plus (T : Txt K mg "_law_plus" s_law_plus) (G_law_ratio : DefOk P w K mg base CX0 "_law_ratio" 2 ["_law_top", "_law_bottom"] (spLow K)) : DefOk P w K mg base CX0 "_law_plus" 3 ["_law_one", "_law_other"] (spBin K radd) := by
  obtain ⟨f, fd, F, gf⟩ := T
  refine ⟨f, fd, gf, F.kp, F.binds (fun _ _ _ _ _ _ us hl => match us, hl with | [_, _], _ => rfl), F.ok sc_law_plus (fun vs H Q E h => ?_) (fun cdv A outer s H vs Q E hr h => ?_)⟩
  · obtain ⟨v, u, r, s_, rfl, _⟩ := h; rfl
  · obtain ⟨v, u, r, s_, rfl, hv, hu, ir, is_, zr, zs, q⟩ := h
    refine ⟨_, (pss_one (ps_ret (pe_def G_law_ratio (hr.mono (by decide)) (by rfl) (pa_cons (pe_op op_add (pe_op op_mulW (pe_ix ix_it (pv 0) pe_int (fun _ _ => rfl)) (pe_ix ix_it (pv 1) pe_int (fun _ _ => rfl))) (pe_op op_mulW (pe_ix ix_it (pv 1) pe_int (fun _ _ => rfl)) (pe_ix ix_it (pv 0) pe_int (fun _ _ => rfl)))) (pa_cons (pe_op op_mulW (pe_ix ix_it (pv 0) pe_int (fun _ _ => rfl)) (pe_ix ix_it (pv 1) pe_int (fun _ _ => rfl))) pa_nil))))), ?_⟩
    have c1 := cou_r hv
    have c2 := cou_r hu
    refine ⟨v, rfl, _, _, 0, _, rfl, c1, rfl, u, rfl, _, _, 1, _, rfl, c2, rfl, _, _, rfl, rfl, wide_mul zr.1 zs.2 (by decide) (by decide) (by decide), u, rfl, _, _, 0, _, rfl, c2, rfl, v, rfl, _, _, 1, _, rfl, c1, rfl, _, _, rfl, rfl, wide_mul zs.1 zr.2 (by decide) (by decide) (by decide), _, _, rfl, rfl, ?_⟩
    exact ⟨v, rfl, _, _, 1, _, rfl, c1, rfl, u, rfl, _, _, 1, _, rfl, c2, rfl, _, _, rfl, rfl, wide_mul zr.2 zs.2 (by decide) (by decide) (by decide), _, _, rfl, Int.mul_pos ir.1 is_.1, sz_mono (sz_add (sz_mul zr.1 zs.2) (sz_mul zs.1 zr.2)) (by decide), sz_mono (sz_mul zr.2 zs.2) (by decide), fun H' z sm hz => q H' z sm hz⟩
abbrev s_law_times : Stmt := topS 42
theorem sc_law_times : FnScope ["_law_one", "_law_other"] ["_law_one", "_law_other"] (defScope s_law_times) := ⟨rfl, rfl, rfl, by decide +kernel, rfl, by decide +kernel, by decide +kernel⟩
theorem ok_law_times (T : Txt K mg "_law_times" s_law_times) (G_law_ratio : DefOk P w K mg base CX0 "_law_ratio" 2 ["_law_top", "_law_bottom"] (spLow K)) : DefOk P w K mg base CX0 "_law_times" 3 ["_law_one", "_law_other"] (spBin K rmul) := by
  obtain ⟨f, fd, F, gf⟩ := T
  refine ⟨f, fd, gf, F.kp, F.binds (fun _ _ _ _ _ _ us hl => match us, hl with | [_, _], _ => rfl), F.ok sc_law_times (fun vs H Q E h => ?_) (fun cdv A outer s H vs Q E hr h => ?_)⟩
  · obtain ⟨v, u, r, s_, rfl, _⟩ := h; rfl
  · obtain ⟨v, u, r, s_, rfl, hv, hu, ir, is_, zr, zs, q⟩ := h
    refine ⟨_, (pss_one (ps_ret (pe_def G_law_ratio (hr.mono (by decide)) (by rfl) (pa_cons (pe_op op_mulW (pe_ix ix_it (pv 0) pe_int (fun _ _ => rfl)) (pe_ix ix_it (pv 1) pe_int (fun _ _ => rfl))) (pa_cons (pe_op op_mulW (pe_ix ix_it (pv 0) pe_int (fun _ _ => rfl)) (pe_ix ix_it (pv 1) pe_int (fun _ _ => rfl))) pa_nil))))), ?_⟩
    have c1 := cou_r hv
    have c2 := cou_r hu
    exact ⟨v, rfl, _, _, 0, _, rfl, c1, rfl, u, rfl, _, _, 0, _, rfl, c2, rfl, _, _, rfl, rfl, wide_mul zr.1 zs.1 (by decide) (by decide) (by decide), v, rfl, _, _, 1, _, rfl, c1, rfl, u, rfl, _, _, 1, _, rfl, c2, rfl, _, _, rfl, rfl, wide_mul zr.2 zs.2 (by decide) (by decide) (by decide), _, _, rfl, Int.mul_pos ir.1 is_.1, sz_mono (sz_mul zr.1 zs.1) (by decide), sz_mono (sz_mul zr.2 zs.2) (by decide), fun H' z sm hz => q H' z sm hz⟩
end
end F3
set_option Elab.async false
set_option linter.all false
set_option maxRecDepth 100000
set_option maxHeartbeats 4000000
set_option exponentiation.threshold 3000
namespace F3
open PySem PySem.Spec PyProof.Rows L2 FX RM PB
/-! the text -/
abbrev sHand : Stmt := topS 36
abbrev sMixed : Stmt := topS 37
abbrev sTake : Stmt := topS 38
theorem scHand : FnScope ["_law_script", "_law_total", "_law_cells", "_law_cell"] ["_law_script"] (defScope sHand) := ⟨rfl, rfl, rfl, by decide +kernel, rfl, by decide +kernel, by decide +kernel⟩
theorem scMixed : FnScope ["_law_number_here", "_law_turn", "_law_once", "_law_twice"] ["_law_number_here", "_law_turn"] (defScope sMixed) := ⟨rfl, rfl, rfl, by decide +kernel, rfl, by decide +kernel, by decide +kernel⟩
theorem scTake : FnScope ["_law_hand_here", "_law_many", "_law_cell", "_law_rest"] ["_law_hand_here", "_law_many"] (defScope sTake) := ⟨rfl, rfl, rfl, by decide +kernel, rfl, by decide +kernel, by decide +kernel⟩
/-! heaps -/
theorem same_updH {H : Hp} {p : Addr} {o : HO} (h : H p = none) : Same H (upd H p o) := fun b x e => by
  rw [upd_ne (ne_of_none e h)]; exact e
/-- all but what stands at p is as it was -/
def SameBut (p : Addr) (H H' : Hp) : Prop := (∀ b o, b ≠ p → H b = some o → H' b = some o) ∧ ∀ c l, H p = some (.lst (.ref c :: l)) → ∃ l', H' p = some (.lst (.ref c :: l'))
theorem SameBut.rfl {p : Addr} {H : Hp} : SameBut p H H := ⟨fun _ _ _ e => e, fun _ l e => ⟨l, e⟩⟩
theorem sb_upd {H : Hp} {p c : Addr} {l l' : List V} (h : H p = some (.lst (.ref c :: l))) : SameBut p H (upd H p (.lst (.ref c :: l'))) := ⟨fun b x n e => by rw [upd_ne n]; exact e, fun c2 l2 e => by rw [h] at e; cases e; exact ⟨_, upd_same⟩⟩
theorem SameBut.trans {p : Addr} {H H1 H2 : Hp} (a : SameBut p H H1) (b : SameBut p H1 H2) : SameBut p H H2 := ⟨fun c o n e => b.1 c o n (a.1 c o n e), fun c l e => by obtain ⟨l1, e1⟩ := a.2 c l e; exact b.2 c l1 e1⟩
/-- the hand that a law draws from -/
def HandIs (H : Hp) (p c : Addr) (cs : List Int) (i r t : Int) : Prop :=
  H p = some (.lst [.ref c, .int i, .int r, .int t]) ∧ H c = some (.lst (cs.map V.int)) ∧ (∀ z ∈ cs, 0 ≤ z) ∧ 0 ≤ i ∧ i ≤ cs.length ∧ cs.length ≤ 63 ∧ 0 ≤ r ∧ 0 ≤ t ∧ t < 2147483629
def HandAt (H : Hp) (p : Addr) : Prop := ∃ c cs i r t, HandIs H p c cs i r t
theorem HandIs.ne {H : Hp} {p c : Addr} {cs : List Int} {i r t : Int} (h : HandIs H p c cs i r t) : c ≠ p := fun e => by
  obtain ⟨a, b, _⟩ := h
  subst e
  rw [a] at b
  have z := HO.lst.inj (Option.some.inj b)
  cases cs with
  | nil => cases z
  | cons x l => cases z
theorem HandIs.put {H : Hp} {p c : Addr} {cs : List Int} {i r t i' r' t' : Int} (h : HandIs H p c cs i r t) (hi : 0 ≤ i') (hi2 : i' ≤ cs.length) (hr : 0 ≤ r') (ht : 0 ≤ t') (ht2 : t' < 2147483629) :
    HandIs (upd H p (.lst [.ref c, .int i', .int r', .int t'])) p c cs i' r' t' := by
  have n := h.ne
  obtain ⟨a, b, c1, _, _, c4, _⟩ := h
  exact ⟨upd_same, by rw [upd_ne n]; exact b, c1, hi, hi2, c4, hr, ht, ht2⟩
theorem HandAt.same {H H' : Hp} {p : Addr} (h : HandAt H p) (s : Same H H') : HandAt H' p := by
  obtain ⟨c, cs, i, r, t, a, b, q⟩ := h
  exact ⟨c, cs, i, r, t, s _ _ a, s _ _ b, q⟩
/-! promises -/
def spHand (K : PySem.W.Frag) : Sp := fun vs H Q _ => ∃ (a : Addr) (ns : List Int), vs = [.ref a] ∧ SqL K H a (ns.map V.int) ∧ ns.length ≤ 63 ∧ ∀ H' p, Same H H' → H p = none → HandAt H' p → Q (.ref p) H'
def spMixed : Sp := fun vs H Q _ => ∃ (n t : Int), vs = [.int n, .int t] ∧ 0 ≤ n ∧ n < 2147483647 ∧ 0 ≤ t ∧ t ≤ 1000 ∧ ∀ z, Q (.int z) H
def spTake : Sp := fun vs H Q _ => ∃ (p : Addr) (m : Int), vs = [.ref p, .int m] ∧ HandAt H p ∧ 0 < m ∧ m < 1073741824 ∧ ∀ v H', 0 ≤ v → v < m → HandAt H' p → SameBut p H H' → Q (.int v) H'
section
variable {P : Program} {w : World} {K : PySem.W.Frag} {mg : Str → Option Value} {base : Heap}
theorem ok_mixed {f : Addr} {fd : FuncData} {k : Nat} (F : Fun K "_law_mixed" "_law_mixed" sMixed f fd) (mi : mg "int" = none) : FnOk P w K mg base CX0 (k + 1) f fd ["_law_number_here", "_law_turn"] spMixed := by
  refine F.ok scMixed (fun vs H Q E h => ?_) (fun cdv A outer s H vs Q E hr h => ?_)
  · obtain ⟨n, t, rfl, _⟩ := h; rfl
  · obtain ⟨n, t, rfl, n0, n1, t0, t1, q⟩ := h
    refine ⟨_, pss_cons (ps_set (i := 2) scMixed.nd rfl (.inl rfl) (pe_op op_mod (pe_callTy call_int1 (by rfl) mi boot_int (pa_cons
          (pe_op op_add (pe_op op_add (pe_op op_mul (pv 0) pe_int) (pe_op op_mul (pv 1) pe_int)) pe_int) pa_nil)) pe_int))
      (pss_cons (ps_set (i := 3) scMixed.nd rfl (.inl rfl) (pe_op op_mod (pe_callTy call_int1 (by rfl) mi boot_int (pa_cons
          (pe_op op_add (pe_op op_add (pe_op op_mul (pv 2) (pv 2)) (pe_op op_mul (pv 1) pe_int)) (pe_op op_fdiv (pv 2) pe_int)) pa_nil)) pe_int))
      (pss_one (ps_ret (pe_op op_fdiv (pe_callTy call_int1 (by rfl) mi boot_int (pa_cons
          (pe_op op_mod (pe_callTy call_int1 (by rfl) mi boot_int (pa_cons (pe_op op_add (pe_op op_mul (pv 3) pe_int) (pe_op op_fdiv (pv 2) pe_int)) pa_nil)) pe_int) pa_nil)) pe_int)))), ?_⟩
    refine ⟨_, rfl, _, _, rfl, rfl, .inl ⟨by omega, by omega⟩, _, rfl, _, _, rfl, rfl, .inl ⟨by omega, by omega⟩, _, _, rfl, rfl, _, _, rfl, rfl, .inl ⟨_, rfl, _, _, rfl, rfl, (by show (0 : Int) < _; decide), ?_⟩⟩
    generalize hx : (n * 48271 + t * 7919 + 65537) % 2147483647 = x
    have x0 : 0 ≤ x := by omega
    have x1 : x < 2147483647 := by omega
    refine ⟨_, rfl, _, rfl, _, _, rfl, rfl, .inl ⟨by omega, by omega⟩, _, rfl, _, _, rfl, rfl, .inl ⟨by omega, by omega⟩, _, _, rfl, rfl, _, rfl, _, _, rfl, rfl, ⟨by decide, by decide⟩, _, _, rfl, rfl, .inl ⟨_, rfl, _, _, rfl, rfl, (by show (0 : Int) < _; decide), ?_⟩⟩
    generalize hy : (x * x + t * 104729 + x / 127) % 2147483629 = y
    have y0 : 0 ≤ y := by omega
    have y1 : y < 2147483629 := by omega
    refine ⟨_, rfl, _, _, rfl, rfl, .inl ⟨by omega, by omega⟩, _, rfl, _, _, rfl, rfl, ⟨by decide, by decide⟩, _, _, rfl, rfl, .inl ⟨_, rfl, _, _, rfl, rfl, (by show (0 : Int) < _; decide), .inl ⟨_, rfl, _, _, rfl, rfl, ⟨by decide, by decide⟩, q _⟩⟩⟩
theorem ok_hand {f : Addr} {fd : FuncData} {k : Nat} (F : Fun K "_law_hand" "_law_hand" sHand f fd) (mi : mg "int" = none) (ml : mg "len" = none) : FnOk P w K mg base CX0 (k + 1) f fd ["_law_script"] (spHand K) := by
  refine F.ok scHand (fun vs H Q E h => ?_) (fun cdv A outer s H vs Q E hr h => ?_)
  · obtain ⟨a, ns, rfl, _⟩ := h; rfl
  · obtain ⟨a, ns, rfl, hS, hlen, q⟩ := h
    refine ⟨_, pss_cons (ps_set (i := 1) scHand.nd rfl (.inl rfl) (pe_op op_add (pe_callB call_len_seq (by rfl) ml PySem.boot_len (pa_cons (pv 0) pa_nil)) pe_int))
      (pss_cons (ps_set (i := 2) scHand.nd rfl (.inl rfl) (pe_lst pa_nil))
      (pss_cons (ps_for PassesOwn.never rfl (pi_list (pv 0)) (pg_name (i := 3) scHand.nd rfl (.inl rfl))
        (pss_cons (ps_set (i := 1) scHand.nd rfl (.inl rfl) (pe_op op_mod (pe_callTy call_int1 (by rfl) mi boot_int (pa_cons
            (pe_op op_add (pe_op op_mul (pv 1) pe_int) (pe_callTy call_int1 (by rfl) mi boot_int (pa_cons (pv 3) pa_nil))) pa_nil)) pe_int))
        (pss_one (ps_expr (pe_bm PySem.F.plainAttrs_list PySem.F.slot_list_append PySem.F.type_list_append mt_append (pv 2) (pa_cons
          (pe_ifExp (pt_cmpR op_ge (pv 3) pe_int (nomark _)) (pe_callTy call_int1 (by rfl) mi boot_int (pa_cons (pv 3) pa_nil))
            (pe_un un_neg (pe_callTy call_int1 (by rfl) mi boot_int (pa_cons (pv 3) pa_nil)))) pa_nil))))))
      (pss_one (ps_ret (pe_lst (pa_cons (pv 2) (pa_cons pe_int (pa_cons pe_int (pa_cons (pv 1) pa_nil))))))))), ?_⟩
    refine ⟨.ref a, rfl, a, _, rfl, .inl hS, _, _, rfl, rfl, Nat.zero_le _, fun c nc => ?_⟩
    refine ⟨.ref a, rfl, a, rfl, ⟨_, (same_updH nc).seq hS⟩, for_list (K := K) (a := a) (xs := ns.map V.int)
      (fun i σ H' => ∃ (t : Int) (y : Option V) (cs : List Int), σ = [some (.ref a), some (.int t), some (.ref c), y] ∧ 0 ≤ t ∧ t < 2147483629 ∧ (∀ z ∈ cs, 0 ≤ z) ∧ cs.length = i ∧ Same H H' ∧ H' c = some (.lst (cs.map V.int)))
      ⟨_, none, [], rfl, ?_, ?_, (fun z hz => nomatch hz), rfl, same_updH nc, upd_same⟩ (fun i σ H' _ ⟨_, _, _, _, _, _, _, _, s5, _⟩ => s5.seq hS) ?_ ?_⟩
    · rw [List.length_map]; omega
    · rw [List.length_map]; omega
    · rintro i x σ H' hi ⟨t, y, cs, rfl, t0, t1, c0, cl, sm, hc⟩
      obtain ⟨z, rfl⟩ : ∃ z, x = V.int z := by
        rw [List.getElem?_map] at hi
        cases e : ns[i]? with
        | none => rw [e] at hi; cases hi
        | some z => rw [e] at hi; exact ⟨z, (Option.some.inj hi).symm⟩
      have il : i < 63 := by
        have := (List.getElem?_eq_some_iff.mp hi).1
        rw [List.length_map] at this
        omega
      refine ⟨_, rfl, _, _, rfl, rfl, .inl ⟨by omega, by omega⟩, .int z, rfl, .inl ⟨_, rfl, _, _, rfl, rfl, .inl ⟨_, rfl, _, _, rfl, rfl, (by show (0 : Int) < _; decide), ?_⟩⟩⟩
      have go : ∀ y : Int, 0 ≤ y → ∃ l xs y', V.ref c = V.ref l ∧ [V.int y] = [y'] ∧ H' l = some (.lst xs) ∧ xs.length < sizeLine ∧ (∃ (t' : Int) (v : Option V) (cs' : List Int), [some (V.ref a), some (V.int ((t * 1019 + z) % 2147483629)), some (V.ref c), some (V.int z)] = [some (.ref a), some (.int t'), some (.ref c), v] ∧ 0 ≤ t' ∧ t' < 2147483629 ∧ (∀ z ∈ cs', 0 ≤ z) ∧ cs'.length = i + 1 ∧ Same H (upd H' l (.lst (xs ++ [y']))) ∧ upd H' l (.lst (xs ++ [y'])) c = some (.lst (cs'.map V.int))) := fun y hy => by
        refine ⟨c, _, .int y, rfl, rfl, hc, by rw [List.length_map]; exact small1000 (by omega), _, _, cs ++ [y], rfl, by omega, by omega, ?_, by simp [cl], fun b o e => ?_, ?_⟩
        · intro z hz
          rcases List.mem_append.mp hz with hz | hz
          · exact c0 z hz
          · rw [List.mem_singleton.mp hz]; exact hy
        · rw [upd_ne (ne_of_none e nc)]; exact sm _ _ e
        · rw [upd_same, List.map_append]; rfl
      refine ⟨.ref c, rfl, .inl ⟨rfl, _, .inl (.inl hc)⟩, .int z, rfl, _, _, rfl, rfl, _, rfl, ite2 (fun e => ?_) (fun e => ?_)⟩
      · exact ⟨_, rfl, .inl ⟨_, rfl, go z (of_decide_eq_true e)⟩⟩
      · exact ⟨_, rfl, .inl ⟨_, rfl, _, rfl, go (-z) (by have : ¬ (0 : Int) ≤ z := fun h => e (decide_eq_true h); omega)⟩⟩
    · rintro σ H' ⟨t, y, cs, rfl, t0, t1, c0, cl, sm, hc⟩
      refine ⟨_, rfl, _, rfl, (by show 4 ≤ sizeLine; decide), fun p np => q _ p ?_ (sm.free np) ?_⟩
      · exact sm.trans (same_updH np)
      · refine ⟨c, cs, 0, 0, t, upd_same, ?_, c0, by omega, by omega, ?_, by omega, t0, t1⟩
        · rw [upd_ne (ne_of_none hc np)]; exact hc
        · rw [cl, List.length_map]; exact hlen
theorem ok_take {f fM : Addr} {fd fdM : FuncData} {k : Nat} (F : Fun K "_law_take" "_law_take" sTake f fd) (FM : Fun K "_law_mixed" "_law_mixed" sMixed fM fdM) (bM : Binds K fdM ["_law_number_here", "_law_turn"] []) (gM : mg "_law_mixed" = some (.ref fM))
    (mi : mg "int" = none) (ml : mg "len" = none) : FnOk P w K mg base CX0 (k + 2) f fd ["_law_hand_here", "_law_many"] spTake := by
  have GM : FnOk P w K mg base CX0 (k + 1) fM fdM ["_law_number_here", "_law_turn"] spMixed := ok_mixed FM mi
  refine F.ok scTake (fun vs H Q E h => ?_) (fun cdv A outer s H vs Q E hr h => ?_)
  · obtain ⟨p, m, rfl, _⟩ := h; rfl
  · obtain ⟨p, m, rfl, hH, m0, m1, q⟩ := h
    obtain ⟨c, cs, i, r, t, hh⟩ := hH
    refine ⟨_, pss_cons (ps_if (PW.pt (pw_and (pt_cmpR op_eq (pe_ix ix_list (pv 0) pe_int (fun _ _ => rfl)) pe_int (nomark _))
          (pw_and1 (pt_cmpR op_lt (pe_ix ix_list (pv 0) pe_int (fun _ _ => rfl)) (pe_callB call_len_seq (by rfl) ml PySem.boot_len (pa_cons (pe_ix ix_list (pv 0) pe_int (fun _ _ => rfl)) pa_nil)) (nomark _)))))
        (pss_cons (ps_set (i := 2) scTake.nd rfl (.inl rfl) (pe_ix ix_list (pe_ix ix_list (pv 0) pe_int (fun _ _ => rfl)) (pe_ix ix_list (pv 0) pe_int (fun _ _ => rfl)) (fun _ _ => rfl)))
        (pss_cons (ps_asg (pe_op op_add (pe_ix ix_list (pv 0) pe_int (fun _ _ => rfl)) pe_int) (pg_sub (pv 0) pe_int set_list))
        (pss_cons (ps_if (pt_cmpR op_lt (pv 2) (pe_op op_pow pe_int pe_int) (nomark _))
          (pss_one (ps_ret (pe_op op_mod (pe_callTy call_int1 (by rfl) mi boot_int (pa_cons (pe_call GM hr (by rfl) gM FM.kp bM .nil pass0
            (pa_cons (pe_op op_mod (pe_callTy call_int1 (by rfl) mi boot_int (pa_cons (pv 2) pa_nil)) pe_int) (pa_cons (pe_ix ix_list (pv 0) pe_int (fun _ _ => rfl)) pa_nil))) pa_nil)) (pv 1)))) pss_nil)
        (pss_one (ps_asg (pv 2) (pg_sub (pv 0) pe_int set_list)))))) pss_nil)
      (pss_cons (ps_if (pt_cmpR op_gt (pe_ix ix_list (pv 0) pe_int (fun _ _ => rfl)) pe_int (nomark _))
        (pss_cons (ps_set (i := 3) scTake.nd rfl (.inl rfl) (pe_ix ix_list (pv 0) pe_int (fun _ _ => rfl)))
        (pss_cons (ps_asg (pe_op op_fdiv (pe_callTy call_int1 (by rfl) mi boot_int (pa_cons (pv 3) pa_nil)) (pv 1)) (pg_sub (pv 0) pe_int set_list))
        (pss_one (ps_ret (pe_op op_mod (pe_callTy call_int1 (by rfl) mi boot_int (pa_cons (pv 3) pa_nil)) (pv 1)))))) pss_nil)
      (pss_cons (ps_asg (pe_op op_mod (pe_callTy call_int1 (by rfl) mi boot_int (pa_cons (pe_op op_add (pe_ix ix_list (pv 0) pe_int (fun _ _ => rfl)) pe_int) pa_nil)) pe_int) (pg_sub (pv 0) pe_int set_list))
      (pss_one (ps_ret (pe_op op_mod (pe_callTy call_int1 (by rfl) mi boot_int (pa_cons (pe_call GM hr (by rfl) gM FM.kp bM .nil pass0
            (pa_cons (pe_ix ix_list (pv 0) pe_int (fun _ _ => rfl)) (pa_cons (pe_ix ix_list (pv 0) pe_int (fun _ _ => rfl)) pa_nil))) pa_nil)) (pv 1)))))), ?_⟩
    have nn := hh.ne
    obtain ⟨hp, hc, c0, i0, i1, cl, r0, t0, t1⟩ := id hh
    -- what stands behind the first if
    have tail : ∀ (H1 : Hp) (i r : Int) (x2 : Option V), HandIs H1 p c cs i r t → SameBut p H H1 → tSeq
        (tIfS (tTest (tOp (rI0 fun i j => .bl (decide (j < i))) (tOp (rIxL K) (tVar 0) (tC (.int 2))) (tC (.int 0)))) (tSeq (tAsg (tOp (rIxL K) (tVar 0) (tC (.int 2))) (gName 3))
          (tSeq (tAsg (tOp (rI CDiv fun i j => .int (i / j)) (tCB (fun xs H Q => (∃ i, xs = [.int i] ∧ Q (.int i) H) ∨ ∃ k, xs = [.bl k] ∧ Q (.int (if k then 1 else 0)) H) (tCons (tVar 3) tNil)) (tVar 1)) (gSub (tVar 0) (tC (.int 2)) rSetL))
            (tRet (tOp (rI (fun _ j => 0 < j) fun i j => .int (i % j)) (tCB (fun xs H Q => (∃ i, xs = [.int i] ∧ Q (.int i) H) ∨ ∃ k, xs = [.bl k] ∧ Q (.int (if k then 1 else 0)) H) (tCons (tVar 3) tNil)) (tVar 1))))) tNext)
        (tSeq (tAsg (tOp (rI (fun _ j => 0 < j) fun i j => .int (i % j)) (tCB (fun xs H Q => (∃ i, xs = [.int i] ∧ Q (.int i) H) ∨ ∃ k, xs = [.bl k] ∧ Q (.int (if k then 1 else 0)) H)
            (tCons (tOp (rI0 fun i j => .int (i + j)) (tOp (rIxL K) (tVar 0) (tC (.int 3))) (tC (.int 1))) tNil)) (tC (.int 2147483629))) (gSub (tVar 0) (tC (.int 3)) rSetL))
          (tRet (tOp (rI (fun _ j => 0 < j) fun i j => .int (i % j)) (tCB (fun xs H Q => (∃ i, xs = [.int i] ∧ Q (.int i) H) ∨ ∃ k, xs = [.bl k] ∧ Q (.int (if k then 1 else 0)) H)
            (tCons (tCall spMixed [] E0 (tCons (tOp (rIxL K) (tVar 0) (tC (.int 3))) (tCons (tOp (rIxL K) (tVar 0) (tC (.int 1))) tNil))) tNil)) (tVar 1))))
        { nx := fun _ H' => Q .non H', rt := Q } [some (.ref p), some (.int m), x2, none] H1 := by
      intro H1 i r x2 h1 sb
      obtain ⟨hp1, hc1, _, i0', i1', _, r0', _, _⟩ := id h1
      refine ⟨.ref p, rfl, p, _, 2, _, rfl, rfl, .of hp1, rfl, _, _, rfl, rfl, _, rfl, ite2 (fun e => ?_) (fun e => ?_)⟩
      · have rp : 0 < r := of_decide_eq_true e
        refine ⟨.ref p, rfl, p, _, 2, _, rfl, rfl, .of hp1, rfl, .int r, rfl, .inl ⟨_, rfl, .int m, rfl, _, _, rfl, rfl, ⟨m0, m1⟩, .ref p, rfl, p, _, 2, 2, rfl, rfl, hp1, rfl, ?_⟩⟩
        refine ⟨.int r, rfl, .inl ⟨_, rfl, .int m, rfl, _, _, rfl, rfl, m0, q _ _ (Int.emod_nonneg _ (by omega)) (Int.emod_lt_of_pos _ m0) ⟨c, cs, i, r / m, t, ?_⟩ (sb.trans (sb_upd hp1))⟩⟩
        exact h1.put i0' i1' (Int.ediv_nonneg r0' (by omega)) t0 t1
      · refine ⟨.ref p, rfl, p, _, 3, _, rfl, rfl, .of hp1, rfl, _, _, rfl, rfl, .inl ⟨_, rfl, _, _, rfl, rfl, (by show (0 : Int) < _; decide), .ref p, rfl, p, _, 3, 3, rfl, rfl, hp1, rfl, ?_⟩⟩
        have z0 : 0 ≤ (t + 1) % 2147483629 := by omega
        have z1 : (t + 1) % 2147483629 < 2147483629 := by omega
        have h2 := h1.put (i' := i) (r' := r) i0' i1' r0' z0 z1
        refine ⟨.ref p, rfl, p, _, 3, _, rfl, rfl, .of upd_same, rfl, .ref p, rfl, p, _, 1, _, rfl, rfl, .of upd_same, rfl, _, _, rfl, z0, by omega, i0', by omega, fun z => .inl ⟨_, rfl, .int m, rfl, _, _, rfl, rfl, m0, ?_⟩⟩
        exact q _ _ (Int.emod_nonneg _ (by omega)) (Int.emod_lt_of_pos _ m0) ⟨c, cs, i, r, _, h2⟩ (sb.trans (sb_upd hp1))
    refine ⟨.ref p, rfl, p, _, 2, _, rfl, rfl, .of hp, rfl, rfl, _, rfl, ite2 (fun e => ?_) (fun e => ?_)⟩
    · have re : r = 0 := V.int.inj (of_decide_eq_true e)
      refine ⟨.ref p, rfl, p, _, 1, _, rfl, rfl, .of hp, rfl, .ref p, rfl, p, _, 0, _, rfl, rfl, .of hp, rfl, c, _, rfl, .inl (.of hc), _, _, rfl, rfl, _, rfl, ite2 (fun e => ?_) (fun e => ?_)⟩
      · have il : i < cs.length := by
          have := of_decide_eq_true e
          rw [List.length_map] at this
          exact this
        obtain ⟨n, rfl⟩ := Int.eq_ofNat_of_zero_le i0
        have nl : n < cs.length := by omega
        have g : (cs.map V.int)[n]? = some (.int cs[n]) := by rw [List.getElem?_map, List.getElem?_eq_getElem nl]; rfl
        have z0 : 0 ≤ cs[n] := c0 _ (List.getElem_mem nl)
        have h2 := hh.put (i' := n + 1) (r' := r) (t' := t) (by omega) (by omega) r0 t0 t1
        refine ⟨.ref p, rfl, p, _, 0, _, rfl, rfl, .of hp, rfl, .ref p, rfl, p, _, 1, _, rfl, rfl, .of hp, rfl, c, _, _, _, rfl, rfl, .of hc, atI_nat g, ?_⟩
        refine ⟨.ref p, rfl, p, _, 1, _, rfl, rfl, .of hp, rfl, _, _, rfl, rfl, .ref p, rfl, p, _, 1, 1, rfl, rfl, hp, rfl, ?_⟩
        refine ⟨_, rfl, _, _, rfl, rfl, ⟨by decide, by decide, by decide⟩, _, _, rfl, rfl, _, rfl, ite2 (fun e => ?_) (fun e => ?_)⟩
        · refine ⟨_, rfl, .inl ⟨_, rfl, _, _, rfl, rfl, (by show (0 : Int) < _; decide), .ref p, rfl, p, _, 1, _, rfl, rfl, .of upd_same, rfl, _, _, rfl, by omega, by omega, by omega, by omega, fun z => .inl ⟨_, rfl, .int m, rfl, _, _, rfl, rfl, m0, ?_⟩⟩⟩
          exact q _ _ (Int.emod_nonneg _ (by omega)) (Int.emod_lt_of_pos _ m0) ⟨c, cs, _, r, t, h2⟩ (sb_upd hp)
        · refine ⟨_, rfl, .ref p, rfl, p, _, 2, 2, rfl, rfl, upd_same, rfl, ?_⟩
          rw [upd_upd]
          exact tail _ (n + 1) _ _ (hh.put (by omega) (by omega) z0 t0 t1) (sb_upd hp)
      · exact tail H i r _ hh SameBut.rfl
    · exact tail H i r _ hh SameBut.rfl

theorem dkHand (T : Txt K mg "_law_hand" sHand) (mint : mg "int" = none) (mlen : mg "len" = none) : DefOk P w K mg base CX0 "_law_hand" 1 ["_law_script"] (spHand K) := by
  obtain ⟨f, fd, F, g⟩ := T
  exact ⟨f, fd, g, F.kp, F.binds (fun _ _ _ _ _ _ us hl => match us, hl with | [_], _ => rfl), ok_hand (k := 0) F mint mlen⟩
theorem dkTake (T : Txt K mg "_law_take" sTake) (TM : Txt K mg "_law_mixed" sMixed) (mint : mg "int" = none) (mlen : mg "len" = none) : DefOk P w K mg base CX0 "_law_take" 2 ["_law_hand_here", "_law_many"] spTake := by
  obtain ⟨f, fd, F, g⟩ := T
  obtain ⟨fM, fdM, FM, gM⟩ := TM
  exact ⟨f, fd, g, F.kp, F.binds (fun _ _ _ _ _ _ us hl => match us, hl with | [_, _], _ => rfl), ok_take (k := 0) F FM (FM.binds (fun _ _ _ _ _ _ us hl => match us, hl with | [_, _], _ => rfl)) gM mint mlen⟩
/-- the hand goes on; data without lists stays -/
theorem HandAt.dp {H H' : Hp} {p : Addr} {v : V} {d : PyData} (h : HandAt H p) (s : SameBut p H H') (n : noL d = true) (k : Dp K H v d) : Dp K H' v d := by
  obtain ⟨c, cs, i, r, t, a, _⟩ := h
  exact Dp_but a s.1 n k
theorem noL_r (r : Rt) : noL (rD r) = true := by simp [rD, noL, noLs]
theorem noL_p (p : Pl) : noL (pD p) = true := by simp [pD, rD, noL, noLs]
theorem Same.but {H H' : Hp} {p : Addr} (s : Same H H') : SameBut p H H' := ⟨fun b o _ e => s b o e, fun c l e => ⟨l, s _ _ e⟩⟩
/-! what is drawn -/
def spNum (n : Nat) : Sp := fun vs H Q _ => ∃ p, vs = [.ref p] ∧ HandAt H p ∧ ∀ (x : Int) H', Sz n x → HandAt H' p → SameBut p H H' → Q (.int x) H'
def spDraw (K : PySem.W.Frag) (ok : Rt → Prop) : Sp := fun vs H Q _ => ∃ p, vs = [.ref p] ∧ HandAt H p ∧ ∀ (r : Rt) v H', ok r → Dp K H' v (rD r) → HandAt H' p → SameBut p H H' → Q v H'
def spDrawP (K : PySem.W.Frag) : Sp := fun vs H Q _ => ∃ p, vs = [.ref p] ∧ HandAt H p ∧ ∀ (r : Pl) v H', RatP r → SzP 151 r → Dp K H' v (pD r) → HandAt H' p → SameBut p H H' → Q v H'
abbrev s_law_number : Stmt := topS 48
theorem sc_law_number : FnScope ["_law_hand_here", "_law_kind", "_law_total", "_law_turn"] ["_law_hand_here"] (defScope s_law_number) := ⟨rfl, rfl, rfl, by decide +kernel, rfl, by decide +kernel, by decide +kernel⟩
theorem ok_law_number (T : Txt K mg "_law_number" s_law_number) (G_law_take : DefOk P w K mg base CX0 "_law_take" 2 ["_law_hand_here", "_law_many"] spTake) (mrange : mg "range" = none) : DefOk P w K mg base CX0 "_law_number" 3 ["_law_hand_here"] (spNum 151) := by
  obtain ⟨f, fd, F, gf⟩ := T
  refine ⟨f, fd, gf, F.kp, F.binds (fun _ _ _ _ _ _ us hl => match us, hl with | [_], _ => rfl), F.ok sc_law_number (fun vs H Q E h => ?_) (fun cdv A outer s H vs Q E hr h => ?_)⟩
  · obtain ⟨p, rfl, _⟩ := h; rfl
  · obtain ⟨p, rfl, hH, q⟩ := h
    refine ⟨_, (pss_cons (ps_set (i := 1) sc_law_number.nd rfl (.inl rfl) (pe_def G_law_take (hr.mono (by decide)) (by rfl) (pa_cons (pv 0) (pa_cons pe_int pa_nil)))) (pss_cons (ps_if (pt_cmpR op_lt (pv 1) pe_int (nomark _)) (pss_one (ps_ret (pe_op op_sub (pe_def G_law_take (hr.mono (by decide)) (by rfl) (pa_cons (pv 0) (pa_cons pe_int pa_nil))) pe_int))) pss_nil) (pss_cons (ps_set (i := 2) sc_law_number.nd rfl (.inl rfl) pe_int) (pss_cons (ps_for PassesOwn.never rfl (pi_range1 (by rfl) mrange (pa_cons (pe_ifExp (pt_cmpR op_lt (pv 1) pe_int (nomark _)) pe_int pe_int) pa_nil)) (pg_name (i := 3) sc_law_number.nd rfl (.inl rfl)) (pss_one (ps_set (i := 2) sc_law_number.nd rfl (.inl rfl) (pe_op op_add (pe_op op_mulW (pv 2) (pe_op op_pow pe_int pe_int)) (pe_def G_law_take (hr.mono (by decide)) (by rfl) (pa_cons (pv 0) (pa_cons (pe_op op_pow pe_int pe_int) pa_nil))))))) (pss_one (ps_ret (pe_op op_mulW (pv 2) (pe_op op_sub pe_int (pe_op op_mulW pe_int (pe_def G_law_take (hr.mono (by decide)) (by rfl) (pa_cons (pv 0) (pa_cons pe_int pa_nil)))))))))))), ?_⟩
    have ten : CPow 10 9 := ⟨by decide, by decide, by decide⟩
    refine ⟨.ref p, rfl, p, 9, rfl, hH, by decide, by decide, fun k H1 k0 k9 h1 s1 => ?_⟩
    refine ⟨_, rfl, _, _, rfl, rfl, _, rfl, ite2 (fun e => ?_) (fun e => ?_)⟩
    · refine ⟨.ref p, rfl, p, 25, rfl, h1, by decide, by decide, fun x H2 x0 x25 h2 s2 => ⟨_, _, rfl, rfl, q _ _ ?_ h2 (s1.trans s2)⟩⟩
      exact sz_mono (n := 5) (by show (x - 12).natAbs < 2 ^ 5; omega) (by decide)
    · have run : ∀ n : Nat, n ≤ 5 → tFor (iRng1 (fun _ H Q => Q [.int (n : Int)] H)) (gName 3) (tAsg (tOp (rI0 fun i j => .int (i + j)) (tOp (rI CMulW fun i j => .int (i * j)) (tVar 2) (tOp (rI CPow fun i j => .int (i ^ j.toNat)) (tC (.int 10)) (tC (.int 9))))
          (tCall spTake [] E0 (tCons (tVar 0) (tCons (tOp (rI CPow fun i j => .int (i ^ j.toNat)) (tC (.int 10)) (tC (.int 9))) tNil)))) (gName 2))
          ⟨tRet (tOp (rI CMulW fun i j => .int (i * j)) (tVar 2) (tOp (rI0 fun i j => .int (i - j)) (tC (.int 1)) (tOp (rI CMulW fun i j => .int (i * j)) (tC (.int 2)) (tCall spTake [] E0 (tCons (tVar 0) (tCons (tC (.int 2)) tNil)))))) ⟨fun _ H' => Q .non H', Q, fun _ _ => False, fun _ _ => False⟩, Q, fun _ _ => False, fun _ _ => False⟩
          [some (.ref p), some (.int k), some (.int 0), none] H1 := fun n hn => by
        have big : ∀ i : Nat, i ≤ 5 → ((10 : Int) ^ 9) ^ i ≤ 2 ^ 150 := fun i hi => by
          match i, hi with
          | 0, _ => decide
          | 1, _ => decide
          | 2, _ => decide
          | 3, _ => decide
          | 4, _ => decide
          | 5, _ => decide
        have szb : ∀ (i : Nat) (t : Int), i ≤ 5 → 0 ≤ t → t < ((10 : Int) ^ 9) ^ i → Sz 150 t := fun i t hi t0 t1 => by
          have b := big i hi
          have c : t < 2 ^ 150 := Int.lt_of_lt_of_le t1 b
          show t.natAbs < 2 ^ 150
          have d : ((t.natAbs : Nat) : Int) = t := Int.natAbs_of_nonneg t0
          have e : ((t.natAbs : Nat) : Int) < ((2 ^ 150 : Nat) : Int) := by rw [d]; exact c
          exact Int.ofNat_lt.mp e
        refine ⟨_, rfl, by omega, by omega, for_range (n := n) (fun i σ H' => ∃ (t : Int) (y : Option V), σ = [some (.ref p), some (.int k), some (.int t), y] ∧ 0 ≤ t ∧ t < ((10 : Int) ^ 9) ^ i ∧ HandAt H' p ∧ SameBut p H1 H')
          ⟨0, none, rfl, by decide, by decide, h1, SameBut.rfl⟩ ?_ ?_⟩
        · rintro i σ H' hi ⟨t, y, rfl, t0, t1, h2, s2⟩
          refine ⟨_, rfl, _, _, rfl, rfl, ten, _, _, rfl, rfl, wide_mul (szb i t (by omega) t0 t1) (by decide : ((10 : Int) ^ (9 : Int).toNat).natAbs < 2 ^ 30) (by decide) (by decide) (by decide), ?_⟩
          refine ⟨.ref p, rfl, _, _, rfl, rfl, ten, p, _, rfl, h2, by decide, by decide, fun x H3 x0 x1 h3 s3 => ⟨_, _, rfl, rfl, _, _, rfl, ?_, ?_, h3, s2.trans s3⟩⟩
          · have : (0 : Int) ≤ t * 10 ^ (9 : Int).toNat := Int.mul_nonneg t0 (by decide)
            omega
          · show t * 10 ^ (9 : Int).toNat + x < ((10 : Int) ^ 9) ^ (i + 1)
            have e : (10 : Int) ^ (9 : Int).toNat = 1000000000 := by decide
            have e2 : ((10 : Int) ^ 9) = 1000000000 := by decide
            rw [e] at x1 ⊢
            rw [e2] at t1 ⊢
            rw [Int.pow_succ]
            generalize (1000000000 : Int) ^ i = m at t1 ⊢
            omega
        · rintro σ H' ⟨t, y, rfl, t0, t1, h2, s2⟩
          have tz := szb n t hn t0 t1
          refine ⟨_, rfl, .ref p, rfl, p, 2, rfl, h2, by decide, by decide, fun x H3 x0 x2 h3 s3 => ?_⟩
          have xz : Sz 1 (1 - 2 * x) := by show (1 - 2 * x).natAbs < 2; omega
          refine ⟨_, _, rfl, rfl, wide_mul (by decide : (2 : Int).natAbs < 2 ^ 2) (by show x.natAbs < 2 ^ 2; omega) (by decide) (by decide) (by decide), _, _, rfl, rfl, _, _, rfl, rfl, wide_mul tz xz (by decide) (by decide) (by decide), q _ _ ?_ h3 ((s1.trans s2).trans s3)⟩
          exact sz_mul tz xz
      refine ⟨_, rfl, _, _, rfl, rfl, _, rfl, ite2 (fun e => ?_) (fun e => ?_)⟩
      · exact run 1 (by decide)
      · exact run 5 (by decide)
end
end F3
set_option Elab.async false
set_option linter.all false
set_option maxRecDepth 100000
set_option maxHeartbeats 4000000
set_option exponentiation.threshold 3000
namespace F3
open PySem PySem.Spec PyProof.Rows L2 FX RM PB
def Lay (K : PySem.W.Frag) (t : TA) (rs : List Rt) : Prop := ∀ σ H (Q : List V → Hp → Prop), (∀ H' vs, Same H H' → DpAll K H' vs (rs.map rD) → Q vs H') → t σ H Q
theorem lay_nil {K : PySem.W.Frag} : Lay K tNil [] := fun _ H Q q => q H [] (fun _ _ e => e) .nil
theorem lay_cons {K : PySem.W.Frag} {a b : Int} {t2 t : TA} {rs : List Rt} (h : ∀ σ H (Q : List V → Hp → Prop), Q [.int a, .int b] H → t2 σ H Q) (k : Lay K t rs) : Lay K (tCons (tTup t2) t) ((a, b) :: rs) :=
  fun σ H Q q => h σ H _ ⟨(by show 2 ≤ sizeLine; decide), fun p np => k σ _ _ fun H' vs s hv => q H' (.ref p :: vs) ((PB.same_new np).trans s) (.cons (Dp_same s (dp_mkr np)) hv)⟩
theorem DpAll_app {K : PySem.W.Frag} {H : Hp} : ∀ {vs us : List V} {ds es : List PyData}, DpAll K H vs ds → DpAll K H us es → DpAll K H (vs ++ us) (ds ++ es)
  | _, _, _, _, .nil, h => h
  | _, _, _, _, .cons a b, h => .cons a (DpAll_app b h)
section
variable {P : Program} {w : World} {K : PySem.W.Frag} {mg : Str → Option Value} {base : Heap}
abbrev s_law_small : Stmt := topS 49
theorem sc_law_small : FnScope ["_law_hand_here"] ["_law_hand_here"] (defScope s_law_small) := ⟨rfl, rfl, rfl, by decide +kernel, rfl, by decide +kernel, by decide +kernel⟩
theorem ok_law_small (T : Txt K mg "_law_small" s_law_small) (G_law_take : DefOk P w K mg base CX0 "_law_take" 2 ["_law_hand_here", "_law_many"] spTake) (G_law_ratio : DefOk P w K mg base CX0 "_law_ratio" 2 ["_law_top", "_law_bottom"] (spLow K)) : DefOk P w K mg base CX0 "_law_small" 3 ["_law_hand_here"] (spDraw K fun r => IsRat r ∧ SzR 5 r) := by
  obtain ⟨f, fd, F, gf⟩ := T
  refine ⟨f, fd, gf, F.kp, F.binds (fun _ _ _ _ _ _ us hl => match us, hl with | [_], _ => rfl), F.ok sc_law_small (fun vs H Q E h => ?_) (fun cdv A outer s H vs Q E hr h => ?_)⟩
  · obtain ⟨p, rfl, _⟩ := h; rfl
  · obtain ⟨p, rfl, hH, q⟩ := h
    refine ⟨_, (pss_one (ps_ret (pe_def G_law_ratio (hr.mono (by decide)) (by rfl) (pa_cons (pe_op op_sub (pe_def G_law_take (hr.mono (by decide)) (by rfl) (pa_cons (pv 0) (pa_cons pe_int pa_nil))) pe_int) (pa_cons (pe_op op_add pe_int (pe_def G_law_take (hr.mono (by decide)) (by rfl) (pa_cons (pv 0) (pa_cons pe_int pa_nil)))) pa_nil))))), ?_⟩
    refine ⟨.ref p, rfl, p, 13, rfl, hH, by decide, by decide, fun x H1 x0 x13 h1 s1 => ⟨_, _, rfl, rfl, ?_⟩⟩
    refine ⟨.ref p, rfl, p, 4, rfl, h1, by decide, by decide, fun y H2 y0 y4 h2 s2 => ⟨_, _, rfl, rfl, ?_⟩⟩
    have z1 : Sz 5 (x - 6) := by show (x - 6).natAbs < 2 ^ 5; omega
    have z2 : Sz 5 (1 + y) := by show (1 + y).natAbs < 2 ^ 5; omega
    have b0 : 0 < 1 + y := by omega
    exact ⟨_, _, rfl, b0, sz_mono z1 (by decide), sz_mono z2 (by decide), fun H3 v s3 hv => q _ _ _ ⟨norm_rat b0, szr_norm b0 z1 z2⟩ hv (h2.same s3) ((s1.trans s2).trans (Same.but s3))⟩
abbrev s_law_place : Stmt := topS 50
theorem sc_law_place : FnScope ["_law_hand_here"] ["_law_hand_here"] (defScope s_law_place) := ⟨rfl, rfl, rfl, by decide +kernel, rfl, by decide +kernel, by decide +kernel⟩
theorem ok_law_place (T : Txt K mg "_law_place" s_law_place) (G_law_take : DefOk P w K mg base CX0 "_law_take" 2 ["_law_hand_here", "_law_many"] spTake) (G_law_small : DefOk P w K mg base CX0 "_law_small" 3 ["_law_hand_here"] (spDraw K fun r => IsRat r ∧ SzR 5 r)) (G_law_number : DefOk P w K mg base CX0 "_law_number" 3 ["_law_hand_here"] (spNum 151)) (G_law_ratio : DefOk P w K mg base CX0 "_law_ratio" 2 ["_law_top", "_law_bottom"] (spLow K)) : DefOk P w K mg base CX0 "_law_place" 4 ["_law_hand_here"] (spDrawP K) := by
  obtain ⟨f, fd, F, gf⟩ := T
  refine ⟨f, fd, gf, F.kp, F.binds (fun _ _ _ _ _ _ us hl => match us, hl with | [_], _ => rfl), F.ok sc_law_place (fun vs H Q E h => ?_) (fun cdv A outer s H vs Q E hr h => ?_)⟩
  · obtain ⟨p, rfl, _⟩ := h; rfl
  · obtain ⟨p, rfl, hH, q⟩ := h
    refine ⟨_, (pss_cons (ps_if (pt_truth (pe_def G_law_take (hr.mono (by decide)) (by rfl) (pa_cons (pv 0) (pa_cons pe_int pa_nil))) (fun _ => rfl)) (pss_one (ps_ret (pe_tup (pa_cons (pe_def G_law_small (hr.mono (by decide)) (by rfl) (pa_cons (pv 0) pa_nil)) (pa_cons (pe_def G_law_small (hr.mono (by decide)) (by rfl) (pa_cons (pv 0) pa_nil)) pa_nil))))) pss_nil) (pss_one (ps_ret (pe_tup (pa_cons (pe_def G_law_ratio (hr.mono (by decide)) (by rfl) (pa_cons (pe_def G_law_number (hr.mono (by decide)) (by rfl) (pa_cons (pv 0) pa_nil)) (pa_cons (pe_op op_add pe_int (pe_def G_law_take (hr.mono (by decide)) (by rfl) (pa_cons (pv 0) (pa_cons pe_int pa_nil)))) pa_nil))) (pa_cons (pe_def G_law_ratio (hr.mono (by decide)) (by rfl) (pa_cons (pe_def G_law_number (hr.mono (by decide)) (by rfl) (pa_cons (pv 0) pa_nil)) (pa_cons (pe_op op_add pe_int (pe_def G_law_take (hr.mono (by decide)) (by rfl) (pa_cons (pv 0) (pa_cons pe_int pa_nil)))) pa_nil))) pa_nil)))))), ?_⟩
    refine ⟨.ref p, rfl, p, 4, rfl, hH, by decide, by decide, fun k H1 k0 k4 h1 s1 => ?_⟩
    refine ⟨_, rfl, ite2 (fun e => ?_) (fun e => ?_)⟩
    · refine ⟨.ref p, rfl, p, rfl, h1, fun r1 v1 H2 o1 hv1 h2 s2 => ?_⟩
      refine ⟨.ref p, rfl, p, rfl, h2, fun r2 v2 H3 o2 hv2 h3 s3 => ?_⟩
      refine ⟨(by show 2 ≤ sizeLine; decide), fun a na => ?_⟩
      have sn := PB.same_new (o := .tup [v1, v2]) na
      exact q (r1, r2) _ _ ⟨o1.1, o2.1⟩ ⟨szr_mono o1.2 (by decide), szr_mono o2.2 (by decide)⟩ (dp_mk2 na (h2.dp s3 (noL_r _) hv1) hv2) (h3.same sn) (((s1.trans s2).trans s3).trans (Same.but sn))
    · refine ⟨.ref p, rfl, p, rfl, h1, fun xa H2 za h2 s2 => ?_⟩
      refine ⟨.ref p, rfl, p, 7, rfl, h2, by decide, by decide, fun ya H3 y0a y7a h3 s3 => ⟨_, _, rfl, rfl, ?_⟩⟩
      have zza : Sz 151 (1 + ya) := sz_mono (n := 4) (by show (1 + ya).natAbs < 2 ^ 4; omega) (by decide)
      have b0a : 0 < 1 + ya := by omega
      refine ⟨_, _, rfl, b0a, sz_mono za (by decide), sz_mono zza (by decide), fun H4 va s4 hva => ?_⟩
      have h4 := h3.same s4
      refine ⟨.ref p, rfl, p, rfl, h4, fun xb H5 zb h5 s5 => ?_⟩
      refine ⟨.ref p, rfl, p, 7, rfl, h5, by decide, by decide, fun yb H6 y0b y7b h6 s6 => ⟨_, _, rfl, rfl, ?_⟩⟩
      have zzb : Sz 151 (1 + yb) := sz_mono (n := 4) (by show (1 + yb).natAbs < 2 ^ 4; omega) (by decide)
      have b0b : 0 < 1 + yb := by omega
      refine ⟨_, _, rfl, b0b, sz_mono zb (by decide), sz_mono zzb (by decide), fun H7 vb s7 hvb => ?_⟩
      have h7 := h6.same s7
      refine ⟨(by show 2 ≤ sizeLine; decide), fun a na => ?_⟩
      have sn := PB.same_new (o := .tup [va, vb]) na
      refine q (_, _) _ _ ⟨norm_rat b0a, norm_rat b0b⟩ ⟨szr_norm b0a za zza, szr_norm b0b zb zzb⟩ (dp_mk2 na (Dp_same s7 (h5.dp s6 (noL_r _) (h4.dp s5 (noL_r _) hva))) hvb) (h7.same sn) ?_
      exact ((((((s1.trans s2).trans s3).trans (Same.but s4)).trans s5).trans s6).trans (Same.but s7)).trans (Same.but sn)
end
end F3
set_option Elab.async false
set_option linter.all false
set_option maxRecDepth 100000
set_option maxHeartbeats 4000000
set_option exponentiation.threshold 3000
namespace F3
open PySem PySem.Spec PyProof.Rows L2 FX RM PB
def sgn (i : Int) : Int := if i < 0 then -1 else if 0 < i then 1 else 0
def isDir : PyData → Bool
  | .tuple [.int a, .int b] => decide (g2 a b = 1)
  | .list [.int a, .int b] => decide (g2 a b = 1)
  | _ => false
def quart (d : Int × Int) : Int × Int × Int := if 0 < d.1 ∧ 0 ≤ d.2 then (0, d.1, d.2) else if 0 < d.2 then (1, d.2, -d.1) else if d.1 < 0 then (2, -d.1, -d.2) else (3, -d.2, d.1)
def spSign : Sp := fun vs H Q _ => ∃ i : Int, vs = [.int i] ∧ Q (.int (sgn i)) H
def spD1 (K : PySem.W.Frag) (o : Int × Int → Int × Int) : Sp := fun vs H Q _ => ∃ v d, vs = [v] ∧ Dir K H v d ∧ ∀ H' z, Same H H' → Dp K H' z (rD (o d)) → Q z H'
def spTurn (K : PySem.W.Frag) : Sp := fun vs H Q _ => ∃ v u d e, vs = [v, u] ∧ Dir K H v d ∧ Dir K H u e ∧ SzR 600 d ∧ SzR 600 e ∧ Q (.int (sgn (d.1 * e.2 - d.2 * e.1))) H
def spBet (K : PySem.W.Frag) : Sp := fun vs H Q E => ∃ v u d e, vs = [v, u] ∧ Dir K H v d ∧ Dir K H u e ∧ SzR 600 d ∧ SzR 600 e ∧ ((d.1 + e.1 ≠ 0 ∨ d.2 + e.2 ≠ 0) → ∀ H' z, Same H H' → Dp K H' z (rD (norm (d.1 + e.1) (d.2 + e.2))) → Q z H') ∧ ((d.1 + e.1 = 0 ∧ d.2 + e.2 = 0) → E (.ref (He.ga K "BadDirection")) none H)
def spQuart (K : PySem.W.Frag) : Sp := fun vs H Q _ => ∃ v d, vs = [v] ∧ Dir K H v d ∧ ∀ H' z, Same H H' → Dp K H' z (tD (quart d)) → Q z H'
def spFloor : Sp := fun vs H Q _ => ∃ t b s : Int, vs = [.int t, .int b, .int s] ∧ 0 < b ∧ Sz 2000 t ∧ Sz 2000 b ∧ Sz 4000 s ∧ Q (.int (t * s / b)) H
def spCkD (K : PySem.W.Frag) : Sp := fun vs H Q E => ∃ v d, vs = [v] ∧ Dp K H v d ∧ (∀ a b, (d = .tuple [a, b] ∨ d = .list [a, b]) → isDir d = true → ∀ H' z, Same H H' → Dp K H' z (.tuple [a, b]) → Q z H') ∧ (isDir d = false → ∀ H', Same H H' → E (.ref (He.ga K "BadDirection")) none H')
section
variable {P : Program} {w : World} {K : PySem.W.Frag} {mg : Str → Option Value} {base : Heap}
abbrev ssign_of : Stmt := topS 9
theorem scsign_of : FnScope ["number"] ["number"] (defScope ssign_of) := ⟨rfl, rfl, rfl, by decide +kernel, rfl, by decide +kernel, by decide +kernel⟩
theorem oksign_of (T : Txt K mg "sign_of" ssign_of)  : DefOk P w K mg base CX0 "sign_of" 1 ["number"] spSign := by
  obtain ⟨f, fd, F, gf⟩ := T
  refine ⟨f, fd, gf, F.kp, F.binds (fun _ _ _ _ _ _ us hl => match us, hl with | [_], _ => rfl), F.ok scsign_of (fun vs H Q E h => ?_) (fun cdv A outer s H vs Q E hr h => ?_)⟩
  · obtain ⟨i, rfl, _⟩ := h; rfl
  · obtain ⟨i, rfl, q⟩ := h
    refine ⟨_, (pss_cons (ps_if (pt_cmpR op_lt (pv 0) pe_int (nomark _)) (pss_one (ps_ret (pe_un un_neg pe_int))) pss_nil) (pss_cons (ps_if (pt_cmpR op_gt (pv 0) pe_int (nomark _)) (pss_one (ps_ret pe_int)) pss_nil) (pss_one (ps_ret pe_int)))), ?_⟩
    refine ⟨_, rfl, _, _, rfl, rfl, _, rfl, ite2 (fun e => ?_) (fun e => ?_)⟩
    · have h : i < 0 := of_decide_eq_true e
      have z : sgn i = -1 := if_pos h
      rw [z] at q
      exact ⟨_, rfl, q⟩
    · have h : ¬ i < 0 := fun z => e (decide_eq_true z)
      refine ⟨_, rfl, _, _, rfl, rfl, _, rfl, ite2 (fun e2 => ?_) (fun e2 => ?_)⟩
      · have h2 : 0 < i := of_decide_eq_true e2
        have z : sgn i = 1 := by unfold sgn; rw [if_neg h, if_pos h2]
        rw [z] at q
        exact q
      · have h2 : ¬ 0 < i := fun z => e2 (decide_eq_true z)
        have z : sgn i = 0 := by unfold sgn; rw [if_neg h, if_neg h2]
        rw [z] at q
        exact q
abbrev sscaled_floor : Stmt := topS 13
theorem scscaled_floor : FnScope ["top", "bottom", "scale"] ["top", "bottom", "scale"] (defScope sscaled_floor) := ⟨rfl, rfl, rfl, by decide +kernel, rfl, by decide +kernel, by decide +kernel⟩
theorem okscaled_floor (T : Txt K mg "scaled_floor" sscaled_floor)  : DefOk P w K mg base CX0 "scaled_floor" 1 ["top", "bottom", "scale"] spFloor := by
  obtain ⟨f, fd, F, gf⟩ := T
  refine ⟨f, fd, gf, F.kp, F.binds (fun _ _ _ _ _ _ us hl => match us, hl with | [_, _, _], _ => rfl), F.ok scscaled_floor (fun vs H Q E h => ?_) (fun cdv A outer s H vs Q E hr h => ?_)⟩
  · obtain ⟨t, b, s_, rfl, _⟩ := h; rfl
  · obtain ⟨t, b, s_, rfl, b0, zt, zb, zs, q⟩ := h
    refine ⟨_, (pss_one (ps_ret (pe_op op_fdivW (pe_op op_mulW (pv 0) (pv 2)) (pv 1)))), ?_⟩
    exact ⟨_, rfl, _, rfl, _, _, rfl, rfl, wide_mul zt zs (by decide) (by decide) (by decide), _, rfl, _, _, rfl, rfl, wide_div b0 zb (by decide) (by decide), q⟩
end
end F3
set_option Elab.async false
set_option linter.all false
set_option maxRecDepth 100000
set_option maxHeartbeats 4000000
/-! zip(a, b) of lists and tuples in any mix: laid out as a list, as a tuple; walked over -/
namespace ZP
open PySem
open PySem.Sem (wp)
theorem zip_no_len : typeLookup (.type "zip") "__len__" = pure none := by rw [typeLookup_type, builtinLookup_eq_fast]; kernel_rfl
theorem zip_no_hint : typeLookup (.type "zip") "__length_hint__" = pure none := by rw [typeLookup_type, builtinLookup_eq_fast]; kernel_rfl
section
variable {prog : Program} {w : World} {A : Around} {E : Value → Shared → Prop} {s : Shared} {z TI TO T i1 i2 : Addr} {f : Bool} {oT : Obj} {fp1 fp2 : List Addr} {n1 n2 i : Nat} {P1 P2 : Nat → Value → Prop} {St1 St2 : Nat → Heap → Prop}
theorem held_item {Q : Value → Shared → Prop} (S : ZipSep2 z TI TO i1 i2 fp1 fp2) (D1 : Draws prog w A i1 fp1 n1 P1 St1) (D2 : Draws prog w A i2 fp2 n2 P2 St2)
    (hz : IsZipHeld s.heap z TI TO T f) (hT : s.heap.get? T = some oT) (hTI : IsTupOf2 s.heap TI (.ref i1) (.ref i2)) (st1 : St1 i s.heap) (st2 : St2 i s.heap) (hlt1 : i < n1) (hlt2 : i < n2)
    (hQ : ∀ x1 x2 h' tk, P1 i x1 → P2 i x2 → IsZipHeld h' z TI TO T true → St1 (i + 1) h' → St2 (i + 1) h' → IsTupOf2 h' s.heap.objs.size x1 x2 → h'.objs.size = s.heap.objs.size + 1 →
      (∀ c o, c ≠ z → c ≠ i1 → c ≠ i2 → s.heap.get? c = some o → h'.get? c = some o) → Q (.ref s.heap.objs.size) { s with heap := h', toks := tk }) :
    wpAny (model prog w) A (Builtin.«zip.__next__» ⟨[.ref z], []⟩) (fun fin s' => ∃ v, fin = .done (.ret v) ∧ Q v s') E s := by
  obtain ⟨hp, g, d, tk0, os⟩ := s
  show wpAny _ _ (field (.ref z) 2 >>= _) _ _ _
  refine wpAny_bind (wpAny_field hz rfl (x := .bool false) rfl ?_)
  show wpAny _ _ (field (.ref z) 3 >>= _) _ _ _
  refine wpAny_bind (wpAny_field hz rfl (x := .ref TI) rfl ?_)
  refine wpAny_bind (wpAny_seqItems hTI rfl ?_)
  show wpAny _ _ (Builtin.SmallTypes.ownedTupleIsFree (.ref z) >>= _) _ _ _
  refine wpAny_bind (wpAny_tupleHeld_zip hz hT fun h₁ hz₁ hs₁ => ?_)
  replace hs₁ : Heap.SameBut z hp h₁ := hs₁
  simp only [Bool.false_eq_true, if_false]
  refine wpAny_bind ?_
  rw [← Array.forIn_toList]
  simp only [List.forIn_cons, List.forIn_nil]
  refine wpAny_bind (wpAny_bind (wpAny_holding ?_))
  show wpAny _ _ (Builtin.SmallTypes.nextOf (.ref i1) >>= _) _ _ ⟨h₁, g, d, tk0, os⟩
  refine wpAny_bind (D1.item i _ _ _ hlt1 (D1.over st1 hs₁ S.zf1) fun x1 h₂ tk1 hx1 sn1 hs₂ => wpAny_pure ?_)
  replace hs₂ : Heap.SameBut i1 h₁ h₂ := hs₂
  refine wpAny_pure ?_
  refine wpAny_bind (wpAny_bind (wpAny_holding ?_))
  show wpAny _ _ (Builtin.SmallTypes.nextOf (.ref i2) >>= _) _ _ ⟨h₂, g, d, tk1, os⟩
  refine wpAny_bind (D2.item i _ _ _ hlt2 (D2.over (D2.over st2 hs₁ S.zf2) hs₂ S.sep1_2) fun x2 h₃ tk2 hx2 sn2 hs₃ => wpAny_pure ?_)
  replace hs₃ : Heap.SameBut i2 h₂ h₃ := hs₃
  refine wpAny_pure (wpAny_pure ?_)
  show wpAny _ _ (newTuple [x1, x2] >>= _) _ _ _
  refine wpAny_bind (wpAny_newTuple ?_)
  have hsz : h₃.objs.size = hp.objs.size := by rw [hs₃.1, hs₂.1, hs₁.1]
  have hz₃ : IsZipHeld h₃ z TI TO T true := hs₃.extBut _ _ S.zi2 (hs₂.extBut _ _ S.zi1 hz₁)
  have hk : ∀ c o, c ≠ z → c ≠ i1 → c ≠ i2 → hp.get? c = some o → h₃.get? c = some o := fun c o c1 c2 c3 e => hs₃.extBut _ _ c3 (hs₂.extBut _ _ c2 (hs₁.extBut _ _ c1 e))
  have h1₃ : St1 (i + 1) h₃ := D1.over sn1 hs₃ S.sep2_1
  refine wpAny_pure ⟨_, rfl, ?_⟩
  show Q (.ref h₃.objs.size) ⟨h₃.push { cls := .type "tuple", data := .seq #[x1, x2] }, g, d, tk2, os⟩
  have hpp : IsTupOf2 (h₃.push { cls := .type "tuple", data := .seq #[x1, x2] }) h₃.objs.size x1 x2 := Heap.get?_push_size _ rfl
  have hz4 : (h₃.push { cls := .type "tuple", data := .seq #[x1, x2] }).objs.size = h₃.objs.size + 1 := Heap.size_push ..
  rw [hsz] at hpp hz4 ⊢
  exact hQ _ _ _ _ hx1 hx2 (Heap.get?_push_of_some _ hz₃) (D1.frame _ _ _ h1₃ fun b _ o e => Heap.get?_push_of_some _ e) (D2.frame _ _ _ sn2 fun b _ o e => Heap.get?_push_of_some _ e) hpp hz4 fun c o c1 c2 c3 e => Heap.get?_push_of_some _ (hk c o c1 c2 c3 e)
theorem held_end {Q : Fin → Shared → Prop} (S : ZipSep2 z TI TO i1 i2 fp1 fp2) (D1 : Draws prog w A i1 fp1 n1 P1 St1) (D2 : Draws prog w A i2 fp2 n2 P2 St2)
    (hz : IsZipHeld s.heap z TI TO T f) (hT : s.heap.get? T = some oT) (hTI : IsTupOf2 s.heap TI (.ref i1) (.ref i2)) (st1 : St1 i s.heap) (st2 : St2 i s.heap) (hle1 : i ≤ n1) (hle2 : i ≤ n2) (hend : i = n1 ∨ i = n2)
    (hE : ∀ h' tk e, (∀ c o, c ≠ z → c ≠ i1 → c ≠ i2 → s.heap.get? c = some o → h'.get? c = some o) → (∃ o, h'.get? e = some o ∧ o.cls = .type "StopIteration") → E (.ref e) { s with heap := h', toks := tk }) :
    wpAny (model prog w) A (Builtin.«zip.__next__» ⟨[.ref z], []⟩) Q E s := by
  obtain ⟨hp, g, d, tk0, os⟩ := s
  show wpAny _ _ (field (.ref z) 2 >>= _) _ _ _
  refine wpAny_bind (wpAny_field hz rfl (x := .bool false) rfl ?_)
  show wpAny _ _ (field (.ref z) 3 >>= _) _ _ _
  refine wpAny_bind (wpAny_field hz rfl (x := .ref TI) rfl ?_)
  refine wpAny_bind (wpAny_seqItems hTI rfl ?_)
  show wpAny _ _ (Builtin.SmallTypes.ownedTupleIsFree (.ref z) >>= _) _ _ _
  refine wpAny_bind (wpAny_tupleHeld_zip hz hT fun h₁ hz₁ hs₁ => ?_)
  replace hs₁ : Heap.SameBut z hp h₁ := hs₁
  simp only [Bool.false_eq_true, if_false]
  refine wpAny_bind ?_
  rw [← Array.forIn_toList]
  simp only [List.forIn_cons, List.forIn_nil]
  refine wpAny_bind (wpAny_bind (wpAny_holding ?_))
  show wpAny _ _ (Builtin.SmallTypes.nextOf (.ref i1) >>= _) _ _ ⟨h₁, g, d, tk0, os⟩
  by_cases hlt1 : i < n1
  · refine wpAny_bind (D1.item i _ _ _ hlt1 (D1.over st1 hs₁ S.zf1) fun x1 h₂ tk1 hx1 sn1 hs₂ => wpAny_pure ?_)
    replace hs₂ : Heap.SameBut i1 h₁ h₂ := hs₂
    refine wpAny_pure ?_
    have hi2 : i = n2 := by omega
    refine wpAny_bind (wpAny_bind (wpAny_holding ?_))
    show wpAny _ _ (Builtin.SmallTypes.nextOf (.ref i2) >>= _) _ _ ⟨h₂, g, d, tk1, os⟩
    refine wpAny_bind (D2.done ⟨h₂, g, d, tk1, os⟩ _ _ (by rw [← hi2]; exact D2.over (D2.over st2 hs₁ S.zf2) hs₂ S.sep1_2) fun q e hq he => ?_)
    replace hq : Heap.ExtBut i2 h₂ q := hq
    exact hE q tk1 e (fun c o c1 c2 c3 x => hq _ _ c3 (hs₂.extBut _ _ c2 (hs₁.extBut _ _ c1 x))) he
  · have hi1 : i = n1 := by omega
    refine wpAny_bind (D1.done ⟨h₁, g, d, tk0, os⟩ _ _ (by rw [← hi1]; exact D1.over st1 hs₁ S.zf1) fun q e hq he => ?_)
    replace hq : Heap.ExtBut i1 h₁ q := hq
    exact hE q tk0 e (fun c o c1 c2 c3 x => hq _ _ c2 (hs₁.extBut _ _ c1 x)) he
end
/-- a zip at any moment: its tuple is its own, or handed out and alive -/
def ZAt (h : Heap) (z TI TO : Addr) : Prop := IsZip h z TI TO .none ∨ ∃ T f oT, IsZipHeld h z TI TO T f ∧ h.get? T = some oT
section
variable {prog : Program} {w : World} {A : Around} {E : Value → Shared → Prop} {s : Shared} {z TI TO i1 i2 : Addr} {fp1 fp2 : List Addr} {n1 n2 i : Nat} {P1 P2 : Nat → Value → Prop} {St1 St2 : Nat → Heap → Prop}
theorem ZAt.typeIs (h : ZAt s.heap z TI TO) : s.TypeIs (.ref z) "zip" := by
  rcases h with h | ⟨T, f, oT, h, _⟩
  · exact ⟨_, h, rfl⟩
  · exact ⟨_, h, rfl⟩
theorem ZAt.lt {h : Heap} (x : ZAt h z TI TO) : z < h.objs.size := by
  rcases x with h | ⟨T, f, oT, h, _⟩
  · exact Heap.lt_size h
  · exact Heap.lt_size h
theorem z_item {Q : Option Value → Shared → Prop} (S : ZipSep2 z TI TO i1 i2 fp1 fp2) (D1 : Draws prog w A.in1 i1 fp1 n1 P1 St1) (D2 : Draws prog w A.in1 i2 fp2 n2 P2 St2)
    (hz : ZAt s.heap z TI TO) (hTI : IsTupOf2 s.heap TI (.ref i1) (.ref i2)) (hTO : ∃ a b, IsTupOf2 s.heap TO a b) (st1 : St1 i s.heap) (st2 : St2 i s.heap) (hlt1 : i < n1) (hlt2 : i < n2)
    (hQ : ∀ x1 x2 h' tk, P1 i x1 → P2 i x2 → ZAt h' z TI TO → (∃ a b, IsTupOf2 h' TO a b) → St1 (i + 1) h' → St2 (i + 1) h' → IsTupOf2 h' s.heap.objs.size x1 x2 → h'.objs.size = s.heap.objs.size + 1 →
      (∀ c o, c ≠ z → c ≠ TO → c ≠ i1 → c ≠ i2 → s.heap.get? c = some o → h'.get? c = some o) → Q (some (.ref s.heap.objs.size)) { s with heap := h', toks := tk }) :
    wpAny (model prog w) A (pyNext (.ref z)) Q E s := by
  obtain ⟨a, b, hTO⟩ := hTO
  have hty := hz.typeIs
  rcases hz with hz | ⟨T, f, oT, hz, hT⟩
  · exact wpAny_pyNext_zipD2_item S D1 D2 hz hTI hTO st1 st2 hlt1 hlt2 fun x1 x2 h' tk p1 p2 z' to' s1 s2 t' sz k => hQ x1 x2 h' tk p1 p2 (.inr ⟨_, _, _, z', t'⟩) ⟨_, _, to'⟩ s1 s2 t' sz k
  · unfold pyNext
    refine wpAny_bind (wpAny_attempt (wpAny_callSpecial?_slot (name := Str.ofString "__next__") hty F.slot_zip_next
      (wpAny_call_entry F.slot_zip_next hty F.entry_zip_next
        (held_item S D1 D2 hz hT hTI st1 st2 hlt1 hlt2 fun x1 x2 h' tk p1 p2 z' s1 s2 t' sz k => wpAny_pure (hQ x1 x2 h' tk p1 p2 (.inr ⟨T, true, ?_⟩) ⟨a, b, ?_⟩ s1 s2 t' sz fun c o c1 _ c3 c4 e => k c o c1 c3 c4 e)) (F.args_zip_next_1 _))))
    · by_cases e1 : T = z
      · subst e1; exact ⟨_, z', z'⟩
      · by_cases e2 : T = i1
        · subst e2
          obtain ⟨o, e⟩ := D1.live _ _ s1
          exact ⟨o, z', e⟩
        · by_cases e3 : T = i2
          · subst e3
            obtain ⟨o, e⟩ := D2.live _ _ s2
            exact ⟨o, z', e⟩
          · exact ⟨oT, z', k T oT e1 e2 e3 hT⟩
    · exact k _ _ S.TOz S.Ti1 S.Ti2 hTO
theorem z_end {Q : Option Value → Shared → Prop} (S : ZipSep2 z TI TO i1 i2 fp1 fp2) (D1 : Draws prog w A.in1 i1 fp1 n1 P1 St1) (D2 : Draws prog w A.in1 i2 fp2 n2 P2 St2)
    (hz : ZAt s.heap z TI TO) (hTI : IsTupOf2 s.heap TI (.ref i1) (.ref i2)) (hTO : ∃ a b, IsTupOf2 s.heap TO a b) (st1 : St1 i s.heap) (st2 : St2 i s.heap) (hle1 : i ≤ n1) (hle2 : i ≤ n2) (hend : i = n1 ∨ i = n2)
    (hQ : ∀ h' tk, (∀ c o, c ≠ z → c ≠ TO → c ≠ i1 → c ≠ i2 → s.heap.get? c = some o → h'.get? c = some o) → Q none { s with heap := h', toks := tk }) : wpAny (model prog w) A (pyNext (.ref z)) Q E s := by
  obtain ⟨a, b, hTO⟩ := hTO
  have hty := hz.typeIs
  rcases hz with hz | ⟨T, f, oT, hz, hT⟩
  · exact wpAny_pyNext_zipD2_end S D1 D2 hz hTI hTO st1 st2 hle1 hle2 hend hQ
  · unfold pyNext
    refine wpAny_bind (wpAny_attempt (wpAny_callSpecial?_slot (name := Str.ofString "__next__") hty F.slot_zip_next
      (wpAny_call_entry F.slot_zip_next hty F.entry_zip_next (held_end S D1 D2 hz hT hTI st1 st2 hle1 hle2 hend fun h' tk e hk he => ?_) (F.args_zip_next_1 _))))
    obtain ⟨o, ho, hc⟩ := he
    refine wpAny_bind (wpAny_isInstance (T := "StopIteration") (b := true) ⟨o, ho, hc⟩ isSubtype_stop ?_)
    exact wpAny_pure (hQ _ _ fun c o c1 _ c3 c4 e => hk c o c1 c3 c4 e)
theorem z_iter {Q : Value → Shared → Prop} (hz : ZAt s.heap z TI TO) (h : Q (.ref z) s) : wpAny (model prog w) A (pyIter (.ref z)) Q E s := by
  rcases hz with hz | ⟨T, f, oT, hz, _⟩
  · exact wpAny_pyIter_zip hz h
  · have hT : s.TypeIs (.ref z) "zip" := ⟨_, hz, rfl⟩
    refine wpAny_pyIter_slot hT F.slot_zip_iter (wpAny_call_entry F.slot_zip_iter hT F.entry_zip_iter ?_ (F.args_zip_iter_1 _))
    show wpAny _ _ (ret (.ref z)) _ _ s
    exact wpAny_pure ⟨_, rfl, "zip", _, hT, F.slot_zip_next.lookup, h⟩
end
end ZP
set_option Elab.async false
set_option linter.all false
set_option maxRecDepth 100000
set_option maxHeartbeats 4000000
namespace ZP
open PySem PySem.Spec PyProof.Rows L2 FX RM PB
open PySem.Sem (wp)
/-- couples in new tuples, in order -/
def Pairs (H : Hp) (xs ys : List V) (acc : List V) : Prop := ∀ (j : Nat) (v : V), acc[j]? = some v → ∃ T x y, v = .ref T ∧ xs[j]? = some x ∧ ys[j]? = some y ∧ H T = some (.tup [x, y])
theorem Pairs.mono {H H' : Hp} {xs ys acc : List V} (h : Pairs H xs ys acc) (k : ∀ T u, H T = some (.tup u) → H' T = some (.tup u)) : Pairs H' xs ys acc := fun j v e => by
  obtain ⟨T, x, y, e1, e2, e3, e4⟩ := h j v e
  exact ⟨T, x, y, e1, e2, e3, k _ _ e4⟩
theorem ZAt.over {h h' : Heap} {z TI TO L : Addr} (x : ZAt h z TI TO) (hL : L ≠ z) (k : ∀ b o, b ≠ L → h.get? b = some o → h'.get? b = some o) (hl : ∃ o, h'.get? L = some o) : ZAt h' z TI TO := by
  rcases x with x | ⟨T, f, oT, x, e⟩
  · exact .inl (k _ _ hL.symm x)
  · by_cases q : T = L
    · subst q; obtain ⟨o, ho⟩ := hl; exact .inr ⟨_, f, o, k _ _ hL.symm x, ho⟩
    · exact .inr ⟨T, f, oT, k _ _ hL.symm x, k _ _ q e⟩
section
variable {X : Cx} {pins : List (Addr × Obj)} {σ : L2.St} {z TI TO i1 i2 : Addr} {fp1 fp2 : List Addr} {xs ys : List V} {its its2 : List Value} {St1 St2 : Nat → Heap → Prop}
theorem z_loop {A : Around} {R : Result → Shared → Prop} {L : Addr} (S : ZipSep2 z TI TO i1 i2 fp1 fp2) (D1 : Draws X.prog X.w A.in1.in1 i1 fp1 its.length (fun i v => its[i]? = some v) St1) (D2 : Draws X.prog X.w A.in1.in1 i2 fp2 its2.length (fun i v => its2[i]? = some v) St2)
    (rv : Vals xs its) (rv2 : Vals ys its2) (hn : its.length ≤ sizeLine) (hL1 : L ∉ fp1) (hL2 : L ∉ fp2) (hLz : L ≠ z) (hLT : L ≠ TI) (hLO : L ≠ TO) (res : Value) :
    ∀ (k i : Nat) (s : Shared) (H : Hp) (acc : List V), min its.length its2.length - i = k → i ≤ min its.length its2.length → Inv X pins σ H s → ZAt s.heap z TI TO → IsTupOf2 s.heap TI (.ref i1) (.ref i2) → (∃ a b, IsTupOf2 s.heap TO a b) → St1 i s.heap → St2 i s.heap →
    (∀ c ∈ [z, TO, i1, i2], FpOk X pins H c) → H L = some (.lst acc) → acc.length = i → Pairs H xs ys acc →
    (∀ s' H' acc', (∃ h tk, s' = { s with heap := h, toks := tk }) → Inv X pins σ H' s' → (∀ b o, b ≠ L → H b = some o → H' b = some o) → H' L = some (.lst acc') → acc'.length = min its.length its2.length → Pairs H' xs ys acc' → R (.ok (.ret res)) s') →
    codeAny (model X.prog X.w) A (.builtin "list.extend.loop" ⟨[.ref L, .ref z, res], []⟩) R s := by
  intro k
  induction k with
  | zero =>
    intro i s H acc hk hi I hz hTI hTO st1 st2 hf hL hl hp hR
    refine codeAny_builtin F.entry_extend_loop ?_
    rw [Around.under_plainId F.plain_extend_loop _]
    show wpAny _ A.in1 (pyNext (.ref z) >>= _) _ _ s
    refine wpAny_bind (z_end S D1 D2 hz hTI hTO st1 st2 (by omega) (by omega) (by omega) fun h' tk hk' => ?_)
    have I1 : Inv X pins σ H { s with heap := h', toks := tk } := I.turnedL (t' := tk) (ch := [z, TO, i1, i2]) (fun c o hc e => hk' c o (fun q => hc (by simp [q])) (fun q => hc (by simp [q])) (fun q => hc (by simp [q])) (fun q => hc (by simp [q])) e) hf
    exact wpAny_pure (hR _ H acc ⟨h', tk, rfl⟩ I1 (fun _ _ _ e => e) hL (by omega) hp)
  | succ k ih =>
    intro i s H acc hk hi I hz hTI hTO st1 st2 hf hL hl hp hR
    refine codeAny_builtin F.entry_extend_loop ?_
    rw [Around.under_plainId F.plain_extend_loop _]
    show wpAny _ A.in1 (pyNext (.ref z) >>= _) _ _ s
    have hzl := hz.lt
    have l1 : i1 < s.heap.objs.size := by obtain ⟨_, e⟩ := D1.live _ _ st1; exact Heap.lt_size e
    have l2 : i2 < s.heap.objs.size := by obtain ⟨_, e⟩ := D2.live _ _ st2; exact Heap.lt_size e
    have lO : TO < s.heap.objs.size := by obtain ⟨_, _, e⟩ := hTO; exact Heap.lt_size e
    refine wpAny_bind (z_item S D1 D2 hz hTI hTO st1 st2 (by omega) (by omega) fun x1 x2 h' tk p1 p2 z' to' s1 s2 t' hsz hk' => ?_)
    have hfr : H s.heap.objs.size = none := I.hok.fresh (Nat.le_refl _)
    have hil : i < xs.length := by rw [rv.length]; exact (List.getElem?_eq_some_iff.mp p1).1
    have hil2 : i < ys.length := by rw [rv2.length]; exact (List.getElem?_eq_some_iff.mp p2).1
    obtain ⟨u1, e1, r1⟩ := rv.get (List.getElem?_eq_getElem hil)
    obtain ⟨u2, e2, r2⟩ := rv2.get (List.getElem?_eq_getElem hil2)
    rw [p1] at e1; cases e1
    rw [p2] at e2; cases e2
    have I1 : Inv X pins σ (upd H s.heap.objs.size (.tup [xs[i], ys[i]])) { s with heap := h', toks := tk } :=
      I.turnedNew (t' := tk) (ch := [z, TO, i1, i2]) (fun c o hc e => hk' c o (fun q => hc (by simp [q])) (fun q => hc (by simp [q])) (fun q => hc (by simp [q])) (fun q => hc (by simp [q])) e) hf (Nat.le_refl _) ⟨by show 2 ≤ sizeLine; decide, [x1, x2], .cons r1 (.cons r2 .nil), ⟨_, t', rfl, _, rfl⟩⟩
    have hLs : L ≠ s.heap.objs.size := ne_of_none hL hfr
    have hL' : (upd H s.heap.objs.size (.tup [xs[i], ys[i]])) L = some (.lst acc) := by rw [upd_ne hLs]; exact hL
    obtain ⟨_, us, c, rA, eL⟩ := I1.hok _ _ hL'
    replace eL : h'.get? L = some { cls := .type "list", data := .seq us.toArray c } := eL
    have ul : us.length = i := by rw [← rA.length]; exact hl
    refine wpAny_bind ?_
    show wpAny _ A.in1 (updateSeq L (·.push (.ref s.heap.objs.size))) _ _ _
    refine wpAny_updateSeq (s := { s with heap := h', toks := tk }) eL rfl ?_ (by simp only [List.size_toArray]; omega) (by show (us.toArray.push _).size ≤ sizeLine + 1; rw [Array.size_push]; simp only [List.size_toArray]; omega)
    have oth : ∀ b o, b ≠ L → h'.get? b = some o → (h'.update L (Obj.mapSeq (·.push (.ref s.heap.objs.size)))).get? b = some o := fun b o hb e => (Heap.get?_update_other _ _ (Ne.symm hb)).trans e
    have self : ∃ c2, (h'.update L (Obj.mapSeq (·.push (.ref s.heap.objs.size)))).get? L = some { cls := .type "list", data := .seq (us.toArray.push (.ref s.heap.objs.size)) c2 } := ⟨_, Heap.get?_update_self _ eL rfl⟩
    generalize h'.update L (Obj.mapSeq (·.push (.ref s.heap.objs.size))) = h'' at oth self
    obtain ⟨c2, self⟩ := self
    have I2 : Inv X pins σ (upd (upd H s.heap.objs.size (.tup [xs[i], ys[i]])) L (.lst (acc ++ [.ref s.heap.objs.size]))) { s with heap := h'', toks := tk } :=
      I1.write (t' := tk) (x := L) (e := L) (by rw [hL']; trivial) (.inl rfl) (fun b u hb e => oth b u hb e) ⟨_, self⟩
        ⟨by rw [List.length_append, hl]; show i + 1 ≤ sizeLine; omega, us ++ [.ref s.heap.objs.size], c2, rA.append (show Vals [V.ref s.heap.objs.size] [Value.ref s.heap.objs.size] from .cons rfl .nil), by rw [self]; simp⟩
    refine wpAny_pure ⟨plainId_quiet F.plain_extend_loop _, ih (i + 1) { s with heap := h'', toks := tk } _ _ (by omega) (by omega) I2 (ZAt.over z' hLz oth ⟨_, self⟩)
      (oth _ _ hLT.symm (hk' _ _ S.TIz S.TITO S.TIi1 S.TIi2 hTI)) (by obtain ⟨a, b, e⟩ := to'; exact ⟨a, b, oth _ _ hLO.symm e⟩) (D1.frame _ _ _ s1 fun b hb o e => oth b o (fun q => hL1 (q ▸ hb)) e) (D2.frame _ _ _ s2 fun b hb o e => oth b o (fun q => hL2 (q ▸ hb)) e)
      (fun c hc => ?_) upd_same (by rw [List.length_append, hl]; rfl) ?_ fun s' H' acc' he I' kp hl' al pp => ?_⟩
    · have q := hf c hc
      have lt : c < s.heap.objs.size := by
        have : c = z ∨ c = TO ∨ c = i1 ∨ c = i2 := by simpa using hc
        rcases this with q | q | q | q <;> rw [q] <;> assumption
      have nL : c ≠ L := by
        have : c = z ∨ c = TO ∨ c = i1 ∨ c = i2 := by simpa using hc
        rcases this with q | q | q | q
        · rw [q]; exact hLz.symm
        · rw [q]; exact hLO.symm
        · rw [q]; exact fun e => hL1 (e ▸ S.mem1)
        · rw [q]; exact fun e => hL2 (e ▸ S.mem2)
      exact ⟨by rw [upd_ne nL, upd_ne (Nat.ne_of_lt lt)]; exact q.1, q.2⟩
    · intro j v e
      by_cases hj : j < acc.length
      · rw [List.getElem?_append_left hj] at e
        obtain ⟨T, x, y, e1, e2, e3, e4⟩ := hp j v e
        refine ⟨T, x, y, e1, e2, e3, ?_⟩
        rw [upd_ne (fun q => by rw [q, hL] at e4; cases e4), upd_ne (ne_of_none e4 hfr)]; exact e4
      · rw [List.getElem?_append_right (by omega)] at e
        have j0 : j - acc.length = 0 := by
          have := (List.getElem?_eq_some_iff.mp e).1
          simp at this; omega
        have ji : j = i := by omega
        subst ji
        rw [j0] at e; cases e
        exact ⟨_, _, _, rfl, List.getElem?_eq_getElem hil, List.getElem?_eq_getElem hil2, by rw [upd_ne hLs.symm]; exact upd_same⟩
    · obtain ⟨h3, t3, rfl⟩ := he
      refine hR _ H' acc' ⟨h3, t3, rfl⟩ I' (fun b o hb e => kp b o hb ?_) hl' al pp
      rw [upd_ne hb, upd_ne (ne_of_none e hfr)]; exact e
end
end ZP
set_option Elab.async false
set_option linter.all false
set_option maxRecDepth 100000
set_option maxHeartbeats 4000000
namespace ZP
open PySem PySem.Spec PyProof.Rows L2 FX RM PB
open PySem.Sem (wp)
/-- what is left behind the loop -/
def ZPost (X : Cx) (pins : List (Addr × Obj)) (σ : L2.St) (H : Hp) (xs ys : List V) (m : Nat) (s s' : Shared) (us : List Value) (L : Addr) : Prop :=
  ∃ H' acc, (∃ h tk, s' = { s with heap := h, toks := tk }) ∧ Inv X pins σ H' s' ∧ (∀ b o, H b = some o → H' b = some o) ∧ Vals acc us ∧ acc.length = m ∧ Pairs H' xs ys acc ∧ H L = none ∧ H' L = some (.lst acc)
/-- a zip that stands ready -/
structure ZRdy (X : Cx) (pins : List (Addr × Obj)) (H : Hp) (s : Shared) (z TI TO i1 i2 : Addr) (fp1 fp2 : List Addr) (xs ys : List V) (its its2 : List Value) (St1 St2 : Nat → Heap → Prop) : Prop where
  S : ZipSep2 z TI TO i1 i2 fp1 fp2
  D1 : ∀ A : Around, A.handled = none → Draws X.prog X.w A i1 fp1 its.length (fun i v => its[i]? = some v) St1
  D2 : ∀ A : Around, A.handled = none → Draws X.prog X.w A i2 fp2 its2.length (fun i v => its2[i]? = some v) St2
  rv : Vals xs its
  rv2 : Vals ys its2
  hn : its.length ≤ sizeLine
  hz : ZAt s.heap z TI TO
  hTI : IsTupOf2 s.heap TI (.ref i1) (.ref i2)
  hTO : ∃ a b, IsTupOf2 s.heap TO a b
  st1 : St1 0 s.heap
  st2 : St2 0 s.heap
  hf : ∀ c ∈ [z, TO, i1, i2], FpOk X pins H c
  lf1 : ∀ c ∈ fp1, c < s.heap.objs.size
  lf2 : ∀ c ∈ fp2, c < s.heap.objs.size
section
variable {X : Cx} {pins : List (Addr × Obj)} {σ : L2.St} {z TI TO i1 i2 : Addr} {fp1 fp2 : List Addr} {xs ys : List V} {its its2 : List Value} {St1 St2 : Nat → Heap → Prop} {H : Hp} {s : Shared}
/-- list.extend of a fresh list L, from where it is empty -/
theorem z_extend {A : Around} {R : Result → Shared → Prop} {L : Addr} {c₀ : Nat} (hA : A.handled = none) (I : Inv X pins σ H s) (Z : ZRdy X pins H s z TI TO i1 i2 fp1 fp2 xs ys its its2 St1 St2) (hLs : s.heap.objs.size ≤ L) (res : Value) {h0 : Heap} (k0 : ∀ b o, s.heap.get? b = some o → h0.get? b = some o)
    (hS : h0.get? L = some { cls := .type "list", data := .seq #[] c₀ })
    (hR : ∀ s' us, ZPost X pins σ H xs ys (min its.length its2.length) s s' us L → (∃ c', s'.heap.get? L = some { cls := .type "list", data := .seq us.toArray c' }) → R (.ok (.ret res)) s') :
    wpAny (model X.prog X.w) A.in1 (Builtin.List.listExtendWith (.ref L) (.ref z) res)
      (fun fin s' => match fin with | .done f => R (.ok f) s' | .again c' => c'.quiet = true ∧ codeAny (model X.prog X.w) A c' R s') (fun e s' => R (.error e) s') { s with heap := h0 } := by
  have hzl := Z.hz.lt
  have ne : ∀ {b : Addr}, b < s.heap.objs.size → L ≠ b := fun h => (Nat.ne_of_lt (Nat.lt_of_lt_of_le h hLs)).symm
  have hLz : L ≠ z := ne hzl
  have hLT : L ≠ TI := ne (Heap.lt_size Z.hTI)
  have hLO : L ≠ TO := by obtain ⟨_, _, q⟩ := Z.hTO; exact ne (Heap.lt_size q)
  have hL1 : L ∉ fp1 := fun q => ne (Z.lf1 _ q) rfl
  have hL2 : L ∉ fp2 := fun q => ne (Z.lf2 _ q) rfl
  have kz : ∀ {h : Heap}, (∀ b o, s.heap.get? b = some o → h.get? b = some o) → ZAt h z TI TO := fun {h} k => by
    rcases Z.hz with x | ⟨T, f, oT, x, e⟩
    · exact .inl (k _ _ x)
    · exact .inr ⟨T, f, oT, k _ _ x, k _ _ e⟩
  have ty : ∀ {h : Heap}, (∀ b o, s.heap.get? b = some o → h.get? b = some o) → Shared.TypeIs { s with heap := h } (.ref z) "zip" := fun k => ZAt.typeIs (s := { s with heap := _ }) (kz k)
  unfold Builtin.List.listExtendWith
  refine wpAny_bind (wpAny_typeOf (ty k0) ?_)
  have h1 : Builtin.List.listSameRef (.ref L) (.ref z) = false := by simp [Builtin.List.listSameRef, hLz]
  have h2 : (Value.type "zip" == Value.type "list") = false := by decide
  have h3 : (Value.type "zip" == Value.type "tuple") = false := by decide
  simp only [h1, h2, h3, Bool.or_false, Bool.false_eq_true, if_false]
  refine wpAny_bind (z_iter (s := { s with heap := h0 }) (kz k0) ?_)
  refine wpAny_bind (wpAny_holding ?_)
  unfold Builtin.List.listLengthHint
  refine wpAny_bind (wpAny_specialOf (ty k0) zip_no_len ?_)
  show wpAny _ A.in1 (specialOf (Value.ref z) (Str.ofString "__length_hint__") >>= _) _ _ _
  refine wpAny_bind (wpAny_specialOf (ty k0) zip_no_hint ?_)
  refine wpAny_pure ?_
  show wpAny _ A.in1 (rule "list.extend.makes-room" >>= fun _ => Builtin.List.listTouch (.ref L) >>= fun _ =>
    again (.builtin "list.extend.loop" ⟨[.ref L, .ref z, res], []⟩)) _ _ _
  refine wpAny_bind (wpAny_rule ?_)
  refine wpAny_bind ?_
  show wpAny _ A.in1 (updateSeq L (·.push .none) >>= fun _ => updateSeq L (·.pop)) _ _ _
  refine wpAny_bind (wpAny_updateSeq (s := { s with heap := h0 }) hS rfl ?_)
  have hS₂ := Heap.get?_update_self (Obj.mapSeq (·.push Value.none)) hS rfl
  refine wpAny_updateSeq (s := { s with heap := _ }) (hz := by seq_fits) hS₂ rfl ?_
  have hS₃ := Heap.get?_update_self (Obj.mapSeq (·.pop)) hS₂ rfl
  have oth : ∀ b o, s.heap.get? b = some o → ((h0.update L (Obj.mapSeq (·.push Value.none))).update L (Obj.mapSeq (·.pop))).get? b = some o :=
    fun b o e => by
      have hb : L ≠ b := ne (Heap.lt_size e)
      exact (Heap.get?_update_other _ _ hb).trans ((Heap.get?_update_other _ _ hb).trans (k0 _ _ e))
  have self : ∃ c1, ((h0.update L (Obj.mapSeq (·.push Value.none))).update L (Obj.mapSeq (·.pop))).get? L = some { cls := .type "list", data := .seq #[] c1 } := ⟨_, hS₃⟩
  clear hS₂ hS₃
  show wpAny _ A.in1 (again (.builtin "list.extend.loop" ⟨[.ref L, .ref z, res], []⟩)) _ _ { s with heap := (h0.update L (Obj.mapSeq (·.push Value.none))).update L (Obj.mapSeq (·.pop)) }
  generalize (h0.update L (Obj.mapSeq (·.push Value.none))).update L (Obj.mapSeq (·.pop)) = h1 at oth self
  obtain ⟨c1, self⟩ := self
  have I1 : Inv X pins σ (upd H L (.lst [])) { s with heap := h1 } := I.laid (t' := s.toks) oth hLs ⟨Nat.zero_le _, [], c1, .nil, self⟩
  have hn0 : H L = none := I.hok.fresh hLs
  refine wpAny_pure ⟨plainId_quiet F.plain_extend_loop _, z_loop Z.S (Z.D1 _ hA) (Z.D2 _ hA) Z.rv Z.rv2 Z.hn hL1 hL2 hLz hLT hLO res _ 0 { s with heap := h1 } _ [] rfl (Nat.zero_le _) I1 (kz oth) (oth _ _ Z.hTI) (by obtain ⟨a, b, e⟩ := Z.hTO; exact ⟨a, b, oth _ _ e⟩)
    ((Z.D1 A hA).frame _ _ _ Z.st1 fun b _ o e => oth b o e) ((Z.D2 A hA).frame _ _ _ Z.st2 fun b _ o e => oth b o e) (fun c hc => ⟨?_, (Z.hf c hc).2⟩) upd_same rfl (fun j v e => by simp at e) fun s' H' acc' he I' kp hl' al pp => ?_⟩
  · rw [upd_ne (fun q => ?_)]; exact (Z.hf c hc).1
    have : c = z ∨ c = TO ∨ c = i1 ∨ c = i2 := by simpa using hc
    rcases this with e | e | e | e
    · exact hLz (by rw [← q, e])
    · exact hLO (by rw [← q, e])
    · exact hL1 (by rw [← q, e]; exact Z.S.mem1)
    · exact hL2 (by rw [← q, e]; exact Z.S.mem2)
  · obtain ⟨h3, t3, rfl⟩ := he
    obtain ⟨_, us, c, rA, eL⟩ := I'.hok _ _ hl'
    refine hR _ us ⟨H', acc', ⟨h3, t3, rfl⟩, I', fun b o e => kp b o (ne_of_none e hn0) (by rw [upd_ne (ne_of_none e hn0)]; exact e), rA, al, pp, hn0, hl'⟩ ⟨c, eL⟩
/-- list(zip) -/
theorem call_listZ {A : Around} {E : Value → Shared → Prop} {Q : Value → Shared → Prop} (hA : A.handled = none) (I : Inv X pins σ H s) (Z : ZRdy X pins H s z TI TO i1 i2 fp1 fp2 xs ys its its2 St1 St2)
    (hQ : ∀ s' us p, ZPost X pins σ H xs ys (min its.length its2.length) s s' us p → Q (.ref p) s') :
    wpAny (model X.prog X.w) A (call (.type "list") [.ref z]) Q E s := by
  refine callType_codes (Q₁ := fun obj s₁ => obj = .ref s.heap.objs.size ∧ s₁ = { s with heap := s.heap.push { cls := .type "list", data := .seq #[] } }) F.called_list (F.typeCall_list_1 _) F.entry_list_init
    (code_list_new _ ⟨rfl, rfl⟩) fun obj s₁ h₁ => ?_
  obtain ⟨rfl, rfl⟩ := h₁
  have hS : (s.heap.push { cls := .type "list", data := .seq #[] }).get? s.heap.objs.size = some { cls := .type "list", data := .seq #[] } := Heap.get?_push_size _ rfl
  refine ⟨⟨_, hS, rfl⟩, F.args_list_init_2 _ _, ?_⟩
  show wpAny _ A.in1.in1 (do let old ← Builtin.List.listItems (.ref s.heap.objs.size); Builtin.List.listUpdate (.ref s.heap.objs.size) (fun _ => #[]); letGo old.toList.reverse; Builtin.List.listExtendWith (.ref s.heap.objs.size) (.ref z) .none) _ _ _
  refine wpAny_bind ?_
  unfold Builtin.List.listItems
  refine wpAny_bind (wpAny_seqItems (s := { s with heap := _ }) hS rfl (wpAny_pure ?_))
  show wpAny _ A.in1.in1 (updateSeq s.heap.objs.size (fun _ => #[]) >>= fun _ => letGo (#[] : Array Value).toList.reverse >>= fun _ => Builtin.List.listExtendWith (.ref s.heap.objs.size) (.ref z) .none) _ _ _
  refine wpAny_bind (wpAny_updateSeq (s := { s with heap := _ }) hS rfl ?_)
  have hS₂ := Heap.get?_update_self (Obj.mapSeq (fun _ => (#[] : Array Value))) hS rfl
  have k0 : ∀ b o, s.heap.get? b = some o → ((s.heap.push { cls := .type "list", data := .seq #[] }).update s.heap.objs.size (Obj.mapSeq (fun _ => (#[] : Array Value)))).get? b = some o :=
    fun b o e => (Heap.get?_update_other _ _ (Nat.ne_of_gt (Heap.lt_size e))).trans (Heap.get?_push_of_some _ e)
  refine wpAny_bind (wpAny_letGo ?_)
  exact z_extend (A := A.in1) (R := wants (fun r s₂ => r = .none ∧ Q (.ref s.heap.objs.size) s₂) E) hA I Z (Nat.le_refl _) .none k0 hS₂ fun s' us hp hl => ⟨rfl, hQ s' us _ hp⟩
theorem z_collect {A : Around} {E : Value → Shared → Prop} {Q : List Value → Shared → Prop} (hA : A.handled = none) (I : Inv X pins σ H s) (Z : ZRdy X pins H s z TI TO i1 i2 fp1 fp2 xs ys its its2 St1 St2)
    (hQ : ∀ s' us L, ZPost X pins σ H xs ys (min its.length its2.length) s s' us L → Q us s') :
    wpAny (model X.prog X.w) A (collect (.ref z)) Q E s := by
  unfold collect
  refine wpAny_bind (wpAny_runValue (codeAny_builtin F.entry_proto_collect ?_))
  rw [Around.under_plainId F.plain_proto_collect _]
  show wpAny _ A.in1 (newList [] >>= fun l => again (.builtin "list.__iadd__" ⟨[l, .ref z], []⟩)) _ _ s
  refine wpAny_bind (wpAny_newObj_type ?_)
  refine wpAny_pure ⟨plainId_quiet F.plain_list_iadd _, codeAny_builtin F.entry_list_iadd ?_⟩
  rw [Around.under_plainId F.plain_list_iadd _]
  show wpAny _ A.in1 (Builtin.List.listExtendWith (.ref s.heap.objs.size) (.ref z) (.ref s.heap.objs.size)) _ _ _
  have hS₁ : (s.heap.push { cls := .type "list", data := .seq ([] : List Value).toArray }).get? s.heap.objs.size = some { cls := .type "list", data := .seq ([] : List Value).toArray } := Heap.get?_push_size _ rfl
  refine z_extend (A := A) (R := fun r s' => match r with | .ok (.ret v) => wpAny (model X.prog X.w) A (match v with | .ref a => do { let o ← load a; match o.data with | .seq xs _ => pure xs.toList | _ => unsupported "internal:collect" } | _ => unsupported "internal:collect") Q E s' | .ok _ => False | .error e => E e s') hA I Z (Nat.le_refl _) _ (fun b o e => Heap.get?_push_of_some _ e) hS₁ fun s' us hp hl => ?_
  obtain ⟨c', hl⟩ := hl
  show wpAny _ A (load s.heap.objs.size >>= _) _ _ s'
  refine wpAny_bind (wpAny_load hl ?_)
  exact wpAny_pure (hQ s' us _ hp)
end
end ZP
set_option Elab.async false
set_option linter.all false
set_option maxRecDepth 100000
set_option maxHeartbeats 4000000
namespace ZP
open PySem PySem.Spec PyProof.Rows L2 FX RM PB
open PySem.Sem (wp)
section
variable {X : Cx} {pins : List (Addr × Obj)} {σ : L2.St} {z TI TO i1 i2 : Addr} {fp1 fp2 : List Addr} {xs ys : List V} {its its2 : List Value} {St1 St2 : Nat → Heap → Prop} {H : Hp} {s : Shared}
theorem code_tupleZ {A : Around} {E : Value → Shared → Prop} {Q₁ : Value → Shared → Prop} (hA : A.handled = none) (I : Inv X pins σ H s) (Z : ZRdy X pins H s z TI TO i1 i2 fp1 fp2 xs ys its its2 St1 St2)
    (h : ∀ s' us L, ZPost X pins σ H xs ys (min its.length its2.length) s s' us L → Q₁ (.ref s'.heap.objs.size) { s' with heap := s'.heap.push { cls := .type "tuple", data := .seq us.toArray } }) :
    codeAny (model X.prog X.w) A (.call (.builtin "tuple.__new__") ⟨[.type "tuple", .ref z], []⟩) (wants Q₁ E) s := by
  refine codeAny_of_tree ?_
  show wpAny _ A.in1 (do checkBuiltinCall "tuple.__new__" ⟨[.type "tuple", .ref z], []⟩; again (.builtin "tuple.__new__" ⟨[.type "tuple", .ref z], []⟩)) _ _ s
  refine wpAny_bind (wpAny_of_eq (F.newCall_tuple_1 _) (wpAny_pure ⟨plainId_quiet F.plain_tuple_new _, codeAny_builtin F.entry_tuple_new ?_⟩))
  rw [Around.under_plainId F.plain_tuple_new _]
  have hsub := sub_tuple_self
  have hinit := init_tuple_lookup
  have hmh := madeHere_tuple
  have hTI := Z.hz.typeIs
  have hcol : ∀ {A' : Around} {E : Value → Shared → Prop} {Q : List Value → Shared → Prop}, A'.handled = none → (∀ s' us L, ZPost X pins σ H xs ys (min its.length its2.length) s s' us L → Q us s') → wpAny (model X.prog X.w) A' (collect (.ref z)) Q E s := fun a b => z_collect a I Z b
  wp_walk using wpAny_typeOf hTI, hcol (show A.in1.handled = none from hA)
  intro s' us L hp
  show wpAny _ _ (Builtin.Tuple.tupleExact us.toArray >>= fun v => ret v) _ _ _
  unfold Builtin.Tuple.tupleExact
  have hm : us.length ≤ sizeLine := by
    obtain ⟨H', acc, _, _, _, rA, al, _⟩ := hp
    have := rA.length
    have := Z.hn
    omega
  refine wpAny_bind (wpAny_newObj_type ?_ (by show us.toArray.size ≤ sizeLine; simpa using hm))
  refine wpAny_pure ?_
  exact h s' us L hp
theorem call_tupleZ {A : Around} {E : Value → Shared → Prop} {Q : Value → Shared → Prop} (hA : A.handled = none) (I : Inv X pins σ H s) (Z : ZRdy X pins H s z TI TO i1 i2 fp1 fp2 xs ys its its2 St1 St2)
    (hQ : ∀ s' us L, ZPost X pins σ H xs ys (min its.length its2.length) s s' us L → Q (.ref s'.heap.objs.size) { s' with heap := s'.heap.push { cls := .type "tuple", data := .seq us.toArray } }) :
    wpAny (model X.prog X.w) A (call (.type "tuple") [.ref z]) Q E s := by
  refine callType_codes (Q₁ := fun obj s₁ => s₁.TypeIs obj "tuple" ∧ Q obj s₁) F.called_tuple (F.typeCall_tuple_1 _) F.entry_object_init
    (code_tupleZ (A := A.in1) hA I Z fun s' us L hp => ⟨⟨_, Heap.get?_push_size _ rfl, rfl⟩, hQ s' us L hp⟩) fun obj s₁ h₁ => ?_
  exact ⟨h₁.1, F.args_object_init_2 obj _, object_init_meets F.called_tuple.init.lookup F.called_tuple.made (by decide) X.prog X.w A.in1 _ s₁ ⟨h₁.1, rfl, h₁.2⟩⟩
theorem side {a : Addr} (I : Inv X pins σ H s) (h : SqL X.K H a xs ∨ SqT X.K H a xs) : ∃ (its : List Value) (o : Obj) (Hq : Heap → Prop) (St : Addr → Nat → Heap → Prop), Vals xs its ∧ its.length ≤ sizeLine ∧ Begins (.ref a) o Hq ∧ Hq s.heap ∧ a < s.heap.objs.size ∧
    (∀ it, a ≠ it → ∀ A : Around, A.handled = none → Draws X.prog X.w A it [it, a] its.length (fun i v => its[i]? = some v) (St it)) ∧ (∀ it h', h'.get? it = some o → Hq h' → St it 0 h') := by
  rcases h with h | h
  · obtain ⟨its, rv, p, hz⟩ := I.list h
    refine ⟨its, _, _, fun it i h => h.IsListIter it a i ∧ h.IsList a its.toArray, rv, by rw [← rv.length]; exact hz, begins_list a its.toArray, p.isList, p.lt, fun it ne A hA => ?_, fun it h' e q => ⟨⟨_, e, rfl, rfl⟩, q⟩⟩
    have D := Draws.list (prog := X.prog) (w := X.w) (A := A) hA it a ne its.toArray
    simpa using D
  · obtain ⟨its, rv, p, hz⟩ := I.tuple h
    obtain ⟨o1, ho1, _⟩ := id p
    refine ⟨its, _, _, fun it i h => h.IsTupleIter it a i ∧ h.IsTuple a its.toArray, rv, by rw [← rv.length]; exact hz, begins_tuple a its.toArray, p, Heap.lt_size ho1, fun it ne A hA => ?_, fun it h' e q => ⟨⟨_, e, rfl, rfl⟩, q⟩⟩
    have D := Draws.tuple (prog := X.prog) (w := X.w) (A := A) hA it a ne its.toArray
    simpa using D
/-- the call of zip: what stands ready then -/
theorem call_zipZ {A : Around} {E : Value → Shared → Prop} {Q : Value → Shared → Prop} {a b : Addr} (I : Inv X pins σ H s) (ha : SqL X.K H a xs ∨ SqT X.K H a xs) (hb : SqL X.K H b ys ∨ SqT X.K H b ys)
    (h : ∀ h' z TI TO i1 i2 fp1 fp2 its its2 St1 St2, Inv X pins σ H { s with heap := h' } → ZRdy X pins H { s with heap := h' } z TI TO i1 i2 fp1 fp2 xs ys its its2 St1 St2 → IsZip h' z TI TO .none → Q (.ref z) { s with heap := h' }) :
    wpAny (model X.prog X.w) A (call (.type "zip") [.ref a, .ref b]) Q E s := by
  obtain ⟨its, o1, H1, S1, rv, z1, B1, h1, l1, D1, g1⟩ := side I ha
  obtain ⟨its2, o2, H2, S2, rv2, z2, B2, h2, l2, D2, g2⟩ := side I hb
  refine zip_begins2 B1 B2 h1 h2 fun h' hz hTI hTO e1 e2 hsz hk => ?_
  have I2 : Inv X pins σ H { s with heap := h' } := I.kept (t' := s.toks) hk
  have fr : ∀ c, s.heap.objs.size ≤ c → FpOk X pins H c := fun c hc => I.fpOk hc (I.hok.fresh hc)
  have na : a ≠ s.heap.objs.size := Nat.ne_of_lt l1
  have nb : b ≠ s.heap.objs.size + 1 := Nat.ne_of_lt (Nat.lt_of_lt_of_le l2 (Nat.le_add_right _ _))
  have q : ∀ {c : Addr} {k : Nat}, c < s.heap.objs.size → s.heap.objs.size + k ≠ c := fun h => (Nat.ne_of_lt (Nat.lt_of_lt_of_le h (Nat.le_add_right _ _))).symm
  have qn : ∀ {i j : Nat}, i ≠ j → s.heap.objs.size + i ≠ s.heap.objs.size + j := fun h e => h (Nat.add_left_cancel e)
  have q0 : ∀ {i : Nat}, i ≠ 0 → s.heap.objs.size + i ≠ s.heap.objs.size := fun h e => h (Nat.add_left_cancel (e.trans (Nat.add_zero _).symm))
  refine h h' (s.heap.objs.size + 4) (s.heap.objs.size + 2) (s.heap.objs.size + 3) s.heap.objs.size (s.heap.objs.size + 1) [s.heap.objs.size, a] [s.heap.objs.size + 1, b] its its2 _ _ I2
    ⟨⟨qn (by decide), qn (by decide), qn (by decide), q0 (by decide), by simp, ?_, ?_, qn (by decide), by simp, ?_, ?_, ?_, ?_⟩, fun A hA => D1 _ na A hA, fun A hA => D2 _ nb A hA, rv, rv2, z1, .inl hz, hTI, ⟨_, _, hTO⟩, g1 _ _ e1 (B1.keeps _ _ h1 hk), g2 _ _ e2 (B2.keeps _ _ h2 hk), ?_, ?_, ?_⟩ hz
  · intro m
    rcases List.mem_cons.mp m with e | e
    · exact q0 (by decide) e
    · exact q l1 (List.mem_singleton.mp e)
  · intro m
    rcases List.mem_cons.mp m with e | e
    · exact q0 (by decide) e
    · exact q l1 (List.mem_singleton.mp e)
  · intro m
    rcases List.mem_cons.mp m with e | e
    · exact qn (by decide) e
    · exact q l2 (List.mem_singleton.mp e)
  · intro m
    rcases List.mem_cons.mp m with e | e
    · exact qn (by decide) e
    · exact q l2 (List.mem_singleton.mp e)
  · intro m
    rcases List.mem_cons.mp m with e | e
    · exact q0 (by decide) e.symm
    · exact Nat.ne_of_gt l2 (List.mem_singleton.mp e)
  · intro m
    rcases List.mem_cons.mp m with e | e
    · exact q0 (by decide) e
    · exact q l1 (List.mem_singleton.mp e)
  · intro c hc
    refine fr c ?_
    have : c = s.heap.objs.size + 4 ∨ c = s.heap.objs.size + 3 ∨ c = s.heap.objs.size ∨ c = s.heap.objs.size + 1 := by simpa using hc
    rcases this with e | e | e | e <;> rw [e]
    · exact Nat.le_add_right _ _
    · exact Nat.le_add_right _ _
    · exact Nat.le_refl _
    · exact Nat.le_add_right _ _
  · intro c hc
    show c < h'.objs.size
    rw [hsz]
    rcases List.mem_cons.mp hc with e | e
    · rw [e]; exact Nat.lt_add_of_pos_right (by decide)
    · rw [List.mem_singleton.mp e]; exact Nat.lt_of_lt_of_le l1 (Nat.le_add_right _ _)
  · intro c hc
    show c < h'.objs.size
    rw [hsz]
    rcases List.mem_cons.mp hc with e | e
    · rw [e]; exact Nat.add_lt_add_left (by decide) _
    · rw [List.mem_singleton.mp e]; exact Nat.lt_of_lt_of_le l2 (Nat.le_add_right _ _)
end
/-- list(zip(a, b)), tuple(zip(a, b)) -/
def tZip (K : PySem.W.Frag) (mk : List V → HO) (ta : TA) : TE := fun σ H Q => ta σ H fun vs H1 => ∃ a b xs ys, vs = [.ref a, .ref b] ∧ (SqL K H1 a xs ∨ SqT K H1 a xs) ∧ (SqL K H1 b ys ∨ SqT K H1 b ys) ∧
  ∀ H2 p acc, Same H1 H2 → H1 p = none → H2 p = some (mk acc) → acc.length = min xs.length ys.length → Pairs H2 xs ys acc → Q (.ref p) H2
section
variable {X : Cx} {e e2 : Expr} {ta : TA} {p p2 q pos : Pos}
theorem pe_listZip (hg : Gl X "list") (hm : X.mg "list" = none) (hg2 : Gl X "zip") (hm2 : X.mg "zip" = none) (ha : PA X [e, e2] ta) (hc : X.calm = true := by rfl)
    (na : starEach [.Call (.Name "zip" p2) [e, e2] [] q] X.env = (false, eval (.Call (.Name "zip" p2) [e, e2] [] q) X.env) :: starEach [] X.env := by rfl)
    (hs : starEach [e, e2] X.env = (false, eval e X.env) :: starEach [e2] X.env := by rfl) (hpl : (backTo q (starEach [e2] X.env)).any (·.1) = false := by rfl) :
    PE X (.Call (.Name "list" p) [.Call (.Name "zip" p2) [e, e2] [] q] [] pos) (tZip X.K .lst ta) := by
  refine ⟨fun pins s σ H Q I h => ?_⟩
  refine Call_ (ld_blt I hg hm boot_list (PyProof.Rows.callWith_type1 (PyProof.Rows.args_cons ?_ na) na rfl))
  refine Call_ (ld_blt I hg2 hm2 PyProof.Rows.boot_zip (PyProof.Rows.callWith_type1 (thn (ha.run q pins s σ H _ I h) fun us s1 ⟨vs, H1, I1, r1, q1⟩ => ?_) hs hpl))
  obtain ⟨a, b, xs, ys, ex, sa, sb, q1⟩ := q1
  subst ex
  cases r1 with
  | cons r rr =>
    cases rr with
    | cons r' rr =>
      cases rr
      cases r
      cases r'
      refine call_zipZ I1 sa sb fun h' z TI TO i1 i2 fp1 fp2 its its2 St1 St2 I2 Z _ => ?_
      refine PyProof.Rows.args_nil ?_
      refine call_listZ (I2.ok.hd hc) I2 Z fun s' us p ⟨H', acc, he, I', kp, rA, al, pp, n0, hl⟩ => ?_
      obtain ⟨h3, t3, rfl⟩ := he
      exact ⟨.ref p, H', I', rfl, q1 H' p acc kp n0 hl (by rw [al, Z.rv.length, Z.rv2.length]) pp⟩
theorem pe_tupleZip (hg : Gl X "tuple") (hm : X.mg "tuple" = none) (hg2 : Gl X "zip") (hm2 : X.mg "zip" = none) (ha : PA X [e, e2] ta) (hc : X.calm = true := by rfl)
    (na : starEach [.Call (.Name "zip" p2) [e, e2] [] q] X.env = (false, eval (.Call (.Name "zip" p2) [e, e2] [] q) X.env) :: starEach [] X.env := by rfl)
    (hs : starEach [e, e2] X.env = (false, eval e X.env) :: starEach [e2] X.env := by rfl) (hpl : (backTo q (starEach [e2] X.env)).any (·.1) = false := by rfl) :
    PE X (.Call (.Name "tuple" p) [.Call (.Name "zip" p2) [e, e2] [] q] [] pos) (tZip X.K .tup ta) := by
  refine ⟨fun pins s σ H Q I h => ?_⟩
  refine Call_ (ld_blt I hg hm (show bootBuiltins "tuple" = some (.type "tuple") by decide +kernel) (PyProof.Rows.callWith_type1 (PyProof.Rows.args_cons ?_ na) na rfl))
  refine Call_ (ld_blt I hg2 hm2 PyProof.Rows.boot_zip (PyProof.Rows.callWith_type1 (thn (ha.run q pins s σ H _ I h) fun us s1 ⟨vs, H1, I1, r1, q1⟩ => ?_) hs hpl))
  obtain ⟨a, b, xs, ys, ex, sa, sb, q1⟩ := q1
  subst ex
  cases r1 with
  | cons r rr =>
    cases rr with
    | cons r' rr =>
      cases rr
      cases r
      cases r'
      refine call_zipZ I1 sa sb fun h' z TI TO i1 i2 fp1 fp2 its its2 St1 St2 I2 Z _ => ?_
      refine PyProof.Rows.args_nil ?_
      refine call_tupleZ (I2.ok.hd hc) I2 Z fun s' us L ⟨H', acc, he, I', kp, rA, al, pp, n0, hl⟩ => ?_
      obtain ⟨h3, t3, rfl⟩ := he
      have nf : H' h3.objs.size = none := I'.hok.fresh (Nat.le_refl _)
      have n1 : H1 h3.objs.size = none := by
        cases e : H1 h3.objs.size with
        | none => rfl
        | some o => rw [kp _ _ e] at nf; cases nf
      have I3 : Inv X pins σ (upd H' h3.objs.size (.tup acc)) { s1 with heap := h3.push { cls := .type "tuple", data := .seq us.toArray }, toks := t3 } :=
        I'.laid (t' := t3) (fun b o e => Heap.get?_push_of_some _ e) (Nat.le_refl _) ⟨by have := Z.hn; have := rA.length; omega, us, rA, IsTup.new _ _⟩
      exact ⟨.ref h3.objs.size, _, I3, rfl, q1 _ _ acc (fun b o e => by rw [upd_ne (ne_of_none (kp b o e) nf)]; exact kp b o e) n1 upd_same (by rw [al, Z.rv.length, Z.rv2.length])
        (pp.mono fun T u e => by rw [upd_ne (ne_of_none e nf)]; exact e)⟩
end
end ZP
set_option Elab.async false
set_option linter.all false
set_option maxRecDepth 100000
set_option maxHeartbeats 4000000
/-! a walk over zip(a, b), a list or tuple each, the couples unpacked -/
namespace ZP
open PySem PySem.Spec PyProof.Rows L2 FX RM PB
open PySem.Sem (wp)
def SqE (K : PySem.W.Frag) (k : Bool) (H : Hp) (a : Addr) (xs : List V) : Prop := match k with | true => SqT K H a xs | false => SqL K H a xs
def IterE (k : Bool) (h : Heap) (it a : Addr) (i : Nat) : Prop := match k with | true => h.IsTupleIter it a i | false => h.IsListIter it a i
def SeqE (k : Bool) (h : Heap) (a : Addr) (its : List Value) : Prop := match k with | true => h.IsTuple a its.toArray | false => h.IsList a its.toArray
def oE (k : Bool) (a : Addr) : Obj := match k with | true => { cls := .type "tuple_iterator", data := .fields #[.ref a, .int 0 0] } | false => { cls := .type "list_iterator", data := .fields #[.ref a, .int 0 0] }
section
variable {X : Cx} {pins : List (Addr × Obj)} {σ : L2.St} {H : Hp} {s : Shared} {xs ys : List V} {a : Addr} {k : Bool}
theorem sideE (I : Inv X pins σ H s) (h : SqE X.K k H a xs) : ∃ its : List Value, Vals xs its ∧ Begins (.ref a) (oE k a) (fun h => SeqE k h a its) ∧ SeqE k s.heap a its ∧ a < s.heap.objs.size ∧
    (∀ it, a ≠ it → ∀ A : Around, A.handled = none → Draws X.prog X.w A it [it, a] its.length (fun i v => its[i]? = some v) (fun i h => IterE k h it a i ∧ SeqE k h a its)) := by
  cases k with
  | false =>
    obtain ⟨its, rv, p, hz⟩ := I.list h
    refine ⟨its, rv, begins_list a its.toArray, p.isList, p.lt, fun it ne A hA => ?_⟩
    have D := Draws.list (prog := X.prog) (w := X.w) (A := A) hA it a ne its.toArray
    refine ⟨D.live, D.frame, fun i s Q E hi st hQ => D.item i s Q E (by simpa using hi) st fun x h' tk e => hQ x h' tk (by simpa using e), fun s Q E st hE => D.done s Q E (by rw [List.size_toArray]; exact st) hE⟩
  | true =>
    obtain ⟨its, rv, p, hz⟩ := I.tuple h
    obtain ⟨o1, ho1, _⟩ := id p
    refine ⟨its, rv, begins_tuple a its.toArray, p, Heap.lt_size ho1, fun it ne A hA => ?_⟩
    have D := Draws.tuple (prog := X.prog) (w := X.w) (A := A) hA it a ne its.toArray
    refine ⟨D.live, D.frame, fun i s Q E hi st hQ => D.item i s Q E (by simpa using hi) st fun x h' tk e => hQ x h' tk (by simpa using e), fun s Q E st hE => D.done s Q E (by rw [List.size_toArray]; exact st) hE⟩
theorem inj_E (I : Inv X pins σ H s) (h : SqE X.K k H a xs) (h' : SqE X.K k H a ys) : xs = ys := by
  cases k with
  | false => exact I.list_inj h h'
  | true => exact I.tuple_inj h h'
end
theorem IterE.at {k : Bool} {h h' : Heap} {it a : Addr} {i : Nat} (x : IterE k h it a i) (e : ∀ o, h.get? it = some o → h'.get? it = some o) : IterE k h' it a i := by
  cases k with
  | false => exact Heap.IsListIter.at x e
  | true => exact Heap.IsTupleIter.at x e
theorem IterE.ex {k : Bool} {h : Heap} {it a : Addr} {i : Nat} (x : IterE k h it a i) : ∃ o, h.get? it = some o ∧ ∀ v, o.data ≠ .cell v := by
  cases k with
  | false => obtain ⟨o, e, _, d⟩ := x; exact ⟨o, e, fun v q => by rw [d] at q; cases q⟩
  | true => obtain ⟨o, e, _, d⟩ := x; exact ⟨o, e, fun v q => by rw [d] at q; cases q⟩
theorem IterE.new {k : Bool} {h : Heap} {it a : Addr} (e : h.get? it = .some (oE k a)) : IterE k h it a 0 := by
  cases k with
  | false => exact ⟨_, e, rfl, rfl⟩
  | true => exact ⟨_, e, rfl, rfl⟩
/-- the sequences at a and b as they stand at each turn, the items in new pairs -/
def ItzG (K : PySem.W.Frag) (ka kb : Bool) (a b : Addr) : It :=
  ⟨fun i H => ∃ (xs ys : List V) (x y : V), SqE K ka H a xs ∧ SqE K kb H b ys ∧ xs[i]? = some x ∧ ys[i]? = some y,
    fun i H v H' => ∃ T x y, v = .ref T ∧ H T = none ∧ H' = upd H T (.tup [x, y]) ∧ (∀ xs, SqE K ka H a xs → xs[i]? = some x) ∧ ∀ ys, SqE K kb H b ys → ys[i]? = some y,
    fun i H => ∃ xs ys : List V, SqE K ka H a xs ∧ SqE K kb H b ys ∧ i = min xs.length ys.length⟩
theorem turn_zipG {P : Program} {w : World} {K : PySem.W.Frag} {elts : List Expr} {kk : Nat} {tpos : Pos} {ka kb : Bool} {a b z TI TO i1 i2 : Addr} (S : ZipSep2 z TI TO i1 i2 [i1, a] [i2, b]) (na : a ≠ i1) (nb : b ≠ i2) :
    Turn P w K (.Tuple elts kk tpos) (ItzG K ka kb a b) [z, TI, TO, i1, i2] z (fun i h => IsZip h z TI TO .none ∧ IsPair h TI (.ref i1) (.ref i2) ∧ (∃ x y, IsPair h TO x y) ∧ IterE ka h i1 a i ∧ IterE kb h i2 b i) where
  mem := by simp
  obj := fun i h st c hc => by
    obtain ⟨hz, hTI, ⟨x, y, hTO⟩, d1, d2⟩ := st
    have e' : c = z ∨ c = TI ∨ c = TO ∨ c = i1 ∨ c = i2 := by simpa using hc
    rcases e' with q | q | q | q | q
    · rw [q]; exact ⟨_, hz, fun v q => nomatch q⟩
    · rw [q]; exact ⟨_, hTI, fun v q => nomatch q⟩
    · rw [q]; exact ⟨_, hTO, fun v q => nomatch q⟩
    · rw [q]; exact d1.ex
    · rw [q]; exact d2.ex
  keep := fun i h h' st k => by
    obtain ⟨hz, hTI, ⟨x, y, hTO⟩, h1, h2⟩ := st
    exact ⟨k z (by simp) _ hz, k TI (by simp) _ hTI, ⟨x, y, k TO (by simp) _ hTO⟩, h1.at fun o q => k i1 (by simp) o q, h2.at fun o q => k i2 (by simp) o q⟩
  item := by
    intro X hP hw hK hc i pins s σ H E I hf st hg
    subst hP hw hK
    obtain ⟨hz, hTI, ⟨x0, y0, hTO⟩, h1, h2⟩ := st
    obtain ⟨xs, ys, x, y, hqx, hqy, hx, hy⟩ := hg
    obtain ⟨its, rv, _, p, _, D1⟩ := sideE I hqx
    obtain ⟨its2, rv2, _, p2, _, D2⟩ := sideE I hqy
    obtain ⟨u, hu, ru⟩ := rv.get hx
    obtain ⟨u2, hu2, ru2⟩ := rv2.get hy
    have e1 : its[i]? = some u := hu
    have e2 : its2[i]? = some u2 := hu2
    have hzl : z < s.heap.objs.size := Heap.lt_size hz
    have h0 : X.A.in1.handled = none := I.ok.hd hc
    refine wpAny_pyNext_zipD2_item S (D1 i1 na _ h0) (D2 i2 nb _ h0) hz hTI hTO ⟨h1, p⟩ ⟨h2, p2⟩ (List.getElem?_eq_some_iff.mp hu).1 (List.getElem?_eq_some_iff.mp hu2).1 fun x1 x2 h' tk q1 q2 z' TO' g1 g2 hT hsz hk => ?_
    rw [e1] at q1; cases q1
    rw [e2] at q2; cases q2
    refine ⟨_, rfl, wpAny_letOwnedTupleGo_zip (s := { s with heap := h', toks := tk }) z' fun h'' z'' sb => ?_⟩
    replace sb : Heap.SameBut z h' h'' := sb
    have hT2 : h''.get? s.heap.objs.size = some { cls := .type "tuple", data := .seq #[u, u2] } := (sb.2 _ (Nat.ne_of_gt hzl)).trans hT
    have new : ObjOk X.prog X.w (upd H s.heap.objs.size (.tup [x, y])) h'' s.heap.objs.size (.tup [x, y]) :=
      ⟨by show 2 ≤ sizeLine; decide, [u, u2], .cons ru (.cons ru2 .nil), ⟨_, hT2, rfl, _, rfl⟩⟩
    have I1 : Inv X pins σ (upd H s.heap.objs.size (.tup [x, y])) { s with heap := h'', toks := tk } :=
      I.turnedNew (t' := tk) (ch := [z, TI, TO, i1, i2]) (fun c o hb q => (sb.2 c (fun q' => hb (by simp [q']))).trans (hk c o (fun q' => hb (by simp [q'])) (fun q' => hb (by simp [q'])) (fun q' => hb (by simp [q'])) (fun q' => hb (by simp [q'])) q)) hf (Nat.le_refl _) new
    refine ⟨.ref s.heap.objs.size, _, I1, rfl, ⟨_, x, y, rfl, I.hok.fresh (Nat.le_refl _), rfl, fun l hl => by rw [inj_E I hl hqx]; exact hx, fun l hl => by rw [inj_E I hl hqy]; exact hy⟩, ⟨z'', ?_, ⟨u, u2, ?_⟩, ?_, ?_⟩, fun c hcm => ?_⟩
    · exact (sb.2 _ S.TIz).trans (hk _ _ S.TIz S.TITO S.TIi1 S.TIi2 hTI)
    · exact (sb.2 _ S.TOz).trans TO'
    · exact g1.1.at fun o q => (sb.2 _ S.zi1.symm).trans q
    · exact g2.1.at fun o q => (sb.2 _ S.zi2.symm).trans q
    · have hlt : c < s.heap.objs.size := by
        have e' : c = z ∨ c = TI ∨ c = TO ∨ c = i1 ∨ c = i2 := by simpa using hcm
        rcases e' with q | q | q | q | q
        · rw [q]; exact hzl
        · rw [q]; exact Heap.lt_size hTI
        · rw [q]; exact Heap.lt_size hTO
        · rw [q]; obtain ⟨_, e1, _⟩ := h1.ex; exact Heap.lt_size e1
        · rw [q]; obtain ⟨_, e2, _⟩ := h2.ex; exact Heap.lt_size e2
      rw [upd_ne (Nat.ne_of_lt hlt)]
      exact (hf c hcm).1
  done := by
    intro X hP hw hK hc i pins s σ H E I hf st hg
    subst hP hw hK
    obtain ⟨hz, hTI, ⟨x0, y0, hTO⟩, h1, h2⟩ := st
    obtain ⟨xs, ys, hqx, hqy, hend⟩ := hg
    obtain ⟨its, rv, _, p, _, D1⟩ := sideE I hqx
    obtain ⟨its2, rv2, _, p2, _, D2⟩ := sideE I hqy
    have l1 := rv.length
    have l2 := rv2.length
    have h0 : X.A.in1.handled = none := I.ok.hd hc
    exact wpAny_pyNext_zipD2_end S (D1 i1 na _ h0) (D2 i2 nb _ h0) hz hTI hTO ⟨h1, p⟩ ⟨h2, p2⟩ (by omega) (by omega) (by omega) fun h' tk hk => ⟨rfl, I.turnedL (t' := tk) (ch := [z, TI, TO, i1, i2]) (fun c o hb q =>
      hk c o (fun q' => hb (by simp [q'])) (fun q' => hb (by simp [q'])) (fun q' => hb (by simp [q'])) (fun q' => hb (by simp [q'])) q) hf⟩
  self := fun A i s Q E st h => wpAny_pyIter_zip st.1 h
def iZipG (K : PySem.W.Frag) (ta : TA) : TI := fun σ H R => ta σ H fun vs H1 => ∃ a b ka kb xs ys, vs = [.ref a, .ref b] ∧ SqE K ka H1 a xs ∧ SqE K kb H1 b ys ∧ R (ItzG K ka kb a b) H1
theorem pi_zipG {X : Cx} {e e2 : Expr} {ta : TA} {p pos tpos : Pos} {elts : List Expr} {kk : Nat} (hg : Gl X "zip") (hm : X.mg "zip" = none) (ha : PA X [e, e2] ta)
    (hs : starEach [e, e2] X.env = (false, eval e X.env) :: starEach [e2] X.env := by rfl) (hpl : (backTo pos (starEach [e2] X.env)).any (·.1) = false := by rfl) :
    PI X (.Tuple elts kk tpos) (.Call (.Name "zip" p) [e, e2] [] pos) (iZipG X.K ta) := by
  refine ⟨fun pins s σ H R I h => ?_⟩
  refine Call_ (ld_blt I hg hm PyProof.Rows.boot_zip (PyProof.Rows.callWith_type1 (thn (ha.run pos pins s σ H _ I h) fun us s1 ⟨vs, H1, I1, r1, q1⟩ => ?_) hs hpl))
  obtain ⟨a, b, ka, kb, xs, ys, ex, hqx, hqy, q⟩ := q1
  subst ex
  cases r1 with
  | cons r rr =>
    cases rr with
    | cons r' rr =>
      cases rr
      cases r
      cases r'
      obtain ⟨its, rv, B1, p1, l1, _⟩ := sideE I1 hqx
      obtain ⟨its2, rv2, B2, p2, l2, _⟩ := sideE I1 hqy
      refine zip_begins2 B1 B2 p1 p2 fun h' hz hTI hTO e1 e2 hsz hk => wpAny_pyIter_zip hz ?_
      have I2 : Inv X pins σ H1 { s1 with heap := h' } := I1.kept (t' := s1.toks) hk
      have fresh5 : ∀ c, c ∈ [s1.heap.objs.size + 4, s1.heap.objs.size + 2, s1.heap.objs.size + 3, s1.heap.objs.size, s1.heap.objs.size + 1] → FpOk X pins H1 c := fun c hcm => by
        have e' : c = s1.heap.objs.size + 4 ∨ c = s1.heap.objs.size + 2 ∨ c = s1.heap.objs.size + 3 ∨ c = s1.heap.objs.size ∨ c = s1.heap.objs.size + 1 := by simpa using hcm
        have hle : s1.heap.objs.size ≤ c := by
          rcases e' with z | z | z | z | z
          · rw [z]; exact Nat.le_add_right _ _
          · rw [z]; exact Nat.le_add_right _ _
          · rw [z]; exact Nat.le_add_right _ _
          · rw [z]; exact Nat.le_refl _
          · rw [z]; exact Nat.le_add_right _ _
        exact I1.fpOk hle (I1.hok.fresh hle)
      have na : a ≠ s1.heap.objs.size := Nat.ne_of_lt l1
      have nb : b ≠ s1.heap.objs.size + 1 := Nat.ne_of_lt (Nat.lt_of_lt_of_le l2 (Nat.le_add_right _ _))
      have q' : ∀ {c : Addr} {k : Nat}, c < s1.heap.objs.size → s1.heap.objs.size + k ≠ c := fun h => (Nat.ne_of_lt (Nat.lt_of_lt_of_le h (Nat.le_add_right _ _))).symm
      have qn : ∀ {i j : Nat}, i ≠ j → s1.heap.objs.size + i ≠ s1.heap.objs.size + j := fun h e => h (Nat.add_left_cancel e)
      have q0 : ∀ {i : Nat}, i ≠ 0 → s1.heap.objs.size + i ≠ s1.heap.objs.size := fun h e => h (Nat.add_left_cancel (e.trans (Nat.add_zero _).symm))
      have m1 : ∀ {c d1 d2 : Addr}, c ≠ d1 → c ≠ d2 → c ∉ [d1, d2] := fun h1 h2 m => by
        rcases List.mem_cons.mp m with e | e
        · exact h1 e
        · exact h2 (List.mem_singleton.mp e)
      have S : ZipSep2 (s1.heap.objs.size + 4) (s1.heap.objs.size + 2) (s1.heap.objs.size + 3) s1.heap.objs.size (s1.heap.objs.size + 1) [s1.heap.objs.size, a] [s1.heap.objs.size + 1, b] :=
        ⟨qn (by decide), qn (by decide), qn (by decide), q0 (by decide), by simp, m1 (q0 (by decide)) (q' l1), m1 (q0 (by decide)) (q' l1), qn (by decide), by simp, m1 (qn (by decide)) (q' l2), m1 (qn (by decide)) (q' l2), m1 (q0 (by decide)).symm (Nat.ne_of_gt l2), m1 (q0 (by decide)) (q' l1)⟩
      exact ⟨s1.heap.objs.size + 4, [s1.heap.objs.size + 4, s1.heap.objs.size + 2, s1.heap.objs.size + 3, s1.heap.objs.size, s1.heap.objs.size + 1], _, _, H1, rfl, I2, turn_zipG S na nb, ⟨hz, hTI, ⟨_, _, hTO⟩, IterE.new e1, IterE.new e2⟩, fresh5, q⟩
end ZP
set_option Elab.async false
set_option linter.all false
set_option maxRecDepth 100000
set_option maxHeartbeats 4000000
/-! a comprehension with a test, over any walk -/
namespace ZP
open PySem PySem.Spec PyProof.Rows L2 FX RM PB
theorem walk_zipG {K : PySem.W.Frag} {ka kb : Bool} {a b : Addr} {xs ys : List V} {n : Nat} (hn : n = min xs.length ys.length) : Walk (ItzG K ka kb a b) n (fun H => SqE K ka H a xs ∧ SqE K kb H b ys) (YPair (fun i => xs[i]?) (fun i => ys[i]?)) := by
  subst hn
  refine ⟨fun i _ hi q => ?_, fun _ q => ⟨xs, ys, q.1, q.2, rfl⟩, fun i H v H' _ q y => ?_⟩
  · have h1 : i < xs.length := by omega
    have h2 : i < ys.length := by omega
    exact ⟨xs, ys, xs[i], ys[i], q.1, q.2, by simp [h1], by simp [h2]⟩
  · obtain ⟨T, x, z, h1, h2, h3, h4, h5⟩ := y
    exact ⟨T, x, z, h1, h2, h3, h4 xs q.1, h5 ys q.2⟩
theorem SqE.same {K : PySem.W.Frag} {k : Bool} {H H' : Hp} {a : Addr} {xs : List V} (h : SqE K k H a xs) (s : Same H H') : SqE K k H' a xs := by
  cases k with
  | false => exact s.seq h
  | true => exact same_t s h
theorem filt_snoc {α : Type} (p : Nat → Bool) (f : Nat → α) (i : Nat) : ((List.range (i + 1)).filter p).map f = if p i = true then ((List.range i).filter p).map f ++ [f i] else ((List.range i).filter p).map f := by
  rw [List.range_succ, List.filter_append, List.map_append]
  cases e : p i with
  | true => rw [if_pos rfl]; simp [e]
  | false => rw [if_neg (by decide)]; simp [e]
/-- [e for x in walk if test], each e some data that holds no list -/
theorem lc_filter {K : PySem.W.Frag} {J : It} {n : Nat} {G : Hp → Prop} {Y : Nat → Hp → V → Hp → Prop} (w : Walk J n G Y) {g : TG} {tt : TT} {te : TE} {vs : List Nat} {σ : L2.St} {H : Hp} {Q : VK} (p : Nat → Bool) (f : Nat → PyData) (hn : ∀ i, noL (f i) = true) (hz : n < sizeLine)
    (hG : ∀ H', Same H H' → G H') (hY : ∀ i H0 x H', Y i H0 x H' → Same H0 H')
    (hs : ∀ i x H0 H' (R : V → Hp → Prop) (R0 : Hp → Prop), i < n → Same H H0 → Y i H0 x H' → (p i = true → ∀ y H4, Same H' H4 → Dp K H4 y (f i) → R y H4) → (p i = false → ∀ H4, Same H' H4 → R0 H4) →
      g x (wipe σ vs) H' fun σ2 H2 => wipe σ2 vs = wipe σ vs ∧ tt σ2 H2 fun b H3 => if b = true then te σ2 H3 R else R0 H3)
    (hd : ∀ D H' ys, Same H H' → H D = none → H' D = some (.lst ys) → DpAll K H' ys (((List.range n).filter p).map f) → Q (.ref D) H') :
    ∀ D, H D = none → ∃ W : Nat → Nat → Hp → Prop, (∃ m, W 0 m (upd H D (.lst []))) ∧ ∀ i m H, W i m H →
      (J.stop i H ∧ Q (.ref D) H) ∨ (J.go i H ∧ ∃ Nx : Hp → Prop, (∀ H', Nx H' → ∃ m', m' < m ∧ W (i + 1) m' H') ∧ ∀ x H', J.yld i H x H' → g x (wipe σ vs) H' fun σ2 H2 => wipe σ2 vs = wipe σ vs ∧ tt σ2 H2 fun b H3 =>
        if b = true then te σ2 H3 fun y H4 => ∃ acc, H4 D = some (.lst acc) ∧ acc.length < sizeLine ∧ Nx (upd H4 D (.lst (acc ++ [y]))) else Nx H3) := by
  intro D nD
  refine lc_it w (fun i H' => Same H H' ∧ ∃ ys, H' D = some (.lst ys) ∧ ys.length ≤ i ∧ DpAll K H' ys (((List.range i).filter p).map f)) ⟨PB.same_new nD, [], upd_same, Nat.le_refl _, .nil⟩ (fun i H' _ h => hG H' h.1) ?_ ?_
  · rintro i x H0 H' hi ⟨s1, ys, hD, yl, hy⟩ hy1
    have s2 : Same H0 H' := hY i H0 x H' hy1
    refine hs i x H0 H' _ _ hi s1 hy1 (fun e y H4 s4 h4 => ⟨ys, s4 _ _ (s2 _ _ hD), by omega, ?_, ys ++ [y], upd_same, by rw [List.length_append]; exact Nat.succ_le_succ yl, ?_⟩) (fun e H4 s4 => ⟨(s1.trans s2).trans s4, ys, s4 _ _ (s2 _ _ hD), Nat.le_succ_of_le yl, ?_⟩)
    · intro b o e
      rw [upd_ne (ne_of_none e nD)]; exact s4 _ _ (s2 _ _ (s1 _ _ e))
    · have sb : ∀ b o, b ≠ D → H4 b = some o → (upd H4 D (.lst (ys ++ [y]))) b = some o := fun b o n e => by rw [upd_ne n]; exact e
      rw [filt_snoc, if_pos e]
      refine DpAll_but (s4 _ _ (s2 _ _ hD)) sb ?_ (DpAll_snoc h4 (DpAll_same (s2.trans s4) hy))
      refine noLs_all fun d hd => ?_
      rcases List.mem_append.mp hd with hd | hd
      · obtain ⟨k, _, rfl⟩ := List.mem_map.mp hd; exact hn k
      · rw [List.mem_singleton.mp hd]; exact hn i
    · rw [filt_snoc, if_neg (by rw [e]; decide)]
      exact DpAll_same (s2.trans s4) hy
  · rintro H' ⟨s1, ys, hD, yl, hy⟩
    exact hd D H' ys s1 nD hD hy
theorem ypair_same {xs ys : Nat → Option V} (i : Nat) (H0 : Hp) (x : V) (H' : Hp) (h : YPair xs ys i H0 x H') : Same H0 H' := by
  obtain ⟨T, x, y, _, n, rfl, _, _⟩ := h
  exact PB.same_new n
theorem yat_same {xs : List V} (i : Nat) (H0 : Hp) (x : V) (H' : Hp) (h : YAt xs i H0 x H') : Same H0 H' := by
  rw [h.1]; exact fun _ _ e => e
end ZP
set_option Elab.async false
set_option linter.all false
set_option maxHeartbeats 4000000
/-! convex chains of points with whole numbers -/
namespace G4
abbrev Pt := Int × Int
def X (u v : Pt) : Int := u.1 * v.2 - u.2 * v.1
def sb (a b : Pt) : Pt := (b.1 - a.1, b.2 - a.2)
/-- above 0 if a, b, c turn left -/
def cr (a b c : Pt) : Int := (b.1 - a.1) * (c.2 - a.2) - (b.2 - a.2) * (c.1 - a.1)
def Pos (u : Pt) : Prop := 0 < u.1 ∨ (u.1 = 0 ∧ 0 < u.2)
/-- by the first number, then by the second -/
def lx (a b : Pt) : Prop := a.1 < b.1 ∨ (a.1 = b.1 ∧ a.2 < b.2)
theorem lx_pos {a b : Pt} (h : lx a b) : Pos (sb a b) := by
  rcases h with h | ⟨h, k⟩
  · exact .inl (by show 0 < b.1 - a.1; omega)
  · exact .inr ⟨by show b.1 - a.1 = 0; omega, by show 0 < b.2 - a.2; omega⟩
theorem lx_irrefl (a : Pt) : ¬ lx a a := by intro h; rcases h with h | ⟨_, h⟩ <;> omega
theorem lx_trans {a b c : Pt} (h : lx a b) (k : lx b c) : lx a c := by
  unfold lx at *
  omega
theorem lx_asymm {a b : Pt} (h : lx a b) : ¬ lx b a := by unfold lx at *; omega
theorem lx_tri (a b : Pt) : lx a b ∨ a = b ∨ lx b a := by
  unfold lx
  by_cases h : a.1 = b.1
  · by_cases k : a.2 = b.2
    · exact .inr (.inl (Prod.ext h k))
    · omega
  · omega
/-- directions of one half plane: to the left of, carried on -/
theorem T {a b c : Pt} (ha : Pos a) (hb : Pos b) (hc : Pos c) (h : 0 ≤ X a b) (k : 0 ≤ X b c) : 0 ≤ X a c ∧ (0 < X a b ∨ 0 < X b c → 0 < X a c) := by
  obtain ⟨a1, a2⟩ := a
  obtain ⟨b1, b2⟩ := b
  obtain ⟨c1, c2⟩ := c
  unfold Pos X at *
  dsimp only at *
  rcases hb with hb | ⟨hb, hb2⟩
  · -- b1 > 0
    have e : b1 * (a1 * c2 - a2 * c1) = a1 * (b1 * c2 - b2 * c1) + c1 * (a1 * b2 - a2 * b1) := by grind
    have a0 : 0 ≤ a1 := by rcases ha with ha | ⟨ha, _⟩ <;> omega
    have c0 : 0 ≤ c1 := by rcases hc with hc | ⟨hc, _⟩ <;> omega
    have p1 := Int.mul_nonneg a0 k
    have p2 := Int.mul_nonneg c0 h
    have nn : 0 ≤ b1 * (a1 * c2 - a2 * c1) := by omega
    refine ⟨?_, fun hs => ?_⟩
    · rcases Int.lt_or_le (a1 * c2 - a2 * c1) 0 with z | z
      · have := Int.mul_neg_of_pos_of_neg hb z
        omega
      · exact z
    · -- strict
      have st : 0 < b1 * (a1 * c2 - a2 * c1) := by
        rcases hs with hs | hs
        · rcases hc with hc | ⟨hc, hc2⟩
          · have := Int.mul_pos hc hs; omega
          · -- c1 = 0, c2 > 0: a1 > 0 or else contradiction
            rcases ha with ha | ⟨ha, ha2⟩
            · have q : b1 * c2 - b2 * c1 = b1 * c2 := by rw [hc]; omega
              have r := Int.mul_pos hb hc2
              have := Int.mul_pos ha (by omega : 0 < b1 * c2 - b2 * c1)
              omega
            · rw [ha] at hs
              have := Int.mul_pos ha2 hb
              omega
        · rcases ha with ha | ⟨ha, ha2⟩
          · have := Int.mul_pos ha hs; omega
          · rw [ha] at h
            have := Int.mul_pos ha2 hb
            omega
      rcases Int.lt_or_le 0 (a1 * c2 - a2 * c1) with z | z
      · exact z
      · have := Int.mul_nonneg (by omega : 0 ≤ b1) (by omega : 0 ≤ -(a1 * c2 - a2 * c1))
        rw [Int.mul_neg] at this
        omega
  · -- b1 = 0, b2 > 0: then c1 = 0
    subst hb
    have c1z : c1 = 0 := by
      rcases hc with hc | ⟨hc, _⟩
      · have := Int.mul_pos hb2 hc
        omega
      · exact hc
    subst c1z
    have c2p : 0 < c2 := by
      rcases hc with hc | ⟨_, hc⟩
      · omega
      · exact hc
    have a0 : 0 ≤ a1 := by rcases ha with ha | ⟨ha, _⟩ <;> omega
    have p := Int.mul_nonneg a0 (by omega : 0 ≤ c2)
    refine ⟨by omega, fun hs => ?_⟩
    rcases hs with hs | hs
    · have a1p : 0 < a1 := by
        rcases ha with ha | ⟨ha, _⟩
        · exact ha
        · rw [ha] at hs; omega
      have := Int.mul_pos a1p c2p
      omega
    · omega
theorem cr_X (a b c : Pt) : cr a b c = X (sb a b) (sb a c) := rfl
theorem cr_X2 (a b c : Pt) : cr a b c = X (sb a b) (sb b c) := by unfold cr X sb; dsimp only; grind
theorem cr_cyc (a b c : Pt) : cr a b c = cr b c a := by unfold cr; grind
theorem cr_swap (a b c : Pt) : cr a b c = - cr a c b := by unfold cr; grind
theorem cr_self1 (a b : Pt) : cr a b a = 0 := by unfold cr; grind
theorem cr_self2 (a b : Pt) : cr a b b = 0 := by unfold cr; grind
theorem X_neg (u v : Pt) : X u v = - X v u := by unfold X; grind
/-- a, b, c ascending, d behind c: carried on -/
theorem cr_on {a b c d : Pt} (h1 : lx a b) (h2 : lx b c) (h3 : lx b d) (k1 : 0 < cr a b c) (k2 : 0 ≤ cr b c d) : 0 < cr a b d := by
  rw [cr_X2] at k1 ⊢
  rw [cr_X] at k2
  exact (T (lx_pos h1) (lx_pos h2) (lx_pos h3) (by omega) k2).2 (.inl k1)
/-! chains -/
def Conv : List Pt → Prop
  | x :: y :: z :: r => 0 < cr x y z ∧ Conv (y :: z :: r)
  | _ => True
def Abv (S : Pt → Prop) : List Pt → Prop
  | x :: y :: r => (∀ p, S p → 0 ≤ cr x y p) ∧ Abv S (y :: r)
  | _ => True
/-- any three in their order turn left -/
def Tri : List Pt → Prop
  | [] => True
  | a :: r => r.Pairwise (fun p z => 0 < cr a p z) ∧ Tri r
theorem first_left : ∀ (x y : Pt) (r : List Pt), (x :: y :: r).Pairwise lx → Conv (x :: y :: r) → ∀ z ∈ r, 0 < cr x y z
  | _, _, [], _, _ => fun _ h => nomatch h
  | x, y, w :: r, ha, hc => fun z hz => by
    obtain ⟨h1, h2⟩ := List.pairwise_cons.mp ha
    obtain ⟨h3, h4⟩ := List.pairwise_cons.mp h2
    rcases List.mem_cons.mp hz with rfl | hz
    · exact hc.1
    · exact cr_on (h1 y (List.mem_cons_self ..)) (h3 w (List.mem_cons_self ..)) (h3 z (List.mem_cons_of_mem _ hz)) hc.1 (Int.le_of_lt (first_left y w r h2 hc.2 z hz))
theorem conv_tail {x : Pt} {r : List Pt} (h : Conv (x :: r)) : Conv r := by
  cases r with
  | nil => trivial
  | cons y r => cases r with
    | nil => trivial
    | cons z r => exact h.2
theorem tri_of : ∀ (c : List Pt), c.Pairwise lx → Conv c → Tri c
  | [], _, _ => trivial
  | [a], _, _ => ⟨.nil, trivial⟩
  | a :: b :: r, ha, hc => by
    have ha2 := (List.pairwise_cons.mp ha).2
    have ih := tri_of (b :: r) ha2 (conv_tail hc)
    refine ⟨?_, ih⟩
    rw [List.pairwise_cons]
    refine ⟨first_left a b r ha hc, ?_⟩
    have h1 := first_left a b r ha hc
    have p := ih.1
    have ab : lx a b := (List.pairwise_cons.mp ha).1 b (List.mem_cons_self ..)
    have br := (List.pairwise_cons.mp ha2).1
    have rr := (List.pairwise_cons.mp ha2).2
    clear ih hc
    -- each p before z in r
    have : ∀ (r : List Pt), r.Pairwise (fun p z => 0 < cr b p z) → r.Pairwise lx → (∀ z ∈ r, 0 < cr a b z) → (∀ z ∈ r, lx b z) → r.Pairwise (fun p z => 0 < cr a p z) := by
      intro r
      induction r with
      | nil => intros; exact .nil
      | cons p r ih =>
        intro h2 h3 h4 h5
        rw [List.pairwise_cons] at h2 h3 ⊢
        refine ⟨fun z hz => ?_, ih h2.2 h3.2 (fun z hz => h4 z (List.mem_cons_of_mem _ hz)) fun z hz => h5 z (List.mem_cons_of_mem _ hz)⟩
        have k1 := h4 p (List.mem_cons_self ..)
        have k2 := h2.1 z hz
        have bp := h5 p (List.mem_cons_self ..)
        have pz := h3.1 z hz
        rw [cr_X2] at k1 k2
        have t := (T (lx_pos ab) (lx_pos bp) (lx_pos pz) (by omega) (by omega)).2 (.inl k1)
        have e : cr a p z = X (sb a b) (sb p z) + X (sb b p) (sb p z) := by unfold cr X sb; dsimp only; grind
        omega
    exact this r p rr h1 br
theorem tri_conv : ∀ {c : List Pt}, Tri c → Conv c
  | [], _ => trivial
  | [_], _ => trivial
  | [_, _], _ => trivial
  | x :: y :: z :: r, h => ⟨(List.pairwise_cons.mp h.1).1 z (List.mem_cons_self ..), tri_conv h.2⟩
theorem tri_sub : ∀ {c d : List Pt}, d.Sublist c → Tri c → Tri d
  | _, _, .slnil, _ => trivial
  | _, _, .cons _ s, h => tri_sub s h.2
  | _, _, .cons₂ _ s, h => ⟨h.1.sublist s, tri_sub s h.2⟩
/-- points of such a list lie at the left of each side -/
theorem abv_tri : ∀ (pre : List Pt) (x y : Pt) (r : List Pt), Tri (pre ++ x :: y :: r) → ∀ p ∈ pre ++ x :: y :: r, p ≠ x → p ≠ y → 0 < cr x y p
  | [], x, y, r, h => fun p hp nx ny => by
    rcases List.mem_cons.mp hp with e | hp
    · exact absurd e nx
    · rcases List.mem_cons.mp hp with e | hp
      · exact absurd e ny
      · exact (List.pairwise_cons.mp h.1).1 p hp
  | a :: pre, x, y, r, h => fun p hp nx ny => by
    rcases List.mem_cons.mp hp with rfl | hp
    · have q : (pre ++ x :: y :: r).Pairwise (fun p_1 z => 0 < cr p p_1 z) := h.1
      rw [List.pairwise_append] at q
      have q := (List.pairwise_cons.mp q.2.1).1 y (List.mem_cons_self ..)
      rw [← cr_cyc]
      exact q
    · exact abv_tri pre x y r h.2 p hp nx ny
/-- a chain below a lot of points -/
structure Ch (S : Pt → Prop) (c : List Pt) : Prop where
  asc : c.Pairwise lx
  sub : ∀ p ∈ c, S p
  conv : Conv c
  abv : Abv S c
/-- the same first and the same last point: the same chain -/
theorem key {a x z y : Pt} (ax : lx a x) (xz : lx x z) (c0 : cr a x z = 0) (k : 0 < cr a x y) : cr x y z < 0 := by
  have hu := lx_pos ax
  have hw := lx_pos xz
  rw [cr_X2] at c0 k
  have e : cr x y z = X (sb x y) (sb x z) := rfl
  rw [e]
  generalize sb a x = u at *
  generalize sb x z = w at *
  generalize sb x y = v at *
  obtain ⟨u1, u2⟩ := u
  obtain ⟨w1, w2⟩ := w
  obtain ⟨v1, v2⟩ := v
  unfold Pos X at *
  dsimp only at *
  rcases hu with u | ⟨u, u'⟩
  · have w1p : 0 < w1 := by
      rcases hw with w | ⟨w, w'⟩
      · exact w
      · rw [w, Int.mul_zero] at c0
        have := Int.mul_pos u w'
        omega
    have e : u1 * (v1 * w2 - v2 * w1) = -(w1 * (u1 * v2 - u2 * v1)) + v1 * (u1 * w2 - u2 * w1) := by grind
    rw [c0, Int.mul_zero] at e
    have := Int.mul_pos w1p k
    rcases Int.lt_or_le (v1 * w2 - v2 * w1) 0 with z | z
    · exact z
    · have := Int.mul_nonneg (by omega : 0 ≤ u1) z
      omega
  · subst u
    have w1z : w1 = 0 := by
      rcases Int.lt_trichotomy w1 0 with z | z | z
      · rcases hw with w | ⟨w, _⟩ <;> omega
      · exact z
      · have := Int.mul_pos u' z
        omega
    subst w1z
    have w2p : 0 < w2 := by rcases hw with w | ⟨_, w⟩ <;> omega
    have v1n : v1 < 0 := by
      rcases Int.lt_or_le v1 0 with z | z
      · exact z
      · have := Int.mul_nonneg (by omega : 0 ≤ u2) z
        omega
    have := Int.mul_neg_of_neg_of_pos v1n w2p
    omega
theorem ch_unique {S : Pt → Prop} : ∀ (n : Nat) (a : Pt) (t t' : List Pt), t.length + t'.length ≤ n → Ch S (a :: t) → Ch S (a :: t') → (a :: t).getLast (List.cons_ne_nil _ _) = (a :: t').getLast (List.cons_ne_nil _ _) → t = t'
  | _, a, [], [], _, _, _, _ => rfl
  | _, a, [], x :: r, _, _, h, e => by
    exfalso
    rw [List.getLast_cons (List.cons_ne_nil _ _)] at e
    have m : (x :: r).getLast (List.cons_ne_nil _ _) ∈ x :: r := List.getLast_mem _
    have := (List.pairwise_cons.mp h.asc).1 _ m
    rw [← e] at this
    exact lx_irrefl _ this
  | _, a, x :: r, [], _, h, _, e => by
    exfalso
    rw [List.getLast_cons (List.cons_ne_nil _ _)] at e
    have m : (x :: r).getLast (List.cons_ne_nil _ _) ∈ x :: r := List.getLast_mem _
    have := (List.pairwise_cons.mp h.asc).1 _ m
    rw [e] at this
    exact lx_irrefl _ this
  | 0, a, x :: r, x' :: r', hn, _, _, _ => by simp at hn
  | n + 1, a, x :: r, x' :: r', hn, h, h', e => by
    have half : ∀ {x x' : Pt} {r r' : List Pt}, Ch S (a :: x :: r) → Ch S (a :: x' :: r') → (x :: r).getLast (List.cons_ne_nil _ _) = (x' :: r').getLast (List.cons_ne_nil _ _) → lx x x' → cr a x x' = 0 → False := by
      intro x x' r r' h h' e l z
      have ax : lx a x := (List.pairwise_cons.mp h.asc).1 x (List.mem_cons_self ..)
      cases r with
      | nil =>
        have asc' := (List.pairwise_cons.mp h'.asc).2
        have ex : x = (x' :: r').getLast (List.cons_ne_nil _ _) := e
        cases r' with
        | nil => rw [ex] at l; exact lx_irrefl _ l
        | cons w r' =>
          rw [List.getLast_cons (List.cons_ne_nil _ _)] at ex
          have := (List.pairwise_cons.mp asc').1 _ (List.getLast_mem (List.cons_ne_nil w r'))
          rw [← ex] at this
          exact lx_asymm this l
      | cons y r =>
        have k := key ax l z h.conv.1
        have := h.abv.2.1 x' (h'.sub x' (List.mem_cons_of_mem _ (List.mem_cons_self ..)))
        omega
    have e2 : (x :: r).getLast (List.cons_ne_nil _ _) = (x' :: r').getLast (List.cons_ne_nil _ _) := by
      rw [List.getLast_cons (List.cons_ne_nil _ _), List.getLast_cons (List.cons_ne_nil _ _)] at e
      exact e
    have z1 := h.abv.1 x' (h'.sub x' (List.mem_cons_of_mem _ (List.mem_cons_self ..)))
    have z2 := h'.abv.1 x (h.sub x (List.mem_cons_of_mem _ (List.mem_cons_self ..)))
    have z3 : cr a x x' = 0 := by rw [cr_swap] at z2; omega
    have ex : x = x' := by
      rcases lx_tri x x' with l | l | l
      · exact (half h h' e2 l z3).elim
      · exact l
      · exact (half h' h e2.symm l (by rw [cr_swap]; omega)).elim
    subst ex
    have t1 : Ch S (x :: r) := ⟨(List.pairwise_cons.mp h.asc).2, fun p hp => h.sub p (List.mem_cons_of_mem _ hp), conv_tail h.conv, h.abv.2⟩
    have t2 : Ch S (x :: r') := ⟨(List.pairwise_cons.mp h'.asc).2, fun p hp => h'.sub p (List.mem_cons_of_mem _ hp), conv_tail h'.conv, h'.abv.2⟩
    rw [ch_unique n x r r' (by simp at hn; omega) t1 t2 e2]
/-! the chain's making: a stack, its top first -/
def push (p : Pt) : List Pt → List Pt
  | y :: x :: r => if cr x y p ≤ 0 then push p (x :: r) else p :: y :: x :: r
  | st => p :: st
def SConv : List Pt → Prop
  | z :: y :: x :: r => 0 < cr x y z ∧ SConv (y :: x :: r)
  | _ => True
def SAbv (S : Pt → Prop) : List Pt → Prop
  | y :: x :: r => (∀ p, S p → 0 ≤ cr x y p) ∧ SAbv S (x :: r)
  | _ => True
def SAsc (st : List Pt) : Prop := st.Pairwise fun y x => lx x y
theorem sconv_tail {x : Pt} {r : List Pt} (h : SConv (x :: r)) : SConv r := by
  cases r with
  | nil => trivial
  | cons y r => cases r with
    | nil => trivial
    | cons z r => exact h.2
/-- a new last point lies at the left of all sides below -/
theorem sabv_new {P : Pt → Prop} {p : Pt} : ∀ {y : Pt} {st : List Pt}, (∀ q ∈ y :: st, lx q p) → SAsc (y :: st) → SConv (y :: st) → SAbv P (y :: st) → (∀ x r, st = x :: r → 0 < cr x y p) → SAbv (fun q => P q ∨ q = p) (y :: st)
  | _, [], _, _, _, _, _ => trivial
  | y, x :: r, hl, ha, hc, hb, ht => by
    refine ⟨fun q hq => ?_, ?_⟩
    · rcases hq with hq | rfl
      · exact hb.1 q hq
      · exact Int.le_of_lt (ht x r rfl)
    · obtain ⟨a1, a2⟩ := List.pairwise_cons.mp ha
      refine sabv_new (fun q hq => hl q (List.mem_cons_of_mem _ hq)) a2 (sconv_tail hc) hb.2 fun w r' e => ?_
      subst e
      have wx : lx w x := (List.pairwise_cons.mp a2).1 w (List.mem_cons_self ..)
      have xy : lx x y := a1 x (List.mem_cons_self ..)
      exact cr_on wx xy (hl x (List.mem_cons_of_mem _ (List.mem_cons_self ..))) hc.1 (Int.le_of_lt (ht x _ rfl))
/-- what a stack is for the points P -/
structure St (P : Pt → Prop) (b : Pt) (st : List Pt) : Prop where
  asc : SAsc st
  sub : ∀ q ∈ st, P q
  conv : SConv st
  abv : SAbv P st
  last : st.getLast? = some b
theorem push_ok {P : Pt → Prop} {p b : Pt} (hp : ∀ q, P q → lx q p) (hb : ∀ q, P q → q = b ∨ lx b q) : ∀ (y : Pt) (st : List Pt), St P b (y :: st) → (∀ q, P q → (q = y ∨ lx q y) ∨ 0 ≤ cr y p q) →
    ∃ r, push p (y :: st) = p :: r ∧ St (fun q => P q ∨ q = p) b (p :: r)
  | y, [], h, inv => by
    refine ⟨[y], rfl, ?_, ?_, trivial, ⟨fun q hq => ?_, trivial⟩, ?_⟩
    · exact List.pairwise_cons.mpr ⟨fun q hq => by rw [List.mem_singleton.mp hq]; exact hp y (h.sub y (List.mem_cons_self ..)), List.pairwise_singleton _ _⟩
    · intro q hq
      rcases List.mem_cons.mp hq with rfl | hq
      · exact .inr rfl
      · rw [List.mem_singleton.mp hq]; exact .inl (h.sub y (List.mem_cons_self ..))
    · rcases hq with hq | rfl
      · have yb : y = b := by have := h.last; simpa using this
        rcases inv q hq with (k | k) | k
        · subst k; rw [cr_self1]; exact Int.le_refl _
        · rcases hb q hq with e | e
          · rw [e, ← yb, cr_self1]; exact Int.le_refl _
          · rw [← yb] at e; exact absurd k (lx_asymm e)
        · exact k
      · rw [cr_self2]; exact Int.le_refl _
    · have := h.last
      simpa using this
  | y, x :: r, h, inv => by
    have py : P y := h.sub y (List.mem_cons_self ..)
    have px : P x := h.sub x (List.mem_cons_of_mem _ (List.mem_cons_self ..))
    obtain ⟨a1, a2⟩ := List.pairwise_cons.mp h.asc
    have xy : lx x y := a1 x (List.mem_cons_self ..)
    have xp := hp x px
    have yp := hp y py
    by_cases c : cr x y p ≤ 0
    · have e : push p (y :: x :: r) = push p (x :: r) := if_pos c
      rw [e]
      refine push_ok hp hb x r ⟨a2, fun q hq => h.sub q (List.mem_cons_of_mem _ hq), sconv_tail h.conv, h.abv.2, ?_⟩ fun q hq => ?_
      · have := h.last
        rw [List.getLast?_cons_cons] at this
        exact this
      · rcases lx_tri q x with l | l | l
        · exact .inl (.inr l)
        · exact .inl (.inl l)
        · refine .inr ?_
          have k1 : 0 ≤ X (sb x p) (sb x y) := by rw [X_neg]; have := cr_X x y p; omega
          have k2 : 0 ≤ X (sb x y) (sb x q) := h.abv.1 q hq
          exact (T (lx_pos xp) (lx_pos xy) (lx_pos l) k1 k2).1
    · have e : push p (y :: x :: r) = p :: y :: x :: r := if_neg c
      have c' : 0 < cr x y p := by omega
      refine ⟨y :: x :: r, e, ?_, ?_, ⟨c', h.conv⟩, ⟨fun q hq => ?_, ?_⟩, ?_⟩
      · exact List.pairwise_cons.mpr ⟨fun q hq => hp q (h.sub q hq), h.asc⟩
      · intro q hq
        rcases List.mem_cons.mp hq with rfl | hq
        · exact .inr rfl
        · exact .inl (h.sub q hq)
      · rcases hq with hq | rfl
        · rcases inv q hq with (k | k) | k
          · subst k; rw [cr_self1]; exact Int.le_refl _
          · -- q before y
            have k1 : 0 ≤ cr x y q := h.abv.1 q hq
            have qy := lx_pos k
            -- v' = y - q, u = y - x, w = p - y
            have e1 : cr x y q = X (sb q y) (sb x y) := by unfold cr X sb; dsimp only; grind
            have e2 : cr y p q = X (sb q y) (sb y p) := by unfold cr X sb; dsimp only; grind
            rw [e1] at k1
            rw [cr_X2] at c'
            rw [e2]
            exact (T qy (lx_pos xy) (lx_pos yp) k1 (by omega)).1
          · exact k
        · rw [cr_self2]; exact Int.le_refl _
      · exact sabv_new (fun q hq => hp q (h.sub q hq)) h.asc h.conv h.abv fun x' r' e => by cases e; exact c'
      · have := h.last
        rw [List.getLast?_cons_cons]
        exact this
/-- the stack behind rows in ascending order -/
theorem run_ok : ∀ (rows : List Pt) (b : Pt) (P : Pt → Prop) (y : Pt) (st : List Pt), (y :: rows).Pairwise lx → (∀ q, P q → q = y ∨ lx q y) → (∀ q, P q → q = b ∨ lx b q) → St P b (y :: st) →
    ∃ z r, rows.foldl (fun s p => push p s) (y :: st) = z :: r ∧ St (fun q => P q ∨ q ∈ rows) b (z :: r) ∧ z = (y :: rows).getLast (List.cons_ne_nil _ _)
  | [], b, P, y, st, _, _, _, h => ⟨y, st, rfl, by
      have e : (fun q => P q ∨ q ∈ ([] : List Pt)) = P := by funext q; simp
      rw [e]; exact h, rfl⟩
  | p :: rows, b, P, y, st, ha, hm, hb, h => by
    obtain ⟨a1, a2⟩ := List.pairwise_cons.mp ha
    have yp := a1 p (List.mem_cons_self ..)
    have hp : ∀ q, P q → lx q p := fun q hq => (hm q hq).elim (fun e => e ▸ yp) fun l => lx_trans l yp
    obtain ⟨r, e, h2⟩ := push_ok hp hb y st h fun q hq => .inl (hm q hq)
    have py : P y := h.sub y (List.mem_cons_self ..)
    obtain ⟨z, r2, e2, h3, h4⟩ := run_ok rows b (fun q => P q ∨ q = p) p r a2 (fun q hq => hq.elim (fun z => .inr (hp q z)) .inl) (fun q hq => hq.elim (hb q) fun z => by
      subst z
      rcases hb y py with e | e
      · exact .inr (e ▸ yp)
      · exact .inr (lx_trans e yp)) h2
    refine ⟨z, r2, ?_, ?_, ?_⟩
    · rw [List.foldl_cons, e, e2]
    · have e : (fun q => P q ∨ q ∈ p :: rows) = fun q => (P q ∨ q = p) ∨ q ∈ rows := by
        funext q; rw [List.mem_cons, or_assoc]
      rw [e]; exact h3
    · rw [h4]; rfl
/-- by splitting, the same from both ends -/
theorem conv_iff : ∀ (c : List Pt), Conv c ↔ ∀ pre x y z r, c = pre ++ x :: y :: z :: r → 0 < cr x y z
  | [] => ⟨fun _ pre x y z r e => by simp at e, fun _ => trivial⟩
  | [a] => ⟨fun _ pre x y z r e => by have := congrArg List.length e; simp at this; omega, fun _ => trivial⟩
  | [a, b] => ⟨fun _ pre x y z r e => by have := congrArg List.length e; simp at this; omega, fun _ => trivial⟩
  | a :: b :: d :: r => by
    have ih := conv_iff (b :: d :: r)
    refine ⟨fun h pre x y z r' e => ?_, fun h => ⟨h [] a b d r rfl, ih.mpr fun pre x y z r' e => h (a :: pre) x y z r' (by rw [e]; rfl)⟩⟩
    cases pre with
    | nil => cases e; exact h.1
    | cons w pre => exact ih.mp h.2 pre x y z r' (List.cons.inj e).2
theorem sconv_iff : ∀ (c : List Pt), SConv c ↔ ∀ pre z y x r, c = pre ++ z :: y :: x :: r → 0 < cr x y z
  | [] => ⟨fun _ pre x y z r e => by simp at e, fun _ => trivial⟩
  | [a] => ⟨fun _ pre x y z r e => by have := congrArg List.length e; simp at this; omega, fun _ => trivial⟩
  | [a, b] => ⟨fun _ pre x y z r e => by have := congrArg List.length e; simp at this; omega, fun _ => trivial⟩
  | a :: b :: d :: r => by
    have ih := sconv_iff (b :: d :: r)
    refine ⟨fun h pre x y z r' e => ?_, fun h => ⟨h [] a b d r rfl, ih.mpr fun pre x y z r' e => h (a :: pre) x y z r' (by rw [e]; rfl)⟩⟩
    cases pre with
    | nil => cases e; exact h.1
    | cons w pre => exact ih.mp h.2 pre x y z r' (List.cons.inj e).2
theorem abv_iff (S : Pt → Prop) : ∀ (c : List Pt), Abv S c ↔ ∀ pre x y r, c = pre ++ x :: y :: r → ∀ p, S p → 0 ≤ cr x y p
  | [] => ⟨fun _ pre x y r e => by simp at e, fun _ => trivial⟩
  | [a] => ⟨fun _ pre x y r e => by have := congrArg List.length e; simp at this; omega, fun _ => trivial⟩
  | a :: b :: r => by
    have ih := abv_iff S (b :: r)
    refine ⟨fun h pre x y r' e => ?_, fun h => ⟨h [] a b r rfl, ih.mpr fun pre x y r' e => h (a :: pre) x y r' (by rw [e]; rfl)⟩⟩
    cases pre with
    | nil => cases e; exact h.1
    | cons w pre => exact ih.mp h.2 pre x y r' (List.cons.inj e).2
theorem sabv_iff (S : Pt → Prop) : ∀ (c : List Pt), SAbv S c ↔ ∀ pre y x r, c = pre ++ y :: x :: r → ∀ p, S p → 0 ≤ cr x y p
  | [] => ⟨fun _ pre x y r e => by simp at e, fun _ => trivial⟩
  | [a] => ⟨fun _ pre x y r e => by have := congrArg List.length e; simp at this; omega, fun _ => trivial⟩
  | a :: b :: r => by
    have ih := sabv_iff S (b :: r)
    refine ⟨fun h pre x y r' e => ?_, fun h => ⟨h [] a b r rfl, ih.mpr fun pre x y r' e => h (a :: pre) x y r' (by rw [e]; rfl)⟩⟩
    cases pre with
    | nil => cases e; exact h.1
    | cons w pre => exact ih.mp h.2 pre x y r' (List.cons.inj e).2
theorem conv_rev {st : List Pt} (h : SConv st) : Conv st.reverse := (conv_iff _).mpr fun pre x y z r e => by
  have e2 : st = r.reverse ++ z :: y :: x :: pre.reverse := by
    have := congrArg List.reverse e
    simpa using this
  exact (sconv_iff st).mp h _ _ _ _ _ e2
theorem abv_rev {S : Pt → Prop} {st : List Pt} (h : SAbv S st) : Abv S st.reverse := (abv_iff S _).mpr fun pre x y r e => by
  have e2 : st = r.reverse ++ y :: x :: pre.reverse := by
    have := congrArg List.reverse e
    simpa using this
  exact (sabv_iff S st).mp h _ _ _ _ e2
def chain (rows : List Pt) : List Pt := (rows.foldl (fun s p => push p s) []).reverse
/-- the chain of ascending rows -/
theorem chain_ok {a : Pt} {rows : List Pt} (h : (a :: rows).Pairwise lx) : ∃ t, chain (a :: rows) = a :: t ∧ Ch (fun q => q ∈ a :: rows) (a :: t) ∧ (a :: t).getLast (List.cons_ne_nil _ _) = (a :: rows).getLast (List.cons_ne_nil _ _) := by
  obtain ⟨z, r, e, hs, hz⟩ := run_ok rows a (fun q => q = a) a [] h (fun q hq => .inl hq) (fun q hq => .inl hq) ⟨List.pairwise_singleton _ _, fun q hq => List.mem_singleton.mp hq, trivial, trivial, rfl⟩
  have e1 : chain (a :: rows) = (z :: r).reverse := by
    unfold chain
    rw [List.foldl_cons]
    show (rows.foldl (fun s p => push p s) [a]).reverse = _
    rw [e]
  have hd : (z :: r).reverse.head? = some a := by rw [List.head?_reverse]; exact hs.last
  obtain ⟨t, et⟩ : ∃ t, (z :: r).reverse = a :: t := by
    cases k : (z :: r).reverse with
    | nil => rw [k] at hd; cases hd
    | cons b t => rw [k] at hd; cases hd; exact ⟨t, rfl⟩
  have eP : (fun q => q = a ∨ q ∈ rows) = fun q => q ∈ a :: rows := by funext q; rw [List.mem_cons]
  rw [eP] at hs
  refine ⟨t, e1.trans et, ?_, ?_⟩
  · rw [← et]
    exact ⟨by rw [List.pairwise_reverse]; exact hs.asc, fun p hp => hs.sub p (List.mem_reverse.mp hp), conv_rev hs.conv, abv_rev hs.abv⟩
  · have : (a :: t).getLast? = some z := by rw [← et, List.getLast?_reverse]; rfl
    rw [List.getLast?_eq_some_getLast (List.cons_ne_nil _ _)] at this
    rw [← hz]
    exact Option.some.inj this
/-! both chains: the hull -/
def ng (p : Pt) : Pt := (-p.1, -p.2)
theorem ng_ng (p : Pt) : ng (ng p) = p := Prod.ext (Int.neg_neg _) (Int.neg_neg _)
theorem cr_ng (a b c : Pt) : cr (ng a) (ng b) (ng c) = cr a b c := by unfold cr ng; dsimp only; grind
theorem lx_ng {a b : Pt} : lx (ng a) (ng b) ↔ lx b a := by unfold lx ng; dsimp only; omega
theorem push_ng (p : Pt) : ∀ st : List Pt, push (ng p) (st.map ng) = (push p st).map ng
  | [] => rfl
  | [a] => rfl
  | y :: x :: r => by
    show (if cr (ng x) (ng y) (ng p) ≤ 0 then push (ng p) ((x :: r).map ng) else ng p :: ng y :: ng x :: r.map ng) = List.map ng (if cr x y p ≤ 0 then push p (x :: r) else p :: y :: x :: r)
    rw [cr_ng]
    split
    · exact push_ng p (x :: r)
    · rfl
theorem fold_ng : ∀ (l st : List Pt), (l.map ng).foldl (fun s p => push p s) (st.map ng) = (l.foldl (fun s p => push p s) st).map ng
  | [], _ => rfl
  | p :: l, st => by rw [List.map_cons, List.foldl_cons, List.foldl_cons, push_ng, fold_ng l]
theorem chain_ng (l : List Pt) : chain (l.map ng) = (chain l).map ng := by
  unfold chain
  rw [List.map_reverse, ← fold_ng l []]
  rfl
theorem map_ng_ng (l : List Pt) : (l.map ng).map ng = l := by
  rw [List.map_map]
  exact (List.map_congr_left fun x _ => ng_ng x).trans (List.map_id _)
/-- the two chains round the points S, from a to b and back -/
structure HL (S : Pt → Prop) (a b : Pt) (l u : List Pt) : Prop where
  hL : Ch S (a :: (l ++ [b]))
  hU : Ch (fun q => S (ng q)) ((b :: (u ++ [a])).map ng)
  mn : ∀ q, S q → q = a ∨ lx a q
  mx : ∀ q, S q → q = b ∨ lx q b
  ab : lx a b
theorem HL.swap {S : Pt → Prop} {a b : Pt} {l u : List Pt} (h : HL S a b l u) : HL (fun q => S (ng q)) (ng b) (ng a) (u.map ng) (l.map ng) where
  hL := by
    have := h.hU
    rw [List.map_cons, List.map_append] at this
    exact this
  hU := by
    have e : (ng a :: (l.map ng ++ [ng b])).map ng = a :: (l ++ [b]) := by
      rw [List.map_cons, List.map_append, map_ng_ng, ng_ng]
      show a :: (l ++ [ng (ng b)]) = _
      rw [ng_ng]
    rw [e]
    have e2 : (fun q => S (ng (ng q))) = S := by funext q; rw [ng_ng]
    show Ch (fun q => S (ng (ng q))) _
    rw [e2]
    exact h.hL
  mn := fun q hq => by
    rcases h.mx (ng q) hq with e | e
    · exact .inl (by rw [← e, ng_ng])
    · exact .inr (by rw [← ng_ng q]; exact lx_ng.mpr e)
  mx := fun q hq => by
    rcases h.mn (ng q) hq with e | e
    · exact .inl (by rw [← e, ng_ng])
    · exact .inr (by rw [← ng_ng q]; exact lx_ng.mpr e)
  ab := lx_ng.mpr h.ab
theorem tail_last {a b : Pt} : ∀ {t : List Pt}, (a :: t).getLast (List.cons_ne_nil _ _) = b → a ≠ b → ∃ l, t = l ++ [b]
  | [], e, n => absurd e n
  | x :: r, e, _ => ⟨(x :: r).dropLast, by
      rw [List.getLast_cons (List.cons_ne_nil _ _)] at e
      rw [← e, List.dropLast_concat_getLast]⟩
theorem asc_max : ∀ {rows : List Pt} (h : rows.Pairwise lx) (ne : rows ≠ []) (q : Pt), q ∈ rows → q = rows.getLast ne ∨ lx q (rows.getLast ne)
  | [a], _, _, q, hq => .inl (List.mem_singleton.mp hq)
  | a :: x :: r, h, _, q, hq => by
    rw [List.getLast_cons (List.cons_ne_nil _ _)]
    obtain ⟨h1, h2⟩ := List.pairwise_cons.mp h
    rcases List.mem_cons.mp hq with rfl | hq
    · exact .inr (h1 _ (List.getLast_mem _))
    · exact asc_max h2 _ q hq
/-- a hull's corners of rows in ascending order -/
def hullR (rows : List Pt) : List Pt := if rows.length = 1 then rows else (chain rows).dropLast ++ (chain rows.reverse).dropLast
theorem hull_HL {a x : Pt} {r : List Pt} (h : (a :: x :: r).Pairwise lx) : ∃ b l u, HL (fun q => q ∈ a :: x :: r) a b l u ∧ hullR (a :: x :: r) = a :: (l ++ b :: u) := by
  obtain ⟨t, e1, c1, g1⟩ := chain_ok h
  have ab : lx a ((a :: x :: r).getLast (List.cons_ne_nil _ _)) := by
    rw [List.getLast_cons (List.cons_ne_nil _ _)]
    exact (List.pairwise_cons.mp h).1 _ (List.getLast_mem _)
  have mx := asc_max h (List.cons_ne_nil _ _)
  have hr : ((a :: x :: r).reverse.map ng).Pairwise lx := by
    rw [List.pairwise_map, List.pairwise_reverse]
    exact h.imp fun k => lx_ng.mpr k
  generalize eb : (a :: x :: r).getLast (List.cons_ne_nil _ _) = b at ab mx g1
  obtain ⟨l, rfl⟩ := tail_last g1 fun e => by rw [e] at ab; exact lx_irrefl _ ab
  obtain ⟨s, es⟩ : ∃ s, (a :: x :: r).reverse = b :: s := by
    have hd : (a :: x :: r).reverse.head? = some b := by
      rw [List.head?_reverse, List.getLast?_eq_some_getLast (List.cons_ne_nil _ _), eb]
    cases k : (a :: x :: r).reverse with
    | nil => rw [k] at hd; cases hd
    | cons c s => rw [k] at hd; cases hd; exact ⟨s, rfl⟩
  rw [es, List.map_cons] at hr
  obtain ⟨t2, e2, c2, g2⟩ := chain_ok hr
  have gl : (ng b :: s.map ng).getLast (List.cons_ne_nil _ _) = ng a := by
    have : (ng b :: s.map ng).getLast? = some (ng a) := by
      rw [← List.map_cons (f := ng) (a := b), ← es, List.map_reverse, List.getLast?_reverse]
      rfl
    rw [List.getLast?_eq_some_getLast (List.cons_ne_nil _ _)] at this
    exact Option.some.inj this
  rw [gl] at g2
  obtain ⟨u', rfl⟩ := tail_last g2 fun e => by
    have : a = b := by rw [← ng_ng a, ← e, ng_ng]
    rw [this] at ab
    exact lx_irrefl _ ab
  have e3 : chain (a :: x :: r).reverse = b :: (u'.map ng ++ [a]) := by
    have k : chain ((b :: s).map ng) = ng b :: (u' ++ [ng a]) := e2
    rw [chain_ng] at k
    rw [es, ← map_ng_ng (chain (b :: s)), k, List.map_cons, List.map_append, ng_ng]
    show b :: (u'.map ng ++ [ng (ng a)]) = _
    rw [ng_ng]
  refine ⟨b, l, u'.map ng, ⟨c1, ?_, fun q hq => ?_, mx, ab⟩, ?_⟩
  · have e4 : (b :: (u'.map ng ++ [a])).map ng = ng b :: (u' ++ [ng a]) := by
      rw [List.map_cons, List.map_append, map_ng_ng]; rfl
    rw [e4]
    have e5 : (fun q => q ∈ ng b :: s.map ng) = fun q => ng q ∈ a :: x :: r := by
      funext q
      rw [← List.map_cons (f := ng) (a := b), ← es]
      apply propext
      constructor
      · intro m
        obtain ⟨z, hz, rfl⟩ := List.mem_map.mp m
        rw [ng_ng]
        exact List.mem_reverse.mp hz
      · intro m
        exact List.mem_map.mpr ⟨ng q, List.mem_reverse.mpr m, ng_ng q⟩
    rw [e5] at c2
    exact c2
  · rcases List.mem_cons.mp hq with e | hq
    · exact .inl e
    · exact .inr ((List.pairwise_cons.mp h).1 q hq)
  · unfold hullR
    rw [if_neg (by simp), e1, e3]
    rw [← List.cons_append, List.dropLast_concat, ← List.cons_append, List.dropLast_concat]
    rfl
theorem HL.unique {S : Pt → Prop} {a b a' b' : Pt} {l u l' u' : List Pt} (h : HL S a b l u) (h' : HL S a' b' l' u') : a = a' ∧ b = b' ∧ l = l' ∧ u = u' := by
  have Sa := h.hL.sub a (List.mem_cons_self ..)
  have Sb := h.hL.sub b (by simp)
  have Sa' := h'.hL.sub a' (List.mem_cons_self ..)
  have Sb' := h'.hL.sub b' (by simp)
  have ea : a = a' := by
    rcases h'.mn a Sa with e | e
    · exact e
    · rcases h.mn a' Sa' with k | k
      · exact k.symm
      · exact (lx_asymm e k).elim
  have eb : b = b' := by
    rcases h'.mx b Sb with e | e
    · exact e
    · rcases h.mx b' Sb' with k | k
      · exact k.symm
      · exact (lx_asymm e k).elim
  subst ea eb
  have lst : ∀ (c d : Pt) (m : List Pt), (c :: (m ++ [d])).getLast (List.cons_ne_nil _ _) = d := fun c d m => by
    rw [List.getLast_cons (by simp)]; simp
  have k1 := ch_unique _ a (l ++ [b]) (l' ++ [b]) (Nat.le_refl _) h.hL h'.hL (by rw [lst, lst])
  have s1 := h.swap.hL
  have s2 := h'.swap.hL
  have k2 := ch_unique _ (ng b) (u.map ng ++ [ng a]) (u'.map ng ++ [ng a]) (Nat.le_refl _) s1 s2 (by rw [lst, lst])
  refine ⟨rfl, rfl, List.append_cancel_right k1, ?_⟩
  have k3 := List.append_cancel_right k2
  rw [← map_ng_ng u, k3, map_ng_ng]
/-- the hull of ascending rows with given chains -/
theorem hull_eq {rows : List Pt} {a b : Pt} {l u : List Pt} (h : rows.Pairwise lx) (k : HL (fun q => q ∈ rows) a b l u) : hullR rows = a :: (l ++ b :: u) := by
  match rows, h, k with
  | [], _, k => exact nomatch k.hL.sub a (List.mem_cons_self ..)
  | [x], _, k =>
    have e1 := List.mem_singleton.mp (k.hL.sub a (List.mem_cons_self ..))
    have e2 := List.mem_singleton.mp (k.hL.sub b (by simp))
    have := k.ab
    rw [e1, e2] at this
    exact (lx_irrefl _ this).elim
  | x :: y :: r, h, k =>
    obtain ⟨b', l', u', k', e⟩ := hull_HL h
    obtain ⟨rfl, rfl, rfl, rfl⟩ := k.unique k'
    exact e
section
variable {S : Pt → Prop} {a b : Pt} {l u : List Pt}
theorem HL.triL (h : HL S a b l u) : Tri (a :: (l ++ [b])) := tri_of _ h.hL.asc h.hL.conv
theorem HL.low (h : HL S a b l u) : ∀ p ∈ l, lx a p ∧ lx p b ∧ 0 < cr a p b := fun p hp => by
  have asc := h.hL.asc
  obtain ⟨h1, h2⟩ := List.pairwise_cons.mp asc
  have h3 := (List.pairwise_append.mp h2).2.2 p hp b (by simp)
  have t := (List.pairwise_append.mp h.triL.1).2.2 p hp b (by simp)
  exact ⟨h1 p (by simp [hp]), h3, t⟩
theorem HL.up (h : HL S a b l u) : ∀ p ∈ u, lx a p ∧ lx p b ∧ 0 < cr a b p := fun p hp => by
  obtain ⟨h1, h2, h3⟩ := h.swap.low (ng p) (List.mem_map.mpr ⟨p, hp, rfl⟩)
  rw [cr_ng] at h3
  refine ⟨lx_ng.mp h2, lx_ng.mp h1, ?_⟩
  rw [← cr_cyc] at h3
  have e : cr a b p = cr b p a := cr_cyc a b p
  rw [e]
  rw [cr_cyc] at h3
  exact h3
/-- a point above the chord lies strictly at the left of each side below -/
theorem above {x y a b w : Pt} (dxy : lx x y) (h1 : 0 ≤ cr x y a) (h2 : 0 ≤ cr x y b) (ab : lx a b) (aw : lx a w) (wb : lx w b) (k : 0 < cr a b w) : 0 < cr x y w := by
  have d := lx_pos dxy
  have e := lx_pos ab
  have c := lx_pos aw
  have v := lx_pos wb
  have k1 : 0 < X (sb a b) (sb a w) := k
  rcases Int.lt_or_le (X (sb x y) (sb a b)) 0 with z | z
  · have q : 0 < X (sb a b) (sb x y) := by rw [X_neg]; omega
    have q2 : 0 < X (sb w b) (sb a b) := by
      have : X (sb w b) (sb a b) = X (sb a b) (sb a w) := by unfold X sb; dsimp only; grind
      omega
    have t := (T v e d (by omega) (by omega)).2 (.inl q2)
    have : cr x y w = cr x y b + X (sb w b) (sb x y) := by unfold cr X sb; dsimp only; grind
    omega
  · have t := (T d e c z (by omega)).2 (.inr k1)
    have : cr x y w = cr x y a + X (sb x y) (sb a w) := by unfold cr X sb; dsimp only; grind
    omega
theorem HL.mem (h : HL S a b l u) : ∀ p ∈ a :: (l ++ b :: u), S p := fun p hp => by
  rcases List.mem_cons.mp hp with rfl | hp
  · exact h.hL.sub _ (List.mem_cons_self ..)
  · rcases List.mem_append.mp hp with hp | hp
    · exact h.hL.sub _ (by simp [hp])
    · rcases List.mem_cons.mp hp with rfl | hp
      · exact h.hL.sub _ (by simp)
      · have := h.hU.sub (ng p) (List.mem_map.mpr ⟨p, by simp [hp], rfl⟩)
        rw [ng_ng] at this
        exact this
theorem HL.nodup (h : HL S a b l u) : (a :: (l ++ b :: u)).Nodup := by
  have asc := h.hL.asc
  obtain ⟨h1, h2⟩ := List.pairwise_cons.mp asc
  have ascU := h.swap.hL.asc
  obtain ⟨k1, k2⟩ := List.pairwise_cons.mp ascU
  have ln : l.Nodup := (List.pairwise_append.mp h2).1.imp fun k e => by rw [e] at k; exact lx_irrefl _ k
  have un : u.Nodup := by
    have := (List.pairwise_append.mp k2).1
    rw [List.pairwise_map] at this
    exact this.imp fun k e => by rw [e] at k; exact lx_irrefl _ k
  rw [List.nodup_cons]
  refine ⟨fun m => ?_, List.nodup_append.mpr ⟨ln, List.nodup_cons.mpr ⟨fun m => ?_, un⟩, fun p hp q hq => ?_⟩⟩
  · rcases List.mem_append.mp m with m | m
    · exact lx_irrefl _ (h.low a m).1
    · rcases List.mem_cons.mp m with e | m
      · have := h.ab; rw [← e] at this; exact lx_irrefl _ this
      · exact lx_irrefl _ (h.up a m).1
  · exact lx_irrefl _ (h.up b m).2.1
  · intro e
    subst e
    rcases List.mem_cons.mp hq with e | hq
    · have := (h.low p hp).2.1; rw [e] at this; exact lx_irrefl _ this
    · have q1 := (h.low p hp).2.2
      have q2 := (h.up p hq).2.2
      rw [cr_swap] at q2
      omega
/-- sides of the chain below: all points at the left, other corners strictly -/
theorem HL.sideL (h : HL S a b l u) {pre : List Pt} {x y : Pt} {r : List Pt} (e : a :: (l ++ [b]) = pre ++ x :: y :: r) : (∀ q, S q → 0 ≤ cr x y q) ∧ ∀ q ∈ a :: (l ++ b :: u), q ≠ x → q ≠ y → 0 < cr x y q := by
  have ab := (abv_iff S _).mp h.hL.abv pre x y r e
  refine ⟨ab, fun q hq nx ny => ?_⟩
  have inL : q ∈ a :: (l ++ [b]) → 0 < cr x y q := fun m => by
    have t := h.triL
    rw [e] at t m
    exact abv_tri pre x y r t q m nx ny
  rcases List.mem_cons.mp hq with rfl | hq
  · exact inL (List.mem_cons_self ..)
  · rcases List.mem_append.mp hq with hq | hq
    · exact inL (by simp [hq])
    · rcases List.mem_cons.mp hq with rfl | hq
      · exact inL (by simp)
      · obtain ⟨k1, k2, k3⟩ := h.up q hq
        have dxy : lx x y := by
          have asc := h.hL.asc
          rw [e] at asc
          exact (List.pairwise_cons.mp (List.pairwise_append.mp asc).2.1).1 y (List.mem_cons_self ..)
        exact above dxy (ab a (h.hL.sub a (List.mem_cons_self ..))) (ab b (h.hL.sub b (by simp))) h.ab k1 k2 k3
theorem HL.sideU (h : HL S a b l u) {pre : List Pt} {x y : Pt} {r : List Pt} (e : b :: (u ++ [a]) = pre ++ x :: y :: r) : (∀ q, S q → 0 ≤ cr x y q) ∧ ∀ q ∈ a :: (l ++ b :: u), q ≠ x → q ≠ y → 0 < cr x y q := by
  have e2 : ng b :: (u.map ng ++ [ng a]) = pre.map ng ++ ng x :: ng y :: r.map ng := by
    have := congrArg (List.map ng) e
    simpa using this
  obtain ⟨k1, k2⟩ := h.swap.sideL e2
  refine ⟨fun q hq => ?_, fun q hq nx ny => ?_⟩
  · have := k1 (ng q) (by show S (ng (ng q)); rw [ng_ng]; exact hq)
    rw [cr_ng] at this
    exact this
  · have m : ng q ∈ ng b :: (u.map ng ++ ng a :: l.map ng) := by
      have : q ∈ b :: (u ++ a :: l) := by
        simp only [List.mem_cons, List.mem_append] at hq ⊢
        rcases hq with h | h | h | h
        · exact .inr (.inr (.inl h))
        · exact .inr (.inr (.inr h))
        · exact .inl h
        · exact .inr (.inl h)
      have := List.mem_map_of_mem (f := ng) this
      simpa using this
    have := k2 (ng q) m (fun z => nx (by rw [← ng_ng q, z, ng_ng])) (fun z => ny (by rw [← ng_ng q, z, ng_ng]))
    rw [cr_ng] at this
    exact this
theorem inL {a b q : Pt} {l u : List Pt} (hp : q ∈ a :: (l ++ [b])) : q ∈ a :: (l ++ b :: u) := by
  simp only [List.mem_cons, List.mem_append, List.not_mem_nil, or_false] at hp ⊢
  rcases hp with h | h | h
  · exact .inl h
  · exact .inr (.inl h)
  · exact .inr (.inr (.inl h))
theorem inU {a b q : Pt} {l u : List Pt} (hp : q ∈ b :: (u ++ [a])) : q ∈ a :: (l ++ b :: u) := by
  simp only [List.mem_cons, List.mem_append, List.not_mem_nil, or_false] at hp ⊢
  rcases hp with h | h | h
  · exact .inr (.inr (.inl h))
  · exact .inr (.inr (.inr h))
  · exact .inl h
/-- the corners again have these chains -/
theorem HL.again (h : HL S a b l u) (S' : Pt → Prop) (h1 : ∀ q, S' q → S q) (h2 : ∀ q ∈ a :: (l ++ b :: u), S' q) : HL S' a b l u where
  hL := ⟨h.hL.asc, fun p hp => h2 p (inL hp), h.hL.conv, (abv_iff S' _).mpr fun pre x y r e p hp => (abv_iff S _).mp h.hL.abv pre x y r e p (h1 p hp)⟩
  hU := by
    refine ⟨h.hU.asc, fun p hp => ?_, h.hU.conv, (abv_iff _ _).mpr fun pre x y r e p hp => (abv_iff _ _).mp h.hU.abv pre x y r e p (h1 _ hp)⟩
    obtain ⟨q, hq, rfl⟩ := List.mem_map.mp hp
    show S' (ng (ng q))
    rw [ng_ng]
    exact h2 q (inU hq)
  mn := fun q hq => h.mn q (h1 q hq)
  mx := fun q hq => h.mx q (h1 q hq)
  ab := h.ab
end
/-- a list in which any three turn left is a chain for its points and those above its chord -/
theorem ch_of_tri {S : Pt → Prop} {a b : Pt} {t : List Pt} (asc : (a :: (t ++ [b])).Pairwise lx) (tri : Tri (a :: (t ++ [b]))) (sub : ∀ p ∈ a :: (t ++ [b]), S p)
    (all : ∀ p, S p → p ∈ a :: (t ++ [b]) ∨ (lx a p ∧ lx p b ∧ 0 < cr a b p)) : Ch S (a :: (t ++ [b])) := by
  refine ⟨asc, sub, tri_conv tri, (abv_iff S _).mpr fun pre x y r e p hp => ?_⟩
  have inn : ∀ q ∈ a :: (t ++ [b]), 0 ≤ cr x y q := fun q hq => by
    by_cases h1 : q = x
    · rw [h1, cr_self1]; exact Int.le_refl _
    · by_cases h2 : q = y
      · rw [h2, cr_self2]; exact Int.le_refl _
      · rw [e] at tri hq
        exact Int.le_of_lt (abv_tri pre x y r tri q hq h1 h2)
  rcases all p hp with m | ⟨k1, k2, k3⟩
  · exact inn p m
  · have dxy : lx x y := by
      rw [e] at asc
      exact (List.pairwise_cons.mp (List.pairwise_append.mp asc).2.1).1 y (List.mem_cons_self ..)
    exact Int.le_of_lt (above dxy (inn a (List.mem_cons_self ..)) (inn b (by simp)) ((List.pairwise_cons.mp asc).1 b (by simp)) k1 k2 k3)
theorem HL.triU {S : Pt → Prop} {a b : Pt} {l u : List Pt} (h : HL S a b l u) : Tri (ng b :: (u.map ng ++ [ng a])) := h.swap.triL
/-- without the last corner of the way back -/
theorem HL.shorter_up {S : Pt → Prop} {a b c : Pt} {l u : List Pt} (h : HL S a b l (u ++ [c])) : HL (fun q => q ∈ a :: (l ++ b :: u)) a b l u := by
  have sub : ∀ q, q ∈ a :: (l ++ b :: u) → S q := fun q hq => h.mem q (by
    simp only [List.mem_cons, List.mem_append] at hq ⊢
    rcases hq with h | h | h | h
    · exact .inl h
    · exact .inr (.inl h)
    · exact .inr (.inr (.inl h))
    · exact .inr (.inr (.inr (.inl h))))
  have sl : (u.map ng ++ [ng a]).Sublist ((u ++ [c]).map ng ++ [ng a]) := by
    rw [List.map_append]
    exact (List.sublist_append_left _ _).append (List.Sublist.refl _)
  refine ⟨⟨h.hL.asc, fun p hp => inL hp, h.hL.conv, (abv_iff _ _).mpr fun pre x y r e p hp => (abv_iff S _).mp h.hL.abv pre x y r e p (sub p hp)⟩, ?_, fun q hq => h.mn q (sub q hq), fun q hq => h.mx q (sub q hq), h.ab⟩
  have e : (b :: (u ++ [a])).map ng = ng b :: (u.map ng ++ [ng a]) := by rw [List.map_cons, List.map_append]; rfl
  rw [e]
  refine ch_of_tri (h.swap.hL.asc.sublist (sl.cons₂ _)) (tri_sub (sl.cons₂ _) h.triU) (fun p hp => ?_) fun p hp => ?_
  · rw [← e] at hp
    obtain ⟨q, hq, rfl⟩ := List.mem_map.mp hp
    show ng (ng q) ∈ _
    rw [ng_ng]
    exact inU hq
  · have hp : ng p ∈ a :: (l ++ b :: u) := hp
    by_cases w : ng p ∈ l
    · obtain ⟨k1, k2, k3⟩ := h.low _ w
      refine .inr ⟨by rw [← ng_ng p]; exact lx_ng.mpr k2, by rw [← ng_ng p]; exact lx_ng.mpr k1, ?_⟩
      rw [← ng_ng p, cr_ng, cr_cyc]
      exact k3
    · refine .inl ?_
      rw [← e, ← ng_ng p]
      refine List.mem_map_of_mem ?_
      simp only [List.mem_cons, List.mem_append] at hp ⊢
      rcases hp with h | h | h | h
      · exact .inr (.inr (.inl h))
      · exact absurd h w
      · exact .inl h
      · exact .inr (.inl h)
/-- without the last point, where there is no way back -/
theorem HL.shorter_low {S : Pt → Prop} {a b c : Pt} {l : List Pt} (h : HL S a b (l ++ [c]) []) : HL (fun q => q ∈ a :: (l ++ [c])) a c l [] := by
  have asc : (a :: (l ++ [c])).Pairwise lx := h.hL.asc.sublist ((List.sublist_append_left (l ++ [c]) [b]).cons₂ a)
  have tri : Tri (a :: (l ++ [c])) := tri_sub ((List.sublist_append_left (l ++ [c]) [b]).cons₂ a) h.triL
  have ac : lx a c := (List.pairwise_cons.mp asc).1 c (by simp)
  refine ⟨ch_of_tri asc tri (fun p hp => hp) fun p hp => .inl hp, ?_, fun q hq => ?_, fun q hq => ?_, ac⟩
  · have e : (c :: ([] ++ [a])).map ng = ng c :: ([] ++ [ng a]) := rfl
    rw [e]
    refine ch_of_tri ?_ ⟨by simp, ⟨.nil, trivial⟩⟩ (fun p hp => ?_) fun p hp => ?_
    · refine List.pairwise_cons.mpr ⟨fun q hq => ?_, List.pairwise_singleton _ _⟩
      rw [List.mem_singleton.mp hq]
      exact lx_ng.mpr ac
    · show ng p ∈ _
      rcases List.mem_cons.mp hp with rfl | hp
      · rw [ng_ng]; simp
      · rw [List.mem_singleton.mp hp, ng_ng]; simp
    · have hp : ng p ∈ a :: (l ++ [c]) := hp
      rcases List.mem_cons.mp hp with e1 | hp
      · exact .inl (by rw [← ng_ng p, e1]; simp)
      · rcases List.mem_append.mp hp with hp | hp
        · have k1 := (List.pairwise_cons.mp asc).1 (ng p) (by simp [hp])
          have k2 := (List.pairwise_append.mp (List.pairwise_cons.mp asc).2).2.2 (ng p) hp c (by simp)
          have k3 := (List.pairwise_append.mp tri.1).2.2 (ng p) hp c (by simp)
          refine .inr ⟨by rw [← ng_ng p]; exact lx_ng.mpr k2, by rw [← ng_ng p]; exact lx_ng.mpr k1, ?_⟩
          rw [← ng_ng p, cr_ng, cr_cyc]
          exact k3
        · exact .inl (by rw [← ng_ng p, List.mem_singleton.mp hp]; simp)
  · rcases List.mem_cons.mp hq with e | hq
    · exact .inl e
    · exact .inr ((List.pairwise_cons.mp asc).1 q hq)
  · rcases List.mem_cons.mp hq with e | hq
    · exact .inr (e ▸ ac)
    · rcases List.mem_append.mp hq with hq | hq
      · exact .inr ((List.pairwise_append.mp (List.pairwise_cons.mp asc).2).2.2 q hq c (by simp))
      · exact .inl (List.mem_singleton.mp hq)
theorem split_at (c : List Pt) (k : Nat) (h : k + 1 < c.length) : c = c.take k ++ c[k] :: c[k + 1] :: c.drop (k + 2) := by
  rw [List.getElem_cons_drop, List.getElem_cons_drop, List.take_append_drop]
/-- each side of the corners, the last one to the first -/
theorem HL.side {S : Pt → Prop} {a b : Pt} {l u : List Pt} (h : HL S a b l u) (k : Nat) (x y : Pt) (hx : (a :: (l ++ b :: u))[k]? = some x) (hy : (a :: (l ++ b :: u))[(k + 1) % (a :: (l ++ b :: u)).length]? = some y) :
    (∀ q, S q → 0 ≤ cr x y q) ∧ ∀ q ∈ a :: (l ++ b :: u), q ≠ x → q ≠ y → 0 < cr x y q := by
  have n : (a :: (l ++ b :: u)).length = l.length + u.length + 2 := by simp; omega
  have kl : k < l.length + u.length + 2 := by have := (List.getElem?_eq_some_iff.mp hx).1; omega
  rw [n] at hy
  by_cases c : k ≤ l.length
  · have m : (k + 1) % (l.length + u.length + 2) = k + 1 := Nat.mod_eq_of_lt (by omega)
    rw [m] at hy
    have e1 : (a :: (l ++ [b]))[k]? = some x := by
      rw [← hx]
      cases k with
      | zero => rfl
      | succ k =>
        rw [List.getElem?_cons_succ, List.getElem?_cons_succ, List.getElem?_append_left (by omega), List.getElem?_append_left (by omega)]
    have e2 : (a :: (l ++ [b]))[k + 1]? = some y := by
      rw [← hy, List.getElem?_cons_succ, List.getElem?_cons_succ]
      by_cases d : k < l.length
      · rw [List.getElem?_append_left d, List.getElem?_append_left d]
      · rw [List.getElem?_append_right (by omega), List.getElem?_append_right (by omega)]
        have : k - l.length = 0 := by omega
        rw [this]; rfl
    obtain ⟨i1, e1⟩ := List.getElem?_eq_some_iff.mp e1
    obtain ⟨i2, e2⟩ := List.getElem?_eq_some_iff.mp e2
    have s := split_at _ k i2
    rw [e1, e2] at s
    exact h.sideL s
  · obtain ⟨j, rfl⟩ : ∃ j, k = l.length + 1 + j := ⟨k - (l.length + 1), by omega⟩
    have e1 : (b :: (u ++ [a]))[j]? = some x := by
      rw [← hx]
      have : (a :: (l ++ b :: u))[l.length + 1 + j]? = (b :: u)[j]? := by
        rw [show l.length + 1 + j = (l.length + j) + 1 by omega, List.getElem?_cons_succ, List.getElem?_append_right (by omega)]
        congr 1; omega
      rw [this]
      cases j with
      | zero => rfl
      | succ j => rw [List.getElem?_cons_succ, List.getElem?_cons_succ, List.getElem?_append_left (by omega)]
    have e2 : (b :: (u ++ [a]))[j + 1]? = some y := by
      rw [← hy, List.getElem?_cons_succ]
      by_cases d : j < u.length
      · have m : (l.length + 1 + j + 1) % (l.length + u.length + 2) = l.length + 1 + j + 1 := Nat.mod_eq_of_lt (by omega)
        rw [m, List.getElem?_append_left d, show l.length + 1 + j + 1 = (l.length + (j + 1)) + 1 by omega, List.getElem?_cons_succ, List.getElem?_append_right (by omega)]
        rw [show l.length + (j + 1) - l.length = j + 1 by omega, List.getElem?_cons_succ]
      · have : l.length + 1 + j + 1 = l.length + u.length + 2 := by omega
        rw [this, Nat.mod_self, List.getElem?_append_right (by omega), show j - u.length = 0 by omega]
        rfl
    obtain ⟨i1, e1⟩ := List.getElem?_eq_some_iff.mp e1
    obtain ⟨i2, e2⟩ := List.getElem?_eq_some_iff.mp e2
    have s := split_at _ j i2
    rw [e1, e2] at s
    exact h.sideU s
end G4
set_option Elab.async false
set_option linter.all false
set_option maxRecDepth 100000
set_option maxHeartbeats 4000000
set_option exponentiation.threshold 3000
namespace F3
open PySem PySem.Spec PyProof.Rows L2 FX RM PB KD KS
open PySem.W (dataLe keyToks keyToksAll)
theorem floor_lt {x1 y1 x2 y2 s : Int} (h1 : 0 < x1) (h2 : 0 < x2) (hs : x1 * x2 ≤ s) (c : y1 * x2 < y2 * x1) : y1 * s / x1 < y2 * s / x2 := by
  have s0 : 0 < s := Int.lt_of_lt_of_le (Int.mul_pos h1 h2) hs
  refine Int.lt_of_lt_of_le (Int.lt_succ _) ((Int.le_ediv_iff_mul_le h2).mpr ?_)
  have a : y1 * s / x1 * x1 ≤ y1 * s := Int.ediv_mul_le _ (by omega)
  refine Int.le_of_mul_le_mul_right (a := x1) ?_ h1
  have b : y1 * s / x1 * x1 * x2 ≤ y1 * s * x2 := Int.mul_le_mul_of_nonneg_right a (by omega)
  have k : s * 1 ≤ s * (y2 * x1 - y1 * x2) := Int.mul_le_mul_of_nonneg_left (by omega) (by omega)
  have e1 : (y1 * s / x1 + 1) * x2 * x1 = y1 * s / x1 * x1 * x2 + x1 * x2 := by generalize y1 * s / x1 = m; grind
  have e2 : y2 * s * x1 = s * (y2 * x1 - y1 * x2) + y1 * s * x2 := by grind
  rw [e1, e2]
  omega
theorem lex1 (a b : Int) (h : a < b) (l m : List (Int ⊕ List Nat)) : PyProof.Rows.lexLt itemOrd (.inl a :: l) (.inl b :: m) = true := by
  rw [PyProof.Rows.lex_cons]
  have : itemOrd.blt (.inl a : Int ⊕ List Nat) (.inl b) = true := decide_eq_true h
  rw [this]; rfl
theorem ix_tupK {X : Cx} (K : PySem.W.Frag) (e : X.K = K := by rfl) : IxR X (rIxT K) := e ▸ ix_tup
theorem pg_couK {X : Cx} (K : PySem.W.Frag) {a b : Expr} {k : Nat} {t : TGs} {pos : Pos} (hc : X.calm = true) (h : PGs X [a, b] t) (e : X.K = K := by rfl) (hn : (assignEach [a, b] X.env).length = 2 := by rfl) (hst : (assignEach [a, b] X.env).findIdx? (·.1) = none := by rfl) : PG X (.Tuple [a, b] k pos) (gCou K t) := e ▸ pg_cou hc h hn hst
theorem pg_tupK {X : Cx} (K : PySem.W.Frag) {es : List Expr} {k : Nat} {t : TGs} {n : Nat} {pos : Pos} (hc : X.calm = true) (h : PGs X es t) (e : X.K = K := by rfl) (hn : (assignEach es X.env).length = n := by rfl) (hst : (assignEach es X.env).findIdx? (·.1) = none := by rfl) : PG X (.Tuple es k pos) (gTup K n t) := e ▸ pg_tup hc h hn hst
theorem Room.u65 {k : Nat} {A : Around} (r : Room (k + 1) A) : A.units + 65 < cLine := by have := r.un; omega
theorem ix_listK {X : Cx} (K : PySem.W.Frag) (e : X.K = K := by rfl) : IxR X (rIxL K) := e ▸ ix_list
theorem dpa_ints {K : PySem.W.Frag} {H : Hp} : ∀ {vs : List V} {ns : List Int}, DpAll K H vs (ns.map PyData.int) → vs = ns.map V.int
  | [], [], _ => rfl
  | _ :: _, _ :: _, .cons a b => by rw [dp_int a, dpa_ints b]; rfl
theorem dpall_of {K : PySem.W.Frag} {H : Hp} : ∀ {ps : List (V × PyData)}, (∀ z ∈ ps, Dp K H z.1 z.2) → DpAll K H (ps.map Prod.fst) (ps.map Prod.snd)
  | [], _ => .nil
  | z :: ps, h => .cons (h z (List.mem_cons_self ..)) (dpall_of fun y hy => h y (List.mem_cons_of_mem _ hy))
theorem zip_dp {K : PySem.W.Frag} {H : Hp} : ∀ {xs : List V} {ds : List PyData}, DpAll K H xs ds → ∀ z ∈ xs.zip ds, Dp K H z.1 z.2
  | _, _, .nil, _, h => nomatch h
  | _, _, .cons a b, z, h => by
    rw [List.zip_cons_cons] at h
    rcases List.mem_cons.mp h with rfl | h
    · exact a
    · exact zip_dp b z h
theorem call_tuple_ofK {X : Cx} (K : PySem.W.Frag) (e : X.K = K := by rfl) : CallR X (.type "tuple") (fun xs H Q => ∃ p ys, xs = [.ref p] ∧ ((SqL K H p ys ∧ ∀ l, H l = none → Q (.ref l) (upd H l (.tup ys))) ∨ (SqT K H p ys ∧ Q (.ref p) H))) := e ▸ call_tuple_of
theorem call_list_ofK {X : Cx} (K : PySem.W.Frag) (e : X.K = K := by rfl) : CallR X (.type "list") (fun xs H Q => ∃ p ys, xs = [.ref p] ∧ (SqL K H p ys ∨ SqT K H p ys) ∧ ∀ l, H l = none → Q (.ref l) (upd H l (.lst ys))) := e ▸ call_list_of
theorem op_notInTK {X : Cx} (K : PySem.W.Frag) (hu : X.A.units + 65 < cLine) (e : X.K = K := by rfl) : OpR X (compareOp .NotIn) (rNotInT K) := e ▸ op_notInT hu
theorem op_notInDK {X : Cx} (K : PySem.W.Frag) (hu : X.A.units + 65 < cLine) (e : X.K = K := by rfl) : OpR X (compareOp .NotIn) (rNotInD K) := e ▸ op_notInD hu
theorem Room.u8 {k : Nat} {A : Around} (r : Room k A) : A.units + 8 < cLine := by have := r.un; omega
theorem range_get {α β : Type} (us : List β) (z : β) {g : β → α} : (List.range us.length).map (fun i => g (us.getD i z)) = us.map g := by
  apply List.ext_getElem
  · simp
  · intro i h1 h2
    simp at h1 h2
    simp [List.getD_eq_getElem?_getD, h2]
/-! places by their order -/
def ltP (a b : Pl) : Prop := a.1.1 * b.1.2 < b.1.1 * a.1.2 ∨ (a.1 = b.1 ∧ a.2.1 * b.2.2 < b.2.1 * a.2.2)
def zP : Pl := ((0, 1), (0, 1))
def rowP (s : Int) (p : Pl) : PyData := .tuple [.int (p.1.1 * s / p.1.2), .int (p.2.1 * s / p.2.2), pD p]
theorem toks_rowP (s : Int) (p : Pl) : ∃ l, keyToks (rowP s p) = .inl 1 :: .inl (p.1.1 * s / p.1.2) :: .inl 1 :: .inl (p.2.1 * s / p.2.2) :: l := by
  simp [rowP, keyToks, keyToksAll]
theorem row_leP {s : Int} {a b : Pl} (ha : RatP a) (hb : RatP b) (ne : a ≠ b) (s1 : a.1.2 * b.1.2 ≤ s) (s2 : a.2.2 * b.2.2 ≤ s) (h : (!PyProof.Rows.lexLt PyProof.Rows.itemOrd (keyToks (rowP s b)) (keyToks (rowP s a))) = true) : ltP a b := by
  obtain ⟨la, ea⟩ := toks_rowP s a
  obtain ⟨lb, eb⟩ := toks_rowP s b
  rw [ea, eb, PyProof.Rows.lex_self] at h
  have q1 : ¬ b.1.1 * s / b.1.2 < a.1.1 * s / a.1.2 := fun z => by rw [lex1 _ _ z] at h; cases h
  rcases Int.lt_trichotomy (a.1.1 * b.1.2) (b.1.1 * a.1.2) with c | c | c
  · exact .inl c
  · have e1 : a.1 = b.1 := rat_eq ha.1 hb.1 c
    refine .inr ⟨e1, ?_⟩
    rw [e1, PyProof.Rows.lex_self, PyProof.Rows.lex_self] at h
    have q2 : ¬ b.2.1 * s / b.2.2 < a.2.1 * s / a.2.2 := fun z => by rw [lex1 _ _ z] at h; cases h
    rcases Int.lt_trichotomy (a.2.1 * b.2.2) (b.2.1 * a.2.2) with c | c | c
    · exact c
    · exact absurd (Prod.ext e1 (rat_eq ha.2 hb.2 c)) ne
    · exact absurd (floor_lt hb.2.1 ha.2.1 (by rw [Int.mul_comm]; exact s2) c) q2
  · exact absurd (floor_lt hb.1.1 ha.1.1 (by rw [Int.mul_comm]; exact s1) c) q1
def getP' : PyData → Pl
  | .tuple [_, _, .tuple [.tuple [.int a, .int b], .tuple [.int c, .int d]]] => ((a, b), (c, d))
  | _ => zP
theorem alike_rowsP (s : Int) (us : List Pl) : PySem.W.AllAlike (us.map (rowP s)) := fun x hx y hy => by
  obtain ⟨a, _, rfl⟩ := List.mem_map.mp hx
  obtain ⟨b, _, rfl⟩ := List.mem_map.mp hy
  simp [rowP, pD, rD, PySem.W.alike, PySem.W.alikeAll]
theorem sortable_rowsP (s : Int) (us : List Pl) : PySem.W.Sortable (us.map (rowP s)) := .inl fun x hx => by
  obtain ⟨a, _, rfl⟩ := List.mem_map.mp hx
  exact ⟨_, _, rfl⟩
theorem depth_rowsP (s : Int) (us : List Pl) : ∀ d ∈ us.map (rowP s), d.depth ≤ 60 := fun x hx => by
  obtain ⟨a, _, rfl⟩ := List.mem_map.mp hx
  simp [rowP, pD, rD, PyData.depth, PyData.depthAll]
theorem sorted_ltP {s : Int} {us : List Pl} {ps : List (V × PyData)} {xs : List V} (hl : xs.length = us.length) (hp : ∀ d ∈ us, RatP d) (nd : us.Nodup) (hs : ∀ d ∈ us, ∀ e ∈ us, d.1.2 * e.1.2 ≤ s ∧ d.2.2 * e.2.2 ≤ s)
    (pm : ps.Perm (xs.zip (us.map (rowP s)))) (pw : ps.Pairwise fun x y => dataLe false Prod.snd x y = true) :
    ∃ os : List Pl, os.Pairwise ltP ∧ (∀ d, d ∈ os ↔ d ∈ us) ∧ os.length = us.length ∧ ps.map Prod.snd = os.map (rowP s) := by
  have p2 : (ps.map Prod.snd).Perm (us.map (rowP s)) := by
    have := pm.map Prod.snd
    rwa [List.map_snd_zip (by rw [List.length_map]; omega)] at this
  have p3 : ((ps.map Prod.snd).map getP').Perm us := by
    have := p2.map getP'
    rw [List.map_map (f := rowP s)] at this
    rwa [show getP' ∘ rowP s = id from rfl, List.map_id] at this
  have e4 : ps.map Prod.snd = ((ps.map Prod.snd).map getP').map (rowP s) := by
    rw [List.map_map]
    refine (List.map_id _).symm.trans (List.map_congr_left fun x hx => ?_)
    obtain ⟨d, _, rfl⟩ := List.mem_map.mp (p2.mem_iff.mp hx)
    rfl
  refine ⟨(ps.map Prod.snd).map getP', ?_, fun d => p3.mem_iff, p3.length_eq, e4⟩
  have nd2 : ((ps.map Prod.snd).map getP').Nodup := p3.nodup_iff.mpr nd
  have pw2 : (ps.map Prod.snd).Pairwise fun x y => (!PyProof.Rows.lexLt PyProof.Rows.itemOrd (keyToks y) (keyToks x)) = true := by
    rw [List.pairwise_map]
    exact pw.imp fun h => h
  rw [e4, List.pairwise_map] at pw2
  have all : ∀ d ∈ (ps.map Prod.snd).map getP', d ∈ us := fun d hd => p3.mem_iff.mp hd
  generalize (ps.map Prod.snd).map getP' = os at nd2 pw2 all
  clear e4 p3 p2 pw pm
  induction os with
  | nil => exact .nil
  | cons d os ih =>
    rw [List.pairwise_cons] at pw2 ⊢
    rw [List.nodup_cons] at nd2
    refine ⟨fun e he => ?_, ih nd2.2 pw2.2 fun x hx => all x (List.mem_cons_of_mem _ hx)⟩
    have m1 := all d (List.mem_cons_self ..)
    have m2 := all e (List.mem_cons_of_mem _ he)
    exact row_leP (hp d m1) (hp e m2) (fun z => nd2.1 (z ▸ he)) (hs _ m1 _ m2).1 (hs _ m1 _ m2).2 (pw2.1 e he)
theorem dp_rowP {K : PySem.W.Frag} {H : Hp} {v : V} {s : Int} {p : Pl} (h : Dp K H v (rowP s p)) : ∃ q a b c, v = .ref q ∧ SqT K H q [a, b, c] ∧ Dp K H c (pD p) := by
  cases h with
  | tup h g =>
    cases g with
    | cons h1 g => cases g with
      | cons h2 g => cases g with
        | cons h3 g => cases g with
          | nil => exact ⟨_, _, _, _, rfl, h, h3⟩
def mxb (q : Pl) : Int := if q.2.2 > q.1.2 then q.2.2 else q.1.2
theorem mxb_le (q : Pl) : q.1.2 ≤ mxb q ∧ q.2.2 ≤ mxb q := by unfold mxb; split <;> omega
theorem mxb_sz {n : Nat} {q : Pl} (h : SzP n q) : Sz n (mxb q) := by
  unfold mxb
  split
  · exact h.2.2
  · exact h.1.2
/-- a sequence of places -/
structure Pls (K : PySem.W.Frag) (H : Hp) (p : Addr) (xs : List V) (ps : List Pl) : Prop where
  s : SqL K H p xs ∨ SqT K H p xs
  l : ps.length = xs.length
  d : ∀ (i : Nat) (x : V) (q : Pl), xs[i]? = some x → ps[i]? = some q → Pla K H x q
theorem Pls.same {K : PySem.W.Frag} {H H' : Hp} {p : Addr} {xs : List V} {ps : List Pl} (h : Pls K H p xs ps) (s : Same H H') : Pls K H' p xs ps := ⟨h.s.elim (fun z => .inl (s.seq z)) fun z => .inr (same_t s z), h.l, fun i x q ex eq => (h.d i x q ex eq).same s⟩
def GoodP (n : Nat) (p : Pl) : Prop := RatP p ∧ SzP n p
/-! rough places -/
def rgP (p : Pl) : Int × Int := (p.1.1 * 2 ^ 64 / p.1.2, p.2.1 * 2 ^ 64 / p.2.2)
def rwP (p : Pl) : PyData := .tuple [rD (rgP p), pD p]
theorem noL_rw (p : Pl) : noL (rwP p) = true := by simp [rwP, pD, rD, noL, noLs]
def apartB (a b : Pl) : Bool := if (rgP a).1 = (rgP b).1 then decide (a.1 = b.1) && !decide ((rgP a).2 = (rgP b).2) else true
def spRough (K : PySem.W.Frag) : Sp := fun vs H Q _ => ∃ v p, vs = [v] ∧ Pla K H v p ∧ GoodP 400 p ∧ ∀ H' z, Same H H' → Dp K H' z (rD (rgP p)) → Q z H'
def spApart (K : PySem.W.Frag) : Sp := fun vs H Q _ => ∃ v u a b, vs = [v, u] ∧ Dp K H v (rwP a) ∧ Dp K H u (rwP b) ∧ ∀ H', Same H H' → Q (.bl (apartB a b)) H'
theorem eqv_rr (a b : Rt) : PyData.eqv (rD a) (rD b) = decide (a = b) := by
  obtain ⟨a1, a2⟩ := a; obtain ⟨b1, b2⟩ := b
  simp [rD, PyData.eqv, PyData.eqvAll]
  rw [Bool.eq_iff_iff]; simp
theorem toks_rw (p : Pl) : ∃ l, keyToks (rwP p) = .inl 1 :: .inl 1 :: .inl (rgP p).1 :: .inl 1 :: .inl (rgP p).2 :: l := by
  simp [rwP, rD, keyToks, keyToksAll]
def rwLe (a b : Pl) : Prop := (rgP a).1 < (rgP b).1 ∨ ((rgP a).1 = (rgP b).1 ∧ (rgP a).2 ≤ (rgP b).2)
theorem rw_le {a b : Pl} (h : (!PyProof.Rows.lexLt PyProof.Rows.itemOrd (keyToks (rwP b)) (keyToks (rwP a))) = true) : rwLe a b := by
  obtain ⟨la, ea⟩ := toks_rw a
  obtain ⟨lb, eb⟩ := toks_rw b
  rw [ea, eb, PyProof.Rows.lex_self, PyProof.Rows.lex_self] at h
  have q1 : ¬ (rgP b).1 < (rgP a).1 := fun z => by rw [lex1 _ _ z] at h; cases h
  by_cases c : (rgP a).1 < (rgP b).1
  · exact .inl c
  · have e : (rgP a).1 = (rgP b).1 := by omega
    refine .inr ⟨e, ?_⟩
    rw [e, PyProof.Rows.lex_self, PyProof.Rows.lex_self] at h
    have q2 : ¬ (rgP b).2 < (rgP a).2 := fun z => by rw [lex1 _ _ z] at h; cases h
    omega
theorem floor_lt' {x1 y1 x2 y2 s : Int} (h1 : 0 < x1) (h2 : 0 < x2) (s0 : 0 < s) (c : y1 * s / x1 < y2 * s / x2) : y1 * x2 < y2 * x1 := by
  by_cases k0 : y1 * x2 < y2 * x1
  · exact k0
  have k : y2 * x1 ≤ y1 * x2 := by omega
  refine absurd c (Int.not_lt.mpr ((Int.le_ediv_iff_mul_le h1).mpr ?_))
  have a : y2 * s / x2 * x2 ≤ y2 * s := Int.ediv_mul_le _ (by omega)
  refine Int.le_of_mul_le_mul_right (a := x2) ?_ h2
  generalize y2 * s / x2 = q at a ⊢
  have b : q * x2 * x1 ≤ y2 * s * x1 := Int.mul_le_mul_of_nonneg_right a (by omega)
  have d : y2 * x1 * s ≤ y1 * x2 * s := Int.mul_le_mul_of_nonneg_right k (by omega)
  have e1 : q * x1 * x2 = q * x2 * x1 := by grind
  have e2 : y2 * s * x1 = y2 * x1 * s := by grind
  have e3 : y1 * s * x2 = y1 * x2 * s := by grind
  rw [e1, e3]
  omega
theorem apart_lt {a b : Pl} (ha : RatP a) (hb : RatP b) (h : rwLe a b) (k : apartB a b = true) : ltP a b := by
  unfold apartB at k
  have s0 : (0 : Int) < 2 ^ 64 := by decide
  rcases h with h | ⟨h, h2⟩
  · exact .inl (floor_lt' ha.1.1 hb.1.1 s0 h)
  · rw [if_pos h] at k
    simp only [Bool.and_eq_true, decide_eq_true_eq, Bool.not_eq_true', decide_eq_false_iff_not] at k
    refine .inr ⟨k.1, floor_lt' ha.2.1 hb.2.1 s0 ?_⟩
    show (rgP a).2 < (rgP b).2
    omega
theorem lt_cross {a1 a2 b1 b2 c1 c2 : Int} (hb : 0 < b2) (ha : 0 < a2) (hc : 0 < c2) (h : a1 * b2 < b1 * a2) (k : b1 * c2 ≤ c1 * b2) : a1 * c2 < c1 * a2 := by
  refine Int.lt_of_mul_lt_mul_right (a := b2) ?_ (Int.le_of_lt hb)
  have u : a1 * b2 * c2 < b1 * a2 * c2 := Int.mul_lt_mul_of_pos_right h hc
  have v : b1 * c2 * a2 ≤ c1 * b2 * a2 := Int.mul_le_mul_of_nonneg_right k (by omega)
  have e1 : a1 * c2 * b2 = a1 * b2 * c2 := by grind
  have e2 : b1 * a2 * c2 = b1 * c2 * a2 := by grind
  have e3 : c1 * a2 * b2 = c1 * b2 * a2 := by grind
  rw [e1, e3]
  omega
theorem ltP_trans {a b c : Pl} (ha : RatP a) (hb : RatP b) (hc : RatP c) (h : ltP a b) (k : ltP b c) : ltP a c := by
  rcases h with h | ⟨h1, h2⟩
  · rcases k with k | ⟨k1, k2⟩
    · exact .inl (lt_cross hb.1.1 ha.1.1 hc.1.1 h (Int.le_of_lt k))
    · exact .inl (by rw [← k1]; exact h)
  · rcases k with k | ⟨k1, k2⟩
    · exact .inl (by rw [h1]; exact k)
    · exact .inr ⟨h1.trans k1, lt_cross hb.2.1 ha.2.1 hc.2.1 h2 (Int.le_of_lt k2)⟩
theorem chain_lt : ∀ {os : List Pl}, (∀ p ∈ os, RatP p) → os.Pairwise rwLe → (∀ i, i + 1 < os.length → apartB (os.getD i zP) (os.getD (i + 1) zP) = true) → os.Pairwise ltP
  | [], _, _, _ => .nil
  | [a], _, _, _ => by simp
  | a :: b :: r, hr, hp, hk => by
    have ab := apart_lt (hr a (by simp)) (hr b (by simp)) ((List.pairwise_cons.mp hp).1 b (by simp)) (hk 0 (by simp))
    have ih := chain_lt (os := b :: r) (fun p h => hr p (List.mem_cons_of_mem _ h)) (List.pairwise_cons.mp hp).2 fun i hi => hk (i + 1) (by simp at hi ⊢; omega)
    refine List.pairwise_cons.mpr ⟨fun x hx => ?_, ih⟩
    rcases List.mem_cons.mp hx with rfl | hx
    · exact ab
    · exact ltP_trans (hr a (by simp)) (hr b (by simp)) (hr x (by simp [hx])) ab ((List.pairwise_cons.mp ih).1 x hx)
def getRW : PyData → Pl
  | .tuple [_, .tuple [.tuple [.int a, .int b], .tuple [.int c, .int d]]] => ((a, b), (c, d))
  | _ => zP
theorem alike_rw (us : List Pl) : PySem.W.AllAlike (us.map rwP) := fun x hx y hy => by
  obtain ⟨a, _, rfl⟩ := List.mem_map.mp hx
  obtain ⟨b, _, rfl⟩ := List.mem_map.mp hy
  simp [rwP, pD, rD, PySem.W.alike, PySem.W.alikeAll]
theorem sortable_rw (us : List Pl) : PySem.W.Sortable (us.map rwP) := .inl fun x hx => by
  obtain ⟨a, _, rfl⟩ := List.mem_map.mp hx
  exact ⟨_, _, rfl⟩
theorem depth_rw (us : List Pl) : ∀ d ∈ us.map rwP, d.depth ≤ 60 := fun x hx => by
  obtain ⟨a, _, rfl⟩ := List.mem_map.mp hx
  simp [rwP, pD, rD, PyData.depth, PyData.depthAll]
theorem sorted_rw {us : List Pl} {ps : List (V × PyData)} {xs : List V} (hl : xs.length = us.length) (pm : ps.Perm (xs.zip (us.map rwP))) (pw : ps.Pairwise fun x y => dataLe false Prod.snd x y = true) :
    ∃ os : List Pl, os.Pairwise rwLe ∧ (∀ d, d ∈ os ↔ d ∈ us) ∧ os.length = us.length ∧ ps.map Prod.snd = os.map rwP := by
  have p2 : (ps.map Prod.snd).Perm (us.map rwP) := by
    have := pm.map Prod.snd
    rwa [List.map_snd_zip (by rw [List.length_map]; omega)] at this
  have p3 : ((ps.map Prod.snd).map getRW).Perm us := by
    have := p2.map getRW
    rw [List.map_map (f := rwP)] at this
    rwa [show getRW ∘ rwP = id from rfl, List.map_id] at this
  have e4 : ps.map Prod.snd = ((ps.map Prod.snd).map getRW).map rwP := by
    rw [List.map_map]
    refine (List.map_id _).symm.trans (List.map_congr_left fun x hx => ?_)
    obtain ⟨d, _, rfl⟩ := List.mem_map.mp (p2.mem_iff.mp hx)
    rfl
  refine ⟨(ps.map Prod.snd).map getRW, ?_, fun d => p3.mem_iff, p3.length_eq, e4⟩
  have pw2 : (ps.map Prod.snd).Pairwise fun x y => (!PyProof.Rows.lexLt PyProof.Rows.itemOrd (keyToks y) (keyToks x)) = true := by
    rw [List.pairwise_map]
    exact pw.imp fun h => h
  rw [e4, List.pairwise_map] at pw2
  exact pw2.imp fun h => rw_le h
theorem cut_drop1 (xs : List V) : cutV xs (some 1) none = xs.drop 1 := by
  cases xs with
  | nil => rfl
  | cons x xs =>
    unfold cutV
    have e1 : HT.sIx (x :: xs).length 0 (some 1) = 1 := by
      show (if (1 : Int) < 0 then (1 + ((x :: xs).length : Int)).toNat else min (1 : Int).toNat (x :: xs).length) = _
      rw [if_neg (by omega)]
      simp
    have e2 : HT.sIx (x :: xs).length (x :: xs).length none = (x :: xs).length := rfl
    rw [e1, e2]
    simp
theorem dpa_bls {K : PySem.W.Frag} {H : Hp} : ∀ {vs : List V} {bs : List Bool}, DpAll K H vs (bs.map PyData.bool) → vs = bs.map V.bl
  | [], [], _ => rfl
  | _ :: _, _ :: _, .cons a b => by rw [dpa_bls b]; cases a; rfl
theorem range_all' (n : Nat) (f : Nat → Bool) : ((List.range n).map f).all id = true ↔ ∀ i, i < n → f i = true := by
  simp [List.all_eq_true]
theorem tlc_allG {K : PySem.W.Frag} {J : Addr → It} {n : Nat} {G : Addr → Hp → Prop} {Y : Addr → Nat → Hp → V → Hp → Prop} {wi : TI} {g : TG} {te : TE} {vs : List Nat} {σ : L2.St} {H : Hp} {Q : VK} (Gd : Addr → Hp → Prop) (hw : ∀ R : It → Hp → Prop, (∀ a H1, Gd a H1 → R (J a) H1) → wi σ H R)
    (w : ∀ a, Walk (J a) n (G a) (Y a)) (f : Nat → PyData) (hn : ∀ i, noL (f i) = true) (hz : n < sizeLine) (hG : ∀ a H1 H', Gd a H1 → Same H1 H' → G a H') (hY : ∀ a i H0 x H', Y a i H0 x H' → Same H0 H')
    (hs : ∀ a H1, Gd a H1 → ∀ i x H0 H' (R : V → Hp → Prop), i < n → Same H1 H0 → Y a i H0 x H' → (∀ y H4, Same H' H4 → Dp K H4 y (f i) → R y H4) → g x (wipe σ vs) H' fun σ2 H2 => wipe σ2 vs = wipe σ vs ∧ te σ2 H2 R)
    (hd : ∀ a H1, Gd a H1 → ∀ D H' ys, Same H1 H' → H1 D = none → H' D = some (.lst ys) → DpAll K H' ys ((List.range n).map f) → Q (.ref D) H') : tLc wi g tYes te vs σ H Q :=
  hw _ fun a H1 d => ZP.lc_filter (tt := tYes) (w a) (fun _ => true) f hn hz (fun H' s => hG a H1 H' d s) (hY a) (fun i x H0 H' R R0 il s y yes no => hs a H1 d i x H0 H' R il s y (yes rfl)) (fun D H' ys s n e h => hd a H1 d D H' ys s n e (by rw [List.filter_eq_self.mpr (fun _ _ => rfl)] at h; exact h))
def spOrdP (K : PySem.W.Frag) : Sp := fun vs H Q _ => ∃ (p : Addr) (xs : List V) (ps : List Pl), vs = [.ref p] ∧ Pls K H p xs ps ∧ ps.length ≤ 60 ∧ (∀ q ∈ ps, GoodP 400 q) ∧
  ∀ (H' : Hp) (q : Addr) (ys : List V) (os : List Pl), Same H H' → H q = none → os.Pairwise ltP → (∀ r, r ∈ os ↔ r ∈ ps) → os.length ≤ ps.length → H' q = some (.lst ys) → DpAll K H' ys (os.map pD) → Q (.ref q) H'
section
variable {P : Program} {w : World} {K : PySem.W.Frag} {mg : Str → Option Value} {base : Heap}
abbrev srough_place : Stmt := topS 18
theorem scrough_place : FnScope ["place", "x", "bottom", "y", "other_bottom"] ["place"] (defScope srough_place) := ⟨rfl, rfl, rfl, by decide +kernel, rfl, by decide +kernel, by decide +kernel⟩
theorem okrough_place (T : Txt K mg "rough_place" srough_place)  : DefOk P w K mg base CX0 "rough_place" 1 ["place"] (spRough K) := by
  obtain ⟨f, fd, F, gf⟩ := T
  refine ⟨f, fd, gf, F.kp, F.binds (fun _ _ _ _ _ _ us hl => match us, hl with | [_], _ => rfl), F.ok scrough_place (fun vs H Q E h => ?_) (fun cdv A outer s H vs Q E hr h => ?_)⟩
  · obtain ⟨v, p, rfl, _⟩ := h; rfl
  · obtain ⟨v, p, rfl, hv, gp, q⟩ := h
    refine ⟨_, (pss_cons (ps_asg (pv 0) (pg_cou rfl (pgs_cons (pg_cou rfl (pgs_cons (pg_name (i := 1) scrough_place.nd rfl (.inl rfl)) (pgs_cons (pg_name (i := 2) scrough_place.nd rfl (.inl rfl)) pgs_nil))) (pgs_cons (pg_cou rfl (pgs_cons (pg_name (i := 3) scrough_place.nd rfl (.inl rfl)) (pgs_cons (pg_name (i := 4) scrough_place.nd rfl (.inl rfl)) pgs_nil))) pgs_nil)))) (pss_one (ps_ret (pe_tup (pa_cons (pe_op op_fdivW (pe_op op_mulW (pv 1) (pe_op op_powW pe_int pe_int)) (pv 2)) (pa_cons (pe_op op_fdivW (pe_op op_mulW (pv 3) (pe_op op_powW pe_int pe_int)) (pv 4)) pa_nil)))))), ?_⟩
    obtain ⟨x, y, c, hx, hy⟩ := hv
    have cx := cou_r hx
    have cy := cou_r hy
    obtain ⟨⟨i1, i2⟩, z1, z2⟩ := gp
    have z64 : Sz 65 ((2 : Int) ^ (64 : Int).toNat) := by show (18446744073709551616 : Nat) < 2 ^ 65; decide
    have pw : 0 ≤ (64 : Int) ∧ (Builtin.Int.intBits 2 : Int) * 64 ≤ 2 ^ 27 := by decide
    refine ⟨_, rfl, x, y, c, _, _, rfl, _, _, cx, _, _, rfl, _, _, rfl, rfl, _, _, rfl, _, _, cy, _, _, rfl, _, _, rfl, rfl, rfl, ?_⟩
    dsimp only [tRet]
    refine ⟨_, rfl, _, _, rfl, rfl, pw, _, _, rfl, rfl, wide_mul z1.1 z64 (by decide) (by decide) (by decide), _, rfl, _, _, rfl, rfl, wide_div i1.1 z1.2 (by decide) (by decide), ?_⟩
    refine ⟨_, rfl, _, _, rfl, rfl, pw, _, _, rfl, rfl, wide_mul z2.1 z64 (by decide) (by decide) (by decide), _, rfl, _, _, rfl, rfl, wide_div i2.1 z2.2 (by decide) (by decide), ?_⟩
    exact ⟨(by show 2 ≤ sizeLine; decide), fun b nb => q _ _ (PB.same_new nb) (dp_mkr nb)⟩
abbrev sare_told_apart : Stmt := topS 19
theorem scare_told_apart : FnScope ["row", "following", "rough", "place", "next_rough", "next_place"] ["row", "following"] (defScope sare_told_apart) := ⟨rfl, rfl, rfl, by decide +kernel, rfl, by decide +kernel, by decide +kernel⟩
theorem okare_told_apart (T : Txt K mg "are_told_apart" sare_told_apart)  : DefOk P w K mg base CX0 "are_told_apart" 1 ["row", "following"] (spApart K) := by
  obtain ⟨f, fd, F, gf⟩ := T
  refine ⟨f, fd, gf, F.kp, F.binds (fun _ _ _ _ _ _ us hl => match us, hl with | [_, _], _ => rfl), F.ok scare_told_apart (fun vs H Q E h => ?_) (fun cdv A outer s H vs Q E hr h => ?_)⟩
  · obtain ⟨v, u, a, b, rfl, _⟩ := h; rfl
  · obtain ⟨v, u, a, b, rfl, hv, hu, q⟩ := h
    refine ⟨_, (pss_cons (ps_asg (pe_tup (pa_cons (pv 0) (pa_cons (pv 1) pa_nil))) (pg_cou rfl (pgs_cons (pg_cou rfl (pgs_cons (pg_name (i := 2) scare_told_apart.nd rfl (.inl rfl)) (pgs_cons (pg_name (i := 3) scare_told_apart.nd rfl (.inl rfl)) pgs_nil))) (pgs_cons (pg_cou rfl (pgs_cons (pg_name (i := 4) scare_told_apart.nd rfl (.inl rfl)) (pgs_cons (pg_name (i := 5) scare_told_apart.nd rfl (.inl rfl)) pgs_nil))) pgs_nil)))) (pss_cons (ps_if (pt_cmpR op_ne (pe_ix ix_it (pv 2) pe_int (fun _ _ => rfl)) (pe_ix ix_it (pv 4) pe_int (fun _ _ => rfl)) (nomark _)) (pss_one (ps_ret pe_bl)) pss_nil) (pss_one (ps_ret (pe_and (pe_cmpR (op_eqD hr.units) (pe_ix ix_it (pv 3) pe_int (fun _ _ => rfl)) (pe_ix ix_it (pv 5) pe_int (fun _ _ => rfl)) (nomark _)) (pe_one (pe_cmpR op_ne (pe_ix ix_it (pv 2) pe_int (fun _ _ => rfl)) (pe_ix ix_it (pv 4) pe_int (fun _ _ => rfl)) (nomark _)))))))), ?_⟩
    obtain ⟨p1, r1, l1, rfl, c1, hr1, hl1⟩ := dp_t2 hv
    obtain ⟨p2, r2, l2, rfl, c2, hr2, hl2⟩ := dp_t2 hu
    refine ⟨_, rfl, _, rfl, (by show 2 ≤ sizeLine; decide), fun b_ nb => ?_⟩
    have sn := PB.same_new (o := .tup [.ref p1, .ref p2]) nb
    refine ⟨_, _, ⟨b_, rfl, .inl (.inl (.inl upd_same))⟩, _, _, rfl, _, _, ⟨p1, rfl, .inl (same_t sn c1)⟩, _, _, rfl, _, _, rfl, rfl, _, _, rfl, _, _, ⟨p2, rfl, .inl (same_t sn c2)⟩, _, _, rfl, _, _, rfl, rfl, rfl, ?_⟩
    have cr1 := cou_r (Dp_same sn hr1)
    have cr2 := cou_r (Dp_same sn hr2)
    obtain ⟨x1, y1, k1, hx1, hy1⟩ := pla_t (Dp_same sn hl1)
    obtain ⟨x2, y2, k2, hx2, hy2⟩ := pla_t (Dp_same sn hl2)
    dsimp only
    refine ⟨_, rfl, _, _, 0, _, rfl, cr1, rfl, _, rfl, _, _, 0, _, rfl, cr2, rfl, rfl, _, rfl, ?_⟩
    have un : apartB a b = if (rgP a).1 = (rgP b).1 then decide (a.1 = b.1) && !decide ((rgP a).2 = (rgP b).2) else true := rfl
    by_cases e1 : (rgP a).1 = (rgP b).1
    · refine itF (by simp [e1]) ?_
      rw [if_pos e1] at un
      refine ⟨_, rfl, _, _, 0, _, rfl, k1, rfl, _, rfl, _, _, 0, _, rfl, k2, rfl, _, _, hx1, hx2, (shaped_r _).1, (shaped_r _).1, _, rfl, ?_⟩
      have e2 := eqv_rr a.1 b.1
      by_cases e3 : a.1 = b.1
      · refine itT (e2.trans (decide_eq_true e3)) ?_
        refine ⟨_, rfl, _, _, 1, _, rfl, cr1, rfl, _, rfl, _, _, 1, _, rfl, cr2, rfl, rfl, ?_⟩
        rw [decide_eq_true e3, Bool.true_and] at un
        have := q _ sn
        rw [un] at this
        simpa using this
      · refine itF (e2.trans (decide_eq_false e3)) ?_
        rw [decide_eq_false e3, Bool.false_and] at un
        have := q _ sn
        rw [un] at this
        exact this
    · refine itT (by simp [e1]) ?_
      rw [if_neg e1] at un
      have := q _ sn
      rw [un] at this
      exact this
abbrev sorder_places : Stmt := topS 20
theorem scorder_places : FnScope ["places", "unlike", "rows", "scale", "keyed", "place", "row", "following", "_", "x", "y"] ["places"] (defScope sorder_places) := ⟨rfl, rfl, rfl, by decide +kernel, rfl, by decide +kernel, by decide +kernel⟩
theorem okorder_places (T : Txt K mg "order_places" sorder_places) (Gscaled_floor : DefOk P w K mg base CX0 "scaled_floor" 1 ["top", "bottom", "scale"] spFloor) (Grough_place : DefOk P w K mg base CX0 "rough_place" 1 ["place"] (spRough K)) (Gare_told_apart : DefOk P w K mg base CX0 "are_told_apart" 1 ["row", "following"] (spApart K)) (mlist : mg "list" = none) (mmax : mg "max" = none) (msorted : mg "sorted" = none) (mzip : mg "zip" = none) (mall : mg "all" = none) : DefOk P w K mg base CX0 "order_places" 2 ["places"] (spOrdP K) := by
  obtain ⟨f, fd, F, gf⟩ := T
  refine ⟨f, fd, gf, F.kp, F.binds (fun _ _ _ _ _ _ us hl => match us, hl with | [_], _ => rfl), F.ok scorder_places (fun vs H Q E h => ?_) (fun cdv A outer s H vs Q E hr h => ?_)⟩
  · obtain ⟨p, xs, ps, rfl, _⟩ := h; rfl
  · obtain ⟨p, xs, ps, rfl, hP, l6, hG, q⟩ := h
    refine ⟨_, (pss_cons (ps_set (i := 1) scorder_places.nd rfl (.inl rfl) (pe_callTy (KN.cr_listN rfl) (by rfl) mlist (by decide +kernel) (pa_cons (KN.pe_dcN (o0 := fun D => KN.ND P w D []) (Put := KN.PutN K P w) (own := [("x", 9), ("y", 10)]) (hnew := fun h H hb => KN.hnewN P w h H hb) (hput := KN.hputN rfl (Room.u8 hr) rfl rfl) rfl scorder_places.nd (pi_seq (pv 0)) (blkOk_by (N := ["places", "unlike", "rows", "scale", "keyed", "place", "row", "following", "_", "x", "y"]) (sc := defScope sorder_places) (by decide +kernel)) (fun _ _ _ _ _ => (pg_couK K rfl (pgs_cons (pg_name (i := 9) scorder_places.nd rfl (.inl rfl)) (pgs_cons (pg_name (i := 10) scorder_places.nd rfl (.inl rfl)) pgs_nil)))) (fun _ _ _ _ _ => (pe_tup (pa_cons (pv 9) (pa_cons (pv 10) pa_nil)))) (fun _ _ _ _ _ => pe_bl)) pa_nil))) (pss_cons (ps_set (i := 2) scorder_places.nd rfl (.inl rfl) (pe_callB (cr_sortDat (Room.u65 hr)) (by rfl) msorted (by decide +kernel) (pa_cons (pe_lc (own := [("place", 5)]) rfl scorder_places.nd (pi_seq (pv 1)) (blkOk_by (N := ["places", "unlike", "rows", "scale", "keyed", "place", "row", "following", "_", "x", "y"]) (sc := defScope sorder_places) (by decide +kernel)) (fun _ _ _ _ _ => (pg_name (i := 5) scorder_places.nd rfl (.inl rfl))) (fun _ _ _ _ _ => pts_nil) (fun _ _ _ _ _ => (pe_tup (pa_cons (pe_def Grough_place (hr.mono (by decide)) (by rfl) (pa_cons (pv 5) pa_nil)) (pa_cons (pv 5) pa_nil))))) pa_nil))) (pss_cons (ps_if (pt_val (pe_callB (cr_all rfl) (by rfl) mall (by decide +kernel) (pa_cons (pe_lc (own := [("row", 6), ("following", 7)]) rfl scorder_places.nd (ZP.pi_zipG (by rfl) mzip (pa_cons (pv 2) (pa_cons (pe_slice sl_list (pv 2) (po_some pe_int) po_none) pa_nil))) (blkOk_by (N := ["places", "unlike", "rows", "scale", "keyed", "place", "row", "following", "_", "x", "y"]) (sc := defScope sorder_places) (by decide +kernel)) (fun _ _ _ _ _ => (pg_couK K rfl (pgs_cons (pg_name (i := 6) scorder_places.nd rfl (.inl rfl)) (pgs_cons (pg_name (i := 7) scorder_places.nd rfl (.inl rfl)) pgs_nil)))) (fun _ _ _ _ _ => pts_nil) (fun _ _ _ _ _ => (pe_def Gare_told_apart (hr.mono (by decide)) (by rfl) (pa_cons (pv 6) (pa_cons (pv 7) pa_nil))))) pa_nil))) (pss_one (ps_ret (pe_lc (own := [("_", 8), ("place", 5)]) rfl scorder_places.nd (pi_seq (pv 2)) (blkOk_by (N := ["places", "unlike", "rows", "scale", "keyed", "place", "row", "following", "_", "x", "y"]) (sc := defScope sorder_places) (by decide +kernel)) (fun _ _ _ _ _ => (pg_couK K rfl (pgs_cons (pg_name (i := 8) scorder_places.nd rfl (.inl rfl)) (pgs_cons (pg_name (i := 5) scorder_places.nd rfl (.inl rfl)) pgs_nil)))) (fun _ _ _ _ _ => pts_nil) (fun _ _ _ _ _ => (pv 5))))) pss_nil) (pss_cons (ps_set (i := 3) scorder_places.nd rfl (.inr rfl) (pe_op op_powW (pe_callB (cr_max rfl) (by rfl) mmax (by decide +kernel) (pa_cons (pe_lc (own := [("x", 9), ("y", 10)]) rfl scorder_places.nd (pi_seq (pv 1)) (blkOk_by (N := ["places", "unlike", "rows", "scale", "keyed", "place", "row", "following", "_", "x", "y"]) (sc := defScope sorder_places) (by decide +kernel)) (fun _ _ _ _ _ => (pg_couK K rfl (pgs_cons (pg_name (i := 9) scorder_places.nd rfl (.inl rfl)) (pgs_cons (pg_name (i := 10) scorder_places.nd rfl (.inl rfl)) pgs_nil)))) (fun _ _ _ _ _ => pts_nil) (fun _ _ _ _ _ => (pe_callB (call_max2 rfl) (by rfl) mmax (by decide +kernel) (pa_cons (pe_ix (ix_itK K) (pv 9) pe_int (fun _ _ => rfl)) (pa_cons (pe_ix (ix_itK K) (pv 10) pe_int (fun _ _ => rfl)) pa_nil))))) pa_nil)) pe_int)) (pss_cons (ps_setLc (i := 4) (own := [("x", 9), ("y", 10)]) rfl scorder_places.nd rfl rfl (sw_true rfl rfl rfl (by decide +kernel)) (pi_seq (pv 1)) (blkOk_by (N := ["places", "unlike", "rows", "scale", "keyed", "place", "row", "following", "_", "x", "y"]) (sc := defScope sorder_places) (by decide +kernel)) (fun _ _ _ _ _ => (pg_couK K rfl (pgs_cons (pg_name (i := 9) scorder_places.nd rfl (.inl rfl)) (pgs_cons (pg_name (i := 10) scorder_places.nd rfl (.inl rfl)) pgs_nil)))) (fun _ _ _ _ _ => pts_nil) (fun _ _ _ _ _ => (pe_tup (pa_cons (pe_def Gscaled_floor (hr.mono (by decide)) (by rfl) (pa_cons (pe_ix (ix_itK K) (pv 9) pe_int (fun _ _ => rfl)) (pa_cons (pe_ix (ix_itK K) (pv 9) pe_int (fun _ _ => rfl)) (pa_cons (pv 3) pa_nil)))) (pa_cons (pe_def Gscaled_floor (hr.mono (by decide)) (by rfl) (pa_cons (pe_ix (ix_itK K) (pv 10) pe_int (fun _ _ => rfl)) (pa_cons (pe_ix (ix_itK K) (pv 10) pe_int (fun _ _ => rfl)) (pa_cons (pv 3) pa_nil)))) (pa_cons (pe_tup (pa_cons (pv 9) (pa_cons (pv 10) pa_nil))) pa_nil)))))) (pss_one (ps_ret (pe_lc (own := [("row", 6)]) rfl scorder_places.nd (pi_seq (pe_callB (cr_sortDat (Room.u65 hr)) (by rfl) msorted (by decide +kernel) (pa_cons (pv 4) pa_nil))) (blkOk_by (N := ["places", "unlike", "rows", "scale", "keyed", "place", "row", "following", "_", "x", "y"]) (sc := defScope sorder_places) (by decide +kernel)) (fun _ _ _ _ _ => (pg_name (i := 6) scorder_places.nd rfl (.inl rfl))) (fun _ _ _ _ _ => pts_nil) (fun _ _ _ _ _ => (pe_ix (ix_tupK K) (pv 6) pe_int (fun _ _ => rfl))))))))))), ?_⟩
    have lx : xs.length < sizeLine := small1000 (by have := hP.l; omega)
    dsimp only [tSeq, tAsg, tCB, tCons, tNil]
    refine KN.dc_places (K := K) (P := P) (w := w) (a := p) (xs := xs) (j := 0) ps (by rfl) hP.s hP.l lx (fun i x F R r ex er sF hR => ?_) fun D F1 es s1 eD lp => ?_
    · obtain ⟨vx, vy, c, hx, hy⟩ := (hP.d i x r ex er).same sF
      exact ⟨_, _, c, _, _, rfl, _, _, rfl, rfl, rfl, _, rfl, _, rfl, (by show 2 ≤ sizeLine; decide), fun b nb => hR b _ (PB.same_new nb) (dp_mk2 nb hx hy)⟩
    have hu := KN.uqP_len ps
    have nd := KN.uqP_nodup ps
    have um : ∀ e, e ∈ KN.uqP ps ↔ e ∈ ps := fun e => KN.uqP_mem
    generalize KN.uqP ps = us at lp hu nd um
    have hp : ∀ d ∈ us, GoodP 400 d := fun d hd => hG d ((um d).mp hd)
    refine ⟨D, es, us, rfl, eD, lp, fun l ys nl hys => ?_⟩
    have sF := PB.same_new (o := .lst ys) nl
    have hL : SqL K (upd F1 l (.lst ys)) l ys := .inl (.inl upd_same)
    have hA := DpAll_same sF hys
    generalize upd F1 l (.lst ys) = F at sF hL hA ⊢
    have yl : ys.length = us.length := by rw [DpAll_len hA, List.length_map]
    have yz : ys.length < sizeLine := small1000 (by omega)
    have at_ : ∀ {i : Nat} {x : V} {G : Hp}, Same F G → ys[i]? = some x → ∃ d, us[i]? = some d ∧ us.getD i zP = d ∧ d ∈ us ∧ Dp K G x (pD d) := fun {i x G} s e => by
      obtain ⟨d, ed, hd⟩ := DpAll_at hA e
      rw [List.getElem?_map] at ed
      cases eu : us[i]? with
      | none => rw [eu] at ed; cases ed
      | some u => rw [eu] at ed; cases ed; exact ⟨u, rfl, by rw [List.getD_eq_getElem?_getD, eu]; rfl, List.mem_of_getElem? eu, Dp_same s hd⟩
    dsimp only [tSeq, tAsg, gName, tOp, tCKw, tCons, tNil, tC, tCB]
    refine lc_map (K := K) (a := l) (xs := ys) (j := 1) (fun i => rwP (us.getD i zP)) (fun i => noL_rw _) (by rfl) (.inl hL) yz (fun i x G R ex sx hR => ?_) fun D3 F3 ws s3 n3 e3 h3 => ?_
    · obtain ⟨d, ed, e, dm, hx⟩ := at_ sx ex
      (try dsimp only at hR)
      rw [e] at hR
      refine ⟨rfl, x, rfl, _, _, rfl, pla_t (Dp_same (fun _ _ z => z) hx), hp d dm, fun H' z s' hz => ⟨x, rfl, (by show 2 ≤ sizeLine; decide), fun b nb => ?_⟩⟩
      exact hR _ _ (s'.trans (PB.same_new nb)) (dp_mk2 nb hz (Dp_same s' hx))
    have h3' : DpAll K F3 ws (us.map rwP) := by rw [← range_get us zP, ← yl]; exact h3
    have wl : ws.length = us.length := by rw [DpAll_len h3', List.length_map]
    refine ⟨D3, ws, us.map rwP, rfl, .inl (.inl e3), h3', alike_rw us, sortable_rw us, depth_rw us, fun pz b pm pw nb => ?_⟩
    obtain ⟨os, o1, o2, o3, o4⟩ := sorted_rw wl pm pw
    have sb := PB.same_new (o := .lst (pz.map Prod.fst)) nb
    have hZ : DpAll K (upd F3 b (.lst (pz.map Prod.fst))) (pz.map Prod.fst) (os.map rwP) := by
      rw [← o4]
      exact dpall_of fun z hz => Dp_same sb (zip_dp h3' z (pm.mem_iff.mp hz))
    have eb : (upd F3 b (.lst (pz.map Prod.fst))) b = some (.lst (pz.map Prod.fst)) := upd_same
    generalize upd F3 b (.lst (pz.map Prod.fst)) = F4 at sb hZ eb ⊢
    generalize pz.map Prod.fst = zs at hZ eb
    clear o4 pm pw nb
    have zl : zs.length = os.length := by rw [DpAll_len hZ, List.length_map]
    have go : ∀ d ∈ os, GoodP 400 d := fun d hd => hp d ((o2 d).mp hd)
    have hZat : ∀ {i : Nat} {x : V} {G : Hp}, Same F4 G → zs[i]? = some x → i < os.length ∧ Dp K G x (rwP (os.getD i zP)) := fun {i x G} s e => by
      obtain ⟨d, ed, hd⟩ := DpAll_at hZ e
      rw [List.getElem?_map] at ed
      cases eo : os[i]? with
      | none => rw [eo] at ed; cases ed
      | some o => rw [eo] at ed; cases ed; exact ⟨(List.getElem?_eq_some_iff.mp eo).1, by rw [show os.getD i zP = o by rw [List.getD_eq_getElem?_getD, eo]; rfl]; exact Dp_same s hd⟩
    dsimp only [tIfS, tB, tCB, tCons, tNil]
    refine tlc_allG (K := K) (J := fun c => ZP.ItzG K false false b c) (n := os.length - 1) (G := fun c H' => ZP.SqE K false H' b zs ∧ ZP.SqE K false H' c (zs.drop 1)) (fun c F5 => Same F4 F5 ∧ F5 c = some (.lst (zs.drop 1)))
      (fun R hR => ⟨_, rfl, _, rfl, _, rfl, b, zs, rfl, .inl (.inl eb), fun c nc => ?_⟩) (fun c => ZP.walk_zipG (by rw [List.length_drop]; omega)) (fun i => .bool (apartB (os.getD i zP) (os.getD (i + 1) zP))) (fun i => by simp [noL]) (small1000 (by omega)) (fun c F5 H' ⟨s5, ec⟩ s' => ⟨s'.seq (.inl (.inl (s5 _ _ eb))), s'.seq (.inl (.inl ec))⟩) (fun c => ZP.ypair_same) ?_ ?_
    · have sc' := PB.same_new (o := .lst (zs.drop 1)) nc
      rw [cut_drop1]
      exact ⟨b, c, false, false, zs, zs.drop 1, rfl, .inl (.inl (sc' _ _ eb)), .inl (.inl upd_same), hR c _ ⟨sc', upd_same⟩⟩
    · rintro c F5 ⟨s5, ec⟩ i x H0 H2 R il s2 ⟨T, vx, vy, rfl, nT, rfl, ex, ey⟩ yes
      have sT := PB.same_new (o := .tup [vx, vy]) nT
      have s3_ := (s5.trans s2).trans sT
      obtain ⟨i1, hx⟩ := hZat s3_ ex
      have ey : (List.drop 1 zs)[i]? = some vy := ey
      rw [List.getElem?_drop] at ey
      obtain ⟨i2, hy⟩ := hZat s3_ ey
      rw [Nat.add_comm 1 i] at hy
      exact ⟨vx, vy, ⟨T, rfl, .inl (.inl (.inl upd_same))⟩, _, _, rfl, _, _, rfl, rfl, rfl, vx, rfl, vy, rfl, vx, vy, _, _, rfl, hx, hy, fun H' s' => yes _ _ s' (.bl _)⟩
    rintro c F5 ⟨s5, ec⟩ D6 F6 bs s6 n6 e6 h6
    have eB := dpa_bls (bs := (List.range (os.length - 1)).map fun i => apartB (os.getD i zP) (os.getD (i + 1) zP)) (by rw [List.map_map]; exact h6)
    have s46 := s5.trans s6
    have sF6 : Same F F6 := (s3.trans sb).trans s46
    have sH6 : Same H F6 := (s1.trans sF).trans sF6
    have hA6 : SqL K F6 l ys := sF6.seq hL
    refine ⟨D6, _, rfl, by rw [← eB]; exact .inl (.inl e6), _, rfl, ?_⟩
    split
    · rename_i all_
      have ord := chain_lt (fun d hd => (go d hd).1) o1 fun i hi => (range_all' _ _).mp all_ i (by omega)
      dsimp only [tRet]
      refine lc_map (K := K) (a := b) (xs := zs) (j := 2) (fun i => pD (os.getD i zP)) (fun i => by simp [pD, rD, noL, noLs]) (by rfl) (.inl (.inl (.inl (s46 _ _ eb)))) (small1000 (by omega)) (fun i x G R ex sx hR => ?_) fun D8 F8 ts s8 n8 e8 h8 => ?_
      · obtain ⟨i1, hx⟩ := hZat (s46.trans sx) ex
        obtain ⟨pr, r1, l1, rfl, c1, hr1, hl1⟩ := dp_t2 hx
        exact ⟨_, _, ⟨pr, rfl, .inl c1⟩, _, _, rfl, _, _, rfl, rfl, rfl, l1, rfl, hR _ _ (fun _ _ z => z) hl1⟩
      have h8' : DpAll K F8 ts (os.map pD) := by rw [← range_get os zP, ← zl]; exact h8
      exact q F8 D8 ts os (sH6.trans s8) (sH6.free n8) ord (fun d => (o2 d).trans (um d)) (by omega) e8 h8'
    rename_i none_
    have pos : 0 < us.length := by
      rcases Nat.eq_zero_or_pos us.length with z | z
      · exact absurd (by rw [o3, z]; rfl) none_
      · exact z
    dsimp only [tNext, tSeq, tAsg, gName, tOp, tCB, tCons, tNil, tC]
    have at6 : ∀ {i : Nat} {x : V} {G : Hp}, Same F6 G → ys[i]? = some x → ∃ d, us[i]? = some d ∧ us.getD i zP = d ∧ d ∈ us ∧ Pla K G x d := fun s' e => by
      obtain ⟨d, a1, a2, a3, a4⟩ := at_ (sF6.trans s') e
      exact ⟨d, a1, a2, a3, pla_t a4⟩
    refine lc_map (K := K) (a := l) (xs := ys) (j := 1) (fun i => .int (mxb (us.getD i zP))) (fun i => by simp [noL]) (by rfl) (.inl hA6) yz (fun i x G R ex sx hR => ?_) fun D7 F7 vs s7 n7 e7 h7 => ?_
    · obtain ⟨d, ed, e, _, vx, vy, c, hx, hy⟩ := at6 sx ex
      (try dsimp only at hR)
      rw [e] at hR
      exact ⟨_, _, c, _, _, rfl, _, _, rfl, rfl, rfl, vx, rfl, _, _, 1, _, rfl, cou_r hx, rfl, vy, rfl, _, _, 1, _, rfl, cou_r hy, rfl, _, _, rfl, hR _ _ (fun _ _ z => z) (.int _)⟩
    have h7' : DpAll K F7 vs ((us.map mxb).map PyData.int) := by
      rw [List.map_map, ← range_get us zP, ← yl]; exact h7
    have ew := dpa_ints h7'
    refine ⟨D7, us.map mxb, rfl, by rw [← ew]; exact .inl (.inl e7), by rw [List.length_map]; exact pos, fun m m0 m1 => ?_⟩
    have mz : Sz 400 m ∧ ∀ d ∈ us, d.1.2 ≤ m ∧ d.2.2 ≤ m := by
      refine ⟨?_, fun d hd => ?_⟩
      · obtain ⟨d, hd, rfl⟩ := List.mem_map.mp m0
        exact mxb_sz (hp d hd).2
      · have := m1 _ (List.mem_map.mpr ⟨d, hd, rfl⟩)
        have := mxb_le d
        omega
    refine ⟨_, _, rfl, rfl, ⟨by decide, ?_⟩, ?_⟩
    · have := intBits_le mz.1
      omega
    have e2 : m ^ (2 : Int).toNat = m * m := by show m ^ 2 = m * m; rw [Int.pow_succ, Int.pow_succ, Int.pow_zero, Int.one_mul]
    have hs : ∀ d ∈ us, ∀ e ∈ us, d.1.2 * e.1.2 ≤ m ^ (2 : Int).toNat ∧ d.2.2 * e.2.2 ≤ m ^ (2 : Int).toNat := fun d hd e he => by
      rw [e2]
      have a1 := (hp d hd).1
      have a2 := (hp e he).1
      have b1 := mz.2 d hd
      have b2 := mz.2 e he
      have c1 := a1.1.1
      have c2 := a2.1.1
      have c3 := a1.2.1
      have c4 := a2.2.1
      exact ⟨Int.mul_le_mul b1.1 b2.1 (by omega) (by omega), Int.mul_le_mul b1.2 b2.2 (by omega) (by omega)⟩
    have sz : Sz 4000 (m ^ (2 : Int).toNat) := by
      rw [e2]
      exact sz_mono (sz_mul mz.1 mz.1) (by decide)
    clear e2
    dsimp only [tSeq, tAsg, gName]
    revert hs sz
    generalize m ^ (2 : Int).toNat = sc
    intro hs sz
    refine lc_map (K := K) (a := l) (xs := ys) (j := 1) (fun i => rowP sc (us.getD i zP)) (fun i => by simp [rowP, pD, rD, noL, noLs]) (by rfl) (.inl (s7.seq hA6)) yz (fun i x F8a R ex sx hR => ?_) fun D8 F8 ks s8 n8 e8 h8 => ?_
    · obtain ⟨d, ed, e, dm, vx, vy, c, hx, hy⟩ := at6 (s7.trans sx) ex
      (try dsimp only at hR)
      rw [e] at hR
      obtain ⟨⟨i1, i2⟩, z1, z2⟩ := hp d dm
      have cx := cou_r hx
      have cy := cou_r hy
      refine ⟨_, _, c, _, _, rfl, _, _, rfl, rfl, rfl, vx, rfl, _, _, 0, _, rfl, cx, rfl, vx, rfl, _, _, 1, _, rfl, cx, rfl, _, rfl, _, _, _, rfl, i1.1, sz_mono z1.1 (by decide), sz_mono z1.2 (by decide), sz, ?_⟩
      refine ⟨vy, rfl, _, _, 0, _, rfl, cy, rfl, vy, rfl, _, _, 1, _, rfl, cy, rfl, _, rfl, _, _, _, rfl, i2.1, sz_mono z2.1 (by decide), sz_mono z2.2 (by decide), sz, ?_⟩
      refine ⟨vx, rfl, vy, rfl, (by show 2 ≤ sizeLine; decide), fun b nb => ⟨(by show 3 ≤ sizeLine; decide), fun e ne => ?_⟩⟩
      exact hR _ _ ((PB.same_new nb).trans (PB.same_new ne)) (.tup (.inl (.inl upd_same)) (.cons (.int _) (.cons (.int _) (.cons (Dp_same (PB.same_new ne) (dp_mk2 nb hx hy)) .nil))))
    have h8' : DpAll K F8 ks (us.map (rowP sc)) := by rw [← range_get us zP, ← yl]; exact h8
    have kl : ks.length = us.length := by rw [DpAll_len h8', List.length_map]
    dsimp only [tRet]
    refine lc_mapG (K := K) (fun a rs F9 => ∃ os : List Pl, Same F8 F9 ∧ SqL K F9 a rs ∧ DpAll K F9 rs (os.map (rowP sc)) ∧ os.Pairwise ltP ∧ (∀ d, d ∈ os ↔ d ∈ us) ∧ os.length = us.length)
      (fun R hR => ⟨_, rfl, D8, ks, us.map (rowP sc), rfl, .inl (.inl e8), h8', alike_rowsP sc us, sortable_rowsP sc us, depth_rowsP sc us, fun ps b pm pw nb => ?_⟩) (fun a rs F9 ⟨os, s9, hL9, h9, ob, om, ol⟩ => ?_)
    · obtain ⟨os, o1, o2, o3, o4⟩ := sorted_ltP kl (fun d hd => (hp d hd).1) nd hs pm pw
      refine hR b (ps.map Prod.fst) _ ⟨os, PB.same_new nb, .inl (.inl upd_same), ?_, o1, o2, o3⟩
      rw [← o4]
      exact dpall_of fun z hz => Dp_same (PB.same_new nb) (zip_dp h8' z (pm.mem_iff.mp hz))
    have rl : rs.length = os.length := by rw [DpAll_len h9, List.length_map]
    have s16 := ((sH6.trans s7).trans s8).trans s9
    refine ⟨hL9, small1000 (by omega), fun i => pD (os.getD i zP), fun i => by simp [pD, rD, noL, noLs], fun i x F9a R ex sx hR => ?_, fun D10 F10 ts s10 n10 e10 h10 => ?_⟩
    · obtain ⟨d', ed, hd⟩ := DpAll_at h9 ex
      rw [List.getElem?_map] at ed
      cases eo : os[i]? with
      | none => rw [eo] at ed; cases ed
      | some d =>
        rw [eo] at ed
        cases ed
        have e : os.getD i zP = d := by rw [List.getD_eq_getElem?_getD, eo]; rfl
        (try dsimp only at hR)
        rw [e] at hR
        obtain ⟨pr, c1, c2, c3, rfl, hT, hc⟩ := dp_rowP (Dp_same sx hd)
        exact ⟨rfl, _, rfl, pr, _, 2, _, rfl, rfl, hT, rfl, hR _ _ (fun _ _ z => z) hc⟩
    have h10' : DpAll K F10 ts (os.map pD) := by rw [← range_get os zP, ← rl]; exact h10
    exact q _ D10 ts os (s16.trans s10) (s16.free n10) ob (fun d => (om d).trans (um d)) (by omega) e10 h10'
end
end F3
set_option Elab.async false
set_option linter.all false
set_option maxRecDepth 100000
set_option maxHeartbeats 4000000
set_option exponentiation.threshold 3000
namespace F3
open PySem PySem.Spec PyProof.Rows L2 FX RM PB KD KS
/-- above 0 if three places turn left -/
def sgP (a b c : Pl) : Int := (rawC (wrow a) (wrow b) (wrow c)).1
def pushP (p : Pl) : List Pl → List Pl
  | y :: x :: r => if sgP x y p ≤ 0 then pushP p (x :: r) else p :: y :: x :: r
  | st => p :: st
def stP (l : List Pl) : List Pl := l.foldl (fun s p => pushP p s) []
def chP (l : List Pl) : List Pl := (stP l).reverse
def hullP (os : List Pl) : List Pl := if os.length = 1 then os else (chP os).dropLast ++ (chP os.reverse).dropLast
theorem sgn_le (i : Int) : sgn i ≤ 0 ↔ i ≤ 0 := by
  unfold sgn
  by_cases a : i < 0
  · rw [if_pos a]; omega
  · rw [if_neg a]
    by_cases b : 0 < i
    · rw [if_pos b]; omega
    · rw [if_neg b]; omega
theorem push_mem {p q : Pl} : ∀ {st : List Pl}, q ∈ pushP p st → q = p ∨ q ∈ st
  | [], h => .inl (List.mem_singleton.mp h)
  | [y], h => by
    rcases List.mem_cons.mp h with h | h
    · exact .inl h
    · exact .inr h
  | y :: x :: r, h => by
    unfold pushP at h
    split at h
    · rcases push_mem h with h | h
      · exact .inl h
      · exact .inr (List.mem_cons_of_mem _ h)
    · rcases List.mem_cons.mp h with h | h
      · exact .inl h
      · exact .inr h
theorem st_mem {q : Pl} : ∀ {l s : List Pl}, q ∈ l.foldl (fun s p => pushP p s) s → q ∈ l ∨ q ∈ s
  | [], _, h => .inr h
  | p :: l, s, h => by
    have h : q ∈ l.foldl (fun s p => pushP p s) (pushP p s) := h
    rcases st_mem h with h | h
    · exact .inl (List.mem_cons_of_mem _ h)
    · rcases push_mem h with h | h
      · exact .inl (h ▸ List.mem_cons_self ..)
      · exact .inr h
theorem push_len (p : Pl) : ∀ st : List Pl, (pushP p st).length ≤ st.length + 1
  | [] => Nat.le_refl _
  | [y] => Nat.le_refl _
  | y :: x :: r => by
    unfold pushP
    split
    · have := push_len p (x :: r)
      simp at this ⊢
      omega
    · simp
theorem st_len : ∀ (l s : List Pl), (l.foldl (fun s p => pushP p s) s).length ≤ l.length + s.length
  | [], s => by simp
  | p :: l, s => by
    have := st_len l (pushP p s)
    have := push_len p s
    rw [List.foldl_cons, List.length_cons]
    omega
theorem dp_snoc2 {K : PySem.W.Frag} {H : Hp} {a b : PyData} : ∀ {ds : List PyData} {ys : List V}, DpAll K H ys (ds ++ [a, b]) → ∃ zs v w, ys = zs ++ [v, w] ∧ DpAll K H zs ds ∧ Dp K H v a ∧ Dp K H w b
  | [], _, .cons h1 (.cons h2 .nil) => ⟨[], _, _, rfl, .nil, h1, h2⟩
  | _ :: _, _, .cons h t => by
    obtain ⟨zs, v, w, rfl, k1, k2, k3⟩ := dp_snoc2 t
    exact ⟨_ :: zs, v, w, rfl, .cons h k1, k2, k3⟩
theorem atI_2 {α : Type} (zs : List α) (v w : α) : atI (zs ++ [v, w]) (-2) = some v ∧ atI (zs ++ [v, w]) (-1) = some w := by
  have hl : (zs ++ [v, w]).length = zs.length + 2 := by simp
  have e2 : ixN (zs ++ [v, w]).length (-2) = some zs.length := by
    unfold ixN
    rw [if_neg (by omega), hl, if_pos (by omega)]
    congr 1; omega
  have e1 : ixN (zs ++ [v, w]).length (-1) = some (zs.length + 1) := by
    unfold ixN
    rw [if_neg (by omega), hl, if_pos (by omega)]
    congr 1; omega
  unfold atI
  rw [e1, e2]
  constructor
  · show (zs ++ [v, w])[zs.length]? = some v
    rw [List.getElem?_append_right (Nat.le_refl _), Nat.sub_self]; rfl
  · show (zs ++ [v, w])[zs.length + 1]? = some w
    rw [List.getElem?_append_right (by omega), show zs.length + 1 - zs.length = 1 by omega]; rfl
theorem noLs_p (ds : List Pl) : noLs (ds.map pD) = true := noLs_all fun d hd => by
  obtain ⟨x, _, rfl⟩ := List.mem_map.mp hd
  simp [pD, rD, noL, noLs]
theorem noL_pp (p : Pl) : noL (pD p) = true := by simp [pD, rD, noL, noLs]
theorem cut_last (xs : List V) : cutV xs none (some (-1)) = xs.dropLast := by
  unfold cutV
  rw [List.dropLast_eq_take]
  cases xs with
  | nil => rfl
  | cons x xs =>
    have e1 : HT.sIx (x :: xs).length 0 none = 0 := rfl
    have e2 : HT.sIx (x :: xs).length (x :: xs).length (some (-1)) = (x :: xs).length - 1 := by
      show (if (-1 : Int) < 0 then (-1 + ((x :: xs).length : Int)).toNat else min (-1 : Int).toNat (x :: xs).length) = _
      rw [if_pos (by omega)]
      simp only [List.length_cons]
      omega
    rw [e1, e2]; rfl
theorem dp_dropLast {K : PySem.W.Frag} {H : Hp} : ∀ {ys : List V} {ds : List PyData}, DpAll K H ys ds → DpAll K H ys.dropLast ds.dropLast
  | _, _, .nil => .nil
  | _, _, .cons _ .nil => .nil
  | _, _, .cons h (.cons h2 t) => .cons h (dp_dropLast (.cons h2 t))
theorem dp_rev {K : PySem.W.Frag} {H : Hp} : ∀ {ys : List V} {ds : List PyData}, DpAll K H ys ds → DpAll K H ys.reverse ds.reverse
  | _, _, .nil => .nil
  | _, _, .cons h t => by rw [List.reverse_cons, List.reverse_cons]; exact DpAll_snoc h (dp_rev t)
theorem dp_app {K : PySem.W.Frag} {H : Hp} : ∀ {vs us : List V} {ds es : List PyData}, DpAll K H vs ds → DpAll K H us es → DpAll K H (vs ++ us) (ds ++ es)
  | _, _, _, _, .nil, h => h
  | _, _, _, _, .cons a b, h => .cons a (dp_app b h)
def sc (N : Int) (p : Pl) : G4.Pt := (p.1.1 * (N / p.1.2), p.2.1 * (N / p.2.2))
/-- N is a bottom of a place -/
def Bot (N : Int) (p : Pl) : Prop := RatP p ∧ p.1.2 ∣ N ∧ p.2.2 ∣ N
theorem sc_1 {N : Int} {p : Pl} (h : Bot N p) : (sc N p).1 * p.1.2 = p.1.1 * N ∧ (sc N p).2 * p.2.2 = p.2.1 * N := by
  obtain ⟨_, d1, d2⟩ := h
  constructor
  · show p.1.1 * (N / p.1.2) * p.1.2 = _
    rw [Int.mul_assoc, Int.ediv_mul_cancel d1]
  · show p.2.1 * (N / p.2.2) * p.2.2 = _
    rw [Int.mul_assoc, Int.ediv_mul_cancel d2]
theorem sc_w {N : Int} {p : Pl} (h : Bot N p) : 0 < (wrow p).2.2 ∧ (sc N p).1 * (wrow p).2.2 = N * (wrow p).1 ∧ (sc N p).2 * (wrow p).2.2 = N * (wrow p).2.1 := by
  obtain ⟨w0, w1, w2⟩ := wrow_spec h.1
  obtain ⟨s1, s2⟩ := sc_1 h
  have b1 := h.1.1.1
  have b2 := h.1.2.1
  refine ⟨w0, ?_, ?_⟩
  · refine Int.eq_of_mul_eq_mul_right (a := p.1.2) (by omega) ?_
    generalize (sc N p).1 = x at *
    generalize (wrow p).2.2 = W at *
    generalize (wrow p).1 = Y at *
    calc x * W * p.1.2 = x * p.1.2 * W := by grind
      _ = N * (p.1.1 * W) := by rw [s1]; grind
      _ = N * Y * p.1.2 := by rw [← w1]; grind
  · refine Int.eq_of_mul_eq_mul_right (a := p.2.2) (by omega) ?_
    generalize (sc N p).2 = x at *
    generalize (wrow p).2.2 = W at *
    generalize (wrow p).2.1 = Y at *
    calc x * W * p.2.2 = x * p.2.2 * W := by grind
      _ = N * (p.2.1 * W) := by rw [s2]; grind
      _ = N * Y * p.2.2 := by rw [← w2]; grind
theorem sc_cr {N : Int} {a b c : Pl} (ha : Bot N a) (hb : Bot N b) (hc : Bot N c) : sgP a b c * (N * N) = G4.cr (sc N a) (sc N b) (sc N c) * ((wrow a).2.2 * (wrow b).2.2 * (wrow c).2.2) := by
  obtain ⟨_, a1, a2⟩ := sc_w ha
  obtain ⟨_, b1, b2⟩ := sc_w hb
  obtain ⟨_, c1, c2⟩ := sc_w hc
  unfold sgP rawC G4.cr
  dsimp only
  generalize sc N a = A at *
  generalize sc N b = B at *
  generalize sc N c = C at *
  generalize wrow a = U at *
  generalize wrow b = V at *
  generalize wrow c = W at *
  have e : (U.2.2 * (V.1 * W.2.1 - V.2.1 * W.1) + V.2.2 * (W.1 * U.2.1 - W.2.1 * U.1) + W.2.2 * (U.1 * V.2.1 - U.2.1 * V.1)) * (N * N) =
    U.2.2 * ((N * V.1) * (N * W.2.1) - (N * V.2.1) * (N * W.1)) + V.2.2 * ((N * W.1) * (N * U.2.1) - (N * W.2.1) * (N * U.1)) + W.2.2 * ((N * U.1) * (N * V.2.1) - (N * U.2.1) * (N * V.1)) := by grind
  rw [e, ← a1, ← a2, ← b1, ← b2, ← c1, ← c2]
  grind
theorem sc_pos {N : Int} (n0 : 0 < N) {a b c : Pl} (ha : Bot N a) (hb : Bot N b) (hc : Bot N c) : (sgP a b c ≤ 0 ↔ G4.cr (sc N a) (sc N b) (sc N c) ≤ 0) ∧ (sgP a b c < 0 ↔ G4.cr (sc N a) (sc N b) (sc N c) < 0) := by
  have e := sc_cr ha hb hc
  have w := Int.mul_pos (Int.mul_pos (sc_w ha).1 (sc_w hb).1) (sc_w hc).1
  have n2 := Int.mul_pos n0 n0
  generalize (wrow a).2.2 * (wrow b).2.2 * (wrow c).2.2 = W at *
  generalize N * N = M at *
  generalize sgP a b c = s at *
  generalize G4.cr (sc N a) (sc N b) (sc N c) = t at *
  have k1 : s < 0 ↔ s * M < 0 := ⟨fun h => Int.mul_neg_of_neg_of_pos h n2, fun h => by
    rcases Int.lt_or_le s 0 with z | z
    · exact z
    · have := Int.mul_nonneg z (Int.le_of_lt n2); omega⟩
  have k2 : t < 0 ↔ t * W < 0 := ⟨fun h => Int.mul_neg_of_neg_of_pos h w, fun h => by
    rcases Int.lt_or_le t 0 with z | z
    · exact z
    · have := Int.mul_nonneg z (Int.le_of_lt w); omega⟩
  have k3 : 0 < s ↔ 0 < s * M := ⟨fun h => Int.mul_pos h n2, fun h => by
    rcases Int.lt_or_le 0 s with z | z
    · exact z
    · have := Int.mul_nonneg (by omega : 0 ≤ -s) (Int.le_of_lt n2); rw [Int.neg_mul] at this; omega⟩
  have k4 : 0 < t ↔ 0 < t * W := ⟨fun h => Int.mul_pos h w, fun h => by
    rcases Int.lt_or_le 0 t with z | z
    · exact z
    · have := Int.mul_nonneg (by omega : 0 ≤ -t) (Int.le_of_lt w); rw [Int.neg_mul] at this; omega⟩
  rw [e] at k1 k3
  omega
/-- a bottom of all places of a list -/
def bots : List Pl → Int
  | [] => 1
  | p :: l => p.1.2 * p.2.2 * bots l
theorem bots_pos : ∀ {l : List Pl}, (∀ p ∈ l, RatP p) → 0 < bots l
  | [], _ => by decide
  | p :: l, h => by
    have := h p (List.mem_cons_self ..)
    exact Int.mul_pos (Int.mul_pos this.1.1 this.2.1) (bots_pos fun q hq => h q (List.mem_cons_of_mem _ hq))
theorem bots_dvd : ∀ {l : List Pl} {p : Pl}, p ∈ l → p.1.2 ∣ bots l ∧ p.2.2 ∣ bots l
  | q :: l, p, h => by
    rcases List.mem_cons.mp h with rfl | h
    · exact ⟨⟨p.2.2 * bots l, by show p.1.2 * p.2.2 * bots l = _; generalize bots l = z; grind⟩, ⟨p.1.2 * bots l, by show p.1.2 * p.2.2 * bots l = _; generalize bots l = z; grind⟩⟩
    · obtain ⟨⟨x, hx⟩, ⟨y, hy⟩⟩ := bots_dvd h
      exact ⟨⟨q.1.2 * q.2.2 * x, by show q.1.2 * q.2.2 * bots l = _; rw [hx]; grind⟩, ⟨q.1.2 * q.2.2 * y, by show q.1.2 * q.2.2 * bots l = _; rw [hy]; grind⟩⟩
theorem bots_ok {l : List Pl} (h : ∀ p ∈ l, RatP p) : ∀ p ∈ l, Bot (bots l) p := fun p hp => ⟨h p hp, bots_dvd hp⟩
/-! rough turns -/
def qrP (p : Pl) : PyData := .tuple [pD p, rD (rgP p)]
theorem noL_qr (p : Pl) : noL (qrP p) = true := by simp [qrP, pD, rD, noL, noLs]
theorem noLs_qr (ds : List Pl) : noLs (ds.map qrP) = true := noLs_all fun d hd => by
  obtain ⟨x, _, rfl⟩ := List.mem_map.mp hd
  exact noL_qr x
def crI (a b c : Int × Int) : Int := (b.1 - a.1) * (c.2 - a.2) - (b.2 - a.2) * (c.1 - a.1)
def offI (a b c : Int × Int) : Int := ((b.1 - a.1).natAbs : Int) + ((b.2 - a.2).natAbs : Int) + ((c.1 - a.1).natAbs : Int) + ((c.2 - a.2).natAbs : Int) + 2
def rtF (a b c : Int × Int) : Int := if ((crI a b c).natAbs : Int) < offI a b c then 0 else sgn (crI a b c)
def spRTurn (K : PySem.W.Frag) : Sp := fun vs H Q _ => ∃ v u t a b c, vs = [v, u, t] ∧ Dp K H v (rD a) ∧ Dp K H u (rD b) ∧ Dp K H t (rD c) ∧ SzR 3000 a ∧ SzR 3000 b ∧ SzR 3000 c ∧ ∀ H', Same H H' → Q (.int (rtF a b c)) H'
def spTurnsL (K : PySem.W.Frag) : Sp := fun vs H Q _ => ∃ v u t a b c, vs = [v, u, t] ∧ Dp K H v (qrP a) ∧ Dp K H u (qrP b) ∧ Dp K H t (qrP c) ∧ GoodP 400 a ∧ GoodP 400 b ∧ GoodP 400 c ∧ ∀ H', Same H H' → Q (.bl (decide (0 < sgP a b c))) H'
theorem floor_mul {t b S X N : Int} (b0 : 0 < b) (n0 : 0 < N) (s0 : 0 < S) (e : X * b = t * N) : (t * S / b) * N ≤ X * S ∧ X * S < (t * S / b) * N + N := by
  have h1 : t * S / b * b ≤ t * S := Int.ediv_mul_le _ (by omega)
  have h2 : t * S < (t * S / b + 1) * b := Int.lt_ediv_add_one_mul_self _ b0
  generalize t * S / b = q at h1 h2 ⊢
  constructor
  · refine Int.le_of_mul_le_mul_right (a := b) ?_ b0
    have k : q * b * N ≤ t * S * N := Int.mul_le_mul_of_nonneg_right h1 (by omega)
    have e1 : q * N * b = q * b * N := by grind
    have e2 : X * S * b = t * S * N := by
      have : X * S * b = X * b * S := by grind
      rw [this, e]; grind
    rw [e1, e2]; exact k
  · refine Int.lt_of_mul_lt_mul_right (a := b) ?_ (Int.le_of_lt b0)
    have k : t * S * N < (q + 1) * b * N := Int.mul_lt_mul_of_pos_right h2 n0
    have e1 : (q * N + N) * b = (q + 1) * b * N := by grind
    have e2 : X * S * b = t * S * N := by
      have : X * S * b = X * b * S := by grind
      rw [this, e]; grind
    rw [e1, e2]; exact k
theorem off_mul {p q N : Int} (h1 : -N < q) (h2 : q < N) : -((p.natAbs : Int) * N) ≤ p * q ∧ p * q ≤ (p.natAbs : Int) * N := by
  rcases Int.le_total 0 p with k | k
  · have e : (p.natAbs : Int) = p := by omega
    rw [e]
    have a := Int.mul_le_mul_of_nonneg_left (by omega : q ≤ N) k
    have b := Int.mul_le_mul_of_nonneg_left (by omega : -N ≤ q) k
    rw [Int.mul_neg] at b
    exact ⟨b, a⟩
  · have e : (p.natAbs : Int) = -p := by omega
    rw [e]
    have a := Int.mul_le_mul_of_nonneg_left (by omega : q ≤ N) (by omega : 0 ≤ -p)
    have b := Int.mul_le_mul_of_nonneg_left (by omega : -N ≤ q) (by omega : 0 ≤ -p)
    simp only [Int.mul_neg, Int.neg_mul] at a b ⊢
    omega
theorem off_lt {p q N : Int} (n0 : 0 < N) (p1 : -N < p) (p2 : p < N) (h1 : -N < q) (h2 : q < N) : -(N * N) < p * q ∧ p * q < N * N := by
  obtain ⟨a, b⟩ := off_mul (p := p) h1 h2
  have k : (p.natAbs : Int) * N < N * N := Int.mul_lt_mul_of_pos_right (by omega) n0
  omega
theorem cross_off {N dx dy ex ey a b c d : Int} (n0 : 0 < N) (a1 : -N < a) (a2 : a < N) (b1 : -N < b) (b2 : b < N) (c1 : -N < c) (c2 : c < N) (d1 : -N < d) (d2 : d < N) :
    ((dx.natAbs : Int) + (dy.natAbs : Int) + (ex.natAbs : Int) + (ey.natAbs : Int) + 2 ≤ dx * ey - dy * ex → 0 < (N * dx + a) * (N * ey + d) - (N * dy + b) * (N * ex + c)) ∧
    ((dx.natAbs : Int) + (dy.natAbs : Int) + (ex.natAbs : Int) + (ey.natAbs : Int) + 2 ≤ -(dx * ey - dy * ex) → (N * dx + a) * (N * ey + d) - (N * dy + b) * (N * ex + c) < 0) := by
  have e : (N * dx + a) * (N * ey + d) - (N * dy + b) * (N * ex + c) = N * (N * (dx * ey - dy * ex) + (dx * d + ey * a - dy * c - ex * b)) + (a * d - b * c) := by grind
  rw [e]
  generalize dx * ey - dy * ex = Z
  obtain ⟨x1, x2⟩ := off_mul (p := dx) d1 d2
  obtain ⟨y1, y2⟩ := off_mul (p := ey) a1 a2
  obtain ⟨z1, z2⟩ := off_mul (p := dy) c1 c2
  obtain ⟨w1, w2⟩ := off_mul (p := ex) b1 b2
  obtain ⟨u1, u2⟩ := off_lt n0 a1 a2 d1 d2
  obtain ⟨v1, v2⟩ := off_lt n0 b1 b2 c1 c2
  generalize (dx.natAbs : Int) = A at *
  generalize (dy.natAbs : Int) = B at *
  generalize (ex.natAbs : Int) = C at *
  generalize (ey.natAbs : Int) = D at *
  generalize a * d = ad at *
  generalize b * c = bc at *
  generalize dx * d = p1 at *
  generalize ey * a = p2 at *
  generalize dy * c = p3 at *
  generalize ex * b = p4 at *
  have s : A * N + B * N + C * N + D * N = N * (A + B + C + D) := by grind
  constructor
  · intro h
    have k : N * (A + B + C + D + 2) ≤ N * Z := Int.mul_le_mul_of_nonneg_left h (by omega)
    have k2 : N * (N * 2) ≤ N * (N * Z + (p1 + p2 - p3 - p4)) := by
      refine Int.mul_le_mul_of_nonneg_left ?_ (by omega)
      have : N * (A + B + C + D + 2) = N * (A + B + C + D) + N * 2 := by grind
      omega
    have : N * (N * 2) = 2 * (N * N) := by grind
    omega
  · intro h
    have k : N * (A + B + C + D + 2) ≤ N * (-Z) := Int.mul_le_mul_of_nonneg_left h (by omega)
    have k2 : N * (N * 2) ≤ N * (-(N * Z + (p1 + p2 - p3 - p4))) := by
      refine Int.mul_le_mul_of_nonneg_left ?_ (by omega)
      have : N * (A + B + C + D + 2) = N * (A + B + C + D) + N * 2 := by grind
      have e2 : N * (-Z) = -(N * Z) := by grind
      omega
    have e3 : N * (-(N * Z + (p1 + p2 - p3 - p4))) = -(N * (N * Z + (p1 + p2 - p3 - p4))) := by grind
    have : N * (N * 2) = 2 * (N * N) := by grind
    omega
theorem rough_sc {N : Int} (n0 : 0 < N) {p : Pl} (h : Bot N p) : ∃ r s : Int, (sc N p).1 * 2 ^ 64 = N * (rgP p).1 + r ∧ 0 ≤ r ∧ r < N ∧ (sc N p).2 * 2 ^ 64 = N * (rgP p).2 + s ∧ 0 ≤ s ∧ s < N := by
  obtain ⟨s1, s2⟩ := sc_1 h
  have s0 : (0 : Int) < 2 ^ 64 := by decide
  obtain ⟨a1, a2⟩ := floor_mul h.1.1.1 n0 s0 s1
  obtain ⟨b1, b2⟩ := floor_mul h.1.2.1 n0 s0 s2
  have u1 : (rgP p).1 = p.1.1 * 2 ^ 64 / p.1.2 := rfl
  have u2 : (rgP p).2 = p.2.1 * 2 ^ 64 / p.2.2 := rfl
  rw [← u1] at a1 a2
  rw [← u2] at b1 b2
  generalize (sc N p).1 * 2 ^ 64 = X at *
  generalize (sc N p).2 * 2 ^ 64 = Y at *
  rw [Int.mul_comm] at a1 a2 b1 b2
  exact ⟨X - N * (rgP p).1, Y - N * (rgP p).2, by omega, by omega, by omega, by omega, by omega, by omega⟩
theorem rt_sign {a b c : Pl} (ha : RatP a) (hb : RatP b) (hc : RatP c) (h : rtF (rgP a) (rgP b) (rgP c) ≠ 0) : 0 < rtF (rgP a) (rgP b) (rgP c) ↔ 0 < sgP a b c := by
  have hr : ∀ p ∈ [a, b, c], RatP p := fun p hp => by
    rcases List.mem_cons.mp hp with rfl | hp
    · exact ha
    rcases List.mem_cons.mp hp with rfl | hp
    · exact hb
    · rw [List.mem_singleton.mp hp]; exact hc
  have n0 := bots_pos hr
  have ba := bots_ok hr a (by simp)
  have bb := bots_ok hr b (by simp)
  have bc := bots_ok hr c (by simp)
  generalize bots [a, b, c] = N at n0 ba bb bc
  have sg := (sc_pos n0 ba bb bc).1
  obtain ⟨r1, s1, e1, f1, g1, h1, i1, j1⟩ := rough_sc n0 ba
  obtain ⟨r2, s2, e2, f2, g2, h2, i2, j2⟩ := rough_sc n0 bb
  obtain ⟨r3, s3, e3, f3, g3, h3, i3, j3⟩ := rough_sc n0 bc
  have key : G4.cr (sc N a) (sc N b) (sc N c) * (2 ^ 64 * 2 ^ 64) = (N * ((rgP b).1 - (rgP a).1) + (r2 - r1)) * (N * ((rgP c).2 - (rgP a).2) + (s3 - s1)) - (N * ((rgP b).2 - (rgP a).2) + (s2 - s1)) * (N * ((rgP c).1 - (rgP a).1) + (r3 - r1)) := by
    have t1 : N * ((rgP b).1 - (rgP a).1) + (r2 - r1) = (sc N b).1 * 2 ^ 64 - (sc N a).1 * 2 ^ 64 := by rw [e1, e2]; grind
    have t2 : N * ((rgP c).2 - (rgP a).2) + (s3 - s1) = (sc N c).2 * 2 ^ 64 - (sc N a).2 * 2 ^ 64 := by rw [h1, h3]; grind
    have t3 : N * ((rgP b).2 - (rgP a).2) + (s2 - s1) = (sc N b).2 * 2 ^ 64 - (sc N a).2 * 2 ^ 64 := by rw [h1, h2]; grind
    have t4 : N * ((rgP c).1 - (rgP a).1) + (r3 - r1) = (sc N c).1 * 2 ^ 64 - (sc N a).1 * 2 ^ 64 := by rw [e1, e3]; grind
    rw [t1, t2, t3, t4]
    unfold G4.cr
    generalize (2 : Int) ^ 64 = S
    grind
  obtain ⟨k1, k2⟩ := cross_off (N := N) (dx := (rgP b).1 - (rgP a).1) (dy := (rgP b).2 - (rgP a).2) (ex := (rgP c).1 - (rgP a).1) (ey := (rgP c).2 - (rgP a).2) (a := r2 - r1) (b := s2 - s1) (c := r3 - r1) (d := s3 - s1) n0 (by omega) (by omega) (by omega) (by omega) (by omega) (by omega) (by omega) (by omega)
  rw [← key] at k1 k2
  have S0 : (0 : Int) < 2 ^ 64 * 2 ^ 64 := by decide
  generalize (2 : Int) ^ 64 * 2 ^ 64 = S at k1 k2 S0
  clear key e1 e2 e3 h1 h2 h3
  have off_ : offI (rgP a) (rgP b) (rgP c) = (((rgP b).1 - (rgP a).1).natAbs : Int) + (((rgP b).2 - (rgP a).2).natAbs : Int) + (((rgP c).1 - (rgP a).1).natAbs : Int) + (((rgP c).2 - (rgP a).2).natAbs : Int) + 2 := rfl
  have cr_ : crI (rgP a) (rgP b) (rgP c) = ((rgP b).1 - (rgP a).1) * ((rgP c).2 - (rgP a).2) - ((rgP b).2 - (rgP a).2) * ((rgP c).1 - (rgP a).1) := rfl
  rw [← off_, ← cr_] at k1 k2
  unfold rtF at h ⊢
  generalize crI (rgP a) (rgP b) (rgP c) = z at *
  generalize offI (rgP a) (rgP b) (rgP c) = o at *
  generalize G4.cr (sc N a) (sc N b) (sc N c) = t at *
  by_cases small : (z.natAbs : Int) < o
  · rw [if_pos small] at h; exact absurd rfl h
  rw [if_neg small] at h ⊢
  have p : 0 < sgn z ↔ 0 < z := by unfold sgn; split <;> (try split) <;> omega
  rw [p]
  have q : 0 < sgP a b c ↔ 0 < t := by omega
  rw [q]
  constructor
  · intro hz
    have := k1 (by omega)
    rcases Int.lt_or_le 0 t with y | y
    · exact y
    · have := Int.mul_nonneg (by omega : 0 ≤ -t) (Int.le_of_lt S0)
      rw [Int.neg_mul] at this
      omega
  · intro hz
    rcases Int.lt_or_le 0 z with y | y
    · exact y
    · have := k2 (by omega)
      have := Int.mul_pos hz S0
      omega
theorem sz_ediv {n : Nat} {a b : Int} (b0 : 0 < b) (h : Sz n a) : Sz n (a / b) := by
  unfold Sz at *
  have k : (a / b).natAbs ≤ a.natAbs := by
    rcases Int.le_total 0 a with z | z
    · have h1 : a / b ≤ a := Int.ediv_le_self _ z
      have h2 : 0 ≤ a / b := Int.ediv_nonneg z (by omega)
      omega
    · have h2 : a / b ≤ 0 := by
        have := Int.ediv_le_ediv b0 z
        rwa [Int.zero_ediv] at this
      have h1 : a ≤ a / b := (Int.le_ediv_iff_mul_le b0).mpr (by
        have := Int.mul_le_mul_of_nonneg_left (by omega : 1 ≤ b) (by omega : 0 ≤ -a)
        simp only [Int.neg_mul] at this
        omega)
      omega
  omega
theorem rg_sz {p : Pl} (g : GoodP 400 p) : SzR 3000 (rgP p) := by
  have z64 : Sz 65 ((2 : Int) ^ 64) := by show (18446744073709551616 : Nat) < 2 ^ 65; decide
  exact ⟨sz_ediv g.1.1.1 (sz_mono (sz_mul g.2.1.1 z64) (by decide)), sz_ediv g.1.2.1 (sz_mono (sz_mul g.2.2.1 z64) (by decide))⟩
theorem abs_if (i : Int) : (if i < 0 then -i else i) = (i.natAbs : Int) := by split <;> omega
def spTurnA (K : PySem.W.Frag) : Sp := fun vs H Q _ => ∃ v u t a b c, vs = [v, u, t] ∧ Pla K H v a ∧ Pla K H u b ∧ Pla K H t c ∧ GoodP 400 a ∧ GoodP 400 b ∧ GoodP 400 c ∧ ∀ H', Same H H' → Q (.int (sgn (sgP a b c))) H'
def spChain (K : PySem.W.Frag) : Sp := fun vs H Q _ => ∃ (p : Addr) (xs : List V) (os : List Pl), vs = [.ref p] ∧ SqL K H p xs ∧ DpAll K H xs (os.map qrP) ∧ os.length ≤ 60 ∧ (∀ q ∈ os, GoodP 400 q) ∧ ∀ (H' : Hp) (c : Addr) (ys : List V), Same H H' → H c = none → H' c = some (.lst ys) → DpAll K H' ys ((chP os).map pD) → Q (.ref c) H'
def spHullC (K : PySem.W.Frag) : Sp := fun vs H Q _ => ∃ (p : Addr) (xs : List V) (ps : List Pl), vs = [.ref p] ∧ Pls K H p xs ps ∧ ps.length ≤ 60 ∧ (∀ q ∈ ps, GoodP 400 q) ∧
  ∀ (H' : Hp) (z : V) (os : List Pl), Same H H' → os.Pairwise ltP → (∀ r, r ∈ os ↔ r ∈ ps) → os.length ≤ ps.length → Dp K H' z (.tuple ((hullP os).map pD)) → Q z H'
section
variable {P : Program} {w : World} {K : PySem.W.Frag} {mg : Str → Option Value} {base : Heap}
abbrev sturn_at : Stmt := topS 16
theorem scturn_at : FnScope ["first", "second", "third"] ["first", "second", "third"] (defScope sturn_at) := ⟨rfl, rfl, rfl, by decide +kernel, rfl, by decide +kernel, by decide +kernel⟩
theorem okturn_at (T : Txt K mg "turn_at" sturn_at) (Graw_cross : DefOk P w K mg base CX0 "raw_cross" 2 ["first", "second", "third"] (spRawC K)) (Gsign_of : DefOk P w K mg base CX0 "sign_of" 1 ["number"] spSign) : DefOk P w K mg base CX0 "turn_at" 3 ["first", "second", "third"] (spTurnA K) := by
  obtain ⟨f, fd, F, gf⟩ := T
  refine ⟨f, fd, gf, F.kp, F.binds (fun _ _ _ _ _ _ us hl => match us, hl with | [_, _, _], _ => rfl), F.ok scturn_at (fun vs H Q E h => ?_) (fun cdv A outer s H vs Q E hr h => ?_)⟩
  · obtain ⟨v, u, t, a, b, c, rfl, _⟩ := h; rfl
  · obtain ⟨v, u, t, a, b, c, rfl, hv, hu, ht, ga, gb, gc, q⟩ := h
    refine ⟨_, (pss_one (ps_ret (pe_def Gsign_of (hr.mono (by decide)) (by rfl) (pa_cons (pe_ix ix_it (pe_def Graw_cross (hr.mono (by decide)) (by rfl) (pa_cons (pv 0) (pa_cons (pv 1) (pa_cons (pv 2) pa_nil)))) pe_int (fun _ _ => rfl)) pa_nil)))), ?_⟩
    have m := fun {p : Pl} (h : SzP 400 p) => (⟨szr_mono h.1 (by decide), szr_mono h.2 (by decide)⟩ : SzP 600 p)
    exact ⟨v, rfl, u, rfl, t, rfl, v, u, t, a, b, c, rfl, hv, hu, ht, ga.1, gb.1, gc.1, m ga.2, m gb.2, m gc.2, fun H1 z1 s1 h1 => ⟨_, _, 0, _, rfl, cou_r h1, rfl, _, rfl, q H1 s1⟩⟩
abbrev srough_turn : Stmt := topS 22
theorem scrough_turn : FnScope ["first", "second", "third", "ax", "ay", "bx", "by", "cx", "cy", "dx", "dy", "ex", "ey", "cross", "off"] ["first", "second", "third"] (defScope srough_turn) := ⟨rfl, rfl, rfl, by decide +kernel, rfl, by decide +kernel, by decide +kernel⟩
theorem okrough_turn (T : Txt K mg "rough_turn" srough_turn) (Gsign_of : DefOk P w K mg base CX0 "sign_of" 1 ["number"] spSign) (mabs : mg "abs" = none) : DefOk P w K mg base CX0 "rough_turn" 2 ["first", "second", "third"] (spRTurn K) := by
  obtain ⟨f, fd, F, gf⟩ := T
  refine ⟨f, fd, gf, F.kp, F.binds (fun _ _ _ _ _ _ us hl => match us, hl with | [_, _, _], _ => rfl), F.ok scrough_turn (fun vs H Q E h => ?_) (fun cdv A outer s H vs Q E hr h => ?_)⟩
  · obtain ⟨v, u, t, a, b, c, rfl, _⟩ := h; rfl
  · obtain ⟨v, u, t, a, b, c, rfl, hv, hu, ht, za, zb, zc, q⟩ := h
    refine ⟨_, (pss_cons (ps_asg (pe_tup (pa_cons (pv 0) (pa_cons (pv 1) (pa_cons (pv 2) pa_nil)))) (pg_tup rfl (pgs_cons (pg_cou rfl (pgs_cons (pg_name (i := 3) scrough_turn.nd rfl (.inl rfl)) (pgs_cons (pg_name (i := 4) scrough_turn.nd rfl (.inl rfl)) pgs_nil))) (pgs_cons (pg_cou rfl (pgs_cons (pg_name (i := 5) scrough_turn.nd rfl (.inl rfl)) (pgs_cons (pg_name (i := 6) scrough_turn.nd rfl (.inl rfl)) pgs_nil))) (pgs_cons (pg_cou rfl (pgs_cons (pg_name (i := 7) scrough_turn.nd rfl (.inl rfl)) (pgs_cons (pg_name (i := 8) scrough_turn.nd rfl (.inl rfl)) pgs_nil))) pgs_nil))))) (pss_cons (ps_asg (pe_tup (pa_cons (pe_op op_sub (pv 5) (pv 3)) (pa_cons (pe_op op_sub (pv 6) (pv 4)) (pa_cons (pe_op op_sub (pv 7) (pv 3)) (pa_cons (pe_op op_sub (pv 8) (pv 4)) pa_nil))))) (pg_tup rfl (pgs_cons (pg_name (i := 9) scrough_turn.nd rfl (.inl rfl)) (pgs_cons (pg_name (i := 10) scrough_turn.nd rfl (.inl rfl)) (pgs_cons (pg_name (i := 11) scrough_turn.nd rfl (.inl rfl)) (pgs_cons (pg_name (i := 12) scrough_turn.nd rfl (.inl rfl)) pgs_nil)))))) (pss_cons (ps_set (i := 13) scrough_turn.nd rfl (.inl rfl) (pe_op op_sub (pe_op op_mulW (pv 9) (pv 12)) (pe_op op_mulW (pv 10) (pv 11)))) (pss_cons (ps_set (i := 14) scrough_turn.nd rfl (.inl rfl) (pe_op op_add (pe_op op_add (pe_op op_add (pe_op op_add (pe_callB call_abs (by rfl) mabs (by decide +kernel) (pa_cons (pv 9) pa_nil)) (pe_callB call_abs (by rfl) mabs (by decide +kernel) (pa_cons (pv 10) pa_nil))) (pe_callB call_abs (by rfl) mabs (by decide +kernel) (pa_cons (pv 11) pa_nil))) (pe_callB call_abs (by rfl) mabs (by decide +kernel) (pa_cons (pv 12) pa_nil))) pe_int)) (pss_one (ps_ret (pe_ifExp (pt_cmpR op_lt (pe_callB call_abs (by rfl) mabs (by decide +kernel) (pa_cons (pv 13) pa_nil)) (pv 14) (nomark _)) pe_int (pe_def Gsign_of (hr.mono (by decide)) (by rfl) (pa_cons (pv 13) pa_nil))))))))), ?_⟩
    refine ⟨_, rfl, _, rfl, _, rfl, (by show 3 ≤ sizeLine; decide), fun b_ nb => ?_⟩
    have sn := PB.same_new (o := .tup [v, u, t]) nb
    have ca := cou_r (Dp_same sn hv)
    have cb := cou_r (Dp_same sn hu)
    have cc := cou_r (Dp_same sn ht)
    refine ⟨b_, _, rfl, .inl (.inl upd_same), rfl, _, _, rfl, _, _, ca, _, _, rfl, _, _, rfl, rfl, _, _, rfl, _, _, cb, _, _, rfl, _, _, rfl, rfl, _, _, rfl, _, _, cc, _, _, rfl, _, _, rfl, rfl, rfl, ?_⟩
    dsimp only
    refine ⟨_, rfl, _, rfl, _, _, rfl, rfl, _, rfl, _, rfl, _, _, rfl, rfl, _, rfl, _, rfl, _, _, rfl, rfl, _, rfl, _, rfl, _, _, rfl, rfl, (by show 4 ≤ sizeLine; decide), fun e_ ne => ?_⟩
    have sm := PB.same_new (o := .tup [.int (b.1 - a.1), .int (b.2 - a.2), .int (c.1 - a.1), .int (c.2 - a.2)]) ne
    refine ⟨e_, _, rfl, .inl (.inl upd_same), rfl, _, _, rfl, _, _, rfl, _, _, rfl, _, _, rfl, rfl, ?_⟩
    have d1 := sz_sub zb.1 za.1
    have d2 := sz_sub zb.2 za.2
    have d3 := sz_sub zc.1 za.1
    have d4 := sz_sub zc.2 za.2
    show tSeq _ _ _ [some v, some u, some t, some (.int a.1), some (.int a.2), some (.int b.1), some (.int b.2), some (.int c.1), some (.int c.2), some (.int (b.1 - a.1)), some (.int (b.2 - a.2)), some (.int (c.1 - a.1)), some (.int (c.2 - a.2)), none, none] _
    have eo : offI a b c = ((b.1 - a.1).natAbs : Int) + ((b.2 - a.2).natAbs : Int) + ((c.1 - a.1).natAbs : Int) + ((c.2 - a.2).natAbs : Int) + 2 := rfl
    have ec : crI a b c = (b.1 - a.1) * (c.2 - a.2) - (b.2 - a.2) * (c.1 - a.1) := rfl
    have er : rtF a b c = if ((crI a b c).natAbs : Int) < offI a b c then 0 else sgn (crI a b c) := rfl
    rw [eo, ec] at er
    have q' := q _ (sn.trans sm)
    rw [er] at q'
    clear er eo ec q
    generalize upd (upd H b_ (.tup [v, u, t])) e_ (.tup [.int (b.1 - a.1), .int (b.2 - a.2), .int (c.1 - a.1), .int (c.2 - a.2)]) = G at q' ⊢
    clear sm
    generalize b.1 - a.1 = dx at *
    generalize b.2 - a.2 = dy at *
    generalize c.1 - a.1 = ex at *
    generalize c.2 - a.2 = ey at *
    refine ⟨_, rfl, _, rfl, _, _, rfl, rfl, wide_mul d1 d4 (by decide) (by decide) (by decide), _, rfl, _, rfl, _, _, rfl, rfl, wide_mul d2 d3 (by decide) (by decide) (by decide), _, _, rfl, rfl, ?_⟩
    show tSeq _ _ _ [some v, some u, some t, some (.int a.1), some (.int a.2), some (.int b.1), some (.int b.2), some (.int c.1), some (.int c.2), some (.int dx), some (.int dy), some (.int ex), some (.int ey), some (.int (dx * ey - dy * ex)), none] _
    generalize dx * ey - dy * ex = z at *
    refine ⟨_, rfl, _, rfl, _, rfl, _, rfl, _, _, rfl, rfl, _, rfl, _, rfl, _, _, rfl, rfl, _, rfl, _, rfl, _, _, rfl, rfl, _, _, rfl, rfl, ?_⟩
    rw [abs_if, abs_if, abs_if, abs_if]
    dsimp only [gName]
    show tRet _ _ [some v, some u, some t, some (.int a.1), some (.int a.2), some (.int b.1), some (.int b.2), some (.int c.1), some (.int c.2), some (.int dx), some (.int dy), some (.int ex), some (.int ey), some (.int z), some (.int ((dx.natAbs : Int) + (dy.natAbs : Int) + (ex.natAbs : Int) + (ey.natAbs : Int) + 2))] _
    generalize (dx.natAbs : Int) + (dy.natAbs : Int) + (ex.natAbs : Int) + (ey.natAbs : Int) + 2 = o at *
    refine ⟨_, rfl, _, rfl, _, rfl, _, _, rfl, rfl, _, rfl, ?_⟩
    rw [abs_if]
    by_cases k : (z.natAbs : Int) < o
    · rw [if_pos k] at q'
      exact itT (decide_eq_true k) q'
    · rw [if_neg k] at q'
      exact itF (decide_eq_false k) ⟨_, rfl, _, rfl, q'⟩
abbrev sturns_left : Stmt := topS 23
theorem scturns_left : FnScope ["first", "second", "third", "turn"] ["first", "second", "third"] (defScope sturns_left) := ⟨rfl, rfl, rfl, by decide +kernel, rfl, by decide +kernel, by decide +kernel⟩
theorem okturns_left (T : Txt K mg "turns_left" sturns_left) (Grough_turn : DefOk P w K mg base CX0 "rough_turn" 2 ["first", "second", "third"] (spRTurn K)) (Gturn_at : DefOk P w K mg base CX0 "turn_at" 3 ["first", "second", "third"] (spTurnA K)) : DefOk P w K mg base CX0 "turns_left" 4 ["first", "second", "third"] (spTurnsL K) := by
  obtain ⟨f, fd, F, gf⟩ := T
  refine ⟨f, fd, gf, F.kp, F.binds (fun _ _ _ _ _ _ us hl => match us, hl with | [_, _, _], _ => rfl), F.ok scturns_left (fun vs H Q E h => ?_) (fun cdv A outer s H vs Q E hr h => ?_)⟩
  · obtain ⟨v, u, t, a, b, c, rfl, _⟩ := h; rfl
  · obtain ⟨v, u, t, a, b, c, rfl, hv, hu, ht, ga, gb, gc, q⟩ := h
    refine ⟨_, (pss_cons (ps_set (i := 3) scturns_left.nd rfl (.inl rfl) (pe_orT (pe_def Grough_turn (hr.mono (by decide)) (by rfl) (pa_cons (pe_ix ix_it (pv 0) pe_int (fun _ _ => rfl)) (pa_cons (pe_ix ix_it (pv 1) pe_int (fun _ _ => rfl)) (pa_cons (pe_ix ix_it (pv 2) pe_int (fun _ _ => rfl)) pa_nil)))) (pe_one (pe_def Gturn_at (hr.mono (by decide)) (by rfl) (pa_cons (pe_ix ix_it (pv 0) pe_int (fun _ _ => rfl)) (pa_cons (pe_ix ix_it (pv 1) pe_int (fun _ _ => rfl)) (pa_cons (pe_ix ix_it (pv 2) pe_int (fun _ _ => rfl)) pa_nil))))))) (pss_one (ps_ret (pe_cmpR op_gt (pv 3) pe_int (nomark _))))), ?_⟩
    obtain ⟨p1, l1, r1, rfl, c1, hl1, hr1⟩ := dp_t2 hv
    obtain ⟨p2, l2, r2, rfl, c2, hl2, hr2⟩ := dp_t2 hu
    obtain ⟨p3, l3, r3, rfl, c3, hl3, hr3⟩ := dp_t2 ht
    have k1 : Cou K H (.ref p1) l1 r1 := ⟨p1, rfl, .inl c1⟩
    have k2 : Cou K H (.ref p2) l2 r2 := ⟨p2, rfl, .inl c2⟩
    have k3 : Cou K H (.ref p3) l3 r3 := ⟨p3, rfl, .inl c3⟩
    refine ⟨_, rfl, _, _, 1, _, rfl, k1, rfl, _, rfl, _, _, 1, _, rfl, k2, rfl, _, rfl, _, _, 1, _, rfl, k3, rfl, _, _, _, _, _, _, rfl, hr1, hr2, hr3, rg_sz ga, rg_sz gb, rg_sz gc, fun H1 s1 => ⟨_, rfl, ?_⟩⟩
    by_cases z : rtF (rgP a) (rgP b) (rgP c) = 0
    · refine itF (by rw [z]; rfl) ?_
      refine ⟨_, rfl, _, _, 0, _, rfl, k1.same s1, rfl, _, rfl, _, _, 0, _, rfl, k2.same s1, rfl, _, rfl, _, _, 0, _, rfl, k3.same s1, rfl, _, _, _, _, _, _, rfl, pla_t (Dp_same s1 hl1), pla_t (Dp_same s1 hl2), pla_t (Dp_same s1 hl3), ga, gb, gc, fun H2 s2 => ?_⟩
      refine ⟨_, rfl, _, _, rfl, rfl, ?_⟩
      have e : decide (0 < sgn (sgP a b c)) = decide (0 < sgP a b c) := by
        have : 0 < sgn (sgP a b c) ↔ 0 < sgP a b c := by unfold sgn; split <;> (try split) <;> omega
        by_cases k : 0 < sgP a b c
        · rw [decide_eq_true k, decide_eq_true (this.mpr k)]
        · rw [decide_eq_false k, decide_eq_false (fun y => k (this.mp y))]
      have := q H2 (s1.trans s2)
      rw [← e] at this
      exact this
    · refine itT (by simp [z]) ?_
      refine ⟨_, rfl, _, _, rfl, rfl, ?_⟩
      have e : decide (0 < rtF (rgP a) (rgP b) (rgP c)) = decide (0 < sgP a b c) := by
        have := rt_sign ga.1 gb.1 gc.1 z
        by_cases k : 0 < sgP a b c
        · rw [decide_eq_true k, decide_eq_true (this.mpr k)]
        · rw [decide_eq_false k, decide_eq_false (fun y => k (this.mp y))]
      have := q H1 s1
      rw [← e] at this
      exact this
abbrev sleft_chain : Stmt := topS 24
theorem scleft_chain : FnScope ["rows", "chain", "row", "place", "_"] ["rows"] (defScope sleft_chain) := ⟨rfl, rfl, rfl, by decide +kernel, rfl, by decide +kernel, by decide +kernel⟩
theorem okleft_chain (T : Txt K mg "left_chain" sleft_chain) (Gturns_left : DefOk P w K mg base CX0 "turns_left" 4 ["first", "second", "third"] (spTurnsL K)) (mlen : mg "len" = none) : DefOk P w K mg base CX0 "left_chain" 5 ["rows"] (spChain K) := by
  obtain ⟨f, fd, F, gf⟩ := T
  refine ⟨f, fd, gf, F.kp, F.binds (fun _ _ _ _ _ _ us hl => match us, hl with | [_], _ => rfl), F.ok scleft_chain (fun vs H Q E h => ?_) (fun cdv A outer s H vs Q E hr h => ?_)⟩
  · obtain ⟨p, xs, os, rfl, _⟩ := h; rfl
  · obtain ⟨p, xs, os, rfl, hS, hD, l6, hG, q⟩ := h
    refine ⟨_, (pss_cons (ps_set (i := 1) scleft_chain.nd rfl (.inl rfl) (pe_lst pa_nil)) (pss_cons (ps_for PassesOwn.never rfl (pi_list (pv 0)) (pg_name (i := 2) scleft_chain.nd rfl (.inl rfl)) (pss_cons (ps_while PassesOwn.never (PW.pt (pw_and (pt_cmpR op_gt (pe_callB call_len_seq (by rfl) mlen PySem.boot_len (pa_cons (pv 1) pa_nil)) pe_int (nomark _)) (pw_and1 (pt_not (pt_val (pe_def Gturns_left (hr.mono (by decide)) (by rfl) (pa_cons (pe_ix ix_list (pv 1) (pe_un un_neg pe_int) (fun _ _ => rfl)) (pa_cons (pe_ix ix_list (pv 1) (pe_un un_neg pe_int) (fun _ _ => rfl)) (pa_cons (pv 2) pa_nil))))))))) (pss_one (ps_expr (pe_bm0 PySem.F.plainAttrs_list PySem.F.slot_list_pop PySem.F.type_list_pop mt_pop (pv 1))))) (pss_one (ps_expr (pe_bm PySem.F.plainAttrs_list PySem.F.slot_list_append PySem.F.type_list_append mt_append (pv 1) (pa_cons (pv 2) pa_nil)))))) (pss_one (ps_ret (pe_lc (own := [("place", 3), ("_", 4)]) rfl scleft_chain.nd (pi_seq (pv 1)) (blkOk_by (N := ["rows", "chain", "row", "place", "_"]) (sc := defScope sleft_chain) (by decide +kernel)) (fun _ _ _ _ _ => (pg_couK K rfl (pgs_cons (pg_name (i := 3) scleft_chain.nd rfl (.inl rfl)) (pgs_cons (pg_name (i := 4) scleft_chain.nd rfl (.inl rfl)) pgs_nil)))) (fun _ _ _ _ _ => pts_nil) (fun _ _ _ _ _ => (pv 3))))))), ?_⟩
    refine ⟨(by show 0 ≤ sizeLine; decide), fun c nc => ?_⟩
    have s0 := PB.same_new (o := .lst []) nc
    have lx : xs.length = os.length := by rw [DpAll_len hD, List.length_map]
    refine ⟨.ref p, rfl, p, rfl, ⟨_, s0.seq hS⟩, for_list (K := K) (a := p) (xs := xs) (fun i σ H' => ∃ (y : Option V) (ys : List V), σ = [some (.ref p), some (.ref c), y, none, none] ∧ Same H H' ∧ H' c = some (.lst ys) ∧ DpAll K H' ys ((stP (os.take i)).reverse.map qrP))
      ⟨none, [], rfl, s0, upd_same, .nil⟩ (fun i σ H' _ ⟨_, _, _, s1, _⟩ => s1.seq hS) ?_ ?_⟩
    · rintro i x σ H1 hi ⟨y, ys, rfl, s1, eD, hY⟩
      have il : i < os.length := by rw [← lx]; exact (List.getElem?_eq_some_iff.mp hi).1
      have gi := hG os[i] (List.getElem_mem il)
      obtain ⟨d, ed, hx⟩ := DpAll_at hD hi
      rw [List.getElem?_map, List.getElem?_eq_getElem il] at ed
      cases ed
      have ges : ∀ q ∈ stP (os.take i), GoodP 400 q := fun q hq => by
        rcases st_mem hq with h | h
        · exact hG q (List.mem_of_mem_take h)
        · exact nomatch h
      have les : (stP (os.take i)).length ≤ i := by
        have := st_len (os.take i) []
        rw [List.length_take] at this
        have e : (stP (os.take i)).length = ((os.take i).foldl (fun s p => pushP p s) []).length := rfl
        simp at this
        omega
      have enx : stP (os.take (i + 1)) = pushP os[i] (stP (os.take i)) := by
        rw [List.take_succ_eq_append_getElem il]
        unfold stP
        rw [List.foldl_append]
        rfl
      rw [enx]
      generalize os[i] = o at gi hx enx ⊢
      generalize stP (os.take i) = st0 at hY ges les enx ⊢
      clear enx
      refine ⟨fun m σ H2 => ∃ (st : List Pl) (zs : List V), m = st.length ∧ σ = [some (.ref p), some (.ref c), some x, none, none] ∧ Same H H2 ∧ H2 c = some (.lst zs) ∧ DpAll K H2 zs (st.reverse.map qrP) ∧ pushP o st = pushP o st0 ∧ (∀ q ∈ st, GoodP 400 q) ∧ st.length ≤ 60, ⟨_, st0, ys, rfl, rfl, s1, eD, hY, rfl, ges, by omega⟩, ?_⟩
      rintro m σ H2 ⟨st, zs, rfl, rfl, s2, eZ, hZ, ep, gs, l6s⟩
      have zl : zs.length = st.length := by rw [DpAll_len hZ, List.length_map, List.length_reverse]
      have fin : ∀ H3, Same H H3 → H3 c = some (.lst zs) → DpAll K H3 zs (st.reverse.map qrP) → pushP o st = o :: st → tDrop (tBM K "list" rAppend (tVar 1) (tCons (tVar 2) tNil)) { nx := fun σ H' => ∃ (y : Option V) (ys : List V), σ = [some (.ref p), some (.ref c), y, none, none] ∧ Same H H' ∧ H' c = some (.lst ys) ∧ DpAll K H' ys ((pushP o st0).reverse.map qrP), rt := Q } [some (.ref p), some (.ref c), some x, none, none] H3 := fun H3 s3 e3 h3 eo => by
        refine ⟨_, rfl, .inl ⟨rfl, _, .inl (.inl e3)⟩, _, rfl, c, zs, x, rfl, rfl, e3, small1000 (by omega), some x, _, rfl, fun b u e => ?_, upd_same, ?_⟩
        · rw [upd_ne (ne_of_none e nc)]; exact s3 b u e
        · rw [← ep, eo, List.reverse_cons, List.map_append]
          exact DpAll_but e3 (fun b u n e => by rw [upd_ne n]; exact e) (by rw [← List.map_append]; exact noLs_qr _) (DpAll_snoc (Dp_same s3 hx) h3)
      refine ⟨_, rfl, c, zs, rfl, .inl (.inl (.inl eZ)), _, _, rfl, rfl, _, rfl, ?_⟩
      match st, zl, hZ, ep, gs, l6s, fin with
      | [], zl, hZ, ep, gs, l6s, fin =>
        have e0 : decide ((1 : Int) < (zs.length : Int)) = false := decide_eq_false (by rw [zl]; simp)
        exact itF e0 (itF rfl (fin H2 s2 eZ hZ rfl))
      | [y1], zl, hZ, ep, gs, l6s, fin =>
        have e0 : decide ((1 : Int) < (zs.length : Int)) = false := decide_eq_false (by rw [zl]; simp)
        exact itF e0 (itF rfl (fin H2 s2 eZ hZ rfl))
      | y1 :: x1 :: r, zl, hZ, ep, gs, l6s, fin =>
        have e0 : decide ((1 : Int) < (zs.length : Int)) = true := decide_eq_true (by rw [zl]; simp; omega)
        have hZ0 := hZ
        rw [List.reverse_cons, List.reverse_cons, List.append_assoc, List.map_append] at hZ
        obtain ⟨ws, v2, v1, ez, hW, hv2, hv1⟩ := dp_snoc2 (a := qrP x1) (b := qrP y1) hZ
        obtain ⟨a2, a1⟩ := atI_2 ws v2 v1
        rw [← ez] at a1 a2
        have gx1 := gs x1 (by simp)
        have gy1 := gs y1 (by simp)
        refine itT e0 ⟨_, rfl, _, rfl, c, zs, -2, v2, rfl, rfl, .inl (.inl eZ), a2, _, rfl, _, rfl, c, zs, -1, v1, rfl, rfl, .inl (.inl eZ), a1, _, rfl, v2, v1, x, x1, y1, o, rfl, hv2, hv1, Dp_same s2 hx, gx1, gy1, gi, fun H3 s3 => ⟨_, rfl, ?_⟩⟩
        by_cases cc : sgP x1 y1 o ≤ 0
        · have e1 : pushP o (y1 :: x1 :: r) = pushP o (x1 :: r) := if_pos cc
          refine itT (by rw [decide_eq_false (by omega : ¬ 0 < sgP x1 y1 o)]; rfl) ⟨fun σ' H' => ∃ (st : List Pl) (zs : List V), st.length < (y1 :: x1 :: r).length ∧ σ' = [some (.ref p), some (.ref c), some x, none, none] ∧ Same H H' ∧ H' c = some (.lst zs) ∧ DpAll K H' zs (st.reverse.map qrP) ∧ pushP o st = pushP o st0 ∧ (∀ q ∈ st, GoodP 400 q) ∧ st.length ≤ 60, fun σ' H' ⟨st, zs, lt, k⟩ => ⟨_, lt, st, zs, rfl, k⟩, ?_⟩
          have eZ3 := s3 _ _ eZ
          refine ⟨_, rfl, .inl ⟨rfl, _, .inl (.inl eZ3)⟩, c, zs, v1, rfl, rfl, eZ3, ?_, x1 :: r, zs.dropLast, by simp, rfl, fun b u e => ?_, upd_same, ?_, by rw [← e1]; exact ep, fun q hq => gs q (List.mem_cons_of_mem _ hq), by simp at l6s ⊢; omega⟩
          · rw [ez]; simp
          · rw [upd_ne (ne_of_none e nc)]; exact s3 _ _ (s2 b u e)
          · have e5 : ((x1 :: r).reverse.map qrP) = ((y1 :: x1 :: r).reverse.map qrP).dropLast := by
              rw [List.reverse_cons (a := y1), List.map_append]; simp
            rw [e5]
            have := dp_dropLast (DpAll_same s3 hZ0)
            exact DpAll_but eZ3 (fun b u n e => by rw [upd_ne n]; exact e) (by rw [← e5]; exact noLs_qr _) this
        · have e1 : pushP o (y1 :: x1 :: r) = o :: y1 :: x1 :: r := if_neg cc
          exact itF (by rw [decide_eq_true (by omega : 0 < sgP x1 y1 o)]; rfl) (fin H3 (s2.trans s3) (s3 _ _ eZ) (DpAll_same s3 hZ0) e1)
    rintro σ H' ⟨y, ys, rfl, s1, eD, hY⟩
    rw [lx, List.take_length] at hY
    have hY : DpAll K H' ys ((chP os).map qrP) := hY
    have yl : ys.length = (chP os).length := by rw [DpAll_len hY, List.length_map]
    have cl : (chP os).length ≤ 60 := by
      have := st_len os []
      have e : (chP os).length = (os.foldl (fun s p => pushP p s) []).length := List.length_reverse
      simp at this
      omega
    dsimp only [tRet]
    refine lc_map (K := K) (a := c) (xs := ys) (j := 1) (fun i => pD ((chP os).getD i zP)) (fun i => by simp [pD, rD, noL, noLs]) (by rfl) (.inl (.inl (.inl eD))) (small1000 (by omega)) (fun i x G R ex sx hR => ?_) fun D8 F8 ts s8 n8 e8 h8 => ?_
    · obtain ⟨d, ed, hd⟩ := DpAll_at hY ex
      rw [List.getElem?_map] at ed
      cases eo : (chP os)[i]? with
      | none => rw [eo] at ed; cases ed
      | some o =>
        rw [eo] at ed; cases ed
        have e : (chP os).getD i zP = o := by rw [List.getD_eq_getElem?_getD, eo]; rfl
        (try dsimp only at hR)
        rw [e] at hR
        obtain ⟨pr, l1, r1, rfl, c1, hl1, hr1⟩ := dp_t2 (Dp_same sx hd)
        exact ⟨_, _, ⟨pr, rfl, .inl c1⟩, _, _, rfl, _, _, rfl, rfl, rfl, l1, rfl, hR _ _ (fun _ _ z => z) hl1⟩
    have h8' : DpAll K F8 ts ((chP os).map pD) := by rw [← range_get (chP os) zP, ← yl]; exact h8
    exact q F8 D8 ts (s1.trans s8) (s1.free n8) e8 h8'
abbrev shull_corners : Stmt := topS 25
theorem schull_corners : FnScope ["places", "rows", "there", "back", "place"] ["places"] (defScope shull_corners) := ⟨rfl, rfl, rfl, by decide +kernel, rfl, by decide +kernel, by decide +kernel⟩
theorem okhull_corners (T : Txt K mg "hull_corners" shull_corners) (Gorder_places : DefOk P w K mg base CX0 "order_places" 2 ["places"] (spOrdP K)) (Grough_place : DefOk P w K mg base CX0 "rough_place" 1 ["place"] (spRough K)) (Gleft_chain : DefOk P w K mg base CX0 "left_chain" 5 ["rows"] (spChain K)) (mlen : mg "len" = none) (mtuple : mg "tuple" = none) : DefOk P w K mg base CX0 "hull_corners" 6 ["places"] (spHullC K) := by
  obtain ⟨f, fd, F, gf⟩ := T
  refine ⟨f, fd, gf, F.kp, F.binds (fun _ _ _ _ _ _ us hl => match us, hl with | [_], _ => rfl), F.ok schull_corners (fun vs H Q E h => ?_) (fun cdv A outer s H vs Q E hr h => ?_)⟩
  · obtain ⟨p, xs, ps, rfl, _⟩ := h; rfl
  · obtain ⟨p, xs, ps, rfl, hP, l6, hG, q⟩ := h
    refine ⟨_, (pss_cons (ps_setLc (i := 1) (own := [("place", 4)]) rfl schull_corners.nd rfl rfl (sw_true rfl rfl rfl (by decide +kernel)) (pi_seq (pe_def Gorder_places (hr.mono (by decide)) (by rfl) (pa_cons (pv 0) pa_nil))) (blkOk_by (N := ["places", "rows", "there", "back", "place"]) (sc := defScope shull_corners) (by decide +kernel)) (fun _ _ _ _ _ => (pg_name (i := 4) schull_corners.nd rfl (.inl rfl))) (fun _ _ _ _ _ => pts_nil) (fun _ _ _ _ _ => (pe_tup (pa_cons (pv 4) (pa_cons (pe_def Grough_place (hr.mono (by decide)) (by rfl) (pa_cons (pv 4) pa_nil)) pa_nil))))) (pss_cons (ps_if (pt_cmpR op_eq (pe_callB call_len_seq (by rfl) mlen PySem.boot_len (pa_cons (pv 1) pa_nil)) pe_int (nomark _)) (pss_one (ps_ret (pe_tup (pa_cons (pe_ix ix_it (pe_ix ix_list (pv 1) pe_int (fun _ _ => rfl)) pe_int (fun _ _ => rfl)) pa_nil)))) pss_nil) (pss_cons (ps_par (i := 2) (j := 3) rfl schull_corners.nd rfl rfl (by decide) rfl rfl (pa_cons (pe_def Gleft_chain (hr.mono (by decide)) (by rfl) (pa_cons (pv 1) pa_nil)) (pa_cons (pe_def Gleft_chain (hr.mono (by decide)) (by rfl) (pa_cons (pe_revL (pv 1)) pa_nil)) pa_nil)) rfl) (pss_one (ps_ret (pe_callTy call_tuple_of (by rfl) mtuple (by decide +kernel) (pa_cons (pe_op op_cat (pe_slice sl_list (pv 2) po_none (po_some (pe_un un_neg pe_int))) (pe_slice sl_list (pv 3) po_none (po_some (pe_un un_neg pe_int)))) pa_nil))))))), ?_⟩
    dsimp only [tSeq, tAsg]
    refine lc_mapG (K := K) (fun a rs F6 => ∃ os : List Pl, Same H F6 ∧ SqL K F6 a rs ∧ DpAll K F6 rs (os.map pD) ∧ os.Pairwise ltP ∧ (∀ r, r ∈ os ↔ r ∈ ps) ∧ os.length ≤ ps.length)
      (fun R hR => ⟨_, rfl, p, xs, ps, rfl, hP, l6, hG, fun H1 a ys os s1 na ob om ol e1 h1 => hR _ _ _ ⟨os, s1, .inl (.inl e1), h1, ob, om, ol⟩⟩) (fun a0 rs F6 ⟨os, s6, hL6, h6, ob, om, ol⟩ => ?_)
    have rl : rs.length = os.length := by rw [DpAll_len h6, List.length_map]
    have go : ∀ o ∈ os, GoodP 400 o := fun o ho => hG o ((om o).mp ho)
    refine ⟨hL6, small1000 (by omega), fun i => qrP (os.getD i zP), fun i => noL_qr _, fun i x F7 R ex sx hR => ?_, fun a F8 ys s8 n8 e1 h8 => ?_⟩
    · obtain ⟨d', ed, hd⟩ := DpAll_at h6 ex
      rw [List.getElem?_map] at ed
      cases eo : os[i]? with
      | none => rw [eo] at ed; cases ed
      | some d =>
        rw [eo] at ed
        cases ed
        have e : os.getD i zP = d := by rw [List.getD_eq_getElem?_getD, eo]; rfl
        (try dsimp only at hR)
        rw [e] at hR
        have hx := Dp_same sx hd
        exact ⟨rfl, x, rfl, x, rfl, _, _, rfl, pla_t hx, go d (List.mem_of_getElem? eo), fun H' z s' hz => ⟨(by show 2 ≤ sizeLine; decide), fun b nb => hR _ _ (s'.trans (PB.same_new nb)) (dp_mk2 nb (Dp_same s' hx) hz)⟩⟩
    have h1 : DpAll K F8 ys (os.map qrP) := by rw [← range_get os zP, ← rl]; exact h8
    have s1 := s6.trans s8
    have yl : ys.length = os.length := by rw [DpAll_len h1, List.length_map]
    generalize F8 = H1 at s1 e1 h1 ⊢
    dsimp only [gName]
    refine ⟨_, rfl, a, ys, rfl, .inl (.inl (.inl e1)), rfl, _, rfl, ?_⟩
    by_cases o1 : os.length = 1
    · refine itT (decide_eq_true (by rw [yl, o1]; rfl)) ?_
      obtain ⟨o, rfl⟩ : ∃ o, os = [o] := by
        match os, o1 with
        | [o], _ => exact ⟨o, rfl⟩
      obtain ⟨v0, rfl, hv0⟩ : ∃ v, ys = [v] ∧ Dp K H1 v (qrP o) := by
        cases h1 with
        | cons h t => cases t with
          | nil => exact ⟨_, rfl, h⟩
      obtain ⟨pr, v, r1, rfl, c1, hv, hr1⟩ := dp_t2 hv0
      refine ⟨_, rfl, a, _, 0, _, rfl, rfl, .inl (.inl e1), rfl, _, _, 0, _, rfl, ⟨pr, rfl, .inl c1⟩, rfl, (by show 1 ≤ sizeLine; decide), fun t nt => ?_⟩
      have sn := PB.same_new (o := .tup [v]) nt
      exact q _ _ [o] (s1.trans sn) ob om ol (.tup (.inl (.inl upd_same)) (.cons (Dp_same sn hv) .nil))
    · refine itF (decide_eq_false fun z => o1 (by have := V.int.inj z; omega)) ?_
      refine ⟨_, rfl, a, ys, os, rfl, .inl (.inl e1), h1, by omega, go, fun H2 c1 ts s2 n2 e2 h2 => ?_⟩
      refine ⟨_, rfl, a, ys, rfl, .inl (.inl (s2 _ _ e1)), fun r nr => ?_⟩
      have sr := PB.same_new (o := .lst ys.reverse) nr
      refine ⟨r, ys.reverse, os.reverse, rfl, .inl (.inl upd_same), ?_, by rw [List.length_reverse]; omega, fun o ho => go o (List.mem_reverse.mp ho), fun H4 c2 us s4 n4 e4 h4 => ⟨_, _, rfl, ?_⟩⟩
      · rw [List.map_reverse]
        exact DpAll_same sr (dp_rev (DpAll_same s2 h1))
      have s24 := sr.trans s4
      have e2' := s24 _ _ e2
      have h2' := DpAll_same s24 h2
      have lt : ts.length ≤ 60 := by
        rw [DpAll_len h2, List.length_map]
        have := st_len os []
        have e : (chP os).length = (os.foldl (fun s p => pushP p s) []).length := List.length_reverse
        simp at this
        omega
      have lu : us.length ≤ 60 := by
        rw [DpAll_len h4, List.length_map]
        have := st_len os.reverse []
        have e : (chP os.reverse).length = (os.reverse.foldl (fun s p => pushP p s) []).length := List.length_reverse
        rw [List.length_reverse] at this
        rw [e]
        simp only [List.length_nil, Nat.add_zero] at this
        omega
      have k1 : DpAll K H4 (cutV ts none (some (-1))) ((chP os).dropLast.map pD) := by rw [cut_last, List.map_dropLast]; exact dp_dropLast h2'
      have k2 : DpAll K H4 (cutV us none (some (-1))) ((chP os.reverse).dropLast.map pD) := by rw [cut_last, List.map_dropLast]; exact dp_dropLast h4
      refine ⟨_, rfl, 1, rfl, _, rfl, c1, ts, rfl, .inl (.inl e2'), fun r1 nr1 => ?_⟩
      have sa := PB.same_new (o := .lst (cutV ts none (some (-1)))) nr1
      refine ⟨_, rfl, 1, rfl, _, rfl, c2, us, rfl, .inl (.inl (sa _ _ e4)), fun r2 nr2 => ?_⟩
      have sb := PB.same_new (o := .lst (cutV us none (some (-1)))) nr2
      have er1 : (upd (upd H4 r1 (.lst (cutV ts none (some (-1))))) r2 (.lst (cutV us none (some (-1))))) r1 = some (.lst (cutV ts none (some (-1)))) := sb _ _ upd_same
      refine ⟨r1, r2, _, _, rfl, rfl, er1, upd_same, ?_, fun r3 nr3 => ?_⟩
      · rw [cut_last, cut_last, List.length_dropLast, List.length_dropLast]
        have : (1000 : Nat) ≤ sizeLine := by decide
        omega
      have sc := PB.same_new (o := .lst (cutV ts none (some (-1)) ++ cutV us none (some (-1)))) nr3
      refine ⟨r3, _, rfl, .inl ⟨.inl (.inl upd_same), fun l nl => ?_⟩⟩
      have sl := PB.same_new (o := .tup (cutV ts none (some (-1)) ++ cutV us none (some (-1)))) nl
      have all := ((sa.trans sb).trans sc).trans sl
      refine q _ _ os ((((s1.trans s2).trans s24).trans all)) ob om ol (.tup (.inl (.inl upd_same)) ?_)
      unfold hullP
      rw [if_neg o1, List.map_append]
      exact dp_app (DpAll_same all k1) (DpAll_same all k2)
end
end F3
set_option Elab.async false
set_option linter.all false
set_option maxRecDepth 100000
set_option maxHeartbeats 4000000
/-! hulls of places by hulls of whole points -/
namespace F3
open PySem PySem.Spec PyProof.Rows L2 FX RM PB KD KS
theorem mem_dl {α : Type} {x : α} {l : List α} (h : x ∈ l.dropLast) : x ∈ l := (List.dropLast_sublist l).subset h
theorem nil_or_snoc {α : Type} (l : List α) : l = [] ∨ ∃ l' c, l = l' ++ [c] := by
  rcases List.eq_nil_or_concat l with h | ⟨a, b, h⟩
  · exact .inl h
  · exact .inr ⟨a, b, by rw [h, List.concat_eq_append]⟩
theorem sc_inj {N : Int} (n0 : 0 < N) {a b : Pl} (ha : Bot N a) (hb : Bot N b) (e : sc N a = sc N b) : a = b := by
  obtain ⟨a1, a2⟩ := sc_1 ha
  obtain ⟨b1, b2⟩ := sc_1 hb
  rw [e] at a1 a2
  have N0 : N ≠ 0 := by omega
  refine Prod.ext (rat_eq ha.1.1 hb.1.1 ?_) (rat_eq ha.1.2 hb.1.2 ?_)
  · refine Int.eq_of_mul_eq_mul_right N0 ?_
    calc a.1.1 * b.1.2 * N = a.1.1 * N * b.1.2 := by grind
      _ = (sc N b).1 * b.1.2 * a.1.2 := by rw [← a1]; grind
      _ = b.1.1 * a.1.2 * N := by rw [b1]; grind
  · refine Int.eq_of_mul_eq_mul_right N0 ?_
    calc a.2.1 * b.2.2 * N = a.2.1 * N * b.2.2 := by grind
      _ = (sc N b).2 * b.2.2 * a.2.2 := by rw [← a2]; grind
      _ = b.2.1 * a.2.2 * N := by rw [b2]; grind
theorem sc_lx {N : Int} (n0 : 0 < N) {a b : Pl} (ha : Bot N a) (hb : Bot N b) (h : ltP a b) : G4.lx (sc N a) (sc N b) := by
  obtain ⟨a1, a2⟩ := sc_1 ha
  obtain ⟨b1, b2⟩ := sc_1 hb
  have lt : ∀ {x y p q r s : Int}, 0 < q → 0 < s → x * q = p * N → y * s = r * N → p * s < r * q → x < y := by
    intro x y p q r s q0 s0 e1 e2 k
    rcases Int.lt_or_le x y with z | z
    · exact z
    · have m := Int.mul_le_mul_of_nonneg_right z (Int.le_of_lt (Int.mul_pos q0 s0))
      have m1 : x * (q * s) = p * s * N := by rw [← Int.mul_assoc, e1]; grind
      have m2 : y * (q * s) = r * q * N := by rw [Int.mul_comm q s, ← Int.mul_assoc, e2]; grind
      have m3 := Int.mul_lt_mul_of_pos_right k n0
      omega
  rcases h with h | ⟨h, k⟩
  · exact .inl (lt ha.1.1.1 hb.1.1.1 a1 b1 h)
  · refine .inr ⟨?_, lt ha.1.2.1 hb.1.2.1 a2 b2 k⟩
    show a.1.1 * (N / a.1.2) = b.1.1 * (N / b.1.2)
    rw [h]
theorem push_sc {N : Int} (n0 : 0 < N) {p : Pl} (hp : Bot N p) : ∀ {st : List Pl}, (∀ q ∈ st, Bot N q) → (pushP p st).map (sc N) = G4.push (sc N p) (st.map (sc N))
  | [], _ => rfl
  | [y], _ => rfl
  | y :: x :: r, h => by
    have k := (sc_pos n0 (h x (by simp)) (h y (by simp)) hp).1
    show (if sgP x y p ≤ 0 then pushP p (x :: r) else p :: y :: x :: r).map (sc N) = (if G4.cr (sc N x) (sc N y) (sc N p) ≤ 0 then G4.push (sc N p) (sc N x :: r.map (sc N)) else sc N p :: sc N y :: sc N x :: r.map (sc N))
    by_cases c : sgP x y p ≤ 0
    · rw [if_pos c, if_pos (k.mp c)]
      exact push_sc n0 hp fun q hq => h q (List.mem_cons_of_mem _ hq)
    · rw [if_neg c, if_neg fun z => c (k.mpr z)]
      rfl
theorem fold_sc {N : Int} (n0 : 0 < N) : ∀ (l st : List Pl), (∀ q ∈ l, Bot N q) → (∀ q ∈ st, Bot N q) → (l.foldl (fun s p => pushP p s) st).map (sc N) = (l.map (sc N)).foldl (fun s p => G4.push p s) (st.map (sc N))
  | [], _, _, _ => rfl
  | p :: l, st, h1, h2 => by
    have hp := h1 p (List.mem_cons_self ..)
    rw [List.foldl_cons, List.map_cons, List.foldl_cons, ← push_sc n0 hp h2]
    refine fold_sc n0 l _ (fun q hq => h1 q (List.mem_cons_of_mem _ hq)) fun q hq => ?_
    rcases push_mem hq with e | e
    · exact e ▸ hp
    · exact h2 q e
theorem chP_sc {N : Int} (n0 : 0 < N) {l : List Pl} (h : ∀ q ∈ l, Bot N q) : (chP l).map (sc N) = G4.chain (l.map (sc N)) := by
  unfold chP stP G4.chain
  rw [List.map_reverse, fold_sc n0 l [] h (fun _ h => nomatch h)]
  rfl
theorem hullP_sc {N : Int} (n0 : 0 < N) {os : List Pl} (h : ∀ q ∈ os, Bot N q) : (hullP os).map (sc N) = G4.hullR (os.map (sc N)) := by
  unfold hullP G4.hullR
  rw [List.length_map]
  split
  · rfl
  · rw [List.map_append, List.map_dropLast, List.map_dropLast, chP_sc n0 h, chP_sc n0 (fun q hq => h q (List.mem_reverse.mp hq)), List.map_reverse]
/-- the places ps in ascending order -/
structure Srt (ps os : List Pl) : Prop where
  lt : os.Pairwise ltP
  m : ∀ r, r ∈ os ↔ r ∈ ps
theorem map_inj' {N : Int} (n0 : 0 < N) : ∀ {l l' : List Pl}, (∀ p ∈ l, Bot N p) → (∀ p ∈ l', Bot N p) → l.map (sc N) = l'.map (sc N) → l = l'
  | [], [], _, _, _ => rfl
  | [], _ :: _, _, _, e => nomatch e
  | _ :: _, [], _, _, e => nomatch e
  | a :: l, b :: l', h, h', e => by
    obtain ⟨e1, e2⟩ := List.cons.inj e
    rw [sc_inj n0 (h a (by simp)) (h' b (by simp)) e1, map_inj' n0 (fun p hp => h p (List.mem_cons_of_mem _ hp)) (fun p hp => h' p (List.mem_cons_of_mem _ hp)) e2]
theorem hull_sub {os : List Pl} : ∀ r ∈ hullP os, r ∈ os := fun r hr => by
  unfold hullP at hr
  split at hr
  · exact hr
  · rcases List.mem_append.mp hr with h | h
    · have := List.mem_reverse.mp (mem_dl h)
      rcases st_mem this with k | k
      · exact k
      · exact nomatch k
    · have := List.mem_reverse.mp (mem_dl h)
      rcases st_mem this with k | k
      · exact List.mem_reverse.mp k
      · exact nomatch k
section
variable {ps os : List Pl} {N : Int}
theorem Srt.asc (h : Srt ps os) (n0 : 0 < N) (hb : ∀ p ∈ ps, Bot N p) : (os.map (sc N)).Pairwise G4.lx := by
  rw [List.pairwise_map]
  exact h.lt.imp_of_mem fun {a b} ha hb' k => sc_lx n0 (hb a ((h.m a).mp ha)) (hb b ((h.m b).mp hb')) k
/-- two or more places: the chains -/
theorem Srt.hl (h : Srt ps os) (n0 : 0 < N) (hb : ∀ p ∈ ps, Bot N p) (l2 : 2 ≤ os.length) : ∃ a b l u, G4.HL (fun q => q ∈ os.map (sc N)) a b l u ∧ (hullP os).map (sc N) = a :: (l ++ b :: u) := by
  have asc := h.asc n0 hb
  have e := hullP_sc n0 (os := os) fun q hq => hb q ((h.m q).mp hq)
  match os, l2 with
  | x :: y :: r, _ =>
    obtain ⟨b, l, u, k1, k2⟩ := G4.hull_HL asc
    exact ⟨_, b, l, u, k1, e.trans k2⟩
/-- the hull of any places between the corners and the places -/
theorem hull_between {ps' os' : List Pl} (h : Srt ps os) (h' : Srt ps' os') (hr : ∀ p ∈ ps, RatP p) (ne : ps ≠ []) (s1 : ∀ r ∈ ps', r ∈ ps) (s2 : ∀ r ∈ hullP os, r ∈ ps') : hullP os' = hullP os := by
  have n0 := bots_pos hr
  have hb := bots_ok hr
  have hb' : ∀ p ∈ ps', Bot (bots ps) p := fun p hp => hb p (s1 p hp)
  have o1 : ∀ p ∈ os, Bot (bots ps) p := fun p hp => hb p ((h.m p).mp hp)
  have o2 : ∀ p ∈ os', Bot (bots ps) p := fun p hp => hb' p ((h'.m p).mp hp)
  match os, h, s2, o1 with
  | [], h, _, _ =>
    cases ps with
    | nil => exact absurd rfl ne
    | cons p ps => exact nomatch (h.m p).mpr (List.mem_cons_self ..)
  | [o], h, s2, _ =>
    have m := s2 o (by unfold hullP; simp)
    have all : ∀ r ∈ os', r = o := fun r hr => List.mem_singleton.mp ((h.m r).mpr (s1 r ((h'.m r).mp hr)))
    have mo := (h'.m o).mpr m
    match os', all, mo, h' with
    | [r], all, _, _ => rw [all r (by simp)]
    | r :: s :: t, all, _, h' =>
      have k := (List.pairwise_cons.mp h'.lt).1 s (by simp)
      rw [all r (by simp), all s (by simp)] at k
      exact absurd (sc_lx n0 (hb' o m) (hb' o m) k) (G4.lx_irrefl _)
  | x :: y :: r, h, s2, o1 =>
    obtain ⟨a, b, l, u, k, e⟩ := h.hl n0 hb (by simp)
    have k' := k.again (fun q => q ∈ os'.map (sc (bots ps))) (fun q hq => by
      obtain ⟨z, hz, rfl⟩ := List.mem_map.mp hq
      exact List.mem_map_of_mem ((h.m z).mpr (s1 z ((h'.m z).mp hz)))) (fun q hq => by
      rw [← e] at hq
      obtain ⟨z, hz, rfl⟩ := List.mem_map.mp hq
      exact List.mem_map_of_mem ((h'.m z).mpr (s2 z hz)))
    have e' := G4.hull_eq (h'.asc n0 hb') k'
    rw [← hullP_sc n0 o2, ← e] at e'
    exact map_inj' n0 (fun p hp => o2 p (hull_sub p hp)) (fun p hp => o1 p (hull_sub p hp)) e'
theorem hull_ne (h : Srt ps os) (hr : ∀ p ∈ ps, RatP p) (ne : ps ≠ []) : hullP os ≠ [] := by
  match os, h with
  | [], h =>
    cases ps with
    | nil => exact absurd rfl ne
    | cons p ps => exact nomatch (h.m p).mpr (List.mem_cons_self ..)
  | [o], _ => unfold hullP; simp
  | x :: y :: r, h =>
    obtain ⟨a, b, l, u, k, e⟩ := h.hl (bots_pos hr) (bots_ok hr) (by simp)
    intro z
    rw [z] at e
    cases e
theorem hull_nodup (h : Srt ps os) (hr : ∀ p ∈ ps, RatP p) : (hullP os).Nodup := by
  match os, h with
  | [], _ => unfold hullP; simp [chP, stP]
  | [o], _ => unfold hullP; simp
  | x :: y :: r, h =>
    obtain ⟨a, b, l, u, k, e⟩ := h.hl (bots_pos hr) (bots_ok hr) (by simp)
    have := k.nodup
    rw [← e] at this
    rw [List.Nodup, List.pairwise_map] at this
    exact this.imp fun h e => h (congrArg _ e)
/-- without its last corner -/
theorem hull_shorter {ps' os' : List Pl} (h : Srt ps os) (hr : ∀ p ∈ ps, RatP p) (l2 : 2 ≤ (hullP os).length) (h' : Srt ps' os') (m : ∀ r, r ∈ ps' ↔ r ∈ (hullP os).dropLast) : hullP os' = (hullP os).dropLast := by
  have n0 := bots_pos hr
  have hb := bots_ok hr
  have o1 : ∀ p ∈ os, Bot (bots ps) p := fun p hp => hb p ((h.m p).mp hp)
  have hb' : ∀ p ∈ ps', Bot (bots ps) p := fun p hp => o1 p (hull_sub p (mem_dl ((m p).mp hp)))
  have o2 : ∀ p ∈ os', Bot (bots ps) p := fun p hp => hb' p ((h'.m p).mp hp)
  have d2 : ∀ p ∈ (hullP os).dropLast, Bot (bots ps) p := fun p hp => o1 p (hull_sub p (mem_dl hp))
  have two : 2 ≤ os.length := by
    match os, l2 with
    | [], l2 => unfold hullP at l2; simp [chP, stP] at l2
    | [o], l2 => unfold hullP at l2; simp at l2
    | _ :: _ :: _, _ => simp
  obtain ⟨a, b, l, u, k, e⟩ := h.hl n0 hb two
  have asc' := h'.asc n0 hb'
  have mem' : ∀ q, q ∈ os'.map (sc (bots ps)) ↔ q ∈ ((hullP os).map (sc (bots ps))).dropLast := fun q => by
    rw [← List.map_dropLast]
    constructor
    · intro hq
      obtain ⟨z, hz, rfl⟩ := List.mem_map.mp hq
      exact List.mem_map_of_mem ((m z).mp ((h'.m z).mp hz))
    · intro hq
      obtain ⟨z, hz, rfl⟩ := List.mem_map.mp hq
      exact List.mem_map_of_mem ((h'.m z).mpr ((m z).mpr hz))
  refine map_inj' n0 (fun p hp => o2 p (hull_sub p hp)) d2 ?_
  rw [List.map_dropLast, hullP_sc n0 o2]
  rw [e] at mem' ⊢
  rcases nil_or_snoc u with rfl | ⟨u', c, rfl⟩
  · have d : (a :: (l ++ [b])).dropLast = a :: l := by rw [← List.cons_append, List.dropLast_concat]
    rw [d] at mem' ⊢
    rcases nil_or_snoc l with rfl | ⟨l', c, rfl⟩
    · -- one place is left
      generalize os'.map (sc (bots ps)) = rows at mem' asc' ⊢
      have ma : a ∈ rows := (mem' a).mpr (by simp)
      have all : ∀ r ∈ rows, r = a := fun r hr => List.mem_singleton.mp ((mem' r).mp hr)
      match rows, all, ma, asc' with
      | [r], all, _, _ => rw [all r (by simp)]; rfl
      | r :: s :: t, all, _, asc' =>
        have k := (List.pairwise_cons.mp asc').1 s (by simp)
        rw [all r (by simp), all s (by simp)] at k
        exact absurd k (G4.lx_irrefl _)
    · have k2 := k.shorter_low
      have e3 : (fun q => q ∈ a :: (l' ++ [c])) = fun q => q ∈ os'.map (sc (bots ps)) := funext fun q => propext (mem' q).symm
      rw [e3] at k2
      exact G4.hull_eq asc' k2
  · have d : (a :: (l ++ b :: (u' ++ [c]))).dropLast = a :: (l ++ b :: u') := by
      have : a :: (l ++ b :: (u' ++ [c])) = (a :: (l ++ b :: u')) ++ [c] := by simp
      rw [this, List.dropLast_concat]
    rw [d] at mem' ⊢
    have k2 := k.shorter_up
    have e3 : (fun q => q ∈ a :: (l ++ b :: u')) = fun q => q ∈ os'.map (sc (bots ps)) := funext fun q => propext (mem' q).symm
    rw [e3] at k2
    exact G4.hull_eq asc' k2
end
end F3
set_option Elab.async false
set_option linter.all false
set_option maxRecDepth 100000
set_option maxHeartbeats 4000000
/-! an error beside its fields and what they should be: the rows that the law makes -/
namespace FX
open PySem PySem.Spec PyProof.Rows L2
theorem same_new {H : Hp} {p : Addr} {o : HO} (h : H p = none) : Same H (upd H p o) := fun b x e => by
  rw [upd_ne (ne_of_none e h)]; exact e
theorem len_one {α : Type} : ∀ {l : List α}, l.length = 1 → ∃ a, l = [a]
  | [a], _ => ⟨a, rfl⟩
theorem len_two {α : Type} : ∀ {l : List α}, l.length = 2 → ∃ a b, l = [a, b]
  | [a, b], _ => ⟨a, b, rfl⟩
/-- what a class of errors gives: its facts, its name's value, its constructor -/
structure CT (P : Program) (w : World) (K : PySem.W.Frag) (mg : Str → Option Value) (base : Heap) (x : Str) (fs : List Str) : Prop where
  ok : ClsOk K x fs
  g : mg x = some (.ref (He.ga K x))
  con : fs ≠ [] → ∃ fd ps, FnOk P w K mg base CX0 1 (He.ma K (He.ga K x) "__init__") fd ps (spInit (He.ga K x) fs) ∧ Binds K fd ps []
section
variable {X : Cx}
theorem pe_exC {x : Str} {fs : List Str} {e : Expr} {es : List Expr} {ta : TA} {p pos : Pos} (c : CT X.prog X.w X.K X.mg X.base x fs) (hr : Room 2 X.A) (hg : Gl X x) (ha : PA X (e :: es) ta) (hne : fs ≠ [] := by exact List.cons_ne_nil _ _)
    (hdb : (x == ("__debug__" : Str)) = false := by decide) (he : starEach (e :: es) X.env = (false, eval e X.env) :: starEach es X.env := by rfl) (hpl : (backTo pos (starEach es X.env)).any (·.1) = false := by rfl) :
    PE X (.Call (.Name x p) (e :: es) [] pos) (tEx (He.ga X.K x) fs ta) := by
  obtain ⟨fd, ps, F, b⟩ := c.con hne
  exact pe_ex c.ok.o (c.ok.ini hne) (c.ok.ity hne) F hr b hg c.g ha hdb he hpl
theorem pe_exC0 {x : Str} {p pos : Pos} (c : CT X.prog X.w X.K X.mg X.base x []) (hg : Gl X x) (hdb : (x == ("__debug__" : Str)) = false := by decide) :
    PE X (.Call (.Name x p) [] [] pos) (tEx (He.ga X.K x) [] tNil) := pe_ex0 c.ok.o (c.ok.xin rfl) hg c.g hdb
end
/-- one row: the error, what was read of it, what is due -/
def EntF (K : PySem.W.Frag) (H : Hp) (v : V) (x : Str) (ws : List V) : Prop := ∃ t e l1 l2 fs, v = .ref t ∧ H t = some (.tup [.ref e, .ref l1, .ref l2]) ∧ ExAt H e (He.ga K x) fs ∧ H l1 = some (.lst ws) ∧ H l2 = some (.lst ws)
def Ent (K : PySem.W.Frag) (H : Hp) (p : Addr) (v : V) (x : Str) (ws : List V) : Prop := ∃ t e l1 l2 fs, v = .ref t ∧ H t = some (.tup [.ref e, .ref l1, .ref l2]) ∧ ExAt H e (He.ga K x) fs ∧ H l1 = some (.lst ws) ∧ H l2 = some (.lst ws) ∧ l1 ≠ p ∧ l2 ≠ p
def Ents (K : PySem.W.Frag) (H : Hp) (p : Addr) : List V → List (Str × List V) → Prop
  | [], [] => True
  | v :: vs, (x, ws) :: r => Ent K H p v x ws ∧ Ents K H p vs r
  | _, _ => False
def EntsF (K : PySem.W.Frag) (H : Hp) : List V → List (Str × List V) → Prop
  | [], [] => True
  | v :: vs, (x, ws) :: r => EntF K H v x ws ∧ EntsF K H vs r
  | _, _ => False
section
variable {K : PySem.W.Frag} {H H' : Hp} {p : Addr}
theorem EntF.same {v : V} {x : Str} {ws : List V} (h : EntF K H v x ws) (s : Same H H') : EntF K H' v x ws := by
  obtain ⟨t, e, l1, l2, fs, a, b, c, d, f⟩ := h
  exact ⟨t, e, l1, l2, fs, a, s _ _ b, c.same s, s _ _ d, s _ _ f⟩
theorem EntsF.same : ∀ {vs : List V} {es : List (Str × List V)}, EntsF K H vs es → Same H H' → EntsF K H' vs es
  | [], [], _, _ => trivial
  | v :: vs, (x, ws) :: r, ⟨a, b⟩, s => ⟨a.same s, EntsF.same b s⟩
  | [], _ :: _, h, _ => h.elim
  | _ :: _, [], h, _ => h.elim
theorem EntsF.app : ∀ {vs us : List V} {es rs : List (Str × List V)}, EntsF K H vs es → EntsF K H us rs → EntsF K H (vs ++ us) (es ++ rs)
  | [], _, [], _, _, h => h
  | v :: vs, _, (x, ws) :: r, _, ⟨a, b⟩, h => ⟨a, EntsF.app b h⟩
  | [], _, _ :: _, _, h, _ => h.elim
  | _ :: _, _, [], _, h, _ => h.elim
theorem EntsF.len : ∀ {vs : List V} {es : List (Str × List V)}, EntsF K H vs es → vs.length = es.length
  | [], [], _ => rfl
  | v :: vs, (x, ws) :: r, ⟨_, b⟩ => congrArg (· + 1) (EntsF.len b)
  | [], _ :: _, h => h.elim
  | _ :: _, [], h => h.elim
theorem EntsF.at : ∀ {vs : List V} {es : List (Str × List V)} {i : Nat} {x : Str} {ws : List V}, EntsF K H vs es → es[i]? = some (x, ws) → ∃ v, vs[i]? = some v ∧ EntF K H v x ws
  | v :: vs, (y, us) :: r, 0, x, ws, ⟨a, _⟩, e => by
    have z := Option.some.inj e
    cases z
    exact ⟨v, rfl, a⟩
  | v :: vs, _ :: r, i + 1, x, ws, ⟨_, b⟩, e => EntsF.at (i := i) b e
  | [], [], _, _, _, _, e => by cases e
  | [], _ :: _, _, _, _, h, _ => h.elim
  | _ :: _, [], _, _, _, h, _ => h.elim
theorem Ents.free : ∀ {vs : List V} {es : List (Str × List V)}, Ents K H p vs es → EntsF K H vs es
  | [], [], _ => trivial
  | v :: vs, (x, ws) :: r, ⟨⟨t, e, l1, l2, fs, a, b, c, d, f, _⟩, q⟩ => ⟨⟨t, e, l1, l2, fs, a, b, c, d, f⟩, Ents.free q⟩
  | [], _ :: _, h => h.elim
  | _ :: _, [], h => h.elim
theorem Ent.but {v : V} {x : Str} {ws ys : List V} (hp : H p = some (.lst ys)) (s : ∀ b o, b ≠ p → H b = some o → H' b = some o) (h : Ent K H p v x ws) : Ent K H' p v x ws := by
  obtain ⟨t, e, l1, l2, fs, a, b, c, d, f, n1, n2⟩ := h
  have ne : ∀ {q : Addr} {o : HO}, H q = some o → o ≠ .lst ys → q ≠ p := fun {q o} z n z2 => by
    rw [z2, hp] at z
    exact n (Option.some.inj z).symm
  have nx : ∀ (φ : Heap → Prop), HO.ext φ ≠ .lst ys := fun φ z => by cases z
  refine ⟨t, e, l1, l2, fs, a, s _ _ (ne b (fun z => by cases z)) b, ?_, s _ _ n1 d, s _ _ n2 f, n1, n2⟩
  rcases c with ⟨c1, c2⟩ | ⟨dd, c1, c2⟩
  · exact .inl ⟨c1, s _ _ (ne c2 (nx _)) c2⟩
  · exact .inr ⟨dd, s _ _ (ne c1 (nx _)) c1, s _ _ (ne c2 (nx _)) c2⟩
theorem Ents.but {ys : List V} (hp : H p = some (.lst ys)) (s : ∀ b o, b ≠ p → H b = some o → H' b = some o) : ∀ {vs : List V} {es : List (Str × List V)}, Ents K H p vs es → Ents K H' p vs es
  | [], [], _ => trivial
  | v :: vs, (x, ws) :: r, ⟨a, b⟩ => ⟨a.but hp s, Ents.but hp s b⟩
  | [], _ :: _, h => h.elim
  | _ :: _, [], h => h.elim
theorem Ents.snoc {v : V} {x : Str} {ws : List V} : ∀ {vs : List V} {es : List (Str × List V)}, Ents K H p vs es → Ent K H p v x ws → Ents K H p (vs ++ [v]) (es ++ [(x, ws)])
  | [], [], _, h => ⟨h, trivial⟩
  | u :: vs, (y, us) :: r, ⟨a, b⟩, h => ⟨a, Ents.snoc b h⟩
  | [], _ :: _, h, _ => h.elim
  | _ :: _, [], h, _ => h.elim
end
/-- between two rows -/
def StF (K : PySem.W.Frag) (H0 : Hp) (p : Addr) (v0 v1 v2 v3 : V) (es : List (Str × List V)) (σ : L2.St) (H : Hp) : Prop := ∃ y xs, σ = [some v0, some v1, some v2, some v3, some (.ref p), y] ∧ Same H0 H ∧ H0 p = none ∧ H p = some (.lst xs) ∧ xs.length = es.length ∧ Ents K H p xs es
abbrev tApp (K : PySem.W.Frag) (ta : TA) : TS := tDrop (tBM K "list" rAppend (tVar 4) ta)
abbrev tRow (K : PySem.W.Frag) (te : TE) (t1 t2 : TA) : TA := tCons (tTup (tCons te (tCons (tLst t1) (tCons (tLst t2) tNil)))) tNil
section
variable {K : PySem.W.Frag} {H0 : Hp} {p : Addr} {v0 v1 v2 v3 : V} {es : List (Str × List V)} {D : Ends}
/-- the end of a row: the tuple is made and put behind the others -/
theorem row_end {x : Str} {ws : List V} {fs : List (Str × V)} {y : Option V} {xs : List V} {H H1 : Hp} {e l1 l2 t : Addr} (sm : Same H0 H) (np : H0 p = none) (hp : H p = some (.lst xs)) (hl : xs.length = es.length) (he : Ents K H p xs es) (hs : es.length < 1000)
    (s1 : Same H H1) (hx : ExAt H1 e (He.ga K x) fs) (n1 : H1 l1 = none) (n2 : upd H1 l1 (.lst ws) l2 = none) (n3 : upd (upd H1 l1 (.lst ws)) l2 (.lst ws) t = none)
    (next : ∀ σ' H', StF K H0 p v0 v1 v2 v3 (es ++ [(x, ws)]) σ' H' → D.nx σ' H') :
    rAppend (.ref p) [.ref t] (upd (upd (upd H1 l1 (.lst ws)) l2 (.lst ws)) t (.tup [.ref e, .ref l1, .ref l2])) (fun _ H2 => D.nx [some v0, some v1, some v2, some v3, some (.ref p), y] H2) := by
  have sa : Same H1 (upd H1 l1 (.lst ws)) := same_new n1
  have sb : Same (upd H1 l1 (.lst ws)) (upd (upd H1 l1 (.lst ws)) l2 (.lst ws)) := same_new n2
  have sc : Same (upd (upd H1 l1 (.lst ws)) l2 (.lst ws)) (upd (upd (upd H1 l1 (.lst ws)) l2 (.lst ws)) t (.tup [.ref e, .ref l1, .ref l2])) := same_new n3
  have s2 : Same H (upd (upd (upd H1 l1 (.lst ws)) l2 (.lst ws)) t (.tup [.ref e, .ref l1, .ref l2])) := ((s1.trans sa).trans sb).trans sc
  have hp1 := s1 _ _ hp
  have hp2 := sa _ _ hp1
  have hp3 := s2 _ _ hp
  refine ⟨p, xs, .ref t, rfl, rfl, hp3, small1000 (by omega), next _ _ ⟨y, xs ++ [.ref t], rfl, fun b o z => ?_, np, upd_same, by rw [List.length_append, List.length_append, hl]; rfl, ?_⟩⟩
  · rw [upd_ne (ne_of_none z np)]
    exact s2 _ _ (sm _ _ z)
  · refine Ents.but hp3 (fun b o nb z => by rw [upd_ne nb]; exact z) (Ents.snoc (Ents.but hp (fun b o _ z => s2 _ _ z) he) ⟨t, e, l1, l2, fs, rfl, upd_same, ?_, sc _ _ (sb _ _ upd_same), sc _ _ upd_same, (ne_of_none hp1 n1).symm, (ne_of_none hp2 n2).symm⟩)
    exact hx.same ((sa.trans sb).trans sc)
theorem step0 {x : Str} {σ : L2.St} {H : Hp} (h : StF K H0 p v0 v1 v2 v3 es σ H) (hs : es.length < 1000) (next : ∀ σ' H', StF K H0 p v0 v1 v2 v3 (es ++ [(x, [])]) σ' H' → D.nx σ' H') :
    tApp K (tRow K (tEx (He.ga K x) [] tNil) tNil tNil) D σ H := by
  obtain ⟨y, xs, rfl, sm, np, hp, hl, he⟩ := h
  refine ⟨.ref p, rfl, .inl ⟨rfl, _, .inl (.inl hp)⟩, rfl, Nat.zero_le _, fun e H1 ne s1 hx => ⟨Nat.zero_le _, fun l1 n1 => ⟨Nat.zero_le _, fun l2 n2 => ⟨(by show 3 ≤ sizeLine; decide), fun t n3 => ?_⟩⟩⟩⟩
  exact row_end sm np hp hl he hs s1 hx n1 n2 n3 next
theorem step1 {x f : Str} {j : Nat} {v : V} {σ : L2.St} {H : Hp} {rest : TS} (c : ClsOk K x [f]) (hj : ∀ y, [some v0, some v1, some v2, some v3, some (.ref p), y][j]? = some (some v)) (h : StF K H0 p v0 v1 v2 v3 es σ H) (hs : es.length < 1000)
    (next : ∀ σ' H', StF K H0 p v0 v1 v2 v3 (es ++ [(x, [v])]) σ' H' → rest D σ' H') :
    tSeq (tAsg (tEx (He.ga K x) [f] (tCons (tVar j) tNil)) (gName 5)) (tSeq (tApp K (tRow K (tVar 5) (tCons (tXv K f (tVar 5)) tNil) (tCons (tVar j) tNil))) rest) D σ H := by
  obtain ⟨y, xs, rfl, sm, np, hp, hl, he⟩ := h
  refine ⟨v, hj y, rfl, (by show 1 ≤ 1000; decide), fun e H1 ne s1 hx => ?_⟩
  have lk : List.lookup f [(f, v)] = some v := by simp [List.lookup]
  refine ⟨.ref p, rfl, .inl ⟨rfl, _, .inl (.inl (s1 _ _ hp))⟩, .ref e, rfl, .ref e, rfl, e, _, _, v, rfl, hx, c.is, c.no f (List.mem_cons_self ..), lk, (by show 1 ≤ sizeLine; decide), fun l1 n1 => ?_⟩
  refine ⟨v, hj _, (by show 1 ≤ sizeLine; decide), fun l2 n2 => ⟨(by show 3 ≤ sizeLine; decide), fun t n3 => ?_⟩⟩
  exact row_end (D := { D with nx := rest D }) sm np hp hl he hs s1 hx n1 n2 n3 next
theorem step2 {x f g : Str} {i j : Nat} {v u : V} {σ : L2.St} {H : Hp} {rest : TS} (c : ClsOk K x [f, g]) (hne : f ≠ g) (hi : ∀ y, [some v0, some v1, some v2, some v3, some (.ref p), y][i]? = some (some v)) (hj : ∀ y, [some v0, some v1, some v2, some v3, some (.ref p), y][j]? = some (some u))
    (h : StF K H0 p v0 v1 v2 v3 es σ H) (hs : es.length < 1000) (next : ∀ σ' H', StF K H0 p v0 v1 v2 v3 (es ++ [(x, [v, u])]) σ' H' → rest D σ' H') :
    tSeq (tAsg (tEx (He.ga K x) [f, g] (tCons (tVar i) (tCons (tVar j) tNil))) (gName 5)) (tSeq (tApp K (tRow K (tVar 5) (tCons (tXv K f (tVar 5)) (tCons (tXv K g (tVar 5)) tNil)) (tCons (tVar i) (tCons (tVar j) tNil)))) rest) D σ H := by
  obtain ⟨y, xs, rfl, sm, np, hp, hl, he⟩ := h
  refine ⟨v, hi y, u, hj y, rfl, (by show 2 ≤ 1000; decide), fun e H1 ne s1 hx => ?_⟩
  have l1 : List.lookup f [(g, u), (f, v)] = some v := by
    have z : (f == g) = false := by simpa using hne
    simp [List.lookup, z]
  have l2 : List.lookup g [(g, u), (f, v)] = some u := by simp [List.lookup]
  refine ⟨.ref p, rfl, .inl ⟨rfl, _, .inl (.inl (s1 _ _ hp))⟩, .ref e, rfl, .ref e, rfl, e, _, _, v, rfl, hx, c.is, c.no f (List.mem_cons_self ..), l1, .ref e, rfl, e, _, _, u, rfl, hx, c.is, c.no g (List.mem_cons_of_mem _ (List.mem_cons_self ..)), l2, (by show 2 ≤ sizeLine; decide), fun l1 n1 => ?_⟩
  refine ⟨v, hi _, u, hj _, (by show 2 ≤ sizeLine; decide), fun l2 n2 => ⟨(by show 3 ≤ sizeLine; decide), fun t n3 => ?_⟩⟩
  exact row_end (D := { D with nx := rest D }) sm np hp hl he hs s1 hx n1 n2 n3 next
end
end FX
set_option Elab.async false
set_option linter.all false
set_option maxRecDepth 100000
set_option maxHeartbeats 4000000
set_option exponentiation.threshold 3000
namespace F3
open PySem PySem.Spec PyProof.Rows L2 FX RM PB KD KS
section
variable {X : Cx}
theorem pmk_exW {x : Str} {e : Expr} {es : List Expr} {ta : TA} {p pos : Pos} {names : List Str} (c : CT X.prog X.w X.K X.mg X.base x names) (hr : Room 2 X.A) (hg : Gl X x) (ha : PA X (e :: es) ta) (hne : names ≠ [] := by exact List.cons_ne_nil _ _)
    (hdb : (x == ("__debug__" : Str)) = false := by decide) (he : starEach (e :: es) X.env = (false, eval e X.env) :: starEach es X.env := by rfl) (hpl : (backTo pos (starEach es X.env)).any (·.1) = false := by rfl) :
    PMk X (.Call (.Name x p) (e :: es) [] pos) (tMkO (He.ga X.K x) (spInit (He.ga X.K x) names) [] ta) := by
  obtain ⟨fd, ps, F, b⟩ := c.con hne
  exact pmk_oex c.ok.o (c.ok.ini hne) (c.ok.ity hne) F hr b .nil pass0 hg c.g ha hdb he hpl
end
/-- an own error with one word, let out -/
def xE (K : PySem.W.Frag) (x what : Str) (E : XK) (H : Hp) : Prop := ∀ d H', Same H H' → H' d = some (.xd [("what", .str what)]) → E (.ref (He.ga K x)) (some d) H'
theorem xE.same {K : PySem.W.Frag} {x what : Str} {E : XK} {H H' : Hp} (h : xE K x what E H) (s : Same H H') : xE K x what E H' := fun d H2 s2 => h d H2 (s.trans s2)
theorem raise_ok {K : PySem.W.Frag} {x what : Str} {E : XK} {H : Hp} {σ : L2.St} (h : xE K x what E H) : tMkO (He.ga K x) (spInit (He.ga K x) ["what"]) [] (tCons (tC (.str what)) tNil) σ H (fun cls d H2 => E cls d H2) := by
  refine ⟨(by show 1 ≤ 1000; decide), fun a na => ⟨a, [.str what], rfl, rfl, upd_same, fun H' d keep ea ed nd => ?_⟩⟩
  have da : d ≠ a := fun e => by rw [e, upd_same] at nd; cases nd
  have hd : H d = none := by rw [upd_ne da] at nd; exact nd
  refine ⟨rfl, d, _, ea, ed, hd, h d _ (fun b o e => ?_) upd_same⟩
  have ba : b ≠ a := ne_of_none e na
  rw [upd_ne (ne_of_none e hd), del_ne ba]
  exact keep b o ba (by rw [upd_ne ba]; exact e)
theorem for_seq {K : PySem.W.Frag} {a : Addr} {xs : List V} {j : Nat} {g : TG} {tb : TS} {D : Ends} {σ : L2.St} {H : Hp} (h0 : SqL K H a xs ∨ SqT K H a xs) (hj : σ[j]? = some (some (.ref a))) (Pv : Nat → L2.St → Hp → Prop) (p0 : Pv 0 σ H) (hS : ∀ i σ' H', Pv i σ' H' → Same H H')
    (hs : ∀ i x σ' H', xs[i]? = some x → Pv i σ' H' → g x σ' H' fun σ2 H2 => tb { D with nx := Pv (i + 1), ct := Pv (i + 1), bk := D.nx } σ2 H2) (hd : ∀ σ' H', Pv xs.length σ' H' → D.nx σ' H') : tFor (iSeq K (tVar j)) g tb D σ H := by
  rcases h0 with h0 | h0
  · exact .inl ⟨_, hj, a, rfl, ⟨_, h0⟩, for_list (K := K) (a := a) (xs := xs) Pv p0 (fun i σ' H' _ h => (hS i σ' H' h).seq h0) hs hd⟩
  · exact .inr ⟨_, hj, a, rfl, ⟨_, h0⟩, for_tup (K := K) (a := a) (xs := xs) Pv p0 (fun i σ' H' _ h => same_t (hS i σ' H' h) h0) hs hd⟩

/-! a patch -/
def cP (K : PySem.W.Frag) : Addr := He.ga K "Patch"
/-- at v a patch with these corners -/
def PatAt (K : PySem.W.Frag) (H : Hp) (v : V) (cs : List Pl) : Prop := ∃ a dx t, v = .ref a ∧ H a = some (.ins (cP K) dx [("corners", t)]) ∧ Dp K H t (.tuple (cs.map pD))
theorem PatAt.same {K : PySem.W.Frag} {H H' : Hp} {v : V} {cs : List Pl} (h : PatAt K H v cs) (s : Same H H') : PatAt K H' v cs := by
  obtain ⟨a, dx, t, rfl, e, ht⟩ := h
  exact ⟨a, dx, t, rfl, s _ _ e, Dp_same s ht⟩
def rowsD : PyData → Option (List PyData)
  | .tuple xs => some xs
  | .list xs => some xs
  | _ => none
/-- the things ds are these places, as tuples or lists -/
def PlD (ds : List PyData) (ps : List Pl) : Prop := ds.length = ps.length ∧ ∀ (i : Nat) (x : PyData) (q : Pl), ds[i]? = some x → ps[i]? = some q → x = pD q ∨ x = plD q
/-- what Patch(d) comes to: an error with a word, or the corners ps -/
def PatW (K : PySem.W.Frag) (d : PyData) (H : Hp) (E : XK) (Go : List Pl → Prop) : Prop :=
  ((rowsD d = none ∨ rowsD d = some []) ∧ xE K "BadPatch" "many" E H) ∨
  ∃ ds, rowsD d = some ds ∧ ds ≠ [] ∧ ds.length ≤ 60 ∧ (((∃ b ∈ ds, isPla b = false) ∧ xE K "BadPatch" "corner" E H) ∨
    ∃ ps : List Pl, PlD ds ps ∧ (∀ q ∈ ps, GoodP 400 q) ∧ ∀ os, Srt ps os → (hullP os ≠ ps → xE K "BadPatch" "turn" E H) ∧ (hullP os = ps → Go ps))
theorem PatW.same {K : PySem.W.Frag} {d : PyData} {H H' : Hp} {E : XK} {Go : List Pl → Prop} (h : PatW K d H E Go) (s : Same H H') : PatW K d H' E Go := by
  rcases h with ⟨a, x⟩ | ⟨ds, e, n, l, ⟨b, x⟩ | ⟨ps, h1, h2, h3⟩⟩
  · exact .inl ⟨a, x.same s⟩
  · exact .inr ⟨ds, e, n, l, .inl ⟨b, x.same s⟩⟩
  · exact .inr ⟨ds, e, n, l, .inr ⟨ps, h1, h2, fun os ho => ⟨fun z => ((h3 os ho).1 z).same s, (h3 os ho).2⟩⟩⟩
theorem PatW.imp {K : PySem.W.Frag} {d : PyData} {H : Hp} {E : XK} {Go Go' : List Pl → Prop} (h : PatW K d H E Go) (g : ∀ ps, Go ps → Go' ps) : PatW K d H E Go' := by
  rcases h with ⟨a, x⟩ | ⟨ds, e, n, l, ⟨b, x⟩ | ⟨ps, h1, h2, h3⟩⟩
  · exact .inl ⟨a, x⟩
  · exact .inr ⟨ds, e, n, l, .inl ⟨b, x⟩⟩
  · exact .inr ⟨ds, e, n, l, .inr ⟨ps, h1, h2, fun os ho => ⟨(h3 os ho).1, fun z => g _ ((h3 os ho).2 z)⟩⟩⟩
theorem isPla_p {q : Pl} (h : RatP q) : isPla (pD q) = true ∧ isPla (plD q) = true := by
  have a1 := h.1
  have a2 := h.2
  have e : ∀ r : Rt, IsRat r → isRat (rD r) = true := fun r hr => by
    obtain ⟨h1, h2⟩ := hr
    show (decide ((1 : Int) ≤ r.2) && decide (g2 r.1 r.2 = 1)) = true
    rw [decide_eq_true (by omega), decide_eq_true (show g2 r.1 r.2 = 1 by unfold g2; omega)]; rfl
  constructor
  · show (isRat (rD q.1) && isRat (rD q.2)) = true
    rw [e _ a1, e _ a2]; rfl
  · show (isRat (rD q.1) && isRat (rD q.2)) = true
    rw [e _ a1, e _ a2]; rfl
theorem eqv_rt (a b : Rt) : PyData.eqv (rD a) (rD b) = decide (a = b) := by
  obtain ⟨a1, a2⟩ := a; obtain ⟨b1, b2⟩ := b
  simp [rD, PyData.eqv, PyData.eqvAll]
  rw [Bool.eq_iff_iff]; simp
theorem eqv_pl (a b : Pl) : PyData.eqv (pD a) (pD b) = decide (a = b) := by
  obtain ⟨a1, a2⟩ := a; obtain ⟨b1, b2⟩ := b
  simp [pD, PyData.eqv, PyData.eqvAll, eqv_rt]
theorem eqvs_p : ∀ (as bs : List Pl), PyData.eqvAll (as.map pD) (bs.map pD) = decide (as = bs)
  | [], [] => by simp [PyData.eqvAll]
  | [], _ :: _ => by simp [PyData.eqvAll]
  | _ :: _, [] => by simp [PyData.eqvAll]
  | a :: as, b :: bs => by
    rw [List.map_cons, List.map_cons, PyData.eqvAll, eqv_pl, eqvs_p as bs]
    simp
theorem eqv_ps (as bs : List Pl) : PyData.eqv (.tuple (as.map pD)) (.tuple (bs.map pD)) = decide (as = bs) := by
  rw [PyData.eqv, eqvs_p]
theorem lay_ps : ∀ os : List Pl, PyData.canLayAll0 (os.map pD) = true ∧ PyData.depthAll (os.map pD) ≤ 2
  | [] => ⟨rfl, by simp [PyData.depthAll]⟩
  | o :: os => by
    obtain ⟨a, b⟩ := lay_ps os
    constructor
    · rw [List.map_cons, PyData.canLayAll0, a]
      simp [pD, rD, PyData.canLay0, PyData.canLayAll0]
    · rw [List.map_cons, PyData.depthAll]
      simp [pD, rD, PyData.depth, PyData.depthAll] at b ⊢
      omega
theorem shaped_ps (as : List Pl) : SeqAt.shaped (.tuple (as.map pD)) = true := by
  obtain ⟨a, b⟩ := lay_ps as
  unfold SeqAt.shaped
  rw [PyData.canLay0, a, PyData.depth]
  simp; omega
theorem pls_t {K : PySem.W.Frag} {H : Hp} {v : V} {ps : List Pl} (h : Dp K H v (.tuple (ps.map pD))) : ∃ p xs, v = .ref p ∧ SqT K H p xs ∧ Pls K H p xs ps := by
  cases h with
  | tup h g =>
    refine ⟨_, _, rfl, h, .inr h, by rw [DpAll_len g, List.length_map], fun i x q ex eq => ?_⟩
    obtain ⟨d, ed, hd⟩ := DpAll_at g ex
    rw [List.getElem?_map, eq] at ed
    cases ed
    exact pla_t hd
theorem PlD.pls {K : PySem.W.Frag} {H : Hp} {p : Addr} {xs : List V} {ds : List PyData} {ps : List Pl} (h : PlD ds ps) (hs : SqL K H p xs ∨ SqT K H p xs) (hd : DpAll K H xs ds) : Pls K H p xs ps := by
  refine ⟨hs, by rw [DpAll_len hd, h.1], fun i x q ex eq => ?_⟩
  obtain ⟨d, ed, hdx⟩ := DpAll_at hd ex
  rcases h.2 i d q ed eq with rfl | rfl
  · exact pla_t hdx
  · exact pla_l hdx
theorem rows_dp {K : PySem.W.Frag} {H : Hp} {v : V} {d : PyData} {ds : List PyData} (hv : Dp K H v d) (e : rowsD d = some ds) : isRo d = true ∧ ∃ p xs, v = .ref p ∧ (SqL K H p xs ∨ SqT K H p xs) ∧ DpAll K H xs ds := by
  cases hv with
  | non => cases e
  | bl b => cases e
  | int i => cases e
  | str s => cases e
  | lst h g => cases e; exact ⟨rfl, _, _, rfl, .inl h, g⟩
  | tup h g => cases e; exact ⟨rfl, _, _, rfl, .inr h, g⟩
theorem rows_no {d : PyData} (e : rowsD d = none) : isRo d = false := by cases d <;> first | rfl | cases e
theorem noL_ps (ps : List Pl) : noL (.tuple (ps.map pD)) = true := by
  rw [noL]; exact noLs_p ps
mutual
/-- data that stays where an instance changes -/
theorem Dp_keep {K : PySem.W.Frag} {H H' : Hp} {p C dx : Addr} {fs : List (Str × V)} (s : ∀ b o, b ≠ p → H b = some o → H' b = some o) (hp : H p = some (.ins C dx fs)) : ∀ {v : V} {d : PyData}, noL d = true → Dp K H v d → Dp K H' v d
  | _, _, _, .non => .non
  | _, _, _, .bl b => .bl b
  | _, _, _, .int i => .int i
  | _, _, _, .str x => .str x
  | _, _, n, .lst _ _ => by simp [noL] at n
  | _, _, n, .tup (a := a) h g => by
    have n2 := n
    simp only [noL] at n2
    refine .tup ?_ (Dp_keeps s hp n2 g)
    rcases h with (h | ⟨o, h⟩) | h
    · exact .inl (.inl (s _ _ (fun e => by rw [e, hp] at h; cases h) h))
    · exact .inl (.inr ⟨o, s _ _ (fun e => by rw [e, hp] at h; cases h) h⟩)
    · exact .inr h
theorem Dp_keeps {K : PySem.W.Frag} {H H' : Hp} {p C dx : Addr} {fs : List (Str × V)} (s : ∀ b o, b ≠ p → H b = some o → H' b = some o) (hp : H p = some (.ins C dx fs)) : ∀ {vs : List V} {ds : List PyData}, noLs ds = true → DpAll K H vs ds → DpAll K H' vs ds
  | _, _, _, .nil => .nil
  | _, _, n, .cons h g => by
    have n2 := n
    simp only [noLs, Bool.and_eq_true] at n2
    exact .cons (Dp_keep s hp n2.1 h) (Dp_keeps s hp n2.2 g)
end
def spPInit (K : PySem.W.Frag) : Sp := fun vs H Q E => ∃ (x dx : Addr) (v : V) (d : PyData), vs = [.ref x, v] ∧ H x = some (.ins (cP K) dx []) ∧ Dp K H v d ∧
  PatW K d H E fun ps => ∀ H' t, (∀ b o, b ≠ x → H b = some o → H' b = some o) → H' x = some (.ins (cP K) dx [("corners", t)]) → Dp K H' t (.tuple (ps.map pD)) → Q .non H'
section
variable {P : Program} {w : World} {K : PySem.W.Frag} {mg : Str → Option Value} {base : Heap}
abbrev sPinit : Stmt := inClass (topS 31) 0
theorem scPinit : FnScope ["self", "corners", "corner", "rows", "x", "y"] ["self", "corners"] (defScope sPinit) := ⟨rfl, rfl, rfl, by decide +kernel, rfl, by decide +kernel, by decide +kernel⟩
theorem in_Pinit {f : Addr} {fd : FuncData} (F : Fun K "__init__" "Patch.__init__" sPinit f fd) (cBP : CT P w K mg base "BadPatch" ["what"]) (tC : Cls K (cP K)) (nC : NoAttr K (cP K) "corners") (Gis_row : DefOk P w K mg base CX0 "is_row" 1 ["thing"] (spRow K isRo)) (Gis_place : DefOk P w K mg base CX0 "is_place" 3 ["thing"] (spRow K isPla)) (Ghull_corners : DefOk P w K mg base CX0 "hull_corners" 6 ["places"] (spHullC K)) (mlen : mg "len" = none) (mtuple : mg "tuple" = none) : FnOk P w K mg base (L2.CX P w) 7 f fd ["self", "corners"] (spPInit K) := by
  refine F.okX scPinit (fun vs H Q E h => ?_) (fun cdv A outer s H vs Q E hr h => ?_)
  · obtain ⟨x, dx, v, d, rfl, _⟩ := h; rfl
  · obtain ⟨x, dx, v, d, rfl, hx, hv, hW⟩ := h
    refine ⟨_, (pss_cons (ps_if (PW.pt (pw_or (pt_not (pt_val (pe_def Gis_row (hr.mono (by decide)) (by rfl) (pa_cons (pv 1) pa_nil)))) (pw_or1 (pt_cmpR op_eq (pe_callB call_len_seq (by rfl) mlen PySem.boot_len (pa_cons (pv 1) pa_nil)) pe_int (nomark _))))) (pss_one (ps_raise rfl (takes_of rfl rfl rfl rfl) (pmk_exW cBP (hr.mono (by decide)) (by rfl) (pa_cons pe_str pa_nil)))) pss_nil) (pss_cons (ps_for (passes_of rfl) rfl (pi_seq (pv 1)) (pg_name (i := 2) scPinit.nd rfl (.inl rfl)) (pss_one (ps_if (pt_not (pt_val (pe_def Gis_place (hr.mono (by decide)) (by rfl) (pa_cons (pv 2) pa_nil)))) (pss_one (ps_raise rfl (takes_of rfl rfl rfl rfl) (pmk_exW cBP (hr.mono (by decide)) (by rfl) (pa_cons pe_str pa_nil)))) pss_nil))) (pss_cons (ps_set (i := 3) scPinit.nd rfl (.inl rfl) (pe_callTy call_tuple_of (by rfl) mtuple (by decide +kernel) (pa_cons (pe_lc (own := [("x", 4), ("y", 5)]) rfl scPinit.nd (pi_seq (pv 1)) (blkOk_by (N := ["self", "corners", "corner", "rows", "x", "y"]) (sc := defScope sPinit) (by decide +kernel)) (fun _ _ _ _ _ => (pg_couK K rfl (pgs_cons (pg_name (i := 4) scPinit.nd rfl (.inl rfl)) (pgs_cons (pg_name (i := 5) scPinit.nd rfl (.inl rfl)) pgs_nil)))) (fun _ _ _ _ _ => pts_nil) (fun _ _ _ _ _ => (pe_tup (pa_cons (pv 4) (pa_cons (pv 5) pa_nil))))) pa_nil))) (pss_cons (ps_if (pt_cmpR (op_neD hr.units) (pe_def Ghull_corners (hr.mono (by decide)) (by rfl) (pa_cons (pv 3) pa_nil)) (pv 3) (nomark _)) (pss_one (ps_raise rfl (takes_of rfl rfl rfl rfl) (pmk_exW cBP (hr.mono (by decide)) (by rfl) (pa_cons pe_str pa_nil)))) pss_nil) (pss_one (ps_fld (pv 0) (pv 3) rfl)))))), ?_⟩
    refine ⟨v, rfl, v, d, rfl, hv, fun H1 s1 => ⟨_, rfl, ?_⟩⟩
    have hv1 := Dp_same s1 hv
    have hW1 := hW.same s1
    rcases hW1 with ⟨ed, ex⟩ | ⟨ds, ed, ne, l6, hW1⟩
    · cases eR : isRo d with
      | false => exact itT rfl (itT rfl (raise_ok ex))
      | true =>
        have e0 : rowsD d = some [] := by
          rcases ed with e | e
          · rw [rows_no e] at eR; cases eR
          · exact e
        obtain ⟨_, p, xs, rfl, hs, hd⟩ := rows_dp hv1 e0
        cases hd
        exact itF rfl ⟨.ref p, rfl, p, [], rfl, hs, rfl, _, rfl, itT rfl (raise_ok ex)⟩
    obtain ⟨eR, p, xs, rfl, hs, hd⟩ := rows_dp hv1 ed
    rw [eR]
    have xl := DpAll_len hd
    have dl : ds.length ≠ 0 := fun z => ne (List.length_eq_zero_iff.mp z)
    refine itF rfl ⟨.ref p, rfl, p, xs, rfl, hs, rfl, _, rfl, itF (decide_eq_false fun z => dl (by have := V.int.inj z; omega)) ?_⟩
    have hx1 := s1 _ _ hx
    show tFor (iSeq K (tVar 1)) _ _ _ [some (.ref x), some (.ref p), none, none, none, none] H1
    refine for_seq (j := 1) hs rfl (fun i σ H' => ∃ y : Option V, σ = [some (.ref x), some (.ref p), y, none, none, none] ∧ Same H1 H' ∧ ∀ j b, j < i → ds[j]? = some b → isPla b = true) ⟨none, rfl, fun _ _ z => z, fun j b z => absurd z (Nat.not_lt_zero _)⟩ (fun i σ H' ⟨_, _, z, _⟩ => z) ?_ ?_
    · rintro i y σ H' hy ⟨y0, rfl, s2, hb⟩
      obtain ⟨b, eb, hbv⟩ := DpAll_at hd hy
      refine ⟨y, rfl, y, b, rfl, Dp_same s2 hbv, fun H2 s3 => ⟨_, rfl, ?_⟩⟩
      cases eP : isPla b with
      | true =>
        refine itF rfl ⟨some y, rfl, s2.trans s3, fun j c jl ec => ?_⟩
        rcases Nat.lt_succ_iff_lt_or_eq.mp jl with z | rfl
        · exact hb j c z ec
        · rw [eb] at ec; cases ec; exact eP
      | false =>
        refine itT rfl (raise_ok ?_)
        rcases hW1 with ⟨_, ex⟩ | ⟨ps, hp, hg, _⟩
        · exact (ex.same s2).same s3
        · obtain ⟨q, eq⟩ : ∃ q, ps[i]? = some q := ⟨_, List.getElem?_eq_getElem (by rw [← hp.1]; exact (List.getElem?_eq_some_iff.mp eb).1)⟩
          have rq := (hg q (List.mem_of_getElem? eq)).1
          rcases hp.2 i b q eb eq with rfl | rfl
          · rw [(isPla_p rq).1] at eP; cases eP
          · rw [(isPla_p rq).2] at eP; cases eP
    rintro σ H2 ⟨y0, rfl, s2, hb⟩
    rcases hW1 with ⟨⟨b, bm, eb⟩, _⟩ | ⟨ps, hp, hg, hT⟩
    · obtain ⟨j, jl, ej⟩ := List.mem_iff_getElem.mp bm
      have := hb j b (by omega) (by rw [List.getElem?_eq_getElem jl, ej])
      rw [eb] at this; cases this
    have hP := (hp.pls hs hd).same s2
    have pl := hP.l
    have yz : xs.length < sizeLine := small1000 (by have := hp.1; omega)
    dsimp only [tSeq, tAsg, gName, tCB, tCons, tNil]
    refine lc_map (K := K) (a := p) (xs := xs) (j := 1) (fun i => pD (ps.getD i zP)) (fun i => noL_pp _) (by rfl) hP.s yz (fun i z G R ex sx hR => ?_) fun D F ks sF nF eF hF => ?_
    · obtain ⟨q, eq⟩ : ∃ q, ps[i]? = some q := ⟨_, List.getElem?_eq_getElem (by rw [pl]; exact (List.getElem?_eq_some_iff.mp ex).1)⟩
      have e : ps.getD i zP = q := by rw [List.getD_eq_getElem?_getD, eq]; rfl
      (try dsimp only at hR)
      rw [e] at hR
      obtain ⟨vx, vy, c, h1, h2⟩ := (hP.d i z q ex eq).same sx
      exact ⟨_, _, c, _, _, rfl, _, _, rfl, rfl, rfl, vx, rfl, vy, rfl, (by show 2 ≤ sizeLine; decide), fun t nt => hR _ _ (PB.same_new nt) (dp_mk2 nt h1 h2)⟩
    have hF' : DpAll K F ks (ps.map pD) := by rw [← range_get ps zP, pl]; exact hF
    refine ⟨D, ks, rfl, .inl ⟨.inl (.inl eF), fun t nt => ?_⟩⟩
    have sT := PB.same_new (o := .tup ks) nt
    have hT1 : Dp K (upd F t (.tup ks)) (.ref t) (.tuple (ps.map pD)) := .tup (.inl (.inl upd_same)) (DpAll_same sT hF')
    generalize upd F t (.tup ks) = G at sT hT1
    obtain ⟨t', ks', te, _, hPk⟩ := pls_t hT1
    cases te
    refine ⟨.ref t, rfl, t, ks', ps, rfl, hPk, by rw [← hp.1]; exact l6, hg, fun H3 z os s3 o1 o2 _ hz => ?_⟩
    have s13 := (((s1.trans s2).trans sF).trans sT).trans s3
    refine ⟨_, rfl, _, _, hz, Dp_same s3 hT1, shaped_ps _, shaped_ps _, _, rfl, ?_⟩
    rw [eqv_ps]
    obtain ⟨t1, t2⟩ := hT os ⟨o1, o2⟩
    by_cases c : hullP os = ps
    · refine itF (by rw [decide_eq_true c]; rfl) ?_
      refine ⟨_, rfl, _, rfl, x, cP K, dx, [], rfl, s13 _ _ hx, tC, nC, (by decide), ?_⟩
      have hk : ∀ b o, b ≠ x → H3 b = some o → (upd H3 x (.ins (cP K) dx [("corners", .ref t)])) b = some o := fun b o n e => by rw [upd_ne n]; exact e
      refine t2 c _ (.ref t) (fun b o n e => hk b o n (s13 _ _ e)) upd_same ?_
      exact Dp_keep hk (s13 _ _ hx) (noL_ps ps) (Dp_same s3 hT1)
    · exact itT (by rw [decide_eq_false c]; rfl) (raise_ok (((((t1 c).same s2).same sF).same sT).same s3))
end
end F3
set_option Elab.async false
set_option linter.all false
set_option maxRecDepth 100000
set_option maxHeartbeats 4000000
set_option exponentiation.threshold 3000
namespace F3
open PySem PySem.Spec PyProof.Rows L2 FX RM PB KD KS
/-- the class Patch: its facts and its constructor -/
structure PCt (P : Program) (w : World) (K : PySem.W.Frag) (mg : Str → Option Value) (base : Heap) : Prop where
  mkk : Mk K (cP K) (He.ma K (cP K) "__init__")
  g : mg "Patch" = some (.ref (cP K))
  cls : Cls K (cP K)
  no : NoAttr K (cP K) "corners"
  con : ∃ fd, FnOk P w K mg base (L2.CX P w) 7 (He.ma K (cP K) "__init__") fd ["self", "corners"] (spPInit K) ∧ L2.Binds K fd ["self", "corners"] []
theorem CX.imp {P : Program} {w : World} {outer : List Env} {H : Hp} {s s' : Shared} {E E' : XK} {u : Value} (h : L2.CX P w outer H s E u s') (i : ∀ cls d H', E cls d H' → E' cls d H') : L2.CX P w outer H s E' u s' := by
  obtain ⟨a, B, H', cls, d, h1, h2, h3, h4, h5, h6, h7, h8⟩ := h
  exact ⟨a, B, H', cls, d, h1, h2, h3, h4, h5, h6, h7, i _ _ _ h8⟩
section
variable {X : Cx} {e : Expr} {es : List Expr} {t : TA} {p pos : Pos}
theorem pe_patE {E : XK} (c : PCt X.prog X.w X.K X.mg X.base) (hr : Room 8 X.A) (hg : Gl X "Patch") (ha : PA X (e :: es) t) (hx : Passes (L2.CX X.prog X.w) X E)
    (he : starEach (e :: es) X.env = (false, eval e X.env) :: starEach es X.env := by rfl) (hpl : (backTo pos (starEach es X.env)).any (·.1) = false := by rfl) :
    PE X (.Call (.Name "Patch" p) (e :: es) [] pos) (tMake (cP X.K) (spPInit X.K) [] E t) := by
  obtain ⟨fd, F, b⟩ := c.con
  exact pe_make c.mkk F hr hg c.g b .nil hx ha (by decide) he hpl
/-- in a def that raises -/
theorem pe_patX {E : XK} (c : PCt X.prog X.w X.K X.mg X.base) (hr : Room 8 X.A) (hg : Gl X "Patch") (ha : PA X (e :: es) t) (tk : Takes X (fun cls d _ H => E cls d H))
    (he : starEach (e :: es) X.env = (false, eval e X.env) :: starEach es X.env := by rfl) (hpl : (backTo pos (starEach es X.env)).any (·.1) = false := by rfl) :
    PE X (.Call (.Name "Patch" p) (e :: es) [] pos) (tMake (cP X.K) (spPInit X.K) [] E t) := pe_patE c hr hg ha (passes_call tk fun _ _ _ _ h => h) he hpl
/-- where it cannot fail -/
theorem pe_pat0 (c : PCt X.prog X.w X.K X.mg X.base) (hr : Room 8 X.A) (hg : Gl X "Patch") (ha : PA X (e :: es) t)
    (he : starEach (e :: es) X.env = (false, eval e X.env) :: starEach es X.env := by rfl) (hpl : (backTo pos (starEach es X.env)).any (·.1) = false := by rfl) :
    PE X (.Call (.Name "Patch" p) (e :: es) [] pos) (tMake (cP X.K) (spPInit X.K) [] E0 t) := pe_patE c hr hg ha passL he hpl
/-- within a comprehension -/
theorem pe_pat0K (K : PySem.W.Frag) (c : PCt X.prog X.w K X.mg X.base) (hr : Room 8 X.A) (hg : Gl X "Patch") (ha : PA X (e :: es) t) (eK : X.K = K := by rfl)
    (he : starEach (e :: es) X.env = (false, eval e X.env) :: starEach es X.env := by rfl) (hpl : (backTo pos (starEach es X.env)).any (·.1) = false := by rfl) :
    PE X (.Call (.Name "Patch" p) (e :: es) [] pos) (tMake (cP K) (spPInit K) [] E0 t) := by
  subst eK
  exact pe_patE c hr hg ha passL he hpl
/-- within a try -/
theorem pe_patW {W : WX} (c : PCt X.prog X.w X.K X.mg X.base) (hr : Room 8 X.A) (hg : Gl X "Patch") (ha : PA X (e :: es) t) (tk : Takes X W)
    (he : starEach (e :: es) X.env = (false, eval e X.env) :: starEach es X.env := by rfl) (hpl : (backTo pos (starEach es X.env)).any (·.1) = false := by rfl) :
    PE X (.Call (.Name "Patch" p) (e :: es) [] pos) (tMake (cP X.K) (spPInit X.K) [] (fun cls d H => ∀ σ : L2.St, σ.length = X.N.length → W cls d σ H) t) :=
  pe_patE c hr hg ha (fun pins σ H s e s' I h => passAt tk σ pins H s e s' I (CX.imp h fun _ _ _ z => z σ I.len)) he hpl
end
/-- the reading of Patch(d) -/
theorem mk_pat {K : PySem.W.Frag} {H : Hp} {v : V} {d : PyData} {Q : VK} {E : XK} (hv : Dp K H v d) (h : PatW K d H E fun ps => ∀ H' z, Same H H' → PatAt K H' z ps → Q z H') :
    ∀ x dx, H x = none → H dx = none → dx ≠ x → spPInit K (.ref x :: ([v] ++ [])) (upd (upd H dx (.own x)) x (.ins (cP K) dx [])) (fun u H2 => u = .non ∧ Q (.ref x) H2) E := by
  intro x dx nx nd ne
  have n2 : (upd H dx (.own x)) x = none := by rw [upd_ne (Ne.symm ne)]; exact nx
  have s1 := PB.same_new (o := .own x) nd
  have s2 := PB.same_new (o := .ins (cP K) dx []) n2
  have s := s1.trans s2
  refine ⟨x, dx, v, d, rfl, upd_same, Dp_same s hv, (h.same s).imp fun ps g H' t hk hx ht => ⟨rfl, g H' _ (fun b o e => hk b o (ne_of_none e nx) (s b o e)) ⟨x, dx, t, rfl, hx, ht⟩⟩⟩
theorem lc_mapR {K : PySem.W.Frag} {a : Addr} {xs : List V} {tl : TE} {g : TG} {te : TE} {vs : List Nat} {σ : L2.St} {H : Hp} {Q : VK} (Rr : Nat → Hp → V → Prop) (hbut : ∀ i H H' p ys v, H p = some (.lst ys) → (∀ b o, b ≠ p → H b = some o → H' b = some o) → Rr i H v → Rr i H' v)
    (hsame : ∀ i H H' v, Same H H' → Rr i H v → Rr i H' v) (hj : ∀ R : VK, R (.ref a) H → tl σ H R) (h0 : SqL K H a xs ∨ SqT K H a xs) (hz : xs.length < sizeLine)
    (hs : ∀ i x H' (R : V → Hp → Prop), xs[i]? = some x → Same H H' → (∀ y H4, Same H' H4 → Rr i H4 y → R y H4) → g x (wipe σ vs) H' fun σ2 H2 => wipe σ2 vs = wipe σ vs ∧ te σ2 H2 R)
    (hd : ∀ D H' ys, Same H H' → H D = none → H' D = some (.lst ys) → ys.length = xs.length → (∀ i y, ys[i]? = some y → Rr i H' y) → Q (.ref D) H') : tLc (iSeq K tl) g tYes te vs σ H Q := by
  have main : ∀ D, H D = none → ∃ Pv : Nat → Hp → Prop, Pv 0 (upd H D (.lst [])) ∧ (∀ i H', Pv i H' → Same H H') ∧ (∀ i x H', xs[i]? = some x → Pv i H' → g x (wipe σ vs) H' fun σ2 H2 => wipe σ2 vs = wipe σ vs ∧ tYes σ2 H2 fun b H3 =>
      if b = true then te σ2 H3 fun y H4 => ∃ acc, H4 D = some (.lst acc) ∧ acc.length < sizeLine ∧ Pv (i + 1) (upd H4 D (.lst (acc ++ [y]))) else Pv (i + 1) H3) ∧ (∀ H', Pv xs.length H' → Q (.ref D) H') := by
    intro D nD
    refine ⟨fun i H' => Same H H' ∧ ∃ ys, H' D = some (.lst ys) ∧ ys.length = i ∧ ∀ k y, ys[k]? = some y → Rr k H' y, ⟨PB.same_new nD, [], upd_same, rfl, fun k y e => by cases e⟩, fun i H' h => h.1, ?_, ?_⟩
    · rintro i x H' hi ⟨s1, ys, hD, yl, hy⟩
      have il := (List.getElem?_eq_some_iff.mp hi).1
      refine hs i x H' _ hi s1 fun y H4 s4 h4 => ⟨ys, s4 _ _ hD, by omega, ?_, ys ++ [y], upd_same, by rw [List.length_append, yl]; rfl, ?_⟩
      · intro b o e
        rw [upd_ne (ne_of_none e nD)]; exact s4 _ _ (s1 _ _ e)
      · have sb : ∀ b o, b ≠ D → H4 b = some o → (upd H4 D (.lst (ys ++ [y]))) b = some o := fun b o n e => by rw [upd_ne n]; exact e
        intro k z ez
        refine hbut k H4 _ D ys z (s4 _ _ hD) sb ?_
        rcases Nat.lt_or_ge k ys.length with c | c
        · rw [List.getElem?_append_left c] at ez
          exact hsame k _ _ z s4 (hy k z ez)
        · rw [List.getElem?_append_right c] at ez
          have k0 : k - ys.length = 0 := by
            have := (List.getElem?_eq_some_iff.mp ez).1
            simp at this; omega
          rw [k0] at ez
          cases ez
          have : k = i := by omega
          rw [this]; exact h4
    · rintro H' ⟨s1, ys, hD, yl, hy⟩
      exact hd D H' ys s1 nD hD yl hy
  rcases h0 with h0 | h0
  · refine .inl (hj _ ⟨a, rfl, ⟨_, h0⟩, fun D nD => ?_⟩)
    obtain ⟨Pv, p0, p1, p2, p3⟩ := main D nD
    exact lc_list (K := K) (a := a) (xs := xs) Pv p0 (fun i H' _ h => (p1 i H' h).seq h0) p2 p3
  · refine .inr (hj _ ⟨a, rfl, ⟨_, h0⟩, fun D nD => ?_⟩)
    obtain ⟨Pv, p0, p1, p2, p3⟩ := main D nD
    exact lc_tup (K := K) (a := a) (xs := xs) Pv p0 (fun i H' _ h => same_t (p1 i H' h) h0) p2 p3
theorem PatAt.but {K : PySem.W.Frag} {H H' : Hp} {v : V} {cs : List Pl} {p : Addr} {ys : List V} (hp : H p = some (.lst ys)) (s : ∀ b o, b ≠ p → H b = some o → H' b = some o) (h : PatAt K H v cs) : PatAt K H' v cs := by
  obtain ⟨a, dx, t, rfl, e, ht⟩ := h
  exact ⟨a, dx, t, rfl, s _ _ (fun z => by rw [z, hp] at e; cases e) e, Dp_but hp s (noL_ps cs) ht⟩
theorem hull_len (os : List Pl) : (hullP os).length ≤ 2 * os.length := by
  unfold hullP
  split
  · omega
  · have a := st_len os []
    have b := st_len os.reverse []
    rw [List.length_append, List.length_dropLast, List.length_dropLast]
    unfold chP stP
    rw [List.length_reverse, List.length_reverse]
    simp at a b ⊢
    omega
/-- isinstance of a dict with places as keys -/
def rIsND (P : Program) (w : World) (K : PySem.W.Frag) : List V → Hp → VK → Prop := fun xs H Q => ∃ (D : Addr) (kvs : List KN.Ent) (tp : Addr) (cs : List V) (us : List Value) (b : Bool), xs = [.ref D, .ref tp] ∧ H D = some (KN.ND P w D kvs) ∧ H tp = some (.tup cs) ∧ Paired ClsV cs us ∧ PySem.W.kitAny K (.type "dict") us = some b ∧ Q (.bl b) H
theorem cr_isND {X : Cx} : CallR X (.builtin "isinstance") (rIsND X.prog X.w X.K) := by
  intro pins s σ H xs us Q I r h
  obtain ⟨D, kvs, tp, cs, cv, b, rfl, hD, hT, hc, hk, q⟩ := h
  obtain ⟨u1, u2, rfl, r1, r2⟩ := vals2 r
  cases (show u1 = Value.ref D from r1)
  cases (show u2 = Value.ref tp from r2)
  have h1 := I.hok D _ hD
  unfold KN.ND ObjOk at h1
  obtain ⟨⟨_, _, _, o, es, ep, g1, g2, g3, _⟩, _⟩ := h1
  have h2 := I.hok tp _ hT
  unfold ObjOk at h2
  obtain ⟨_, its, hv, o2, g4, g5, n, g6⟩ := h2
  have e := ClsV.all hc hv
  subst e
  obtain ⟨oc, od, odata, osl⟩ := o2
  dsimp only at g5 g6
  subst g5 g6
  exact PySem.W.kia_tup PySem.W.kitx_dict I.kIn ⟨o, g1, g2.1⟩ g4 hk (fun z => nomatch z) fun tk => ⟨.bl b, H, I.tok tk, rfl, q⟩
theorem cr_isiV {X : Cx} : CallR X (.builtin "isinstance") (fun xs H Q => rIsiT X.K xs H Q ∨ rIsND X.prog X.w X.K xs H Q) := fun pins s σ H xs us Q I r h =>
  h.elim (fun z => call_isiT pins s σ H xs us Q I r z) fun z => cr_isND pins s σ H xs us Q I r z
/-- a thing that is no sequence -/
def NoRow (P : Program) (w : World) (K : PySem.W.Frag) (H : Hp) (v : V) : Prop := (∃ t, (∀ H', Same H H' → TyX K H' v t) ∧ PySem.W.kitAny K t [.type "list", .type "tuple"] = some false) ∨ ∃ (D : Addr) (kvs : List KN.Ent), v = .ref D ∧ H D = some (KN.ND P w D kvs)
def spRowV (P : Program) (w : World) (K : PySem.W.Frag) : Sp := fun vs H Q _ => ∃ v, vs = [v] ∧ ((NoRow P w K H v ∧ ∀ H', Same H H' → Q (.bl false) H') ∨ (∃ p xs, v = .ref p ∧ (SqL K H p xs ∨ SqT K H p xs) ∧ ∀ H', Same H H' → Q (.bl true) H'))
def spHullOf (P : Program) (w : World) (K : PySem.W.Frag) : Sp := fun vs H Q E => ∃ v, vs = [v] ∧ ((NoRow P w K H v ∧ xE K "BadPatch" "many" E H) ∨ (∃ p, v = .ref p ∧ (SqL K H p [] ∨ SqT K H p []) ∧ xE K "BadPatch" "many" E H) ∨
  ∃ p xs ps, v = .ref p ∧ Pls K H p xs ps ∧ ps ≠ [] ∧ ps.length ≤ 30 ∧ (∀ q ∈ ps, GoodP 400 q) ∧ ∀ H' z os, Same H H' → Srt ps os → PatAt K H' z (hullP os) → Q z H')
theorem pls_td {K : PySem.W.Frag} {H : Hp} {v : V} {ps : List Pl} (h : Dp K H v (.tuple (ps.map pD))) : ∃ p xs, v = .ref p ∧ SqT K H p xs ∧ Pls K H p xs ps ∧ ∀ (i : Nat) (x : V) (c : Pl), xs[i]? = some x → ps[i]? = some c → Dp K H x (pD c) := by
  have D : ∀ {xs : List V}, DpAll K H xs (ps.map pD) → ∀ (i : Nat) (x : V) (c : Pl), xs[i]? = some x → ps[i]? = some c → Dp K H x (pD c) := fun {xs} g i x c ex eq => by
    obtain ⟨d, ed, hd⟩ := DpAll_at g ex
    rw [List.getElem?_map, eq] at ed
    cases ed
    exact hd
  cases h with
  | tup h g => exact ⟨_, _, rfl, h, ⟨.inr h, by rw [DpAll_len g, List.length_map], fun i x q ex eq => pla_t (D g i x q ex eq)⟩, D g⟩
theorem hull_one {os : List Pl} {c : Pl} (h : Srt [c] os) (r : RatP c) : hullP os = [c] := by
  have hr : ∀ p ∈ [c], RatP p := fun p hp => by rw [List.mem_singleton.mp hp]; exact r
  have ne := hull_ne h hr (List.cons_ne_nil _ _)
  have nd := hull_nodup h hr
  have all : ∀ q ∈ hullP os, q = c := fun q hq => List.mem_singleton.mp ((h.m q).mp (hull_sub q hq))
  match hullP os, ne, nd, all with
  | [], ne, _, _ => exact absurd rfl ne
  | [a], _, _, all => rw [all a (List.mem_singleton.mpr rfl)]
  | a :: b :: l, _, nd, all =>
    have ea := all a (List.mem_cons_self ..)
    have eb := all b (List.mem_cons_of_mem _ (List.mem_cons_self ..))
    rw [List.nodup_cons] at nd
    exact absurd (by rw [ea, ← eb]; exact List.mem_cons_self ..) nd.1
def spCorn (K : PySem.W.Frag) : Sp := fun vs H Q _ => ∃ v cs, vs = [v] ∧ PatAt K H v cs ∧ cs.length ≤ 60 ∧ (∀ q ∈ cs, GoodP 400 q) ∧ ∀ (H' : Hp) (t : Addr) (ys : List V), Same H H' → H' t = some (.tup ys) → ys.length = cs.length → (∀ (i : Nat) (y : V) (c : Pl), ys[i]? = some y → cs[i]? = some c → PatAt K H' y [c]) → Q (.ref t) H'
section
variable {P : Program} {w : World} {K : PySem.W.Frag} {mg : Str → Option Value} {base : Heap}
theorem okVis_row (T : Txt K mg "is_row" sis_row) (misinstance : mg "isinstance" = none) (mtuple : mg "tuple" = none) (mlist : mg "list" = none) : DefOk P w K mg base CX0 "is_row" 1 ["thing"] (spRowV P w K) := by
  obtain ⟨f, fd, F, gf⟩ := T
  refine ⟨f, fd, gf, F.kp, F.binds (fun _ _ _ _ _ _ us hl => match us, hl with | [_], _ => rfl), F.ok scis_row (fun vs H Q E h => ?_) (fun cdv A outer s H vs Q E hr h => ?_)⟩
  · obtain ⟨v, rfl, _⟩ := h; rfl
  · obtain ⟨v, rfl, hv⟩ := h
    refine ⟨_, (pss_one (ps_ret (pe_callB cr_isiV (by rfl) misinstance boot_isinstance (pa_cons (pv 0) (pa_cons (pe_tup (pa_cons (pe_bltn (v := .ty "list") (by rfl) mlist (by decide +kernel) rfl) (pa_cons (pe_bltn (v := .ty "tuple") (by rfl) mtuple (by decide +kernel) rfl) pa_nil))) pa_nil))))), ?_⟩
    refine ⟨v, rfl, (by show 2 ≤ sizeLine; decide), fun p np => ?_⟩
    rcases hv with ⟨⟨t, hT, kt⟩ | ⟨D, kvs, rfl, eD⟩, q⟩ | ⟨a, xs, rfl, hS, q⟩
    · exact .inl ⟨v, p, _, _, _, _, rfl, upd_same, .cons (.ty _) (.cons (.ty _) .nil), hT _ (PB.same_new np), kt, q _ (PB.same_new np)⟩
    · exact .inr ⟨D, kvs, p, _, _, _, rfl, PB.same_new np _ _ eD, upd_same, .cons (.ty _) (.cons (.ty _) .nil), kit_row (.dict []), q _ (PB.same_new np)⟩
    · rcases hS with hS | hS
      · exact .inl ⟨_, p, _, _, _, _, rfl, upd_same, .cons (.ty _) (.cons (.ty _) .nil), tyx_l ((PB.same_new np).seq hS), kit_row (.list []), q _ (PB.same_new np)⟩
      · exact .inl ⟨_, p, _, _, _, _, rfl, upd_same, .cons (.ty _) (.cons (.ty _) .nil), tyx_t (same_t (PB.same_new np) hS), kit_row (.tuple []), q _ (PB.same_new np)⟩
abbrev shull_of : Stmt := topS 32
theorem schull_of : FnScope ["places"] ["places"] (defScope shull_of) := ⟨rfl, rfl, rfl, by decide +kernel, rfl, by decide +kernel, by decide +kernel⟩
theorem okhull_of (T : Txt K mg "hull_of" shull_of) (cBP : CT P w K mg base "BadPatch" ["what"]) (cP_ : PCt P w K mg base) (Gis_row : DefOk P w K mg base CX0 "is_row" 1 ["thing"] (spRowV P w K)) (Ghull_corners : DefOk P w K mg base CX0 "hull_corners" 6 ["places"] (spHullC K)) (mlen : mg "len" = none) : DefOk P w K mg base (L2.CX P w) "hull_of" 9 ["places"] (spHullOf P w K) := by
  obtain ⟨f, fd, F, gf⟩ := T
  refine ⟨f, fd, gf, F.kp, F.binds (fun _ _ _ _ _ _ us hl => match us, hl with | [_], _ => rfl), F.okX schull_of (fun vs H Q E h => ?_) (fun cdv A outer s H vs Q E hr h => ?_)⟩
  · obtain ⟨v, rfl, _⟩ := h; rfl
  · obtain ⟨v, rfl, h⟩ := h
    refine ⟨_, (pss_cons (ps_if (PW.pt (pw_or (pt_not (pt_val (pe_def Gis_row (hr.mono (by decide)) (by rfl) (pa_cons (pv 0) pa_nil)))) (pw_or1 (pt_cmpR op_eq (pe_callB call_len_seq (by rfl) mlen PySem.boot_len (pa_cons (pv 0) pa_nil)) pe_int (nomark _))))) (pss_one (ps_raise rfl (takes_of rfl rfl rfl rfl) (pmk_exW cBP (hr.mono (by decide)) (by rfl) (pa_cons pe_str pa_nil)))) pss_nil) (pss_one (ps_ret (pe_patX cP_ (hr.mono (by decide)) (by rfl) (pa_cons (pe_def Ghull_corners (hr.mono (by decide)) (by rfl) (pa_cons (pv 0) pa_nil)) pa_nil) (takes_of rfl rfl rfl rfl))))), ?_⟩
    rcases h with ⟨hn, ex⟩ | ⟨p, rfl, hs, ex⟩ | ⟨p, xs, ps, rfl, hP, ne, l3, hg, q⟩
    · exact ⟨v, rfl, v, rfl, .inl ⟨hn, fun H1 s1 => ⟨_, rfl, itT rfl (itT rfl (raise_ok (ex.same s1)))⟩⟩⟩
    · refine ⟨_, rfl, _, rfl, .inr ⟨p, [], rfl, hs, fun H1 s1 => ⟨_, rfl, itF rfl ⟨.ref p, rfl, p, [], rfl, hs.elim (fun z => .inl (s1.seq z)) (fun z => .inr (same_t s1 z)), rfl, _, rfl, itT rfl (raise_ok (ex.same s1))⟩⟩⟩⟩
    refine ⟨_, rfl, _, rfl, .inr ⟨p, xs, rfl, hP.s, fun H1 s1 => ⟨_, rfl, itF rfl ⟨.ref p, rfl, p, xs, rfl, (hP.same s1).s, rfl, _, rfl, itF (decide_eq_false fun z => ne (List.length_eq_zero_iff.mp (by have := V.int.inj z; have := hP.l; omega))) ?_⟩⟩⟩⟩
    refine ⟨.ref p, rfl, p, xs, ps, rfl, hP.same s1, by omega, hg, fun H2 z os s2 o1 o2 ol hz => ?_⟩
    have hr' : ∀ p ∈ ps, RatP p := fun p hp => (hg p hp).1
    have hsub : ∀ r ∈ hullP os, r ∈ ps := fun r hr => (o2 r).mp (hull_sub r hr)
    have hl : (hullP os).length ≤ 60 := by
      have := hull_len os
      omega
    refine mk_pat hz (.inr ⟨_, rfl, fun z => hull_ne ⟨o1, o2⟩ hr' ne (List.map_eq_nil_iff.mp z), by rw [List.length_map]; exact hl, .inr ⟨hullP os, ⟨List.length_map _, fun i x q ex eq => .inl (by rw [List.getElem?_map, eq] at ex; cases ex; rfl)⟩, fun r hr => hg r (hsub r hr), fun os' ho => ?_⟩⟩)
    have e : hullP os' = hullP os := hull_between ⟨o1, o2⟩ ho hr' ne hsub (fun _ h => h)
    exact ⟨fun n => absurd e n, fun _ H3 z3 s3 h3 => q H3 z3 os ((s1.trans s2).trans s3) ⟨o1, o2⟩ h3⟩
abbrev scorner_patches : Stmt := topS 33
theorem sccorner_patches : FnScope ["patch", "corner"] ["patch"] (defScope scorner_patches) := ⟨rfl, rfl, rfl, by decide +kernel, rfl, by decide +kernel, by decide +kernel⟩
theorem okcorner_patches (T : Txt K mg "corner_patches" scorner_patches) (cP_ : PCt P w K mg base) (mtuple : mg "tuple" = none) : DefOk P w K mg base CX0 "corner_patches" 9 ["patch"] (spCorn K) := by
  obtain ⟨f, fd, F, gf⟩ := T
  refine ⟨f, fd, gf, F.kp, F.binds (fun _ _ _ _ _ _ us hl => match us, hl with | [_], _ => rfl), F.ok sccorner_patches (fun vs H Q E h => ?_) (fun cdv A outer s H vs Q E hr h => ?_)⟩
  · obtain ⟨v, cs, rfl, _⟩ := h; rfl
  · obtain ⟨v, cs, rfl, hv, l6, hg, q⟩ := h
    refine ⟨_, (pss_one (ps_ret (pe_callTy call_tuple_of (by rfl) mtuple (by decide +kernel) (pa_cons (pe_lc (own := [("corner", 1)]) rfl sccorner_patches.nd (pi_seq (pe_fld (pv 0) rfl)) (blkOk_by (N := ["patch", "corner"]) (sc := defScope scorner_patches) (by decide +kernel)) (fun _ _ _ _ _ => (pg_name (i := 1) sccorner_patches.nd rfl (.inl rfl))) (fun _ _ _ _ _ => pts_nil) (fun _ _ _ _ _ => (pe_pat0K K cP_ (hr.mono (by decide)) (by rfl) (pa_cons (pe_tup (pa_cons (pv 1) pa_nil)) pa_nil)))) pa_nil)))), ?_⟩
    obtain ⟨a, dx, t, rfl, e0, ht⟩ := hv
    obtain ⟨p, xs, rfl, hT, hP, hD⟩ := pls_td ht
    have xl := hP.l
    have xz : xs.length < sizeLine := small1000 (by omega)
    dsimp only [tRet, tCB, tCons, tNil]
    refine lc_mapR (K := K) (tl := tFld K (tVar 0) "corners") (a := p) (xs := xs) (fun i G v => PatAt K G v [cs.getD i zP]) (fun i G G' b ys u hb s h => h.but hb s) (fun i G G' u s h => h.same s) (fun R hR => ⟨_, rfl, a, cP K, dx, _, .ref p, rfl, e0, cP_.cls, cP_.no, rfl, hR⟩) (.inr hT) xz (fun i x G R ex sx hR => ?_) fun D G ys sD nD eD yl hy => ?_
    · obtain ⟨c, ec⟩ : ∃ c, cs[i]? = some c := ⟨_, List.getElem?_eq_getElem (by rw [xl]; exact (List.getElem?_eq_some_iff.mp ex).1)⟩
      have e : cs.getD i zP = c := by rw [List.getD_eq_getElem?_getD, ec]; rfl
      (try dsimp only at hR)
      rw [e] at hR
      have hx := Dp_same sx (hD i x c ex ec)
      have gc := hg c (List.mem_of_getElem? ec)
      refine ⟨rfl, x, rfl, (by show 1 ≤ sizeLine; decide), fun b nb => ?_⟩
      have sb := PB.same_new (o := .tup [x]) nb
      have hb : Dp K (upd G b (.tup [x])) (.ref b) (.tuple ([c].map pD)) := .tup (.inl (.inl upd_same)) (.cons (Dp_same sb hx) .nil)
      refine mk_pat hb (.inr ⟨[pD c], rfl, List.cons_ne_nil _ _, (by show 1 ≤ 60; decide), .inr ⟨[c], ⟨rfl, fun j y q ey eq => ?_⟩, fun q hq => by rw [List.mem_singleton.mp hq]; exact gc, fun os ho => ⟨fun n => absurd (hull_one ho gc.1) n, fun _ H3 z3 s3 h3 => hR z3 H3 (sb.trans s3) h3⟩⟩⟩)
      cases j with
      | zero => cases ey; cases eq; exact .inl rfl
      | succ j => cases ey
    refine ⟨D, ys, rfl, .inl ⟨.inl (.inl eD), fun l nl => ?_⟩⟩
    have sl := PB.same_new (o := .tup ys) nl
    refine q _ l ys (sD.trans sl) upd_same (by omega) fun i y c ey ec => ?_
    have e : cs.getD i zP = c := by rw [List.getD_eq_getElem?_getD, ec]; rfl
    have h := (hy i y ey).same sl
    rw [e] at h; exact h
end
end F3
set_option Elab.async false
set_option linter.all false
set_option maxRecDepth 100000
set_option maxHeartbeats 4000000
set_option exponentiation.threshold 10000
namespace F3
open PySem PySem.Spec PyProof.Rows L2 FX RM PB KD KS
theorem call_lcm {prog : Program} {w : World} {A : Around} {E : Value → Shared → Prop} {s : Shared} {Q : Value → Shared → Prop} {a b : Int} {t u : Tok} (ha : a.natAbs.log2 < 9000) (hb : b.natAbs.log2 < 9000)
   (hc : (((Nat.lcm 1 a.natAbs).lcm b.natAbs : Nat) : Int).natAbs.log2 < bitsLine)
   (hq : Q (Value.int (((Nat.lcm 1 a.natAbs).lcm b.natAbs : Nat) : Int) s.toks) { heap := s.heap, gens := s.gens, drawn := s.drawn, toks := s.toks + 1, os := s.os }) : wpAny (model prog w) A (call (Value.builtin "math.lcm") [Value.int a t, Value.int b u]) Q E s := by
  have h1 : ¬(max 1 a.natAbs).log2 / 30 + 1 > 450 := by
    rcases Nat.le_total 1 a.natAbs with c | c
    · rw [Nat.max_eq_right c]; omega
    · rw [Nat.max_eq_left c]; decide
  have h2 : ¬(max a.natAbs b.natAbs).log2 / 30 + 1 > 450 := by
    rcases Nat.le_total a.natAbs b.natAbs with c | c
    · rw [Nat.max_eq_right c]; omega
    · rw [Nat.max_eq_left c]; omega
  have g := PySem.W.mg_run_lcm a t b u h1 h2 hc
  exact PySem.Flt.call_fn_gives PySem.W.MGF.kind_lcm PySem.W.MGF.plain_lcm PySem.W.MGF.entry_lcm (PySem.W.MGF.args_lcm _ _) g hq
def rLcm : List V → Hp → VK → Prop := fun xs H Q => ∃ a b : Int, xs = [.int a, .int b] ∧ Sz 4000 a ∧ Sz 4000 b ∧ Q (.int ((a.natAbs.lcm b.natAbs : Nat) : Int)) H
theorem cr_lcm {X : Cx} : CallR X (.builtin "math.lcm") rLcm := by
  intro pins s σ H xs us Q I r h
  obtain ⟨a, b, rfl, za, zb, q⟩ := h
  obtain ⟨u1, u2, rfl, r1, r2⟩ := vals2 r
  obtain ⟨t, rfl⟩ := r1
  obtain ⟨u, rfl⟩ := r2
  have e : ((Nat.lcm 1 a.natAbs).lcm b.natAbs) = a.natAbs.lcm b.natAbs := by rw [Nat.lcm_one_left]
  have la := PySem.Flt.log2_lt_of (by decide) za
  have lb := PySem.Flt.log2_lt_of (by decide) zb
  have lm : (a.natAbs.lcm b.natAbs) < 2 ^ 8000 := by
    refine Nat.lt_of_le_of_lt (Nat.div_le_self _ _) ?_
    have h1 : a.natAbs * b.natAbs < 2 ^ 4000 * 2 ^ 4000 := Nat.mul_lt_mul'' za zb
    rwa [← Nat.pow_add] at h1
  refine call_lcm (by omega) (by omega) ?_ ?_
  · rw [e, Int.natAbs_natCast]
    have := PySem.Flt.log2_lt_of (by decide) lm
    have : (8000 : Nat) ≤ bitsLine := by decide
    omega
  · exact ⟨.int ((a.natAbs.lcm b.natAbs : Nat) : Int), H, I.tok _, ⟨_, by rw [e]⟩, q⟩

/-- the least common bottom, reckoned from c on -/
def lcmB (c : Nat) (l : List Pl) : Nat := l.foldl (fun c q => c.lcm (q.1.2.natAbs.lcm q.2.2.natAbs)) c
def whD (N : Int) (cs : List Pl) : PyData := .tuple (cs.map fun c => .tuple [.int (c.1.1 * N / c.1.2), .int (c.2.1 * N / c.2.2)])
/-- bottoms that divide M -/
def BotM (M : Nat) (q : Pl) : Prop := q.1.2.natAbs ∣ M ∧ q.2.2.natAbs ∣ M
def spWhole2 (K : PySem.W.Frag) : Sp := fun vs H Q _ => ∃ (p : Addr) (xs : List V) (css : List (List Pl)) (M : Nat), vs = [.ref p] ∧ (SqL K H p xs ∨ SqT K H p xs) ∧ css.length = xs.length ∧ css.length ≤ 20 ∧ (∀ (i : Nat) (x : V) (cs : List Pl), xs[i]? = some x → css[i]? = some cs → PatAt K H x cs) ∧
  0 < M ∧ M < 2 ^ 200 ∧ (∀ cs ∈ css, cs.length ≤ 60 ∧ ∀ q ∈ cs, GoodP 400 q ∧ BotM M q) ∧
  ∀ H' z, Same H H' → Dp K H' z (.tuple [.tuple (css.map (whD (lcmB 1 css.flatten))), .int (lcmB 1 css.flatten)]) → Q z H'
theorem for_seqG {K : PySem.W.Frag} {a : Addr} {xs : List V} {tl : TE} {g : TG} {tb : TS} {D : Ends} {σ : L2.St} {H : Hp} (h0 : SqL K H a xs ∨ SqT K H a xs) (hj : ∀ R : VK, R (.ref a) H → tl σ H R) (Pv : Nat → L2.St → Hp → Prop) (p0 : Pv 0 σ H) (hS : ∀ i σ' H', Pv i σ' H' → Same H H')
    (hs : ∀ i x σ' H', xs[i]? = some x → Pv i σ' H' → g x σ' H' fun σ2 H2 => tb { D with nx := Pv (i + 1), ct := Pv (i + 1), bk := D.nx } σ2 H2) (hd : ∀ σ' H', Pv xs.length σ' H' → D.nx σ' H') : tFor (iSeq K tl) g tb D σ H := by
  rcases h0 with h0 | h0
  · exact .inl (hj _ ⟨a, rfl, ⟨_, h0⟩, for_list (K := K) (a := a) (xs := xs) Pv p0 (fun i σ' H' _ h => (hS i σ' H' h).seq h0) hs hd⟩)
  · exact .inr (hj _ ⟨a, rfl, ⟨_, h0⟩, for_tup (K := K) (a := a) (xs := xs) Pv p0 (fun i σ' H' _ h => same_t (hS i σ' H' h) h0) hs hd⟩)
theorem dpall_ix {K : PySem.W.Frag} {H : Hp} {f : Nat → PyData} {n : Nat} {ys : List V} (hl : ys.length = n) (h : ∀ i y, ys[i]? = some y → Dp K H y (f i)) : DpAll K H ys ((List.range n).map f) := by
  subst hl
  induction ys generalizing f with
  | nil => exact .nil
  | cons y ys ih =>
    rw [List.length_cons, List.range_succ_eq_map, List.map_cons, List.map_map]
    exact .cons (h 0 y rfl) (ih fun i z e => h (i + 1) z e)
theorem lcmB_app (c : Nat) (l m : List Pl) : lcmB c (l ++ m) = lcmB (lcmB c l) m := List.foldl_append
theorem lcmB_snoc (c : Nat) (l : List Pl) (q : Pl) : lcmB c (l ++ [q]) = (lcmB c l).lcm (q.1.2.natAbs.lcm q.2.2.natAbs) := by rw [lcmB_app]; rfl
theorem lcmB_dvd {M : Nat} : ∀ {l : List Pl} {c : Nat}, c ∣ M → (∀ q ∈ l, BotM M q) → lcmB c l ∣ M
  | [], _, h, _ => h
  | q :: l, c, h, hl => lcmB_dvd (l := l) (c := c.lcm (q.1.2.natAbs.lcm q.2.2.natAbs)) (Nat.lcm_dvd h (Nat.lcm_dvd (hl q (List.mem_cons_self ..)).1 (hl q (List.mem_cons_self ..)).2)) fun z hz => hl z (List.mem_cons_of_mem _ hz)
theorem sz_dvd {a M : Nat} (h : a ∣ M) (M0 : 0 < M) (MZ : M < 2 ^ 200) : Sz 200 (a : Int) := by
  show ((a : Nat) : Int).natAbs < 2 ^ 200
  rw [Int.natAbs_natCast]
  exact Nat.lt_of_le_of_lt (Nat.le_of_dvd M0 h) MZ
theorem noL_wh (N : Int) (cs : List Pl) : noL (whD N cs) = true := by
  unfold whD
  rw [noL]
  exact noLs_all fun d hd => by
    obtain ⟨x, _, rfl⟩ := List.mem_map.mp hd
    simp [noL, noLs]
section
variable {X : Cx}
theorem pe_fldK (K : PySem.W.Frag) {e : Expr} {f : Str} {pos : Pos} {ta : TE} (he : PE X e ta) (hb : attributeBase e f X.env (eval e X.env) = eval e X.env) (eK : X.K = K := by rfl) : PE X (.Attribute e f pos) (tFld K ta f) := by
  subst eK; exact pe_fld he hb
theorem pi_seqK (K : PySem.W.Frag) {tg l : Expr} {tl : TE} (hl : PE X l tl) (eK : X.K = K := by rfl) : PI X tg l (iSeq K tl) := by
  subst eK; exact pi_seq hl
end
section
variable {P : Program} {w : World} {K : PySem.W.Frag} {mg : Str → Option Value} {base : Heap}
abbrev swhole_corners : Stmt := topS 34
theorem scwhole_corners : FnScope ["patches", "bottom", "patch", "x", "y", "rows"] ["patches"] (defScope swhole_corners) := ⟨rfl, rfl, rfl, by decide +kernel, rfl, by decide +kernel, by decide +kernel⟩
theorem okwhole_corners (T : Txt K mg "whole_corners" swhole_corners) (cP_ : PCt P w K mg base) (mtuple : mg "tuple" = none) (mlcm : mg "lcm" = some (.builtin "math.lcm")) : DefOk P w K mg base CX0 "whole_corners" 1 ["patches"] (spWhole2 K) := by
  obtain ⟨f, fd, F, gf⟩ := T
  refine ⟨f, fd, gf, F.kp, F.binds (fun _ _ _ _ _ _ us hl => match us, hl with | [_], _ => rfl), F.ok scwhole_corners (fun vs H Q E h => ?_) (fun cdv A outer s H vs Q E hr h => ?_)⟩
  · obtain ⟨p, xs, css, M, rfl, _⟩ := h; rfl
  · obtain ⟨p, xs, css, M, rfl, hS, hl, l2, hv, M0, MZ, hg, q⟩ := h
    refine ⟨_, (pss_cons (ps_set (i := 1) scwhole_corners.nd rfl (.inr rfl) pe_int) (pss_cons (ps_for PassesOwn.never rfl (pi_seq (pv 0)) (pg_name (i := 2) scwhole_corners.nd rfl (.inl rfl)) (pss_one (ps_for PassesOwn.never rfl (pi_seq (pe_fld (pv 2) rfl)) (pg_cou rfl (pgs_cons (pg_name (i := 3) scwhole_corners.nd rfl (.inl rfl)) (pgs_cons (pg_name (i := 4) scwhole_corners.nd rfl (.inl rfl)) pgs_nil))) (pss_one (ps_set (i := 1) scwhole_corners.nd rfl (.inr rfl) (pe_callBfun cr_lcm (by rfl) mlcm (pa_cons (pv 1) (pa_cons (pe_callBfun cr_lcm (by rfl) mlcm (pa_cons (pe_ix ix_it (pv 3) pe_int (fun _ _ => rfl)) (pa_cons (pe_ix ix_it (pv 4) pe_int (fun _ _ => rfl)) pa_nil))) pa_nil)))))))) (pss_cons (ps_setLc (i := 5) (own := [("patch", 2)]) rfl scwhole_corners.nd rfl rfl (sw_true rfl rfl rfl (by decide +kernel)) (pi_seq (pv 0)) (blkOk_by (N := ["patches", "bottom", "patch", "x", "y", "rows"]) (sc := defScope swhole_corners) (by decide +kernel)) (fun _ _ _ _ _ => (pg_name (i := 2) scwhole_corners.nd rfl (.inl rfl))) (fun _ _ _ _ _ => pts_nil) (fun _ _ _ _ _ => (pe_callTy (call_tuple_ofK K) (by rfl) mtuple (by decide +kernel) (pa_cons (pe_lc (own := [("x", 3), ("y", 4)]) rfl scwhole_corners.nd (pi_seqK K (pe_fldK K (pv 2) rfl)) (blkOk_by (N := ["patches", "bottom", "patch", "x", "y", "rows"]) (by with_unfolding_all rfl)) (fun _ _ _ _ _ => (pg_couK K rfl (pgs_cons (pg_name (i := 3) scwhole_corners.nd rfl (.inl rfl)) (pgs_cons (pg_name (i := 4) scwhole_corners.nd rfl (.inl rfl)) pgs_nil)))) (fun _ _ _ _ _ => pts_nil) (fun _ _ _ _ _ => (pe_tup (pa_cons (pe_op op_fdivW (pe_op op_mulW (pe_ix (ix_itK K) (pv 3) pe_int (fun _ _ => rfl)) (pv 1)) (pe_ix (ix_itK K) (pv 3) pe_int (fun _ _ => rfl))) (pa_cons (pe_op op_fdivW (pe_op op_mulW (pe_ix (ix_itK K) (pv 4) pe_int (fun _ _ => rfl)) (pv 1)) (pe_ix (ix_itK K) (pv 4) pe_int (fun _ _ => rfl))) pa_nil))))) pa_nil)))) (pss_one (ps_ret (pe_tup (pa_cons (pe_callTy call_tuple_of (by rfl) mtuple (by decide +kernel) (pa_cons (pv 5) pa_nil)) (pa_cons (pv 1) pa_nil)))))))), ?_⟩
    have xz : xs.length < sizeLine := small1000 (by omega)
    have hB : ∀ i, ∀ q ∈ (css.take i).flatten, BotM M q := fun i q hq => by
      obtain ⟨cs, hc, hq⟩ := List.mem_flatten.mp hq
      exact ((hg cs (List.mem_of_mem_take hc)).2 q hq).2
    have at_ : ∀ {i : Nat} {x : V} {G : Hp}, Same H G → xs[i]? = some x → ∃ cs, css[i]? = some cs ∧ cs ∈ css ∧ PatAt K G x cs := fun {i x G} s e => by
      obtain ⟨cs, ec⟩ : ∃ c, css[i]? = some c := ⟨_, List.getElem?_eq_getElem (by rw [hl]; exact (List.getElem?_eq_some_iff.mp e).1)⟩
      exact ⟨cs, ec, List.mem_of_getElem? ec, (hv i x cs e ec).same s⟩
    show tSeq _ _ _ [some (.ref p), some (.int 1), none, none, none, none] H
    dsimp only [tSeq]
    refine for_seq (j := 0) hS rfl (fun i σ H' => ∃ y2 y3 y4 : Option V, σ = [some (.ref p), some (.int (lcmB 1 (css.take i).flatten : Nat)), y2, y3, y4, none] ∧ Same H H') ⟨none, none, none, rfl, fun _ _ z => z⟩ (fun i σ H' ⟨_, _, _, _, z⟩ => z) ?_ ?_
    · rintro i x σ H' hx ⟨y2, y3, y4, rfl, s1⟩
      obtain ⟨cs, ec, hc, a, dx, t, rfl, e0, ht⟩ := at_ s1 hx
      obtain ⟨b, ys, rfl, hT, hP, hD⟩ := pls_td ht
      have c0 : lcmB 1 (css.take i).flatten ∣ M := lcmB_dvd (Nat.one_dvd _) (hB i)
      have e1 : (css.take (i + 1)).flatten = (css.take i).flatten ++ cs := by
        rw [List.take_add_one, ec, List.flatten_append]; simp
      rw [e1, lcmB_app]
      generalize lcmB 1 (css.take i).flatten = c at c0
      show tFor (iSeq K (tFld K (tVar 2) "corners")) _ _ _ [some (.ref p), some (.int (c : Int)), some (.ref a), y3, y4, none] H'
      refine for_seqG (a := b) (.inr hT) (fun R hR => ⟨_, rfl, a, cP K, dx, _, _, rfl, e0, cP_.cls, cP_.no, rfl, hR⟩) (fun k σ H2 => ∃ y3 y4 : Option V, σ = [some (.ref p), some (.int (lcmB c (cs.take k) : Nat)), some (.ref a), y3, y4, none] ∧ Same H' H2) ⟨y3, y4, rfl, fun _ _ z => z⟩ (fun k σ H2 ⟨_, _, _, z⟩ => z) ?_ ?_
      · rintro k y σ H2 hy ⟨y3, y4, rfl, s2⟩
        obtain ⟨q, eq⟩ : ∃ q, cs[k]? = some q := ⟨_, List.getElem?_eq_getElem (by rw [hP.l]; exact (List.getElem?_eq_some_iff.mp hy).1)⟩
        obtain ⟨vx, vy, cc, h1, h2⟩ := (pla_t (hD k y q hy eq)).same s2
        have gq := (hg cs hc).2 q (List.mem_of_getElem? eq)
        have d1 : lcmB c (cs.take k) ∣ M := lcmB_dvd c0 fun z hz => ((hg cs hc).2 z (List.mem_of_mem_take hz)).2
        have e2 : cs.take (k + 1) = cs.take k ++ [q] := by rw [List.take_add_one, eq]; rfl
        rw [e2, lcmB_snoc]
        generalize lcmB c (cs.take k) = m at d1
        have z1 := sz_mono (sz_dvd gq.2.1 M0 MZ) (by decide : 200 ≤ 4000)
        have z2 := sz_mono (sz_dvd gq.2.2 M0 MZ) (by decide : 200 ≤ 4000)
        have z3 := sz_mono (sz_dvd d1 M0 MZ) (by decide : 200 ≤ 4000)
        have z4 := sz_mono (sz_dvd (Nat.lcm_dvd gq.2.1 gq.2.2) M0 MZ) (by decide : 200 ≤ 4000)
        refine ⟨_, _, cc, _, _, rfl, _, _, rfl, rfl, ?_⟩
        refine ⟨_, rfl, vx, rfl, _, _, 1, _, rfl, cou_r h1, rfl, vy, rfl, _, _, 1, _, rfl, cou_r h2, rfl, _, _, rfl, ?_, ?_, _, _, rfl, z3, z4, ?_⟩
        · exact sz_mono gq.1.2.1.2 (by decide)
        · exact sz_mono gq.1.2.2.2 (by decide)
        · exact ⟨some vx, some vy, by simp [Int.natAbs_natCast], s2⟩
      · rintro σ H2 ⟨y3, y4, rfl, s2⟩
        rw [← hP.l, List.take_length]
        exact ⟨some (.ref a), y3, y4, rfl, s1.trans s2⟩
    rintro σ H1 ⟨y2, y3, y4, rfl, s1⟩
    rw [← hl, List.take_length]
    have d0 : lcmB 1 css.flatten ∣ M := lcmB_dvd (Nat.one_dvd _) (by have := hB css.length; rwa [List.take_length] at this)
    generalize lcmB 1 css.flatten = N at q d0
    have zN := sz_dvd d0 M0 MZ
    have zN4 := sz_mono zN (by decide : 200 ≤ 4000)
    dsimp only [tSeq, tAsg, gName]
    refine lc_map (K := K) (a := p) (xs := xs) (j := 0) (fun i => whD N (css.getD i [])) (fun i => noL_wh _ _) (by rfl) (hS.elim (fun z => .inl (s1.seq z)) (fun z => .inr (same_t s1 z))) xz (fun i x G R ex sx hR => ?_) fun D G ws s2 n2 e2 h2 => ?_
    · obtain ⟨cs, ec, hc, a, dx, t, rfl, e0, ht⟩ := at_ (s1.trans sx) ex
      obtain ⟨b, ys, rfl, hT, hP, hD⟩ := pls_td ht
      have e : css.getD i [] = cs := by rw [List.getD_eq_getElem?_getD, ec]; rfl
      (try dsimp only at hR)
      rw [e] at hR
      have l6 := (hg cs hc).1
      have yz : ys.length < sizeLine := small1000 (by have := hP.l; omega)
      refine ⟨rfl, ?_⟩
      dsimp only [tCB, tCons, tNil]
      refine lc_mapR (K := K) (a := b) (xs := ys) (tl := tFld K (tVar 2) "corners") (fun k G v => Dp K G v (.tuple [.int ((cs.getD k zP).1.1 * N / (cs.getD k zP).1.2), .int ((cs.getD k zP).2.1 * N / (cs.getD k zP).2.2)])) (fun k G G' b ys u hb s h => Dp_but hb s (by simp [noL, noLs]) h) (fun k G G' u s h => Dp_same s h)
        (fun R hR => ⟨_, rfl, a, cP K, dx, _, .ref b, rfl, e0, cP_.cls, cP_.no, rfl, hR⟩) (.inr hT) yz (fun k y G2 R2 ey sy hR2 => ?_) fun D2 G2 us s3 n3 e3 ul hu => ?_
      · obtain ⟨q, eq⟩ : ∃ q, cs[k]? = some q := ⟨_, List.getElem?_eq_getElem (by rw [hP.l]; exact (List.getElem?_eq_some_iff.mp ey).1)⟩
        have eg : cs.getD k zP = q := by rw [List.getD_eq_getElem?_getD, eq]; rfl
        (try dsimp only at hR2)
        rw [eg] at hR2
        obtain ⟨vx, vy, cc, h1, h2⟩ := (pla_t (hD k y q ey eq)).same sy
        have gq := ((hg cs hc).2 q (List.mem_of_getElem? eq)).1
        have m4 : ∀ {z : Int}, Sz 400 z → Sz 4000 z := fun z => sz_mono z (by decide)
        have cx := cou_r h1
        have cy := cou_r h2
        refine ⟨_, _, cc, _, _, rfl, _, _, rfl, rfl, rfl, ?_⟩
        refine ⟨vx, rfl, _, _, 0, _, rfl, cx, rfl, _, rfl, _, _, rfl, rfl, wide_mul (m4 gq.2.1.1) zN4 (by decide) (by decide) (by decide), vx, rfl, _, _, 1, _, rfl, cx, rfl, _, _, rfl, rfl, wide_div gq.1.1.1 (m4 gq.2.1.2) (by decide) (by decide), ?_⟩
        refine ⟨vy, rfl, _, _, 0, _, rfl, cy, rfl, _, rfl, _, _, rfl, rfl, wide_mul (m4 gq.2.2.1) zN4 (by decide) (by decide) (by decide), vy, rfl, _, _, 1, _, rfl, cy, rfl, _, _, rfl, rfl, wide_div gq.1.2.1 (m4 gq.2.2.2) (by decide) (by decide), (by show 2 ≤ sizeLine; decide), fun b nb => ?_⟩
        exact hR2 _ _ (PB.same_new nb) (.tup (.inl (.inl upd_same)) (.cons (.int _) (.cons (.int _) .nil)))
      have hU : DpAll K G2 us (cs.map fun c => .tuple [.int (c.1.1 * N / c.1.2), .int (c.2.1 * N / c.2.2)]) := by
        rw [← range_get cs zP, hP.l]
        exact dpall_ix ul hu
      refine ⟨D2, us, rfl, .inl ⟨.inl (.inl e3), fun l nl => ?_⟩⟩
      have sl := PB.same_new (o := .tup us) nl
      exact hR _ _ (s3.trans sl) (.tup (.inl (.inl upd_same)) (DpAll_same sl hU))
    have h2' : DpAll K G ws (css.map (whD N)) := by
      rw [← range_get css [], hl]; exact h2
    refine ⟨.ref D, rfl, D, ws, rfl, .inl ⟨.inl (.inl e2), fun l nl => ⟨_, rfl, (by show 2 ≤ sizeLine; decide), fun b nb => ?_⟩⟩⟩
    have sl := PB.same_new (o := .tup ws) nl
    have sb := PB.same_new (o := .tup [.ref l, .int (N : Int)]) nb
    have hl2 : Dp K (upd G l (.tup ws)) (.ref l) (.tuple (css.map (whD N))) := .tup (.inl (.inl upd_same)) (DpAll_same sl h2')
    exact q _ _ (((s1.trans s2).trans sl).trans sb) (.tup (.inl (.inl upd_same)) (.cons (Dp_same sb hl2) (.cons (.int _) .nil)))
end
end F3
set_option Elab.async false
set_option linter.all false
set_option maxRecDepth 100000
set_option maxHeartbeats 4000000
/-! len, ==, != and walks of an object whose class has __len__, __eq__, __iter__ of its own -/
namespace OW
open PySem PySem.Spec PyProof.Rows L2 FX RM PB
section
variable {X : Cx} {pins : List (Addr × Obj)} {σ : L2.St} {H : Hp} {s : Shared}
theorem ins_inst {a C dx : Addr} {fs : List (Str × V)} (I : Inv X pins σ H s) (e : H a = some (.ins C dx fs)) : ∃ od, PySem.W.InstAt s.heap a (PySem.W.instObj C dx) C (some od) := by
  have h := I.hok a _ e
  unfold ObjOk at h
  obtain ⟨_, _, _, h1, mA, hn, _⟩ := h
  obtain ⟨od, ho, _⟩ := lookIn_ns hn
  exact ⟨od, h1, rfl, rfl, ho⟩
/-- a method called from within a rule -/
theorem call_in {CX : CXT} {n : Nat} {f : Addr} {fd : FuncData} {ps : List Str} {sp : Sp} {E : XK} {A : Around} {vs : List V} {us : List Value} {Q : VK} (F : FnOk X.prog X.w X.K X.mg X.base CX n f fd ps sp) (hb : L2.Binds X.K fd ps []) (hx : Passes CX X E)
    (hA : A.frames = X.A.frames) (hr : Room n A) (I : Inv X pins σ H s) (r : Vals vs us) (hq : sp vs H Q E) : wpAny (model X.prog X.w) A (call (.ref f) us) (EP X pins σ Q) X.xe s := by
  have e0 := I.env0
  have e1 : Env0 X.prog X.w X.K X.mg X.base A X.stack s H := { e0 with frames := hA.trans e0.frames }
  have hlen : us.length = ps.length := by
    rw [← F.len _ _ _ _ hq]; exact (r.length).symm
  have bb := hb s us I.kIn (by rw [List.append_nil]; exact hlen)
  rw [List.append_nil] at bb
  refine wpAny_call (codeAny_mono (F.run A X.stack s H ⟨us, []⟩ us vs Q E hr e1 bb r hq) fun t s' hq' => ?_)
  cases t with
  | error er => exact hx pins σ H s er s' I hq'
  | ok fl =>
    cases fl with
    | ret u => exact I.after hq'
    | next => exact False.elim hq'
    | brk => exact False.elim hq'
    | cont => exact False.elim hq'
end
section
variable {X : Cx} {C f : Addr} {CX : CXT} {n : Nat} {fd : FuncData} {ps : List Str} {sp : Sp}
/-- len(o) -/
def rLenO (C : Addr) (sp : Sp) : List V → Hp → VK → Prop := fun xs H Q => ∃ a dx fs, xs = [.ref a] ∧ H a = some (.ins C dx fs) ∧ sp xs H (fun v H' => ∃ n : Int, v = .int n ∧ 0 ≤ n ∧ n < 2 ^ 63 ∧ Q v H') E0
theorem cr_lenO (hf : PySem.W.findIn X.K (.ref C) "__len__" = some (some (.ref f))) (hn : PySem.W.isFn X.K (.ref f) = true) (F : FnOk X.prog X.w X.K X.mg X.base CX n f fd ps sp) (hb : L2.Binds X.K fd ps []) (hx : Passes CX X E0) (hr : Room n X.A.in1) : CallR X (.builtin "len") (rLenO C sp) := by
  intro pins s σ H xs us Q I r h
  obtain ⟨a, dx, fs, rfl, e, hq⟩ := h
  cases r with
  | cons r1 r2 =>
    cases r2 with
    | nil =>
      rename_i u
      cases (show u = Value.ref a from r1)
      obtain ⟨od, J⟩ := ins_inst I e
      obtain ⟨m, fr⟩ := I.fr
      refine PySem.W.len_K fr I.ok.mod.kin J hf hn (wpAny_mono (call_in F hb hx rfl hr I (show Vals [.ref a] [Value.ref a] from .cons (show RelV (.ref a) (.ref a) from rfl) .nil) hq) (fun v s' hv => ?_) (fun _ _ z => z))
      obtain ⟨w, H', I', rv, i, rfl, i0, i6, q⟩ := hv
      obtain ⟨t, rfl⟩ := rv
      exact ⟨⟨i0, i6⟩, .int i, H', I'.tok _, ⟨_, rfl⟩, q⟩
/-- o == y -/
def rEqO (K : PySem.W.Frag) (C : Addr) (sp : Sp) (neg : Bool) : L2.R2 := fun x y H Q => ∃ a dx fs t, x = .ref a ∧ H a = some (.ins C dx fs) ∧ TyX K H y t ∧ PySem.W.notFirst K C t = true ∧ sp [x, y] H (fun v H' => ∃ b, v = .bl b ∧ Q (.bl (neg ^^ b)) H') E0
theorem op_eqO (hf : PySem.W.findIn X.K (.ref C) "__eq__" = some (some (.ref f))) (hn : PySem.W.isFn X.K (.ref f) = true) (F : FnOk X.prog X.w X.K X.mg X.base CX n f fd ps sp) (hb : L2.Binds X.K fd ps []) (hx : Passes CX X E0) (hr : Room n X.A) : OpR X (compareOp .Eq) (rEqO X.K C sp false) := by
  intro pins s σ H x y v u Q I rx ry h
  obtain ⟨a, dx, fs, t, rfl, e, hT, nf, hq⟩ := h
  cases (show v = Value.ref a from rx)
  obtain ⟨od, J⟩ := ins_inst I e
  obtain ⟨m, fr⟩ := I.fr
  have hl : PySem.W.Looks (model X.prog X.w) s.heap (typeOf u) t := by
    obtain ⟨P, kx, hp, _⟩ := kit_of I ry hT
    exact kx.ty _ _ I.kIn hp
  refine PySem.W.cmp_K (op := .Eq) (by have := hr.un; omega) fr I.ok.mod.kin J hl nf hf hn (wpAny_mono (call_in F hb hx rfl hr I (show Vals [.ref a, y] [Value.ref a, u] from .cons (show RelV (.ref a) (.ref a) from rfl) (.cons ry .nil)) hq) (fun v s' hv => ?_) (fun _ _ z => z))
  obtain ⟨w, H', I', rv, b, rfl, q⟩ := hv
  cases (show v = Value.bool b from rv)
  exact ⟨.bl b, H', I', rfl, by simpa using q⟩
end
/-- the text's facts of a class with == and without != -/
def nsB (K : PySem.W.Frag) (N f : Addr) : Bool := match K.lookup N with
  | some ⟨_, _, .dict es _, _⟩ => es.toList.all (fun e => match e.key with | .str _ _ => true | _ => false) && ((match nsFind es "__eq__" with | some (.ref g) => decide (g = f) | _ => false) && (nsFind es "__ne__").isNone)
  | _ => false
def clB (K : PySem.W.Frag) (C f : Addr) : Bool := match K.lookup C with
  | some ⟨.type "type", _, .cls cd, sl⟩ => (match cd.mro, sl.toList with
    | [.ref D, .type "object"], [_, _, _, _, some (.builtin _), _] => decide (D = C) && (!cd.hasDel && nsB K cd.ns f)
    | _, _ => false)
  | _ => false
def fnB (K : PySem.W.Frag) (f : Addr) : Bool := match K.lookup f with
  | some ⟨.type "function", _, _, _⟩ => true
  | _ => false
def neB (K : PySem.W.Frag) (C f : Addr) : Bool := clB K C f && fnB K f
theorem nsB_ok {K : PySem.W.Frag} {N f : Addr} (h : nsB K N f = true) {hp : Heap} (hk : K.In hp) : ∃ mN, hp.Ns N mN ∧ mN "__eq__" = some (.ref f) ∧ mN "__ne__" = none := by
  unfold nsB at h
  split at h
  · rename_i c1 d1 es1 ep1 s1 ln
    obtain ⟨q1, h⟩ := He.ba h
    obtain ⟨q2, q3⟩ := He.ba h
    refine ⟨fun n => nsFind es1 n, ⟨_, _, _, hk _ _ ln, rfl, fun e he => ?_, fun _ => rfl⟩, ?_, by simpa using q3⟩
    · have := List.all_eq_true.mp q1 e (Array.mem_toList_iff.mpr he)
      split at this
      · exact ⟨_, _, by assumption⟩
      · cases this
    · split at q2
      · rename_i g eg
        rw [of_decide_eq_true q2] at eg
        exact eg
      · cases q2
  · cases h
theorem neB_ok {K : PySem.W.Frag} {C f : Addr} (h : neB K C f = true) {hp : Heap} (hk : K.In hp) {x dx : Addr} (hx : hp.get? x = some (PySem.W.instObj C dx)) : hp.OwnEqNoNe x C f "object" [Value.type "object"] := by
  obtain ⟨h0, h1⟩ := He.ba h
  unfold clB at h0
  unfold fnB at h1
  split at h0
  · rename_i dd cd sl lk
    split at h0
    · rename_i D k0 k1 k2 k3 n k5 em es
      obtain ⟨a, h0⟩ := He.ba h0
      obtain ⟨c, h0⟩ := He.ba h0
      obtain rfl := of_decide_eq_true a
      split at h1
      · rename_i d2 dat2 sl2 lf
        obtain ⟨nm, bs, mro, ns, qn, hd, sn, sub, ab, col, del⟩ := cd
        obtain ⟨l⟩ := sl
        dsimp only at em es c h0
        subst em es
        have c' : del = false := by simpa using c
        subst c'
        obtain ⟨mN, n1, n2, n3⟩ := nsB_ok h0 hk
        exact ⟨_, _, nm, qn, ns, bs, hd, sn, sub, ab, col, dd, k0, k1, k2, k3, k5, n, mN, _, hx, rfl, hk _ _ lk, n1, n2, hk _ _ lf, rfl, PySem.F.cmp_object.mro, PySem.F.cmp_object.eq.lookup, n3⟩
      · cases h1
    · cases h0
  · cases h0
section
variable {X : Cx} {C f : Addr} {CX : CXT} {n : Nat} {fd : FuncData} {ps : List Str} {sp : Sp}
/-- o != another of its class -/
def rNeO (C : Addr) (sp : Sp) : L2.R2 := fun x y H Q => ∃ a dx fs b dy gs, x = .ref a ∧ y = .ref b ∧ H a = some (.ins C dx fs) ∧ H b = some (.ins C dy gs) ∧ sp [x, y] H (fun v H' => ∃ c, v = .bl c ∧ Q (.bl (!c)) H') E0
theorem op_neO (hB : neB X.K C f = true) (F : FnOk X.prog X.w X.K X.mg X.base CX n f fd ps sp) (hb : L2.Binds X.K fd ps []) (hx : Passes CX X E0) (hr : Room n X.A.in1) : OpR X (compareOp .NotEq) (rNeO C sp) := by
  intro pins s σ H x y v u Q I rx ry h
  obtain ⟨a, dx, fs, b, dy, gs, rfl, rfl, e, e2, hq⟩ := h
  cases (show v = Value.ref a from rx)
  cases (show u = Value.ref b from ry)
  obtain ⟨od, J⟩ := ins_inst I e
  obtain ⟨od2, J2⟩ := ins_inst I e2
  refine PySem.compareOp_ne_ownEq PySem.F.cmp_object (neB_ok hB I.kIn J.at_) J2.at_ J2.cls (by have := hr.un; show X.A.units + 1 < cLine; have e : X.A.in1.units = X.A.units + 1 := rfl; omega)
    (wpAny_mono (call_in F hb hx rfl hr I (show Vals [.ref a, .ref b] [Value.ref a, Value.ref b] from .cons (show RelV (.ref a) (.ref a) from rfl) (.cons (show RelV (.ref b) (.ref b) from rfl) .nil)) hq) (fun v s' hv => ?_) (fun _ _ z => z))
  obtain ⟨w, H', I', rv, c, rfl, q⟩ := hv
  exact ⟨c, rv, .bl (!c), H', I', rfl, q⟩
end
end OW
set_option Elab.async false
set_option linter.all false
set_option maxRecDepth 100000
set_option maxHeartbeats 4000000
/-! for over an object whose __iter__ gives iter(its tuple) -/
namespace OW
open PySem PySem.Spec PyProof.Rows L2 FX RM PB
/-- at it the iterator of the tuple at t, i items gone -/
def ItT (t it : Addr) (i : Nat) : HO := HO.ext fun h => h.IsTupleIter it t i
theorem kind_iter : builtinKind "iter" = none := by decide +kernel
theorem plain_iter : plainId "iter" = true := by decide +kernel
theorem itT_ok {P : Program} {w : World} {H : Hp} {h : Heap} {t it : Addr} {i : Nat} (x : h.IsTupleIter it t i) : ObjOk P w H h it (ItT t it i) := by
  unfold ItT ObjOk
  obtain ⟨o, h1, h2, h3⟩ := x
  refine ⟨⟨o, h1, h2, h3⟩, ⟨o, h1⟩, fun g1 g2 a b => ?_⟩
  obtain ⟨o', k1, k2, k3⟩ := a
  exact ⟨o', b _ k1, k2, k3⟩
/-- a heap with more places, all of them empty -/
def padH (h : Heap) (n : Nat) : Heap := { h with objs := h.objs ++ Array.replicate (n - h.objs.size) { cls := .none, data := .freed } }
theorem pad_get (h : Heap) (n : Nat) (a : Addr) : (padH h n).get? a = h.get? a := by
  unfold padH Heap.get?
  rcases Nat.lt_or_ge a h.objs.size with l | l
  · rw [Array.getElem?_append_left l]
  · rw [Array.getElem?_append_right l, Array.getElem?_eq_none (by omega : h.objs.size ≤ a)]
    rw [Array.getElem?_replicate]
    split
    · rename_i e
      split at e <;> simp_all
    · rename_i o hn
      split at hn
      · exact absurd rfl (hn _ _ _)
      · rw [if_neg (by assumption)]
theorem pad_size {h : Heap} {n : Nat} (l : h.objs.size ≤ n) : (padH h n).objs.size = n := by
  unfold padH
  simp; omega
theorem pad_ns {h : Heap} {n : Nat} {a : Addr} {m : Str → Option Value} (x : h.Ns a m) : (padH h n).Ns a m := by
  unfold Heap.Ns at *
  rw [pad_get]; exact x
theorem pad_mod {K : PySem.W.Frag} {mg : Str → Option Value} {h : Heap} {n : Nat} (x : L2.Mod K mg h) : L2.Mod K mg (padH h n) := by
  obtain ⟨a, b, ⟨mb, c, d⟩, ⟨mc, e, f⟩⟩ := x
  exact ⟨fun b o k => by rw [pad_get]; exact a b o k, pad_ns b, ⟨mb, pad_ns c, d⟩, ⟨mc, pad_ns e, f⟩⟩
theorem pad_fun {g h : Heap} {n : Nat} : ∀ {o : List Env}, g.FunFrames h o → g.FunFrames (padH h n) o
  | [], x => x
  | e :: o, x => by
    unfold Heap.FunFrames at *
    obtain ⟨a, ⟨L, u, b, c, d⟩, e⟩ := x
    exact ⟨a, ⟨L, u, b, by rw [pad_get]; exact c, d⟩, pad_fun e⟩
section
variable {X : Cx}
def rIterT (K : PySem.W.Frag) (n : Nat) : List V → Hp → VK → Prop := fun xs H Q => ∃ t ys, xs = [.ref t] ∧ SqT K H t ys ∧ ∀ it, H it = none → n ≤ it → Q (.ref it) (upd H it (ItT t it 0))
theorem cr_iterT : CallR X (.builtin "iter") (rIterT X.K X.base.objs.size) := by
  intro pins s σ H xs us Q I r h
  obtain ⟨t, ys, rfl, hT, q⟩ := h
  cases r with
  | cons r1 r2 =>
    cases r2 with
    | nil =>
      rename_i u
      cases (show u = Value.ref t from r1)
      obtain ⟨its, _, hI, _⟩ := I.tuple hT
      refine PySem.Calls.call_function_entry kind_iter plain_iter PySem.W.kdk_entry_iter (PySem.W.kdk_args_iter _) ?_
      have e : Builtin.iter { pos := [Value.ref t] } = (pyIter (.ref t) >>= fun x => ret x) := rfl
      rw [e]
      refine wpAny_bind (thn (Q := fun v s' => EP X pins σ Q v s') ?_ fun v s' hv => wpAny_pure ⟨v, rfl, hv⟩)
      have hn : H s.heap.objs.size = none := I.hok.fresh (Nat.le_refl _)
      refine PySem.wpAny_pyIter_tuple (show s.heap.IsTuple t its.toArray from hI) ⟨.ref s.heap.objs.size, upd H s.heap.objs.size (ItT t s.heap.objs.size 0), I.laid (t' := s.toks) (fun b u hb => Heap.get?_push_of_some _ hb) (Nat.le_refl _) (itT_ok ⟨_, by heap_get, rfl, rfl⟩), rfl, q _ hn (Nat.le_trans I.ok.bsz I.sz)⟩
/-- for x in o -/
def iOwn (K : PySem.W.Frag) (C : Addr) (sp : Nat → Sp) (te : TE) : TI := fun σ H R => te σ H fun x H1 => ∃ a dx fs t, x = .ref a ∧ H1 a = some (.ins C dx fs) ∧ (∃ ys, SqT K H1 t ys) ∧ (∀ (n : Nat) (Q : VK), (∀ H2 it, Same H1 H2 → H1 it = none → n ≤ it → H2 it = some (ItT t it 0) → Q (.ref it) H2) → sp n [.ref a] H1 Q E0) ∧ ∀ H2, Same H1 H2 → R (Itt K t) H2
theorem pi_own {C f : Addr} {CX : CXT} {n : Nat} {fd : FuncData} {ps : List Str} {sp : Nat → Sp} {tg e : Expr} {te : TE} (he : PE X e te) (hf : PySem.W.findIn X.K (.ref C) "__iter__" = some (some (.ref f))) (hn : PySem.W.isFn X.K (.ref f) = true) (F : ∀ base, FnOk X.prog X.w X.K X.mg base CX n f fd ps (sp base.objs.size)) (hb : L2.Binds X.K fd ps []) (hx : Passes CX X E0) (hr : Room n X.A) :
    PI X tg e (iOwn X.K C sp te) := by
  refine ⟨fun pins s σ H R I h => ?_⟩
  refine thn (he.run pins s σ H _ I h) fun v s1 hh => ?_
  obtain ⟨x, H1, I1, rx, a, dx, fs, t, rfl, e1, hT, hs, hR⟩ := hh
  cases (show v = Value.ref a from rx)
  obtain ⟨od, J⟩ := ins_inst I1 e1
  obtain ⟨m, fr⟩ := I1.fr
  have l0 := I1.ok.bsz
  have hq := hs X.s_0.heap.objs.size (fun v H2 => ∃ it, v = .ref it ∧ Same H1 H2 ∧ H1 it = none ∧ X.s_0.heap.objs.size ≤ it ∧ H2 it = some (ItT t it 0)) fun H2 it a b d c => ⟨it, rfl, a, b, d, c⟩
  have F2 := F (padH X.base X.s_0.heap.objs.size)
  rw [pad_size l0] at F2
  have e0 := I1.env0
  have e2 : Env0 X.prog X.w X.K X.mg (padH X.base X.s_0.heap.objs.size) X.A X.stack s1 H1 :=
    { e0 with mod := pad_mod e0.mod, bs := fun b o hb => e0.bs b o (by rw [pad_get] at hb; exact hb), bsz := by rw [pad_size l0]; exact I1.sz, funs := pad_fun e0.funs }
  have rr : Vals [V.ref a] [Value.ref a] := .cons (show RelV (.ref a) (.ref a) from rfl) .nil
  have hlen : ([Value.ref a] : List Value).length = ps.length := by rw [← F2.len _ _ _ _ hq]; exact (rr.length).symm
  have bb := hb s1 [Value.ref a] I1.kIn (by rw [List.append_nil]; exact hlen)
  rw [List.append_nil] at bb
  refine PySem.W.owit_iter fr I1.ok.mod.kin J hf hn (wpAny_call (codeAny_mono (F2.run X.A X.stack s1 H1 ⟨[Value.ref a], []⟩ [Value.ref a] [V.ref a] _ E0 hr e2 bb rr hq) fun t s2 hq' => ?_))
  cases t with
  | error er => exact hx pins σ H1 s1 er s2 I1 hq'
  | ok fl =>
    cases fl with
    | next => exact False.elim hq'
    | brk => exact False.elim hq'
    | cont => exact False.elim hq'
    | ret u =>
      obtain ⟨v, H2, I2, rv, it, rfl, s12, n0, big, e2⟩ := I1.after hq'
      cases (show u = Value.ref it from rv)
      have x2 : s2.heap.IsTupleIter it t 0 := by
        have := I2.hok it _ e2
        unfold ItT ObjOk at this
        exact this.1
      refine wpAny_specialOf x2.typeIs PyProof.Rows.slot_tupleiter_next.lookup ?_
      refine ⟨it, [it], fun i h => h.IsTupleIter it t i, Itt X.K t, ItX.dropH H2 it, rfl, ItX.inv_drop I2 e2, turn_tuple t it, x2, fun b hb => ?_, hR _ fun b o hb => ?_⟩
      · rw [List.mem_singleton.mp hb]
        exact ItX.inv_fp I2 e2 big
      · rw [ItX.dropH_ne (fun z => by rw [z, n0] at hb; cases hb)]
        exact s12 b o hb
end
end OW
set_option Elab.async false
set_option linter.all false
set_option maxRecDepth 100000
set_option maxHeartbeats 4000000
set_option exponentiation.threshold 10000
namespace F3
open PySem PySem.Spec PyProof.Rows L2 FX RM PB KD KS
/-- what more the text says of the class Patch -/
def patB (K : PySem.W.Frag) : Bool :=
  He.eqO (PySem.W.findIn K (.ref (cP K)) "__class__") (some (some (.builtin "object.__class__"))) && (He.eqO (PySem.W.specialIn K (.builtin "object.__class__") "__get__") (some (some (.builtin "getset_descriptor.__get__"))) &&
  (decide (PySem.W.takesIn K (.builtin "object.__class__") = some true) && (decide (PySem.W.mroIn K (cP K) (.type "object") = some true) && (decide (PySem.W.kitOne K (.ref (cP K)) (.ref (cP K)) = some true) && (decide (PySem.W.kitOne K (.type "tuple") (.ref (cP K)) = some false) &&
  (decide (PySem.W.kitAny K (.ref (cP K)) [.type "list", .type "tuple"] = some false) && (PySem.W.notFirst K (cP K) (.ref (cP K)) && (PySem.W.notFirst K (cP K) (.type "tuple") && (He.eqO (PySem.W.findIn K (.ref (cP K)) "__len__") (some (some (.ref (He.ma K (cP K) "__len__")))) && (PySem.W.isFn K (.ref (He.ma K (cP K) "__len__")) &&
  (He.eqO (PySem.W.findIn K (.ref (cP K)) "__iter__") (some (some (.ref (He.ma K (cP K) "__iter__")))) && (PySem.W.isFn K (.ref (He.ma K (cP K) "__iter__")) && (He.eqO (PySem.W.findIn K (.ref (cP K)) "__eq__") (some (some (.ref (He.ma K (cP K) "__eq__")))) && (PySem.W.isFn K (.ref (He.ma K (cP K) "__eq__")) && OW.neB K (cP K) (He.ma K (cP K) "__eq__")))))))))))))))
structure PFa (K : PySem.W.Frag) : Prop where
  cc : PySem.W.findIn K (.ref (cP K)) "__class__" = some (some (.builtin "object.__class__"))
  cg : PySem.W.specialIn K (.builtin "object.__class__") "__get__" = some (some (.builtin "getset_descriptor.__get__"))
  ct : PySem.W.takesIn K (.builtin "object.__class__") = some true
  co : PySem.W.mroIn K (cP K) (.type "object") = some true
  ks : PySem.W.kitOne K (.ref (cP K)) (.ref (cP K)) = some true
  kt : PySem.W.kitOne K (.type "tuple") (.ref (cP K)) = some false
  kr : PySem.W.kitAny K (.ref (cP K)) [.type "list", .type "tuple"] = some false
  ns : PySem.W.notFirst K (cP K) (.ref (cP K)) = true
  nt : PySem.W.notFirst K (cP K) (.type "tuple") = true
  l1 : PySem.W.findIn K (.ref (cP K)) "__len__" = some (some (.ref (He.ma K (cP K) "__len__")))
  l2 : PySem.W.isFn K (.ref (He.ma K (cP K) "__len__")) = true
  i1 : PySem.W.findIn K (.ref (cP K)) "__iter__" = some (some (.ref (He.ma K (cP K) "__iter__")))
  i2 : PySem.W.isFn K (.ref (He.ma K (cP K) "__iter__")) = true
  e1 : PySem.W.findIn K (.ref (cP K)) "__eq__" = some (some (.ref (He.ma K (cP K) "__eq__")))
  e2 : PySem.W.isFn K (.ref (He.ma K (cP K) "__eq__")) = true
  ne : OW.neB K (cP K) (He.ma K (cP K) "__eq__") = true
theorem patB_ok {K : PySem.W.Frag} (h : patB K = true) : PFa K := by
  obtain ⟨a1, h⟩ := He.ba h
  obtain ⟨a2, h⟩ := He.ba h
  obtain ⟨a3, h⟩ := He.ba h
  obtain ⟨a4, h⟩ := He.ba h
  obtain ⟨a5, h⟩ := He.ba h
  obtain ⟨a6, h⟩ := He.ba h
  obtain ⟨a7, h⟩ := He.ba h
  obtain ⟨a8, h⟩ := He.ba h
  obtain ⟨a9, h⟩ := He.ba h
  obtain ⟨b1, h⟩ := He.ba h
  obtain ⟨b2, h⟩ := He.ba h
  obtain ⟨b3, h⟩ := He.ba h
  obtain ⟨b4, h⟩ := He.ba h
  obtain ⟨b5, h⟩ := He.ba h
  obtain ⟨b6, h⟩ := He.ba h
  exact ⟨He.eqO_ok a1, He.eqO_ok a2, of_decide_eq_true a3, of_decide_eq_true a4, of_decide_eq_true a5, of_decide_eq_true a6, of_decide_eq_true a7, a8, a9, He.eqO_ok b1, b2, He.eqO_ok b3, b4, He.eqO_ok b5, b6, h⟩
theorem tyx_pat {K : PySem.W.Frag} {H : Hp} {v : V} {cs : List Pl} (F : PFa K) (c : Cls K (cP K)) (h : PatAt K H v cs) : TyX K H v (.ref (cP K)) := by
  obtain ⟨a, dx, t, rfl, e, _⟩ := h
  exact .base (.ins e c F.cc F.cg F.ct F.co)
def spPLen (K : PySem.W.Frag) : Sp := fun vs H Q _ => ∃ v cs, vs = [v] ∧ PatAt K H v cs ∧ Q (.int cs.length) H
def spPIter (K : PySem.W.Frag) (n : Nat) : Sp := fun vs H Q _ => ∃ a dx t ys, vs = [.ref a] ∧ H a = some (.ins (cP K) dx [("corners", .ref t)]) ∧ SqT K H t ys ∧ ∀ H2 it, Same H H2 → H it = none → n ≤ it → H2 it = some (OW.ItT t it 0) → Q (.ref it) H2
def spPEq (K : PySem.W.Frag) : Sp := fun vs H Q _ => ∃ v u cs, vs = [v, u] ∧ PatAt K H v cs ∧ ((∃ ds, PatAt K H u ds ∧ Q (.bl (decide (cs = ds))) H) ∨ (∃ t, TyX K H u t ∧ PySem.W.kitOne K t (.ref (cP K)) = some false ∧ Q (.bl false) H))
section
variable {P : Program} {w : World} {K : PySem.W.Frag} {mg : Str → Option Value} {base : Heap}
abbrev sPlen : Stmt := inClass (topS 31) 1
theorem scPlen : FnScope ["self"] ["self"] (defScope sPlen) := ⟨rfl, rfl, rfl, by decide +kernel, rfl, by decide +kernel, by decide +kernel⟩
theorem in_Plen {f : Addr} {fd : FuncData} (F : Fun K "__len__" "Patch.__len__" sPlen f fd) (tC : Cls K (cP K)) (nC : NoAttr K (cP K) "corners") (mlen : mg "len" = none) : FnOk P w K mg base CX0 1 f fd ["self"] (spPLen K) := by
  refine F.ok scPlen (fun vs H Q E h => ?_) (fun cdv A outer s H vs Q E hr h => ?_)
  · obtain ⟨v, cs, rfl, _⟩ := h; rfl
  · obtain ⟨v, cs, rfl, hv, q⟩ := h
    refine ⟨_, (pss_one (ps_ret (pe_callB call_len_seq (by rfl) mlen PySem.boot_len (pa_cons (pe_fld (pv 0) rfl) pa_nil)))), ?_⟩
    obtain ⟨a, dx, t, rfl, e, ht⟩ := hv
    obtain ⟨p, xs, rfl, hT, hP, _⟩ := pls_td ht
    rw [hP.l] at q
    exact ⟨_, rfl, a, cP K, dx, _, .ref p, rfl, e, tC, nC, rfl, p, xs, rfl, .inr hT, q⟩
abbrev sPiter : Stmt := inClass (topS 31) 2
theorem scPiter : FnScope ["self"] ["self"] (defScope sPiter) := ⟨rfl, rfl, rfl, by decide +kernel, rfl, by decide +kernel, by decide +kernel⟩
theorem in_Piter {f : Addr} {fd : FuncData} (F : Fun K "__iter__" "Patch.__iter__" sPiter f fd) (tC : Cls K (cP K)) (nC : NoAttr K (cP K) "corners") (miter : mg "iter" = none) : FnOk P w K mg base CX0 1 f fd ["self"] (spPIter K base.objs.size) := by
  refine F.ok scPiter (fun vs H Q E h => ?_) (fun cdv A outer s H vs Q E hr h => ?_)
  · obtain ⟨a, dx, t, ys, rfl, _⟩ := h; rfl
  · obtain ⟨a, dx, t, ys, rfl, e, hT, q⟩ := h
    refine ⟨_, (pss_one (ps_ret (pe_callB OW.cr_iterT (by rfl) miter (by decide +kernel) (pa_cons (pe_fld (pv 0) rfl) pa_nil)))), ?_⟩
    exact ⟨_, rfl, a, cP K, dx, _, .ref t, rfl, e, tC, nC, rfl, t, ys, rfl, hT, fun it ni bi => q _ it (PB.same_new ni) ni bi upd_same⟩
abbrev sPeq : Stmt := inClass (topS 31) 3
theorem scPeq : FnScope ["self", "other"] ["self", "other"] (defScope sPeq) := ⟨rfl, rfl, rfl, by decide +kernel, rfl, by decide +kernel, by decide +kernel⟩
theorem in_Peq {f : Addr} {fd : FuncData} (F : Fun K "__eq__" "Patch.__eq__" sPeq f fd) (tC : Cls K (cP K)) (nC : NoAttr K (cP K) "corners") (fa : PFa K) (gP : mg "Patch" = some (.ref (cP K))) (misinstance : mg "isinstance" = none) : FnOk P w K mg base CX0 1 f fd ["self", "other"] (spPEq K) := by
  refine F.ok scPeq (fun vs H Q E h => ?_) (fun cdv A outer s H vs Q E hr h => ?_)
  · obtain ⟨v, u, cs, rfl, _⟩ := h; rfl
  · obtain ⟨v, u, cs, rfl, hv, h⟩ := h
    refine ⟨_, (pss_one (ps_ret (pe_and (pe_callB call_isi (by rfl) misinstance boot_isinstance (pa_cons (pv 1) (pa_cons (pe_glob (v := .ref (cP K)) (by rfl) gP rfl) pa_nil))) (pe_one (pe_cmpR (op_eqD hr.units) (pe_fld (pv 0) rfl) (pe_fld (pv 1) rfl) (nomark _)))))), ?_⟩
    rcases h with ⟨ds, hu, q⟩ | ⟨t, hT, kt, q⟩
    · have ht := tyx_pat fa tC hu
      obtain ⟨a, dx, t, rfl, e, h1⟩ := hv
      obtain ⟨b, dy, s2, rfl, e2, h2⟩ := hu
      refine ⟨_, rfl, _, _, _, _, true, rfl, .own _, ht, fa.ks, _, rfl, itT rfl ?_⟩
      refine ⟨_, rfl, a, cP K, dx, _, t, rfl, e, tC, nC, rfl, _, rfl, b, cP K, dy, _, s2, rfl, e2, tC, nC, rfl, _, _, h1, h2, shaped_ps _, shaped_ps _, ?_⟩
      rw [eqv_ps]; exact q
    · exact ⟨_, rfl, _, _, _, _, false, rfl, .own _, hT, kt, _, rfl, itF rfl q⟩
end
end F3
set_option Elab.async false
set_option linter.all false
set_option maxRecDepth 100000
set_option maxHeartbeats 4000000
set_option exponentiation.threshold 10000
namespace F3
open PySem PySem.Spec PyProof.Rows L2 FX RM PB KD KS
theorem HandAt.updD {H1 H4 : Hp} {p D : Addr} {o : HO} (h1 : HandAt H1 p) (nD : H1 D = none) (s : SameBut p H1 H4) (h4 : HandAt H4 p) : HandAt (upd H4 D o) p := by
  obtain ⟨c, cs, i, r, t, a, b, q⟩ := h1
  obtain ⟨c', cs', i', r', t', a', b', q'⟩ := h4
  obtain ⟨l', e⟩ := s.2 c _ a
  have np : p ≠ D := ne_of_none a nD
  have nc : c ≠ D := ne_of_none b nD
  have ec : c' = c := by
    rw [e] at a'
    cases a'
    rfl
  subst ec
  exact ⟨c', cs', i', r', t', by rw [upd_ne np]; exact a', by rw [upd_ne nc]; exact b', q'⟩
theorem SameBut.updD {H1 H4 : Hp} {p D : Addr} {o : HO} (s : SameBut p H1 H4) (nD : H1 D = none) : SameBut p H1 (upd H4 D o) :=
  ⟨fun b x nb e => by rw [upd_ne (ne_of_none e nD)]; exact s.1 b x nb e, fun c l e => by
    obtain ⟨l', e'⟩ := s.2 c l e
    exact ⟨l', by rw [upd_ne (ne_of_none e nD)]; exact e'⟩⟩
theorem HandAt.neD {H1 : Hp} {p D : Addr} (h1 : HandAt H1 p) (nD : H1 D = none) : D ≠ p := fun e => by
  obtain ⟨c, cs, i, r, t, a, _⟩ := h1
  rw [e, a] at nD; cases nD

/-- a place as the law draws it -/
def GoodL (q : Pl) : Prop := GoodP 151 q ∧ BotM 420 q
theorem norm_dvd {t b : Int} (h : 0 < b) : (norm t b).2.natAbs ∣ b.natAbs := by
  show (b / g2 t b).natAbs ∣ b.natAbs
  obtain ⟨y, hy⟩ := g2_r t b
  have gp := g2_pos (t := t) (b := b) (by omega)
  generalize g2 t b = g at *
  rw [hy, Int.mul_ediv_cancel_left _ (by omega), Int.natAbs_mul]
  exact Nat.dvd_mul_left _ _
theorem dvd420 {n : Int} (h : 0 < n) (h7 : n ≤ 7) : n.natAbs ∣ 420 := by
  have : n = 1 ∨ n = 2 ∨ n = 3 ∨ n = 4 ∨ n = 5 ∨ n = 6 ∨ n = 7 := by omega
  rcases this with rfl | rfl | rfl | rfl | rfl | rfl | rfl <;> decide
theorem norm420 {t b : Int} (h : 0 < b) (h7 : b ≤ 7) : (norm t b).2.natAbs ∣ 420 := Nat.dvd_trans (norm_dvd h) (dvd420 h h7)
def spDrawL (K : PySem.W.Frag) : Sp := fun vs H Q _ => ∃ p, vs = [.ref p] ∧ HandAt H p ∧ ∀ (r : Pl) v H', GoodL r → Dp K H' v (pD r) → HandAt H' p → SameBut p H H' → Q v H'
def spOf (K : PySem.W.Frag) : Sp := fun vs H Q _ => ∃ x y s : Int, vs = [.int x, .int y, .int s] ∧ 0 < s ∧ Sz 5 x ∧ Sz 5 y ∧ Sz 5 s ∧ ∀ H' v, Same H H' → Dp K H' v (pD (norm x s, norm y s)) → Q v H'
def spSpots (K : PySem.W.Frag) : Sp := fun vs H Q _ => ∃ (p : Addr) (m : Nat), vs = [.ref p, .int (m : Int)] ∧ 0 < m ∧ m ≤ 9 ∧ HandAt H p ∧ ∀ (H' : Hp) (D : Addr) (ys : List V) (ps : List Pl), ps ≠ [] → ps.length ≤ m → (∀ q ∈ ps, GoodL q) → H D = none → H' D = some (.lst ys) → DpAll K H' ys (ps.map pD) → HandAt H' p → SameBut p H H' → Q (.ref D) H'
/-- a list drawn from the hand -/
theorem lc_hand {K : PySem.W.Frag} {ta : TA} {g : TG} {te : TE} {vs : List Nat} {σ : L2.St} {H : Hp} {Q : VK} {p : Addr} (n : Nat) (hn : n ≤ 9) (hta : ∀ R : List V → Hp → Prop, R [.int (n : Int)] H → ta σ H R) (hH : HandAt H p)
    (hs : ∀ (i : Nat) H' (R : VK), HandAt H' p → (∀ q v H2, GoodL q → Dp K H2 v (pD q) → HandAt H2 p → SameBut p H' H2 → R v H2) → g (.int (0 + i)) (wipe σ vs) H' fun σ2 H2 => wipe σ2 vs = wipe σ vs ∧ te σ2 H2 R)
    (hd : ∀ (D : Addr) (H' : Hp) (ys : List V) (ps : List Pl), ps.length = n → (∀ q ∈ ps, GoodL q) → H D = none → H' D = some (.lst ys) → DpAll K H' ys (ps.map pD) → HandAt H' p → SameBut p H H' → Q (.ref D) H') : tLc (iRng1 ta) g tYes te vs σ H Q := by
  refine hta _ ⟨_, rfl, by omega, by omega, fun D nD => ?_⟩
  have ne := hH.neD nD
  refine lc_range (n := n) (fun i H' => HandAt H' p ∧ SameBut p H H' ∧ ∃ (ys : List V) (ps : List Pl), H' D = some (.lst ys) ∧ ps.length = i ∧ (∀ q ∈ ps, GoodL q) ∧ DpAll K H' ys (ps.map pD)) ⟨hH.same (PB.same_new nD), Same.but (PB.same_new nD), [], [], upd_same, rfl, (fun q hq => by cases hq), .nil⟩ ?_ ?_
  · rintro i H' hi ⟨h1, s1, ys, ps, eD, pl, pg, hA⟩
    refine hs i H' _ h1 fun q v H4 gq hv h4 s4 => ?_
    have eD4 := s4.1 _ _ ne eD
    have yl : ys.length = ps.length := by rw [DpAll_len hA, List.length_map]
    have A4 : DpAll K H4 ys (ps.map pD) := by
      obtain ⟨c, cs, a, b, t, e, _⟩ := h1
      exact DpAll_but e s4.1 (noLs_p ps) hA
    have sb : ∀ b o, b ≠ D → H4 b = some o → (upd H4 D (.lst (ys ++ [v]))) b = some o := fun b o n e => by rw [upd_ne n]; exact e
    refine ⟨ys, eD4, small1000 (by omega), HandAt.updD hH nD (s1.trans s4) h4, ?_, ys ++ [v], ps ++ [q], upd_same, by rw [List.length_append, pl]; rfl, ?_, ?_⟩
    · refine ⟨fun b o n e => ?_, fun c l e => ?_⟩
      · rw [upd_ne (ne_of_none e nD)]; exact (s1.trans s4).1 b o n e
      · rw [upd_ne (Ne.symm ne)]; exact (s1.trans s4).2 c l e
    · intro z hz
      rcases List.mem_append.mp hz with hz | hz
      · exact pg z hz
      · rw [List.mem_singleton.mp hz]; exact gq
    · rw [List.map_append]
      refine DpAll_but eD4 sb ?_ (DpAll_snoc hv A4)
      have := noLs_p (ps ++ [q])
      rw [List.map_append] at this
      exact this
  · rintro H' ⟨h1, s1, ys, ps, eD, pl, pg, hA⟩
    exact hd D H' ys ps pl pg nD eD hA h1 s1
section
variable {P : Program} {w : World} {K : PySem.W.Frag} {mg : Str → Option Value} {base : Heap}
theorem okL_law_small (T : Txt K mg "_law_small" s_law_small) (G_law_take : DefOk P w K mg base CX0 "_law_take" 2 ["_law_hand_here", "_law_many"] spTake) (G_law_ratio : DefOk P w K mg base CX0 "_law_ratio" 2 ["_law_top", "_law_bottom"] (spLow K)) : DefOk P w K mg base CX0 "_law_small" 3 ["_law_hand_here"] (spDraw K fun r => IsRat r ∧ SzR 5 r ∧ r.2.natAbs ∣ 420) := by
  obtain ⟨f, fd, F, gf⟩ := T
  refine ⟨f, fd, gf, F.kp, F.binds (fun _ _ _ _ _ _ us hl => match us, hl with | [_], _ => rfl), F.ok sc_law_small (fun vs H Q E h => ?_) (fun cdv A outer s H vs Q E hr h => ?_)⟩
  · obtain ⟨p, rfl, _⟩ := h; rfl
  · obtain ⟨p, rfl, hH, q⟩ := h
    refine ⟨_, (pss_one (ps_ret (pe_def G_law_ratio (hr.mono (by decide)) (by rfl) (pa_cons (pe_op op_sub (pe_def G_law_take (hr.mono (by decide)) (by rfl) (pa_cons (pv 0) (pa_cons pe_int pa_nil))) pe_int) (pa_cons (pe_op op_add pe_int (pe_def G_law_take (hr.mono (by decide)) (by rfl) (pa_cons (pv 0) (pa_cons pe_int pa_nil)))) pa_nil))))), ?_⟩
    refine ⟨.ref p, rfl, p, 13, rfl, hH, by decide, by decide, fun x H1 x0 x13 h1 s1 => ⟨_, _, rfl, rfl, ?_⟩⟩
    refine ⟨.ref p, rfl, p, 4, rfl, h1, by decide, by decide, fun y H2 y0 y4 h2 s2 => ⟨_, _, rfl, rfl, ?_⟩⟩
    have z1 : Sz 5 (x - 6) := by show (x - 6).natAbs < 2 ^ 5; omega
    have z2 : Sz 5 (1 + y) := by show (1 + y).natAbs < 2 ^ 5; omega
    have b0 : 0 < 1 + y := by omega
    exact ⟨_, _, rfl, b0, sz_mono z1 (by decide), sz_mono z2 (by decide), fun H3 v s3 hv => q _ _ _ ⟨norm_rat b0, szr_norm b0 z1 z2, norm420 b0 (by omega)⟩ hv (h2.same s3) ((s1.trans s2).trans (Same.but s3))⟩
theorem okL_law_place (T : Txt K mg "_law_place" s_law_place) (G_law_take : DefOk P w K mg base CX0 "_law_take" 2 ["_law_hand_here", "_law_many"] spTake) (G_law_small : DefOk P w K mg base CX0 "_law_small" 3 ["_law_hand_here"] (spDraw K fun r => IsRat r ∧ SzR 5 r ∧ r.2.natAbs ∣ 420)) (G_law_number : DefOk P w K mg base CX0 "_law_number" 3 ["_law_hand_here"] (spNum 151)) (G_law_ratio : DefOk P w K mg base CX0 "_law_ratio" 2 ["_law_top", "_law_bottom"] (spLow K)) : DefOk P w K mg base CX0 "_law_place" 4 ["_law_hand_here"] (spDrawL K) := by
  obtain ⟨f, fd, F, gf⟩ := T
  refine ⟨f, fd, gf, F.kp, F.binds (fun _ _ _ _ _ _ us hl => match us, hl with | [_], _ => rfl), F.ok sc_law_place (fun vs H Q E h => ?_) (fun cdv A outer s H vs Q E hr h => ?_)⟩
  · obtain ⟨p, rfl, _⟩ := h; rfl
  · obtain ⟨p, rfl, hH, q⟩ := h
    refine ⟨_, (pss_cons (ps_if (pt_truth (pe_def G_law_take (hr.mono (by decide)) (by rfl) (pa_cons (pv 0) (pa_cons pe_int pa_nil))) (fun _ => rfl)) (pss_one (ps_ret (pe_tup (pa_cons (pe_def G_law_small (hr.mono (by decide)) (by rfl) (pa_cons (pv 0) pa_nil)) (pa_cons (pe_def G_law_small (hr.mono (by decide)) (by rfl) (pa_cons (pv 0) pa_nil)) pa_nil))))) pss_nil) (pss_one (ps_ret (pe_tup (pa_cons (pe_def G_law_ratio (hr.mono (by decide)) (by rfl) (pa_cons (pe_def G_law_number (hr.mono (by decide)) (by rfl) (pa_cons (pv 0) pa_nil)) (pa_cons (pe_op op_add pe_int (pe_def G_law_take (hr.mono (by decide)) (by rfl) (pa_cons (pv 0) (pa_cons pe_int pa_nil)))) pa_nil))) (pa_cons (pe_def G_law_ratio (hr.mono (by decide)) (by rfl) (pa_cons (pe_def G_law_number (hr.mono (by decide)) (by rfl) (pa_cons (pv 0) pa_nil)) (pa_cons (pe_op op_add pe_int (pe_def G_law_take (hr.mono (by decide)) (by rfl) (pa_cons (pv 0) (pa_cons pe_int pa_nil)))) pa_nil))) pa_nil)))))), ?_⟩
    refine ⟨.ref p, rfl, p, 4, rfl, hH, by decide, by decide, fun k H1 k0 k4 h1 s1 => ?_⟩
    refine ⟨_, rfl, ite2 (fun e => ?_) (fun e => ?_)⟩
    · refine ⟨.ref p, rfl, p, rfl, h1, fun r1 v1 H2 o1 hv1 h2 s2 => ?_⟩
      refine ⟨.ref p, rfl, p, rfl, h2, fun r2 v2 H3 o2 hv2 h3 s3 => ?_⟩
      refine ⟨(by show 2 ≤ sizeLine; decide), fun a na => ?_⟩
      have sn := PB.same_new (o := .tup [v1, v2]) na
      exact q (r1, r2) _ _ ⟨⟨⟨o1.1, o2.1⟩, ⟨szr_mono o1.2.1 (by decide), szr_mono o2.2.1 (by decide)⟩⟩, o1.2.2, o2.2.2⟩ (dp_mk2 na (h2.dp s3 (noL_r _) hv1) hv2) (h3.same sn) (((s1.trans s2).trans s3).trans (Same.but sn))
    · refine ⟨.ref p, rfl, p, rfl, h1, fun xa H2 za h2 s2 => ?_⟩
      refine ⟨.ref p, rfl, p, 7, rfl, h2, by decide, by decide, fun ya H3 y0a y7a h3 s3 => ⟨_, _, rfl, rfl, ?_⟩⟩
      have zza : Sz 151 (1 + ya) := sz_mono (n := 4) (by show (1 + ya).natAbs < 2 ^ 4; omega) (by decide)
      have b0a : 0 < 1 + ya := by omega
      refine ⟨_, _, rfl, b0a, sz_mono za (by decide), sz_mono zza (by decide), fun H4 va s4 hva => ?_⟩
      have h4 := h3.same s4
      refine ⟨.ref p, rfl, p, rfl, h4, fun xb H5 zb h5 s5 => ?_⟩
      refine ⟨.ref p, rfl, p, 7, rfl, h5, by decide, by decide, fun yb H6 y0b y7b h6 s6 => ⟨_, _, rfl, rfl, ?_⟩⟩
      have zzb : Sz 151 (1 + yb) := sz_mono (n := 4) (by show (1 + yb).natAbs < 2 ^ 4; omega) (by decide)
      have b0b : 0 < 1 + yb := by omega
      refine ⟨_, _, rfl, b0b, sz_mono zb (by decide), sz_mono zzb (by decide), fun H7 vb s7 hvb => ?_⟩
      have h7 := h6.same s7
      refine ⟨(by show 2 ≤ sizeLine; decide), fun a na => ?_⟩
      have sn := PB.same_new (o := .tup [va, vb]) na
      refine q (_, _) _ _ ⟨⟨⟨norm_rat b0a, norm_rat b0b⟩, ⟨szr_norm b0a za zza, szr_norm b0b zb zzb⟩⟩, norm420 b0a (by omega), norm420 b0b (by omega)⟩ (dp_mk2 na (Dp_same s7 (h5.dp s6 (noL_r _) (h4.dp s5 (noL_r _) hva))) hvb) (h7.same sn) ?_
      exact ((((((s1.trans s2).trans s3).trans (Same.but s4)).trans s5).trans s6).trans (Same.but s7)).trans (Same.but sn)
abbrev s_law_of : Stmt := topS 47
theorem sc_law_of : FnScope ["_law_x", "_law_y", "_law_share"] ["_law_x", "_law_y", "_law_share"] (defScope s_law_of) := ⟨rfl, rfl, rfl, by decide +kernel, rfl, by decide +kernel, by decide +kernel⟩
theorem ok_law_of (T : Txt K mg "_law_of" s_law_of) (G_law_ratio : DefOk P w K mg base CX0 "_law_ratio" 2 ["_law_top", "_law_bottom"] (spLow K)) : DefOk P w K mg base CX0 "_law_of" 3 ["_law_x", "_law_y", "_law_share"] (spOf K) := by
  obtain ⟨f, fd, F, gf⟩ := T
  refine ⟨f, fd, gf, F.kp, F.binds (fun _ _ _ _ _ _ us hl => match us, hl with | [_, _, _], _ => rfl), F.ok sc_law_of (fun vs H Q E h => ?_) (fun cdv A outer s H vs Q E hr h => ?_)⟩
  · obtain ⟨x, y, s_, rfl, _⟩ := h; rfl
  · obtain ⟨x, y, s_, rfl, s0, zx, zy, zs, q⟩ := h
    refine ⟨_, (pss_one (ps_ret (pe_tup (pa_cons (pe_def G_law_ratio (hr.mono (by decide)) (by rfl) (pa_cons (pv 0) (pa_cons (pv 2) pa_nil))) (pa_cons (pe_def G_law_ratio (hr.mono (by decide)) (by rfl) (pa_cons (pv 1) (pa_cons (pv 2) pa_nil))) pa_nil))))), ?_⟩
    refine ⟨_, rfl, _, rfl, x, s_, rfl, s0, sz_mono zx (by decide), sz_mono zs (by decide), fun H1 v s1 hv => ?_⟩
    refine ⟨_, rfl, _, rfl, y, s_, rfl, s0, sz_mono zy (by decide), sz_mono zs (by decide), fun H2 u s2 hu => ⟨(by show 2 ≤ sizeLine; decide), fun a na => ?_⟩⟩
    exact q _ _ ((s1.trans s2).trans (PB.same_new na)) (dp_mk2 na (Dp_same s2 hv) hu)
abbrev s_law_spots : Stmt := topS 51
theorem sc_law_spots : FnScope ["_law_hand_here", "_law_most", "_law_many", "_law_kind", "_law_wide", "_law_turn"] ["_law_hand_here", "_law_most"] (defScope s_law_spots) := ⟨rfl, rfl, rfl, by decide +kernel, rfl, by decide +kernel, by decide +kernel⟩
theorem ok_law_spots (T : Txt K mg "_law_spots" s_law_spots) (G_law_take : DefOk P w K mg base CX0 "_law_take" 2 ["_law_hand_here", "_law_many"] spTake) (G_law_place : DefOk P w K mg base CX0 "_law_place" 4 ["_law_hand_here"] (spDrawL K)) (G_law_of : DefOk P w K mg base CX0 "_law_of" 3 ["_law_x", "_law_y", "_law_share"] (spOf K)) (mrange : mg "range" = none) : DefOk P w K mg base CX0 "_law_spots" 5 ["_law_hand_here", "_law_most"] (spSpots K) := by
  obtain ⟨f, fd, F, gf⟩ := T
  refine ⟨f, fd, gf, F.kp, F.binds (fun _ _ _ _ _ _ us hl => match us, hl with | [_, _], _ => rfl), F.ok sc_law_spots (fun vs H Q E h => ?_) (fun cdv A outer s H vs Q E hr h => ?_)⟩
  · obtain ⟨p, m, rfl, _⟩ := h; rfl
  · obtain ⟨p, m, rfl, m0, m9, hH, q⟩ := h
    refine ⟨_, (pss_cons (ps_set (i := 2) sc_law_spots.nd rfl (.inl rfl) (pe_op op_add pe_int (pe_def G_law_take (hr.mono (by decide)) (by rfl) (pa_cons (pv 0) (pa_cons (pv 1) pa_nil))))) (pss_cons (ps_set (i := 3) sc_law_spots.nd rfl (.inr rfl) (pe_def G_law_take (hr.mono (by decide)) (by rfl) (pa_cons (pv 0) (pa_cons pe_int pa_nil)))) (pss_cons (ps_if (pt_cmpR op_eq (pv 3) pe_int (nomark _)) (pss_one (ps_ret (pe_lc (own := [("_law_turn", 5)]) rfl sc_law_spots.nd (pi_range1 (by rfl) mrange (pa_cons (pv 2) pa_nil)) (blkOk_by (N := ["_law_hand_here", "_law_most", "_law_many", "_law_kind", "_law_wide", "_law_turn"]) (sc := defScope s_law_spots) (by decide +kernel)) (fun _ _ _ _ _ => (pg_name (i := 5) sc_law_spots.nd rfl (.inl rfl))) (fun _ _ _ _ _ => pts_nil) (fun _ _ _ _ _ => (pe_def G_law_place (hr.mono (by decide)) (by rfl) (pa_cons (pv 0) pa_nil)))))) pss_nil) (pss_cons (ps_set (i := 4) sc_law_spots.nd rfl (.inr rfl) (pe_ifExp (pt_cmpR op_eq (pv 3) pe_int (nomark _)) pe_int pe_int)) (pss_one (ps_ret (pe_lc (own := [("_law_turn", 5)]) rfl sc_law_spots.nd (pi_range1 (by rfl) mrange (pa_cons (pv 2) pa_nil)) (blkOk_by (N := ["_law_hand_here", "_law_most", "_law_many", "_law_kind", "_law_wide", "_law_turn"]) (sc := defScope s_law_spots) (by decide +kernel)) (fun _ _ _ _ _ => (pg_name (i := 5) sc_law_spots.nd rfl (.inl rfl))) (fun _ _ _ _ _ => pts_nil) (fun _ _ _ _ _ => (pe_def G_law_of (hr.mono (by decide)) (by rfl) (pa_cons (pe_def G_law_take (hr.mono (by decide)) (by rfl) (pa_cons (pv 0) (pa_cons (pv 4) pa_nil))) (pa_cons (pe_def G_law_take (hr.mono (by decide)) (by rfl) (pa_cons (pv 0) (pa_cons (pv 4) pa_nil))) (pa_cons (pv 3) pa_nil)))))))))))), ?_⟩
    refine ⟨.ref p, rfl, _, rfl, p, m, rfl, hH, by omega, by omega, fun k H1 k0 k9 h1 s1 => ⟨_, _, rfl, rfl, ?_⟩⟩
    have ek : (1 + k : Int) = ((k.toNat + 1 : Nat) : Int) := by omega
    show tSeq _ _ _ [some (.ref p), some (.int (m : Int)), some (.int (1 + k)), none, none, none] H1
    rw [ek]
    refine ⟨.ref p, rfl, p, 4, rfl, h1, by decide, by decide, fun kd H2 d0 d4 h2 s2 => ?_⟩
    have fin : ∀ (D : Addr) (G : Hp) (ys : List V) (ps : List Pl), ps.length = k.toNat + 1 → (∀ q ∈ ps, GoodL q) → H2 D = none → G D = some (.lst ys) → DpAll K G ys (ps.map pD) → HandAt G p → SameBut p H2 G → Q (.ref D) G := fun D G ys ps pl pg nD eD hA hG sG => by
      have ne := h2.neD nD
      have nH : H D = none := by
        cases e : H D with
        | none => rfl
        | some o => rw [(s1.trans s2).1 D o ne e] at nD; cases nD
      exact q G D ys ps (fun z => by rw [z] at pl; cases pl) (by omega) pg nH eD hA hG ((s1.trans s2).trans sG)
    refine ⟨_, rfl, rfl, _, rfl, ite2 (fun e => ?_) (fun e => ?_)⟩
    · dsimp only [tRet]
      refine lc_hand (K := K) (p := p) (k.toNat + 1) (by omega) (fun R hR => ⟨_, rfl, hR⟩) h2 (fun i G R hG hR => ?_) (fun D G ys ps pl pg nD eD hA hG sG => ?_)
      · exact ⟨rfl, .ref p, rfl, p, rfl, hG, fun r v G1 gr hv g1 t1 => hR r v G1 gr hv g1 t1⟩
      · exact fin D G ys ps pl pg nD eD hA hG sG
    have kd0 : kd ≠ 0 := fun z => e (by rw [z]; rfl)
    refine ⟨_, rfl, rfl, _, rfl, ite2 (fun e1 => ?_) (fun e1 => ?_)⟩
    · dsimp only [tRet, tC, tSeq, gName]
      refine lc_hand (K := K) (p := p) (k.toNat + 1) (by omega) (fun R hR => ⟨_, rfl, hR⟩) h2 (fun i G R hG hR => ?_) (fun D G ys ps pl pg nD eD hA hG sG => ?_)
      · refine ⟨rfl, .ref p, rfl, _, rfl, p, 3, rfl, hG, by decide, by decide, fun x G1 x0 x7 g1 t1 => ?_⟩
        refine ⟨.ref p, rfl, _, rfl, p, 3, rfl, g1, by decide, by decide, fun y G2 y0 y7 g2 t2 => ?_⟩
        have z5 : ∀ {z : Int}, 0 ≤ z → z < 8 → Sz 5 z := fun {z} a b => by show z.natAbs < 2 ^ 5; omega
        refine ⟨_, rfl, x, y, kd, rfl, by omega, z5 x0 (by omega), z5 y0 (by omega), z5 d0 (by omega), fun G3 v t3 hv => ?_⟩
        have kp : 0 < kd := by omega
        exact hR _ v G3 ⟨⟨⟨norm_rat kp, norm_rat kp⟩, ⟨szr_mono (szr_norm kp (z5 x0 (by omega)) (z5 d0 (by omega))) (by decide), szr_mono (szr_norm kp (z5 y0 (by omega)) (z5 d0 (by omega))) (by decide)⟩⟩, norm420 kp (by omega), norm420 kp (by omega)⟩ hv (g2.same t3) ((t1.trans t2).trans (Same.but t3))
      · exact fin D G ys ps pl pg nD eD hA hG sG
    · dsimp only [tRet, tC, tSeq, gName]
      refine lc_hand (K := K) (p := p) (k.toNat + 1) (by omega) (fun R hR => ⟨_, rfl, hR⟩) h2 (fun i G R hG hR => ?_) (fun D G ys ps pl pg nD eD hA hG sG => ?_)
      · refine ⟨rfl, .ref p, rfl, _, rfl, p, 7, rfl, hG, by decide, by decide, fun x G1 x0 x7 g1 t1 => ?_⟩
        refine ⟨.ref p, rfl, _, rfl, p, 7, rfl, g1, by decide, by decide, fun y G2 y0 y7 g2 t2 => ?_⟩
        have z5 : ∀ {z : Int}, 0 ≤ z → z < 8 → Sz 5 z := fun {z} a b => by show z.natAbs < 2 ^ 5; omega
        refine ⟨_, rfl, x, y, kd, rfl, by omega, z5 x0 (by omega), z5 y0 (by omega), z5 d0 (by omega), fun G3 v t3 hv => ?_⟩
        have kp : 0 < kd := by omega
        exact hR _ v G3 ⟨⟨⟨norm_rat kp, norm_rat kp⟩, ⟨szr_mono (szr_norm kp (z5 x0 (by omega)) (z5 d0 (by omega))) (by decide), szr_mono (szr_norm kp (z5 y0 (by omega)) (z5 d0 (by omega))) (by decide)⟩⟩, norm420 kp (by omega), norm420 kp (by omega)⟩ hv (g2.same t3) ((t1.trans t2).trans (Same.but t3))
      · exact fin D G ys ps pl pg nD eD hA hG sG
end
end F3
set_option Elab.async false
set_option linter.all false
set_option maxRecDepth 100000
set_option maxHeartbeats 4000000
set_option exponentiation.threshold 10000
namespace F3
open PySem PySem.Spec PyProof.Rows L2 FX RM PB KD KS
/-- a list or a tuple of places, told as tuples -/
def Rows (K : PySem.W.Frag) (H : Hp) (p : Addr) (xs : List V) (ps : List Pl) : Prop := (SqL K H p xs ∨ SqT K H p xs) ∧ DpAll K H xs (ps.map pD)
theorem Rows.same {K : PySem.W.Frag} {H H' : Hp} {p : Addr} {xs : List V} {ps : List Pl} (h : Rows K H p xs ps) (s : Same H H') : Rows K H' p xs ps := ⟨h.1.elim (fun z => .inl (s.seq z)) (fun z => .inr (same_t s z)), DpAll_same s h.2⟩
theorem Rows.len {K : PySem.W.Frag} {H : Hp} {p : Addr} {xs : List V} {ps : List Pl} (h : Rows K H p xs ps) : xs.length = ps.length := by rw [DpAll_len h.2, List.length_map]
theorem Rows.at {K : PySem.W.Frag} {H : Hp} {p : Addr} {xs : List V} {ps : List Pl} (h : Rows K H p xs ps) {i : Nat} {x : V} (e : xs[i]? = some x) : ∃ q, ps[i]? = some q ∧ q ∈ ps ∧ Dp K H x (pD q) := by
  obtain ⟨d, ed, hd⟩ := DpAll_at h.2 e
  rw [List.getElem?_map] at ed
  cases eq : ps[i]? with
  | none => rw [eq] at ed; cases ed
  | some q => rw [eq] at ed; cases ed; exact ⟨q, rfl, List.mem_of_getElem? eq, hd⟩
/-- a whole point -/
def iD (p : G4.Pt) : PyData := .tuple [.int p.1, .int p.2]
theorem noL_i (p : G4.Pt) : noL (iD p) = true := by simp [iD, noL, noLs]
def spBots (K : PySem.W.Frag) : Sp := fun vs H Q _ => ∃ (p : Addr) (xs : List V) (ps : List Pl) (M : Nat), vs = [.ref p] ∧ Rows K H p xs ps ∧ ps.length ≤ 60 ∧ 0 < M ∧ M < 2 ^ 200 ∧ (∀ q ∈ ps, GoodP 400 q ∧ BotM M q) ∧ ∀ H', Same H H' → Q (.int (lcmB 1 ps)) H'
def spWholesL (K : PySem.W.Frag) : Sp := fun vs H Q _ => ∃ (p : Addr) (xs : List V) (ps : List Pl) (N : Int), vs = [.ref p, .int N] ∧ Rows K H p xs ps ∧ ps.length ≤ 60 ∧ Sz 200 N ∧ (∀ q ∈ ps, GoodP 400 q) ∧ ∀ (H' : Hp) (D : Addr) (ys : List V), Same H H' → H D = none → H' D = some (.lst ys) → DpAll K H' ys (ps.map fun q => iD (sc N q)) → Q (.ref D) H'
theorem lcm_law {c b : Nat} (h : 0 < b) : ((c : Int) * (b : Int)) / ((Nat.gcd c b : Nat) : Int) = ((c.lcm b : Nat) : Int) := by
  unfold Nat.lcm
  rw [← Int.natCast_mul, Int.natCast_ediv]
theorem nat_of {b : Int} (h : 0 < b) : b = ((b.natAbs : Nat) : Int) := by omega
section
variable {P : Program} {w : World} {K : PySem.W.Frag} {mg : Str → Option Value} {base : Heap}
abbrev s_law_bottoms : Stmt := topS 43
theorem sc_law_bottoms : FnScope ["_law_places", "_law_common", "_law_place_here", "_law_number_here"] ["_law_places"] (defScope s_law_bottoms) := ⟨rfl, rfl, rfl, by decide +kernel, rfl, by decide +kernel, by decide +kernel⟩
theorem ok_law_bottoms (T : Txt K mg "_law_bottoms" s_law_bottoms) (G_law_gcd : DefOk P w K mg base CX0 "_law_gcd" 1 ["_law_one", "_law_other"] spGcd) : DefOk P w K mg base CX0 "_law_bottoms" 2 ["_law_places"] (spBots K) := by
  obtain ⟨f, fd, F, gf⟩ := T
  refine ⟨f, fd, gf, F.kp, F.binds (fun _ _ _ _ _ _ us hl => match us, hl with | [_], _ => rfl), F.ok sc_law_bottoms (fun vs H Q E h => ?_) (fun cdv A outer s H vs Q E hr h => ?_)⟩
  · obtain ⟨p, xs, ps, M, rfl, _⟩ := h; rfl
  · obtain ⟨p, xs, ps, M, rfl, hR, l6, M0, MZ, hg, q⟩ := h
    refine ⟨_, (pss_cons (ps_set (i := 1) sc_law_bottoms.nd rfl (.inl rfl) pe_int) (pss_cons (ps_for PassesOwn.never rfl (pi_seq (pv 0)) (pg_name (i := 2) sc_law_bottoms.nd rfl (.inl rfl)) (pss_one (ps_for PassesOwn.never rfl (pi_seq (pv 2)) (pg_name (i := 3) sc_law_bottoms.nd rfl (.inl rfl)) (pss_one (ps_set (i := 1) sc_law_bottoms.nd rfl (.inl rfl) (pe_op op_fdivW (pe_op op_mulW (pv 1) (pe_ix ix_it (pv 3) pe_int (fun _ _ => rfl))) (pe_def G_law_gcd (hr.mono (by decide)) (by rfl) (pa_cons (pv 1) (pa_cons (pe_ix ix_it (pv 3) pe_int (fun _ _ => rfl)) pa_nil))))))))) (pss_one (ps_ret (pv 1))))), ?_⟩
    show tSeq _ _ _ [some (.ref p), some (.int 1), none, none] H
    dsimp only [tSeq]
    refine for_seq (j := 0) hR.1 rfl (fun i σ H' => ∃ y2 y3 : Option V, σ = [some (.ref p), some (.int (lcmB 1 (ps.take i) : Nat)), y2, y3] ∧ Same H H') ⟨none, none, rfl, fun _ _ z => z⟩ (fun i σ H' ⟨_, _, _, z⟩ => z) ?_ ?_
    · rintro i x σ H' hx ⟨y2, y3, rfl, s1⟩
      obtain ⟨r, er, hr_, hd⟩ := hR.at hx
      have gq := hg r hr_
      have c0 : lcmB 1 (ps.take i) ∣ M := lcmB_dvd (Nat.one_dvd _) fun z hz => (hg z (List.mem_of_mem_take hz)).2
      have e1 : ps.take (i + 1) = ps.take i ++ [r] := by rw [List.take_add_one, er]; rfl
      rw [e1, lcmB_snoc]
      generalize lcmB 1 (ps.take i) = c at c0
      obtain ⟨t, vx, vy, rfl, hT, h1, h2⟩ := dp_t2 (Dp_same s1 hd)
      show tFor (iSeq K (tVar 2)) _ _ _ [some (.ref p), some (.int (c : Int)), some (.ref t), y3] H'
      have zc := sz_mono (sz_dvd c0 M0 MZ) (by decide : 200 ≤ 4000)
      have p1 := gq.1.1.1.1
      have p2 := gq.1.1.2.1
      have d1 := Nat.lcm_dvd c0 gq.2.1
      have z1 := sz_mono (sz_dvd gq.2.1 M0 MZ) (by decide : 200 ≤ 4000)
      have z2 := sz_mono (sz_dvd gq.2.2 M0 MZ) (by decide : 200 ≤ 4000)
      have zd := sz_mono (sz_dvd d1 M0 MZ) (by decide : 200 ≤ 4000)
      have gz : ∀ {a b : Nat}, 0 < b → Sz 4000 (b : Int) → Sz 4000 ((Nat.gcd a b : Nat) : Int) := fun {a b} hb hz => by
        show ((Nat.gcd a b : Nat) : Int).natAbs < 2 ^ 4000
        rw [Int.natAbs_natCast]
        exact Nat.lt_of_le_of_lt (Nat.gcd_le_right _ hb) (by have := hz; unfold Sz at this; rwa [Int.natAbs_natCast] at this)
      have st : ∀ {a : Nat} {b : Int}, 0 < b → (a : Int) * b / ((Nat.gcd (a : Int).natAbs b.natAbs : Nat) : Int) = ((a.lcm b.natAbs : Nat) : Int) := fun {a b} hb => by
        have e := nat_of hb
        generalize b.natAbs = m at e
        subst e
        rw [Int.natAbs_natCast]
        exact lcm_law (by omega)
      refine for_seq (j := 2) (.inr hT) rfl (fun k σ H2 => ∃ (y3 : Option V) (z : Nat), σ = [some (.ref p), some (.int (z : Int)), some (.ref t), y3] ∧ (k = 0 → z = c) ∧ (k = 1 → z = c.lcm r.1.2.natAbs) ∧ (k = 2 → z = c.lcm (r.1.2.natAbs.lcm r.2.2.natAbs)) ∧ Same H' H2) ⟨y3, c, rfl, (fun _ => rfl), (fun z => by cases z), (fun z => by cases z), fun _ _ z => z⟩ (fun k σ H2 ⟨_, _, _, _, _, _, z⟩ => z) ?_ ?_
      · rintro k v σ H2 hv ⟨y3, z, rfl, c1, c2, c3, s2⟩
        match k, hv with
        | 0, hv =>
          cases hv
          obtain rfl := c1 rfl
          have ha := cou_r (Dp_same s2 h1)
          have gp : (0 : Int) < ((Nat.gcd (z : Int).natAbs r.1.2.natAbs : Nat) : Int) := by
            have := Nat.gcd_pos_of_pos_right (z : Int).natAbs (show 0 < r.1.2.natAbs by omega)
            omega
          refine ⟨_, rfl, vx, rfl, _, _, 1, _, rfl, ha, rfl, _, _, rfl, rfl, wide_mul zc (sz_mono gq.1.2.1.2 (by decide : 400 ≤ 4000)) (by decide) (by decide) (by decide), _, rfl, vx, rfl, _, _, 1, _, rfl, ha, rfl, _, _, rfl, _, _, rfl, rfl, wide_div gp (gz (by omega) z1) (by decide) (by decide), ?_⟩
          exact ⟨some vx, z.lcm r.1.2.natAbs, by rw [← st p1]; rfl, fun e => (by cases e), fun _ => rfl, fun e => (by cases e), s2⟩
        | 1, hv =>
          cases hv
          obtain rfl := c2 rfl
          have ha := cou_r (Dp_same s2 h2)
          have gp : (0 : Int) < ((Nat.gcd ((c.lcm r.1.2.natAbs : Nat) : Int).natAbs r.2.2.natAbs : Nat) : Int) := by
            have := Nat.gcd_pos_of_pos_right ((c.lcm r.1.2.natAbs : Nat) : Int).natAbs (show 0 < r.2.2.natAbs by omega)
            omega
          refine ⟨_, rfl, vy, rfl, _, _, 1, _, rfl, ha, rfl, _, _, rfl, rfl, wide_mul zd (sz_mono gq.1.2.2.2 (by decide : 400 ≤ 4000)) (by decide) (by decide) (by decide), _, rfl, vy, rfl, _, _, 1, _, rfl, ha, rfl, _, _, rfl, _, _, rfl, rfl, wide_div gp (gz (by omega) z2) (by decide) (by decide), ?_⟩
          exact ⟨some vy, (c.lcm r.1.2.natAbs).lcm r.2.2.natAbs, by rw [← st p2]; rfl, fun e => (by cases e), fun e => (by cases e), fun _ => Nat.lcm_assoc _ _ _, s2⟩
        | k + 2, hv => cases hv
      · rintro σ H2 ⟨y3, z, rfl, _, _, c3, s2⟩
        obtain rfl := c3 rfl
        exact ⟨some (.ref t), y3, rfl, s1.trans s2⟩
    · rintro σ H' ⟨y2, y3, rfl, s1⟩
      rw [hR.len, List.take_length]
      exact ⟨_, rfl, q H' s1⟩
abbrev s_law_wholes : Stmt := topS 44
theorem sc_law_wholes : FnScope ["_law_places", "_law_common", "_law_place_here"] ["_law_places", "_law_common"] (defScope s_law_wholes) := ⟨rfl, rfl, rfl, by decide +kernel, rfl, by decide +kernel, by decide +kernel⟩
theorem ok_law_wholes (T : Txt K mg "_law_wholes" s_law_wholes)  : DefOk P w K mg base CX0 "_law_wholes" 1 ["_law_places", "_law_common"] (spWholesL K) := by
  obtain ⟨f, fd, F, gf⟩ := T
  refine ⟨f, fd, gf, F.kp, F.binds (fun _ _ _ _ _ _ us hl => match us, hl with | [_, _], _ => rfl), F.ok sc_law_wholes (fun vs H Q E h => ?_) (fun cdv A outer s H vs Q E hr h => ?_)⟩
  · obtain ⟨p, xs, ps, N, rfl, _⟩ := h; rfl
  · obtain ⟨p, xs, ps, N, rfl, hR, l6, zN, hg, q⟩ := h
    refine ⟨_, (pss_one (ps_ret (pe_lc (own := [("_law_place_here", 2)]) rfl sc_law_wholes.nd (pi_seq (pv 0)) (blkOk_by (N := ["_law_places", "_law_common", "_law_place_here"]) (sc := defScope s_law_wholes) (by decide +kernel)) (fun _ _ _ _ _ => (pg_name (i := 2) sc_law_wholes.nd rfl (.inl rfl))) (fun _ _ _ _ _ => pts_nil) (fun _ _ _ _ _ => (pe_tup (pa_cons (pe_op op_mulW (pe_ix (ix_itK K) (pe_ix (ix_itK K) (pv 2) pe_int (fun _ _ => rfl)) pe_int (fun _ _ => rfl)) (pe_op op_fdivW (pv 1) (pe_ix (ix_itK K) (pe_ix (ix_itK K) (pv 2) pe_int (fun _ _ => rfl)) pe_int (fun _ _ => rfl)))) (pa_cons (pe_op op_mulW (pe_ix (ix_itK K) (pe_ix (ix_itK K) (pv 2) pe_int (fun _ _ => rfl)) pe_int (fun _ _ => rfl)) (pe_op op_fdivW (pv 1) (pe_ix (ix_itK K) (pe_ix (ix_itK K) (pv 2) pe_int (fun _ _ => rfl)) pe_int (fun _ _ => rfl)))) pa_nil))))))), ?_⟩
    have xz : xs.length < sizeLine := small1000 (by have := hR.len; omega)
    dsimp only [tRet]
    refine lc_map (K := K) (a := p) (xs := xs) (j := 0) (fun i => iD (sc N (ps.getD i zP))) (fun i => noL_i _) (by rfl) hR.1 xz (fun i x G R ex sx hR2 => ?_) fun D G ws s2 n2 e2 h2 => ?_
    · obtain ⟨r, er, hr_, hd⟩ := hR.at ex
      have e : ps.getD i zP = r := by rw [List.getD_eq_getElem?_getD, er]; rfl
      (try dsimp only at hR2)
      rw [e] at hR2
      obtain ⟨t, vx, vy, rfl, hT, h1, h2⟩ := dp_t2 (Dp_same sx hd)
      have gq := hg r hr_
      have m4 : ∀ {z : Int}, Sz 400 z → Sz 4000 z := fun z => sz_mono z (by decide)
      have cx := cou_r h1
      have cy := cou_r h2
      have ct : Cou K G (.ref t) vx vy := ⟨t, rfl, .inl hT⟩
      have zd : ∀ {b : Int}, 0 < b → Sz 400 b → Sz 200 (N / b) := fun {b} hb hz => Nat.lt_of_le_of_lt (Int.natAbs_ediv_le_natAbs _ _) zN
      refine ⟨rfl, .ref t, rfl, vx, vy, 0, _, rfl, ct, rfl, _, _, 0, _, rfl, cx, rfl, _, rfl, .ref t, rfl, vx, vy, 0, _, rfl, ct, rfl, _, _, 1, _, rfl, cx, rfl, _, _, rfl, rfl, wide_div gq.1.1.1 (m4 gq.2.1.2) (by decide) (by decide), _, _, rfl, rfl, wide_mul (m4 gq.2.1.1) (zd gq.1.1.1 gq.2.1.2) (by decide) (by decide) (by decide), ?_⟩
      refine ⟨.ref t, rfl, vx, vy, 1, _, rfl, ct, rfl, _, _, 0, _, rfl, cy, rfl, _, rfl, .ref t, rfl, vx, vy, 1, _, rfl, ct, rfl, _, _, 1, _, rfl, cy, rfl, _, _, rfl, rfl, wide_div gq.1.2.1 (m4 gq.2.2.2) (by decide) (by decide), _, _, rfl, rfl, wide_mul (m4 gq.2.2.1) (zd gq.1.2.1 gq.2.2.2) (by decide) (by decide) (by decide), (by show 2 ≤ sizeLine; decide), fun b nb => ?_⟩
      exact hR2 _ _ (PB.same_new nb) (.tup (.inl (.inl upd_same)) (.cons (.int _) (.cons (.int _) .nil)))
    refine q G D ws s2 n2 e2 ?_
    rw [← range_get ps zP, ← hR.len]
    exact h2
end
end F3
set_option Elab.async false
set_option linter.all false
set_option maxRecDepth 100000
set_option maxHeartbeats 4000000
set_option exponentiation.threshold 10000
namespace F3
open PySem PySem.Spec PyProof.Rows L2 FX RM PB KD KS
theorem pushG_mem {p q : G4.Pt} : ∀ {st : List G4.Pt}, q ∈ G4.push p st → q = p ∨ q ∈ st
  | [], h => .inl (List.mem_singleton.mp h)
  | [y], h => by
    rcases List.mem_cons.mp h with h | h
    · exact .inl h
    · exact .inr h
  | y :: x :: r, h => by
    unfold G4.push at h
    split at h
    · rcases pushG_mem h with h | h
      · exact .inl h
      · exact .inr (List.mem_cons_of_mem _ h)
    · rcases List.mem_cons.mp h with h | h
      · exact .inl h
      · exact .inr h
theorem stG_mem {q : G4.Pt} : ∀ {l s : List G4.Pt}, q ∈ l.foldl (fun s p => G4.push p s) s → q ∈ l ∨ q ∈ s
  | [], _, h => .inr h
  | p :: l, s, h => by
    have h : q ∈ l.foldl (fun s p => G4.push p s) (G4.push p s) := h
    rcases stG_mem h with h | h
    · exact .inl (List.mem_cons_of_mem _ h)
    · rcases pushG_mem h with h | h
      · exact .inl (h ▸ List.mem_cons_self ..)
      · exact .inr h
theorem pushG_len (p : G4.Pt) : ∀ st : List G4.Pt, (G4.push p st).length ≤ st.length + 1
  | [] => Nat.le_refl _
  | [y] => Nat.le_refl _
  | y :: x :: r => by
    unfold G4.push
    split
    · have := pushG_len p (x :: r)
      simp at this ⊢
      omega
    · simp
theorem stG_len : ∀ (l s : List G4.Pt), (l.foldl (fun s p => G4.push p s) s).length ≤ l.length + s.length
  | [], s => by simp
  | p :: l, s => by
    have := stG_len l (G4.push p s)
    have := pushG_len p s
    rw [List.foldl_cons, List.length_cons]
    omega

def stG (l : List G4.Pt) : List G4.Pt := l.foldl (fun s p => G4.push p s) []
theorem stG_chain (l : List G4.Pt) : (stG l).reverse = G4.chain l := rfl
theorem noLs_i (ds : List G4.Pt) : noLs (ds.map iD) = true := noLs_all fun d hd => by
  obtain ⟨x, _, rfl⟩ := List.mem_map.mp hd
  exact noL_i x
theorem sz_dif {n : Nat} {a b : Int} (ha : Sz n a) (hb : Sz n b) : Sz (n + 1) (a - b) := by
  have h : (a - b).natAbs ≤ a.natAbs + b.natAbs := by omega
  show (a - b).natAbs < 2 ^ (n + 1)
  rw [Nat.pow_succ]
  have : a.natAbs < 2 ^ n := ha
  have : b.natAbs < 2 ^ n := hb
  omega
def SzT (n : Nat) (p : G4.Pt) : Prop := Sz n p.1 ∧ Sz n p.2
def spHalf2 (K : PySem.W.Frag) : Sp := fun vs H Q _ => ∃ (p : Addr) (xs : List V) (os : List G4.Pt), vs = [.ref p] ∧ SqL K H p xs ∧ DpAll K H xs (os.map iD) ∧ os.length ≤ 60 ∧ (∀ q ∈ os, SzT 1000 q) ∧ ∀ (H' : Hp) (c : Addr) (ys : List V), Same H H' → H c = none → H' c = some (.lst ys) → DpAll K H' ys ((G4.chain os).dropLast.map iD) → Q (.ref c) H'
section
variable {P : Program} {w : World} {K : PySem.W.Frag} {mg : Str → Option Value} {base : Heap}
abbrev s_law_half : Stmt := topS 45
theorem sc_law_half : FnScope ["_law_rows", "_law_kept", "_law_row", "_law_one", "_law_other"] ["_law_rows"] (defScope s_law_half) := ⟨rfl, rfl, rfl, by decide +kernel, rfl, by decide +kernel, by decide +kernel⟩
theorem ok_law_half (T : Txt K mg "_law_half" s_law_half) (mlen : mg "len" = none) : DefOk P w K mg base CX0 "_law_half" 1 ["_law_rows"] (spHalf2 K) := by
  obtain ⟨f, fd, F, gf⟩ := T
  refine ⟨f, fd, gf, F.kp, F.binds (fun _ _ _ _ _ _ us hl => match us, hl with | [_], _ => rfl), F.ok sc_law_half (fun vs H Q E h => ?_) (fun cdv A outer s H vs Q E hr h => ?_)⟩
  · obtain ⟨p, xs, os, rfl, _⟩ := h; rfl
  · obtain ⟨p, xs, os, rfl, hS, hD, l6, hG, q⟩ := h
    refine ⟨_, (pss_cons (ps_set (i := 1) sc_law_half.nd rfl (.inl rfl) (pe_lst pa_nil)) (pss_cons (ps_for PassesOwn.never rfl (pi_list (pv 0)) (pg_name (i := 2) sc_law_half.nd rfl (.inl rfl)) (pss_cons (ps_while PassesOwn.never (pt_cmpR op_gt (pe_callB call_len_seq (by rfl) mlen PySem.boot_len (pa_cons (pv 1) pa_nil)) pe_int (nomark _)) (pss_cons (ps_par (i := 3) (j := 4) rfl sc_law_half.nd rfl rfl (by decide) rfl rfl (pa_cons (pe_ix ix_list (pv 1) (pe_un un_neg pe_int) (fun _ _ => rfl)) (pa_cons (pe_ix ix_list (pv 1) (pe_un un_neg pe_int) (fun _ _ => rfl)) pa_nil)) rfl) (pss_cons (ps_if (pt_cmpR op_gt (pe_op op_mulW (pe_op op_sub (pe_ix ix_it (pv 4) pe_int (fun _ _ => rfl)) (pe_ix ix_it (pv 3) pe_int (fun _ _ => rfl))) (pe_op op_sub (pe_ix ix_it (pv 2) pe_int (fun _ _ => rfl)) (pe_ix ix_it (pv 3) pe_int (fun _ _ => rfl)))) (pe_op op_mulW (pe_op op_sub (pe_ix ix_it (pv 4) pe_int (fun _ _ => rfl)) (pe_ix ix_it (pv 3) pe_int (fun _ _ => rfl))) (pe_op op_sub (pe_ix ix_it (pv 2) pe_int (fun _ _ => rfl)) (pe_ix ix_it (pv 3) pe_int (fun _ _ => rfl)))) (nomark _)) (pss_one ps_break) pss_nil) (pss_one (ps_set (i := 1) sc_law_half.nd rfl (.inl rfl) (pe_slice sl_list (pv 1) po_none (po_some (pe_un un_neg pe_int)))))))) (pss_one (ps_expr (pe_bm PySem.F.plainAttrs_list PySem.F.slot_list_append PySem.F.type_list_append mt_append (pv 1) (pa_cons (pv 2) pa_nil)))))) (pss_one (ps_ret (pe_slice sl_list (pv 1) po_none (po_some (pe_un un_neg pe_int))))))), ?_⟩
    refine ⟨(by show 0 ≤ sizeLine; decide), fun c nc => ?_⟩
    have s0 := PB.same_new (o := .lst []) nc
    have lx : xs.length = os.length := by rw [DpAll_len hD, List.length_map]
    refine ⟨.ref p, rfl, p, rfl, ⟨_, s0.seq hS⟩, for_list (K := K) (a := p) (xs := xs) (fun i σ H' => ∃ (c : Addr) (y y3 y4 : Option V) (ys : List V), σ = [some (.ref p), some (.ref c), y, y3, y4] ∧ Same H H' ∧ H c = none ∧ H' c = some (.lst ys) ∧ DpAll K H' ys ((stG (os.take i)).reverse.map iD))
      ⟨c, none, none, none, [], rfl, s0, nc, upd_same, .nil⟩ (fun i σ H' _ ⟨_, _, _, _, _, _, s1, _⟩ => s1.seq hS) ?_ ?_⟩
    · rintro i x σ H1 hi ⟨c, y, y3, y4, ys, rfl, s1, nc, eD, hY⟩
      have il : i < os.length := by rw [← lx]; exact (List.getElem?_eq_some_iff.mp hi).1
      have gi := hG os[i] (List.getElem_mem il)
      obtain ⟨d, ed, hx⟩ := DpAll_at hD hi
      rw [List.getElem?_map, List.getElem?_eq_getElem il] at ed
      cases ed
      have ges : ∀ q ∈ stG (os.take i), SzT 1000 q := fun q hq => by
        rcases stG_mem hq with h | h
        · exact hG q (List.mem_of_mem_take h)
        · exact nomatch h
      have les : (stG (os.take i)).length ≤ i := by
        have := stG_len (os.take i) []
        rw [List.length_take] at this
        have e : (stG (os.take i)).length = ((os.take i).foldl (fun s p => G4.push p s) []).length := rfl
        simp at this
        omega
      have enx : stG (os.take (i + 1)) = G4.push os[i] (stG (os.take i)) := by
        rw [List.take_succ_eq_append_getElem il]
        unfold stG
        rw [List.foldl_append]
        rfl
      rw [enx]
      generalize os[i] = o at gi hx enx ⊢
      generalize stG (os.take i) = st0 at hY ges les enx ⊢
      clear enx
      refine ⟨fun m σ H2 => ∃ (c : Addr) (st : List G4.Pt) (zs : List V) (y3 y4 : Option V), m = st.length ∧ σ = [some (.ref p), some (.ref c), some x, y3, y4] ∧ Same H H2 ∧ H c = none ∧ H2 c = some (.lst zs) ∧ DpAll K H2 zs (st.reverse.map iD) ∧ G4.push o st = G4.push o st0 ∧ (∀ q ∈ st, SzT 1000 q) ∧ st.length ≤ 60, ⟨_, c, st0, ys, y3, y4, rfl, rfl, s1, nc, eD, hY, rfl, ges, by omega⟩, ?_⟩
      clear y3 y4 hY eD nc c
      rintro m σ H2 ⟨c, st, zs, y3, y4, rfl, rfl, s2, nc, eZ, hZ, ep, gs, l6s⟩
      have zl : zs.length = st.length := by rw [DpAll_len hZ, List.length_map, List.length_reverse]
      have fin : ∀ (y3 y4 : Option V), G4.push o st = o :: st → tDrop (tBM K "list" rAppend (tVar 1) (tCons (tVar 2) tNil)) { nx := fun σ H' => ∃ (c : Addr) (y y3 y4 : Option V) (ys : List V), σ = [some (.ref p), some (.ref c), y, y3, y4] ∧ Same H H' ∧ H c = none ∧ H' c = some (.lst ys) ∧ DpAll K H' ys ((G4.push o st0).reverse.map iD), rt := Q } [some (.ref p), some (.ref c), some x, y3, y4] H2 := fun y3 y4 eo => by
        refine ⟨_, rfl, .inl ⟨rfl, _, .inl (.inl eZ)⟩, _, rfl, c, zs, x, rfl, rfl, eZ, small1000 (by omega), c, some x, y3, y4, _, rfl, fun b u e => ?_, nc, upd_same, ?_⟩
        · rw [upd_ne (ne_of_none e nc)]; exact s2 b u e
        · rw [← ep, eo, List.reverse_cons, List.map_append]
          exact DpAll_but eZ (fun b u n e => by rw [upd_ne n]; exact e) (by rw [← List.map_append]; exact noLs_i _) (DpAll_snoc (Dp_same s2 hx) hZ)
      refine ⟨_, rfl, c, zs, rfl, .inl (.inl (.inl eZ)), _, _, rfl, rfl, _, rfl, ?_⟩
      match st, zl, hZ, ep, gs, l6s, fin with
      | [], zl, hZ, ep, gs, l6s, fin =>
        exact itF (decide_eq_false (by rw [zl]; simp)) (fin _ _ rfl)
      | [y1], zl, hZ, ep, gs, l6s, fin =>
        exact itF (decide_eq_false (by rw [zl]; simp)) (fin _ _ rfl)
      | y1 :: x1 :: r, zl, hZ, ep, gs, l6s, fin =>
        have hZ0 := hZ
        rw [List.reverse_cons, List.reverse_cons, List.append_assoc, List.map_append] at hZ
        obtain ⟨ws, v2, v1, ez, hW, hv2, hv1⟩ := dp_snoc2 (a := iD x1) (b := iD y1) hZ
        obtain ⟨a2, a1⟩ := atI_2 ws v2 v1
        rw [← ez] at a1 a2
        have gx1 := gs x1 (by simp)
        have gy1 := gs y1 (by simp)
        refine itT (decide_eq_true (by rw [zl]; simp; omega)) ⟨fun σ' H' => ∃ (c : Addr) (st : List G4.Pt) (zs : List V) (y3 y4 : Option V), st.length < (y1 :: x1 :: r).length ∧ σ' = [some (.ref p), some (.ref c), some x, y3, y4] ∧ Same H H' ∧ H c = none ∧ H' c = some (.lst zs) ∧ DpAll K H' zs (st.reverse.map iD) ∧ G4.push o st = G4.push o st0 ∧ (∀ q ∈ st, SzT 1000 q) ∧ st.length ≤ 60, fun σ' H' ⟨c, st, zs, y3, y4, lt, k⟩ => ⟨_, lt, c, st, zs, y3, y4, rfl, k⟩, ?_⟩
        refine ⟨_, rfl, _, rfl, c, zs, -2, v2, rfl, rfl, .inl (.inl eZ), a2, _, rfl, _, rfl, c, zs, -1, v1, rfl, rfl, .inl (.inl eZ), a1, _, _, rfl, ?_⟩
        have k1 : Cou K H2 v1 (.int y1.1) (.int y1.2) := cou_r hv1
        have k2 : Cou K H2 v2 (.int x1.1) (.int x1.2) := cou_r hv2
        have k0 : Cou K H2 x (.int o.1) (.int o.2) := cou_r (Dp_same s2 hx)
        refine ⟨v1, rfl, _, _, 0, _, rfl, k1, rfl, v2, rfl, _, _, 0, _, rfl, k2, rfl, _, _, rfl, rfl, x, rfl, _, _, 1, _, rfl, k0, rfl, v2, rfl, _, _, 1, _, rfl, k2, rfl, _, _, rfl, rfl, _, _, rfl, rfl, wide_mul (sz_dif gy1.1 gx1.1) (sz_dif gi.2 gx1.2) (by decide) (by decide) (by decide), 
          v1, rfl, _, _, 1, _, rfl, k1, rfl, v2, rfl, _, _, 1, _, rfl, k2, rfl, _, _, rfl, rfl, x, rfl, _, _, 0, _, rfl, k0, rfl, v2, rfl, _, _, 0, _, rfl, k2, rfl, _, _, rfl, rfl, _, _, rfl, rfl, wide_mul (sz_dif gy1.2 gx1.2) (sz_dif gi.1 gx1.1) (by decide) (by decide) (by decide), _, _, rfl, rfl, _, rfl, ite2 (fun e => ?_) (fun e => ?_)⟩
        · have e' := of_decide_eq_true e
          have cc : ¬ G4.cr x1 y1 o ≤ 0 := by unfold G4.cr; omega
          exact fin _ _ (if_neg cc)
        · have e' : ¬ ((y1.2 - x1.2) * (o.1 - x1.1) < (y1.1 - x1.1) * (o.2 - x1.2)) := fun z => e (decide_eq_true z)
          have cc : G4.cr x1 y1 o ≤ 0 := by unfold G4.cr; omega
          have e1 : G4.push o (y1 :: x1 :: r) = G4.push o (x1 :: r) := if_pos cc
          refine ⟨_, rfl, 1, rfl, _, rfl, c, zs, rfl, .inl (.inl eZ), fun r1 nr1 => ?_⟩
          have sr := PB.same_new (o := .lst (cutV zs none (some (-1)))) nr1
          have nr0 : H r1 = none := by
            cases e9 : H r1 with
            | none => rfl
            | some u => rw [s2 _ _ e9] at nr1; cases nr1
          refine ⟨r1, x1 :: r, zs.dropLast, some v2, some v1, by simp, rfl, s2.trans sr, nr0, by rw [← cut_last]; exact upd_same, ?_, by rw [← e1]; exact ep, fun q hq => gs q (List.mem_cons_of_mem _ hq), by simp at l6s ⊢; omega⟩
          have e5 : ((x1 :: r).reverse.map iD) = ((y1 :: x1 :: r).reverse.map iD).dropLast := by
            rw [List.reverse_cons (a := y1), List.map_append]; simp
          rw [e5]
          exact dp_dropLast (DpAll_same sr hZ0)
    rintro σ H' ⟨c, y, y3, y4, ys, rfl, s1, nc, eD, hY⟩
    rw [lx, List.take_length] at hY
    refine ⟨_, rfl, 1, rfl, _, rfl, c, ys, rfl, .inl (.inl eD), fun r1 nr1 => ?_⟩
    have sr := PB.same_new (o := .lst (cutV ys none (some (-1)))) nr1
    have nr0 : H r1 = none := by
      cases e9 : H r1 with
      | none => rfl
      | some u => rw [s1 _ _ e9] at nr1; cases nr1
    refine q _ r1 _ (s1.trans sr) nr0 upd_same ?_
    have z := dp_dropLast (DpAll_same sr hY)
    rw [← cut_last] at z
    rw [List.map_dropLast, ← stG_chain]
    exact z
end
end F3
set_option Elab.async false
set_option linter.all false
set_option maxRecDepth 100000
set_option maxHeartbeats 4000000
set_option exponentiation.threshold 10000
namespace F3
open PySem PySem.Spec PyProof.Rows L2 FX RM PB KD KS
open PySem.W (dataLe keyToks keyToksAll)
open G4 (Pt lx)
/-- strictly ascending lists of the same points are the same -/
theorem asc_eq : ∀ {l m : List Pt}, l.Pairwise lx → m.Pairwise lx → (∀ x, x ∈ l ↔ x ∈ m) → l = m
  | [], [], _, _, _ => rfl
  | [], b :: m, _, _, h => nomatch (h b).mpr (List.mem_cons_self ..)
  | a :: l, [], _, _, h => nomatch (h a).mp (List.mem_cons_self ..)
  | a :: l, b :: m, hl, hm, h => by
    rw [List.pairwise_cons] at hl hm
    have ab : a = b := by
      rcases List.mem_cons.mp ((h a).mp (List.mem_cons_self ..)) with e | e
      · exact e
      · rcases List.mem_cons.mp ((h b).mpr (List.mem_cons_self ..)) with e2 | e2
        · exact e2.symm
        · exact absurd (G4.lx_trans (hm.1 a e) (hl.1 b e2)) (G4.lx_irrefl b)
    subst ab
    rw [asc_eq hl.2 hm.2 fun x => ⟨fun hx => ?_, fun hx => ?_⟩]
    · rcases List.mem_cons.mp ((h x).mp (List.mem_cons_of_mem _ hx)) with e | e
      · subst e; exact absurd (hl.1 x hx) (G4.lx_irrefl x)
      · exact e
    · rcases List.mem_cons.mp ((h x).mpr (List.mem_cons_of_mem _ hx)) with e | e
      · subst e; exact absurd (hm.1 x hx) (G4.lx_irrefl x)
      · exact e
/-- equals kept once -/
def dd : List Pt → List Pt → List Pt
  | acc, [] => acc
  | acc, x :: xs => dd (if acc = [] ∨ acc.getLast? ≠ some x then acc ++ [x] else acc) xs
def leP (a b : Pt) : Prop := a = b ∨ lx a b
theorem dd_ok : ∀ {xs acc : List Pt}, acc.Pairwise lx → xs.Pairwise leP → (∀ a ∈ acc, ∀ x ∈ xs, leP a x) → (dd acc xs).Pairwise lx ∧ ∀ q, q ∈ dd acc xs ↔ q ∈ acc ∨ q ∈ xs
  | [], acc, ha, _, _ => ⟨ha, fun q => by simp [dd]⟩
  | x :: xs, acc, ha, hx, h => by
    rw [List.pairwise_cons] at hx
    unfold dd
    split
    · rename_i c
      have hl : ∀ a ∈ acc, lx a x := fun a hm => by
        rcases h a hm x (List.mem_cons_self ..) with e | e
        · subst e
          rcases c with c | c
          · rw [c] at hm; cases hm
          · obtain ⟨init, z, ez⟩ : ∃ init z, acc = init ++ [z] := ⟨acc.dropLast, acc.getLast (List.ne_nil_of_mem hm), (List.dropLast_concat_getLast (List.ne_nil_of_mem hm)).symm⟩
            rw [ez] at hm ha c
            rw [List.pairwise_append] at ha
            rcases List.mem_append.mp hm with hm | hm
            · rcases h z (by rw [ez]; simp) a (List.mem_cons_self ..) with e | e
              · rw [e] at c; simp at c
              · exact absurd (G4.lx_trans (ha.2.2 a hm z (by simp)) e) (G4.lx_irrefl a)
            · rw [List.mem_singleton.mp hm] at c; simp at c
        · exact e
      have ha2 : (acc ++ [x]).Pairwise lx := List.pairwise_append.mpr ⟨ha, List.pairwise_singleton _ _, fun a hm b hb => by rw [List.mem_singleton.mp hb]; exact hl a hm⟩
      obtain ⟨r1, r2⟩ := dd_ok (xs := xs) ha2 hx.2 fun a hm y hy => by
        rcases List.mem_append.mp hm with hm | hm
        · exact h a hm y (List.mem_cons_of_mem _ hy)
        · rw [List.mem_singleton.mp hm]; exact hx.1 y hy
      refine ⟨r1, fun q => (r2 q).trans ?_⟩
      simp [or_assoc]
    · rename_i c
      obtain ⟨r1, r2⟩ := dd_ok (xs := xs) ha hx.2 fun a hm y hy => h a hm y (List.mem_cons_of_mem _ hy)
      refine ⟨r1, fun q => (r2 q).trans ⟨fun z => z.elim .inl fun z => .inr (List.mem_cons_of_mem _ z), fun z => ?_⟩⟩
      rcases z with z | z
      · exact .inl z
      · rcases List.mem_cons.mp z with rfl | z
        · refine .inl ?_
          have : acc.getLast? = some q := by
            cases e : acc.getLast? with
            | none => exact absurd (.inl (List.getLast?_eq_none_iff.mp e)) c
            | some u => 
              by_cases k : u = q
              · rw [k]
              · exact absurd (.inr (by rw [e]; exact fun z => k (Option.some.inj z))) c
          exact List.mem_of_getLast? this
        · exact .inr z
theorem dd_len : ∀ (xs acc : List Pt), (dd acc xs).length ≤ acc.length + xs.length
  | [], acc => Nat.le_refl _
  | x :: xs, acc => by
    unfold dd
    have := dd_len xs (if acc = [] ∨ acc.getLast? ≠ some x then acc ++ [x] else acc)
    split at this
    · rw [if_pos (by assumption)]; simp at this ⊢; omega
    · rw [if_neg (by assumption)]; simp at this ⊢; omega
/-- the sorted whole points -/
theorem toks_i (p : Pt) : keyToks (iD p) = .inl 1 :: .inl p.1 :: .inl 1 :: .inl p.2 :: (keyToks (iD p)).drop 4 := by
  simp [iD, keyToks, keyToksAll]
theorem toks_i' (p : Pt) : ∃ l, keyToks (iD p) = .inl 1 :: .inl p.1 :: .inl 1 :: .inl p.2 :: l := ⟨_, toks_i p⟩
theorem iD_le {a b : Pt} (h : (!PyProof.Rows.lexLt PyProof.Rows.itemOrd (keyToks (iD b)) (keyToks (iD a))) = true) : leP a b := by
  obtain ⟨la, ea⟩ := toks_i' a
  obtain ⟨lb, eb⟩ := toks_i' b
  rw [ea, eb, PyProof.Rows.lex_self] at h
  have q1 : ¬ b.1 < a.1 := fun z => by rw [lex1 _ _ z] at h; cases h
  rcases Int.lt_trichotomy a.1 b.1 with c | c | c
  · exact .inr (.inl c)
  · rw [c, PyProof.Rows.lex_self, PyProof.Rows.lex_self] at h
    have q2 : ¬ b.2 < a.2 := fun z => by rw [lex1 _ _ z] at h; cases h
    rcases Int.lt_trichotomy a.2 b.2 with d | d | d
    · exact .inr (.inr ⟨c, d⟩)
    · exact .inl (Prod.ext c d)
    · exact absurd d q2
  · exact absurd c q1
def getT : PyData → Pt
  | .tuple [.int a, .int b] => (a, b)
  | _ => (0, 0)
theorem alike_i (us : List Pt) : PySem.W.AllAlike (us.map iD) := fun x hx y hy => by
  obtain ⟨a, _, rfl⟩ := List.mem_map.mp hx
  obtain ⟨b, _, rfl⟩ := List.mem_map.mp hy
  simp [iD, PySem.W.alike, PySem.W.alikeAll]
theorem sortable_i (us : List Pt) : PySem.W.Sortable (us.map iD) := .inl fun x hx => by
  obtain ⟨a, _, rfl⟩ := List.mem_map.mp hx
  exact ⟨_, _, rfl⟩
theorem depth_i (us : List Pt) : ∀ d ∈ us.map iD, d.depth ≤ 60 := fun x hx => by
  obtain ⟨a, _, rfl⟩ := List.mem_map.mp hx
  simp [iD, PyData.depth, PyData.depthAll]
theorem sorted_i {us : List Pt} {ps : List (V × PyData)} {xs : List V} (hl : xs.length = us.length) (pm : ps.Perm (xs.zip (us.map iD))) (pw : ps.Pairwise fun x y => dataLe false Prod.snd x y = true) :
    ∃ ss : List Pt, ss.Pairwise leP ∧ (∀ d, d ∈ ss ↔ d ∈ us) ∧ ss.length = us.length ∧ ps.map Prod.snd = ss.map iD := by
  have p2 : (ps.map Prod.snd).Perm (us.map iD) := by
    have := pm.map Prod.snd
    rwa [List.map_snd_zip (by rw [List.length_map]; omega)] at this
  have p3 : ((ps.map Prod.snd).map getT).Perm us := by
    have := p2.map getT
    rw [List.map_map (f := iD)] at this
    rwa [show getT ∘ iD = id from rfl, List.map_id] at this
  have e4 : ps.map Prod.snd = ((ps.map Prod.snd).map getT).map iD := by
    rw [List.map_map]
    refine (List.map_id _).symm.trans (List.map_congr_left fun x hx => ?_)
    obtain ⟨d, _, rfl⟩ := List.mem_map.mp (p2.mem_iff.mp hx)
    rfl
  refine ⟨(ps.map Prod.snd).map getT, ?_, fun d => p3.mem_iff, p3.length_eq, e4⟩
  have pw2 : (ps.map Prod.snd).Pairwise fun x y => (!PyProof.Rows.lexLt PyProof.Rows.itemOrd (keyToks y) (keyToks x)) = true := by
    rw [List.pairwise_map]
    exact pw.imp fun h => h
  rw [e4, List.pairwise_map] at pw2
  exact pw2.imp fun h => iD_le h
/-- what the law reckons: the sorted points, each once -/
theorem dd_os {ps os : List Pl} {ss : List Pt} {N : Int} (h : Srt ps os) (n0 : 0 < N) (hb : ∀ p ∈ ps, Bot N p) (hs : ss.Pairwise leP) (hm : ∀ d, d ∈ ss ↔ d ∈ ps.map (sc N)) : dd [] ss = os.map (sc N) := by
  obtain ⟨r1, r2⟩ := dd_ok (xs := ss) (acc := []) .nil hs (fun a ha => nomatch ha)
  refine asc_eq r1 (h.asc n0 hb) fun q => ?_
  rw [r2 q, List.mem_map]
  constructor
  · rintro (z | z)
    · cases z
    · obtain ⟨p, hp, e⟩ := List.mem_map.mp ((hm q).mp z)
      exact ⟨p, (h.m p).mpr hp, e⟩
  · rintro ⟨p, hp, e⟩
    exact .inr ((hm q).mpr (List.mem_map.mpr ⟨p, (h.m p).mp hp, e⟩))
end F3
set_option Elab.async false
set_option linter.all false
set_option maxRecDepth 100000
set_option maxHeartbeats 4000000
set_option exponentiation.threshold 10000
namespace F3
open PySem PySem.Spec PyProof.Rows L2 FX RM PB KD KS
theorem for_seqR {K : PySem.W.Frag} {tl : TE} {g : TG} {tb : TS} {D : Ends} {σ : L2.St} {H : Hp} (facts : Addr → List V → Hp → Prop) (hj : ∀ R : VK, (∀ a xs F, facts a xs F → R (.ref a) F) → tl σ H R)
    (hk : ∀ a xs F, facts a xs F → SqL K F a xs ∧ ∃ Pv : Nat → L2.St → Hp → Prop, Pv 0 σ F ∧ (∀ i σ' H', Pv i σ' H' → SqL K H' a xs) ∧ (∀ i x σ' H', xs[i]? = some x → Pv i σ' H' → g x σ' H' fun σ2 H2 => tb { D with nx := Pv (i + 1), ct := Pv (i + 1), bk := D.nx } σ2 H2) ∧ (∀ σ' H', Pv xs.length σ' H' → D.nx σ' H')) : tFor (iList K tl) g tb D σ H := by
  refine hj _ fun a xs F hf => ?_
  obtain ⟨h0, Pv, p0, hS, hs, hd⟩ := hk a xs F hf
  exact ⟨a, rfl, ⟨_, h0⟩, for_list (K := K) (a := a) (xs := xs) Pv p0 (fun i σ' H' _ h => hS i σ' H' h) hs hd⟩
/-- [e for k in range(i, j, c)], each e some data that holds no list -/
theorem lc_rng3 {K : PySem.W.Frag} {ta : TA} {g : TG} {te : TE} {vs : List Nat} {σ : L2.St} {H : Hp} {Q : VK} (i j c : Int) (n : Nat) (hr : RgC i j c n) (hn : n ≤ 1000) (hta : ∀ R : List V → Hp → Prop, R [.int i, .int j, .int c] H → ta σ H R) (f : Nat → PyData) (hf : ∀ i, noL (f i) = true)
    (hs : ∀ (k : Nat) F (R : V → Hp → Prop), k < n → Same H F → (∀ y F4, Same F F4 → Dp K F4 y (f k) → R y F4) → g (.int (i + (k : Nat) * c)) (wipe σ vs) F fun σ2 H2 => wipe σ2 vs = wipe σ vs ∧ te σ2 H2 R)
    (hd : ∀ D H' ys, Same H H' → H D = none → H' D = some (.lst ys) → DpAll K H' ys ((List.range n).map f) → Q (.ref D) H') : tLc (iRng3 ta) g tYes te vs σ H Q := by
  refine hta _ ⟨i, j, c, n, rfl, hr, fun D nD => ?_⟩
  refine lc_it walk_rangeC (fun k H' => Same H H' ∧ ∃ ys, H' D = some (.lst ys) ∧ ys.length = k ∧ DpAll K H' ys ((List.range k).map f)) ⟨PB.same_new nD, [], upd_same, rfl, .nil⟩ (fun _ _ _ _ => trivial) ?_ ?_
  · rintro k x H1 H2 kn ⟨s1, ys, eD, yl, hy⟩ ⟨rfl, rfl⟩
    refine hs k _ _ kn s1 fun y H4 s4 h4 => ⟨ys, s4 _ _ eD, small1000 (by omega), ?_, ys ++ [y], upd_same, by rw [List.length_append, yl]; rfl, ?_⟩
    · intro b o e
      rw [upd_ne (ne_of_none e nD)]; exact s4 _ _ (s1 _ _ e)
    · rw [List.range_succ, List.map_append]
      refine DpAll_but (s4 _ _ eD) (fun b o n e => by rw [upd_ne n]; exact e) ?_ (DpAll_snoc h4 (DpAll_same s4 hy))
      refine noLs_all fun d hd => ?_
      rcases List.mem_append.mp hd with hd | hd
      · obtain ⟨z, _, rfl⟩ := List.mem_map.mp hd; exact hf z
      · rw [List.mem_singleton.mp hd]; exact hf k
  · rintro H' ⟨s1, ys, eD, yl, hy⟩
    exact hd D H' ys s1 nD eD hy
/-- data that stays where a list grows -/
theorem Dp_put {K : PySem.W.Frag} {H H' : Hp} {p : Addr} {ys : List V} (s : ∀ b o, b ≠ p → H b = some o → H' b = some o) (hp : H p = some (.lst ys)) : ∀ {v : V} {d : PyData}, noL d = true → Dp K H v d → Dp K H' v d := fun n h => Dp_but hp s n h
theorem dd_snoc : ∀ (l acc : List G4.Pt) (x : G4.Pt), dd acc (l ++ [x]) = if dd acc l = [] ∨ (dd acc l).getLast? ≠ some x then dd acc l ++ [x] else dd acc l
  | [], acc, x => rfl
  | y :: l, acc, x => dd_snoc l _ x
theorem rg_size {n : Nat} : Builtin.Range.rangeSize ((n : Int) - 1) (-1) (-1) = n := by
  unfold Builtin.Range.rangeSize
  rw [if_neg (by decide)]
  by_cases h : (n : Int) - 1 > -1
  · rw [if_pos h]
    have e : ((n : Int) - 1 - -1 - 1) / - -1 = (n : Int) - 1 := by
      rw [show (- -1 : Int) = 1 by decide, Int.ediv_one]; omega
    rw [e]; omega
  · rw [if_neg h]; omega
theorem rg_down {n : Nat} (h : n ≤ 1000) : RgC ((n : Int) - 1) (-1) (-1) n := by
  refine ⟨by decide, by decide, ?_, rg_size⟩
  unfold Builtin.Range.small
  rw [rg_size]
  unfold Builtin.Range.rangeFitsLong
  simp
  omega
theorem rev_get {α β : Type} (l : List α) (z : α) {n : Nat} (hn : n = l.length) {g : α → β} : (List.range n).map (fun k => g (l.getD (n - 1 - k) z)) = l.reverse.map g := by
  subst hn
  apply List.ext_getElem
  · simp
  · intro i h1 h2
    simp at h1 h2
    have e : l.length - 1 - i < l.length := by omega
    simp [List.getD_eq_getElem?_getD, e]
theorem norm_eq {t N : Int} {r : Rt} (n0 : 0 < N) (hr : IsRat r) (e : t * r.2 = r.1 * N) : norm t N = r := by
  have h := rep_norm (t := t) n0
  refine rat_eq h.1 hr ?_
  have h3 := h.2.2
  generalize norm t N = z at h3 ⊢
  have k : (z.1 * r.2) * N = (r.1 * z.2) * N := by grind
  exact Int.eq_of_mul_eq_mul_right (by omega) k
theorem bot_lcm {c : Nat} : ∀ {l : List Pl}, (∀ q ∈ l, RatP q) → ∀ q ∈ l, q.1.2.natAbs ∣ lcmB c l ∧ q.2.2.natAbs ∣ lcmB c l := by
  intro l h q hq
  obtain ⟨a, b, rfl⟩ := List.append_of_mem hq
  have up : ∀ (m : List Pl) (d : Nat), d ∣ lcmB d m := fun m => by
    induction m with
    | nil => exact fun d => Nat.dvd_refl _
    | cons z m ih => exact fun d => Nat.dvd_trans (Nat.dvd_lcm_left _ _) (ih _)
  rw [show a ++ q :: b = (a ++ [q]) ++ b by simp, lcmB_app, lcmB_snoc]
  have k := up b ((lcmB c a).lcm (q.1.2.natAbs.lcm q.2.2.natAbs))
  exact ⟨Nat.dvd_trans (Nat.dvd_trans (Nat.dvd_lcm_left _ _) (Nat.dvd_lcm_right _ _)) k, Nat.dvd_trans (Nat.dvd_trans (Nat.dvd_lcm_right _ _) (Nat.dvd_lcm_right _ _)) k⟩
theorem lcmB_pos {l : List Pl} (h : ∀ q ∈ l, RatP q) : ∀ {c : Nat}, 0 < c → 0 < lcmB c l := by
  induction l with
  | nil => exact fun h => h
  | cons q l ih =>
    intro c c0
    have hq := h q (List.mem_cons_self ..)
    have a := hq.1.1
    have b := hq.2.1
    exact ih (fun z hz => h z (List.mem_cons_of_mem _ hz)) (Nat.lcm_pos c0 (Nat.lcm_pos (by omega) (by omega)))
theorem lcm_bot {l : List Pl} (h : ∀ q ∈ l, RatP q) : ∀ q ∈ l, Bot (lcmB 1 l : Nat) q := fun q hq => by
  obtain ⟨a, b⟩ := bot_lcm (c := 1) h q hq
  exact ⟨h q hq, Int.natAbs_dvd_natAbs.mp (by rw [Int.natAbs_natCast]; exact a), Int.natAbs_dvd_natAbs.mp (by rw [Int.natAbs_natCast]; exact b)⟩
def spHullL (K : PySem.W.Frag) : Sp := fun vs H Q _ => ∃ (p : Addr) (xs : List V) (ps os : List Pl) (M : Nat), vs = [.ref p] ∧ Rows K H p xs ps ∧ ps ≠ [] ∧ ps.length ≤ 60 ∧ 0 < M ∧ M < 2 ^ 200 ∧ (∀ q ∈ ps, GoodP 400 q ∧ BotM M q) ∧ Srt ps os ∧ ∀ H' z, Same H H' → Dp K H' z (.tuple ((hullP os).map pD)) → Q z H'
section
variable {P : Program} {w : World} {K : PySem.W.Frag} {mg : Str → Option Value} {base : Heap}
abbrev s_law_hull : Stmt := topS 46
theorem sc_law_hull : FnScope ["_law_places", "_law_common", "_law_rows", "_law_row", "_law_k"] ["_law_places"] (defScope s_law_hull) := ⟨rfl, rfl, rfl, by decide +kernel, rfl, by decide +kernel, by decide +kernel⟩
theorem ok_law_hull (T : Txt K mg "_law_hull" s_law_hull) (G_law_bottoms : DefOk P w K mg base CX0 "_law_bottoms" 2 ["_law_places"] (spBots K)) (G_law_wholes : DefOk P w K mg base CX0 "_law_wholes" 1 ["_law_places", "_law_common"] (spWholesL K)) (G_law_half : DefOk P w K mg base CX0 "_law_half" 1 ["_law_rows"] (spHalf2 K)) (G_law_ratio : DefOk P w K mg base CX0 "_law_ratio" 2 ["_law_top", "_law_bottom"] (spLow K)) (mlen : mg "len" = none) (mrange : mg "range" = none) (mtuple : mg "tuple" = none) (msorted : mg "sorted" = none) : DefOk P w K mg base CX0 "_law_hull" 3 ["_law_places"] (spHullL K) := by
  obtain ⟨f, fd, F, gf⟩ := T
  refine ⟨f, fd, gf, F.kp, F.binds (fun _ _ _ _ _ _ us hl => match us, hl with | [_], _ => rfl), F.ok sc_law_hull (fun vs H Q E h => ?_) (fun cdv A outer s H vs Q E hr h => ?_)⟩
  · obtain ⟨p, xs, ps, os, M, rfl, _⟩ := h; rfl
  · obtain ⟨p, xs, ps, os, M, rfl, hR, pn, l6, M0, MZ, hg, hO, q⟩ := h
    refine ⟨_, (pss_cons (ps_set (i := 1) sc_law_hull.nd rfl (.inr rfl) (pe_def G_law_bottoms (hr.mono (by decide)) (by rfl) (pa_cons (pv 0) pa_nil))) (pss_cons (ps_set (i := 2) sc_law_hull.nd rfl (.inr rfl) (pe_lst pa_nil)) (pss_cons (ps_for PassesOwn.never rfl (pi_list (pe_callB (cr_sortDat (Room.u65 hr)) (by rfl) msorted (by decide +kernel) (pa_cons (pe_def G_law_wholes (hr.mono (by decide)) (by rfl) (pa_cons (pv 0) (pa_cons (pv 1) pa_nil))) pa_nil))) (pg_name (i := 3) sc_law_hull.nd rfl (.inl rfl)) (pss_one (ps_if (PW.pt (pw_or (pt_not (pt_truth (pv 2) (fun _ => rfl))) (pw_or1 (pt_cmpR (op_neD hr.units) (pe_ix ix_list (pv 2) (pe_un un_neg pe_int) (fun _ _ => rfl)) (pv 3) (nomark _))))) (pss_one (ps_expr (pe_bm PySem.F.plainAttrs_list PySem.F.slot_list_append PySem.F.type_list_append mt_append (pv 2) (pa_cons (pv 3) pa_nil)))) pss_nil))) (pss_cons (ps_if (pt_cmpR op_gt (pe_callB call_len_seq (by rfl) mlen PySem.boot_len (pa_cons (pv 2) pa_nil)) pe_int (nomark _)) (pss_one (ps_set (i := 2) sc_law_hull.nd rfl (.inr rfl) (pe_op op_cat (pe_def G_law_half (hr.mono (by decide)) (by rfl) (pa_cons (pv 2) pa_nil)) (pe_def G_law_half (hr.mono (by decide)) (by rfl) (pa_cons (pe_lc (own := [("_law_k", 4)]) rfl sc_law_hull.nd (pi_range3 (by rfl) mrange (pa_cons (pe_op op_sub (pe_callB call_len_seq (by rfl) mlen PySem.boot_len (pa_cons (pv 2) pa_nil)) pe_int) (pa_cons (pe_un un_neg pe_int) (pa_cons (pe_un un_neg pe_int) pa_nil)))) (blkOk_by (N := ["_law_places", "_law_common", "_law_rows", "_law_row", "_law_k"]) (sc := defScope s_law_hull) (by decide +kernel)) (fun _ _ _ _ _ => (pg_name (i := 4) sc_law_hull.nd rfl (.inl rfl))) (fun _ _ _ _ _ => pts_nil) (fun _ _ _ _ _ => (pe_ix (ix_listK K) (pv 2) (pv 4) (fun _ _ => rfl)))) pa_nil))))) pss_nil) (pss_one (ps_ret (pe_callTy call_tuple_of (by rfl) mtuple (by decide +kernel) (pa_cons (pe_lc (own := [("_law_row", 3)]) rfl sc_law_hull.nd (pi_seq (pv 2)) (blkOk_by (N := ["_law_places", "_law_common", "_law_rows", "_law_row", "_law_k"]) (sc := defScope s_law_hull) (by decide +kernel)) (fun _ _ _ _ _ => (pg_name (i := 3) sc_law_hull.nd rfl (.inl rfl))) (fun _ _ _ _ _ => pts_nil) (fun _ _ _ _ _ => (pe_tup (pa_cons (pe_def G_law_ratio (hr.mono (by decide)) (by rfl) (pa_cons (pe_ix (ix_itK K) (pv 3) pe_int (fun _ _ => rfl)) (pa_cons (pv 1) pa_nil))) (pa_cons (pe_def G_law_ratio (hr.mono (by decide)) (by rfl) (pa_cons (pe_ix (ix_itK K) (pv 3) pe_int (fun _ _ => rfl)) (pa_cons (pv 1) pa_nil))) pa_nil))))) pa_nil)))))))), ?_⟩
    refine ⟨.ref p, rfl, p, xs, ps, M, rfl, hR, l6, M0, MZ, hg, fun H1 s1 => ?_⟩
    have hr' : ∀ r ∈ ps, RatP r := fun r hr => (hg r hr).1.1
    have d0 : lcmB 1 ps ∣ M := lcmB_dvd (Nat.one_dvd _) fun r hr => (hg r hr).2
    have zN := sz_dvd d0 M0 MZ
    have n0 : (0 : Int) < (lcmB 1 ps : Nat) := by have := lcmB_pos hr' (c := 1) (by decide); omega
    have hB := lcm_bot hr'
    generalize hN : ((lcmB 1 ps : Nat) : Int) = N at zN n0 hB
    have hZ : ∀ r ∈ ps, SzT 1000 (sc N r) := fun r hr => by
      obtain ⟨g1, g2⟩ := (hg r hr).1.2
      have dv : ∀ {b : Int}, Sz 200 (N / b) := fun {b} => Nat.lt_of_le_of_lt (Int.natAbs_ediv_le_natAbs _ _) zN
      exact ⟨sz_mono (sz_mul g1.1 dv) (by decide), sz_mono (sz_mul g2.1 dv) (by decide)⟩
    refine ⟨(by show 0 ≤ sizeLine; decide), fun D nD => ?_⟩
    have sD := PB.same_new (o := .lst []) nD
    show tSeq _ _ _ [some (.ref p), some (.int N), some (.ref D), none, none] (upd H1 D (.lst []))
    dsimp only [tSeq]
    refine for_seqR (K := K) (fun a zs F => ∃ ss : List G4.Pt, Same (upd H1 D (.lst [])) F ∧ a ≠ D ∧ F a = some (.lst zs) ∧ DpAll K F zs (ss.map iD) ∧ ss.Pairwise leP ∧ (∀ d, d ∈ ss ↔ d ∈ ps.map (sc N)) ∧ ss.length = ps.length)
      (fun R hR2 => ?_) (fun a zs F ⟨ss, s2, aD, eA, hA, hp, hm, hl⟩ => ⟨.inl (.inl eA), fun i σ H' => ∃ (y : Option V) (ys : List V), σ = [some (.ref p), some (.int N), some (.ref D), y, none] ∧ Same H1 H' ∧ (∀ b o, b ≠ D → F b = some o → H' b = some o) ∧ H' D = some (.lst ys) ∧ DpAll K H' ys ((dd [] (ss.take i)).map iD), ?_, ?_, ?_, ?_⟩)
    · refine ⟨.ref p, rfl, _, rfl, p, xs, ps, N, rfl, hR.same (s1.trans sD), l6, zN, fun r hr => (hg r hr).1, fun F' W ws s3 nW eW hW => ?_⟩
      have e9 : (ps.map fun q => iD (sc N q)) = (ps.map (sc N)).map iD := by rw [List.map_map]; rfl
      rw [e9] at hW
      have wl : ws.length = (ps.map (sc N)).length := by rw [DpAll_len hW, List.length_map]
      refine ⟨W, ws, _, rfl, .inl (.inl eW), hW, alike_i _, sortable_i _, depth_i _, fun qs b pm pw nb => ?_⟩
      obtain ⟨ss, o1, o2, o3, o4⟩ := sorted_i wl pm pw
      have sb := PB.same_new (o := .lst (qs.map Prod.fst)) nb
      refine hR2 b (qs.map Prod.fst) _ ⟨ss, s3.trans sb, (fun z => by rw [z, s3 _ _ upd_same] at nb; cases nb), upd_same, ?_, o1, o2, by rw [o3, List.length_map]⟩
      rw [← o4]
      exact dpall_of fun z hz => Dp_same sb (zip_dp hW z (pm.mem_iff.mp hz))
    · exact ⟨none, [], rfl, fun b o e => s2 _ _ (sD b o e), fun b o _ e => e, s2 _ _ upd_same, .nil⟩
    · rintro i σ H' ⟨y, ys, rfl, _, k, _⟩
      exact .inl (.inl (k _ _ aD eA))
    · rintro i x σ H' hx ⟨y, ys, rfl, s3, k3, eD, hY⟩
      have il : i < ss.length := by have := (List.getElem?_eq_some_iff.mp hx).1; have e := DpAll_len hA; rw [List.length_map] at e; omega
      obtain ⟨d, ed, hd0⟩ := DpAll_at hA hx
      rw [List.getElem?_map, List.getElem?_eq_getElem il] at ed
      cases ed
      have hd : Dp K H' x (iD ss[i]) := Dp_put k3 (s2 _ _ upd_same) (noL_i _) hd0
      dsimp only
      rw [List.take_succ_eq_append_getElem il, dd_snoc]
      have dl : (dd [] (ss.take i)).length ≤ 60 := by have := dd_len (ss.take i) []; rw [List.length_take] at this; simp at this; omega
      generalize ss[i] = e at hd ⊢
      generalize dd [] (ss.take i) = r at hY dl ⊢
      have yl : ys.length = r.length := by rw [DpAll_len hY, List.length_map]
      have app : ∀ (σ2 : Option V), tDrop (tBM K "list" rAppend (tVar 2) (tCons (tVar 3) tNil)) { nx := fun σ H' => ∃ (y : Option V) (ys : List V), σ = [some (.ref p), some (.int N), some (.ref D), y, none] ∧ Same H1 H' ∧ (∀ b o, b ≠ D → F b = some o → H' b = some o) ∧ H' D = some (.lst ys) ∧ DpAll K H' ys ((r ++ [e]).map iD), rt := Q } [some (.ref p), some (.int N), some (.ref D), some x, none] H' := fun _ => by
        refine ⟨_, rfl, .inl ⟨rfl, _, .inl (.inl eD)⟩, _, rfl, D, ys, x, rfl, rfl, eD, small1000 (by omega), some x, _, rfl, fun b u e => ?_, fun b u n e => ?_, upd_same, ?_⟩
        · rw [upd_ne (ne_of_none e nD)]; exact s3 b u e
        · rw [upd_ne n]; exact k3 b u n e
        · rw [List.map_append]
          exact DpAll_but eD (fun b u n e => by rw [upd_ne n]; exact e) (by rw [← List.map_append]; exact noLs_i _) (DpAll_snoc hd hY)
      have stay : (∃ (y : Option V) (ys : List V), [some (.ref p), some (.int N), some (.ref D), some x, none] = [some (V.ref p), some (V.int N), some (V.ref D), y, none] ∧ Same H1 H' ∧ (∀ b o, b ≠ D → F b = some o → H' b = some o) ∧ H' D = some (.lst ys) ∧ DpAll K H' ys (r.map iD)) := ⟨some x, ys, rfl, s3, k3, eD, hY⟩
      refine ⟨_, rfl, _, .inl ⟨ys, .inl (.inl eD), rfl⟩, ?_⟩
      rcases nil_or_snoc r with rfl | ⟨init, z, rfl⟩
      · cases hY
        rw [if_pos (show ([] : List G4.Pt) = [] ∨ ([] : List G4.Pt).getLast? ≠ some e from .inl rfl)]
        exact itT rfl (itT rfl (app none))
      · rw [List.map_append] at hY
        obtain ⟨us, v, rfl, hv⟩ : ∃ us v, ys = us ++ [v] ∧ Dp K H' v (iD z) := by
          have e1 : ys ≠ [] := fun e => by rw [e] at yl; simp at yl
          refine ⟨ys.dropLast, ys.getLast e1, (List.dropLast_concat_getLast e1).symm, ?_⟩
          have e2 : ys[init.length]? = some (ys.getLast e1) := by
            rw [List.getLast_eq_getElem, List.getElem?_eq_getElem (by rw [yl]; simp)]
            congr 1
            simp only [yl, List.length_append, List.length_singleton, Nat.add_sub_cancel]
          obtain ⟨d, ed, hd2⟩ := DpAll_at hY e2
          rw [List.getElem?_append_right (by simp)] at ed
          simp at ed
          rw [ed]; exact hd2
        have at1 : atI (us ++ [v]) (-1) = some v := by
          have hl : (us ++ [v]).length = us.length + 1 := by simp
          have e1 : ixN (us ++ [v]).length (-1) = some us.length := by
            unfold ixN
            rw [if_neg (by omega), hl, if_pos (by omega)]
            congr 1; omega
          unfold atI
          rw [e1]
          show (us ++ [v])[us.length]? = some v
          rw [List.getElem?_append_right (Nat.le_refl _), Nat.sub_self]; rfl
        have ni : (!(us ++ [v]).isEmpty) = true := by cases us <;> rfl
        refine itF (by rw [ni]; rfl) ?_
        refine ⟨_, rfl, _, rfl, D, _, -1, v, rfl, rfl, .inl (.inl eD), at1, _, rfl, _, _, hv, hd, (shaped_r z).1, (shaped_r e).1, _, rfl, ?_⟩
        have ez : PyData.eqv (iD z) (iD e) = decide (z = e) := eqv_rt z e
        rw [ez]
        by_cases c : z = e
        · subst c
          rw [if_neg (by simp)]
          exact itF (by rw [decide_eq_true rfl]; rfl) stay
        · rw [if_pos (.inr (by simp; exact c))]
          exact itT (by rw [decide_eq_false c]; rfl) (app none)
    · rintro σ H' ⟨y, ys, rfl, s3, k3, eD, hY⟩
      have zl : zs.length = ss.length := by rw [DpAll_len hA, List.length_map]
      rw [zl, List.take_length, dd_os hO n0 hB hp hm] at hY
      have yl : ys.length = os.length := by rw [DpAll_len hY, List.length_map, List.length_map]
      have ol : os.length ≤ 60 := by
        have a := dd_len ss []
        rw [dd_os hO n0 hB hp hm, List.length_map] at a
        simp at a; omega
      have on : os ≠ [] := fun z => by
        obtain ⟨u, hu⟩ := List.exists_mem_of_ne_nil ps pn
        have := (hO.m u).mpr hu
        rw [z] at this; cases this
      have o0 : os.length ≠ 0 := fun z => on (List.length_eq_zero_iff.mp z)
      have hBo : ∀ u ∈ os, Bot N u := fun u hu => hB u ((hO.m u).mp hu)
      refine ⟨_, rfl, D, ys, rfl, .inl (.inl (.inl eD)), _, _, rfl, rfl, _, rfl, ?_⟩
      by_cases l1 : os.length = 1
      · refine itF (decide_eq_false (by rw [yl, l1]; decide)) ?_
        have eh : hullP os = os := if_pos l1
        have hA : DpAll K H' ys (((hullP os).map (sc N)).map iD) := by rw [eh]; exact hY
        have sE := s1.trans s3
        have eE := eD
        dsimp only [tNext, tRet, tCB, tCons, tNil]
        have eL : ys.length = (hullP os).length := by rw [DpAll_len hA, List.length_map, List.length_map]
        refine lc_map (K := K) (a := D) (xs := ys) (j := 2) (fun i => pD ((hullP os).getD i zP)) (fun i => noL_pp _) (by rfl) (.inl (.inl (.inl eE))) (small1000 (by have := hull_len os; omega)) (fun i x G R ex sx hR2 => ?_) fun D2 G ws s9 n9 e9 h9 => ?_
        · obtain ⟨c, ec⟩ : ∃ c, (hullP os)[i]? = some c := ⟨_, List.getElem?_eq_getElem (by rw [← eL]; exact (List.getElem?_eq_some_iff.mp ex).1)⟩
          have eg : (hullP os).getD i zP = c := by rw [List.getD_eq_getElem?_getD, ec]; rfl
          (try dsimp only at hR2)
          rw [eg] at hR2
          obtain ⟨d, ed, hd⟩ := DpAll_at hA ex
          rw [List.getElem?_map, List.getElem?_map, ec] at ed
          cases ed
          have cm : c ∈ ps := (hO.m c).mp (hull_sub c (List.mem_of_getElem? ec))
          have hc : Cou K G x (.int (sc N c).1) (.int (sc N c).2) := cou_r (Dp_same sx hd)
          have bc := hB c cm
          have zc := hZ c cm
          have zN4 := sz_mono zN (by decide : 200 ≤ 2000)
          refine ⟨rfl, x, rfl, _, _, 0, _, rfl, hc, rfl, _, rfl, _, _, rfl, n0, sz_mono zc.1 (by decide), sz_mono zN (by decide), fun G1 v1 t1 hv1 => ?_⟩
          refine ⟨x, rfl, _, _, 1, _, rfl, hc.same t1, rfl, _, rfl, _, _, rfl, n0, sz_mono zc.2 (by decide), sz_mono zN (by decide), fun G2 v2 t2 hv2 => ⟨(by show 2 ≤ sizeLine; decide), fun b nb => ?_⟩⟩
          rw [norm_eq n0 bc.1.1 (sc_1 bc).1] at hv1
          rw [norm_eq n0 bc.1.2 (sc_1 bc).2] at hv2
          exact hR2 _ _ ((t1.trans t2).trans (PB.same_new nb)) (dp_mk2 nb (Dp_same t2 hv1) hv2)
        refine ⟨D2, ws, rfl, .inl ⟨.inl (.inl e9), fun l nl => ?_⟩⟩
        have sl := PB.same_new (o := .tup ws) nl
        refine q _ _ ((sE.trans s9).trans sl) (.tup (.inl (.inl upd_same)) (DpAll_same sl ?_))
        rw [← range_get (hullP os) zP, ← eL]
        exact h9
      · refine itT (decide_eq_true (by rw [yl]; omega)) ?_
        have len_os : (os.map (sc N)).length = os.length := List.length_map _
        have zo : ∀ u ∈ os.map (sc N), SzT 1000 u := fun u hu => by
          obtain ⟨c, hc, rfl⟩ := List.mem_map.mp hu
          exact hZ c ((hO.m c).mp hc)
        refine ⟨_, rfl, D, ys, os.map (sc N), rfl, .inl (.inl eD), hY, by rw [len_os]; exact ol, zo, fun G1 c1 y1 t1 n1 e1 h1 => ?_⟩
        have eD1 := t1 _ _ eD
        have hY1 := DpAll_same t1 hY
        dsimp only [tCons, tNil, tCall]
        refine lc_rng3 (K := K) ((os.length : Int) - 1) (-1) (-1) os.length (rg_down (by omega)) (by omega) (fun R hR2 => ?_) (fun k => iD ((os.map (sc N)).getD (os.length - 1 - k) (0, 0))) (fun k => noL_i _) (fun k G R kn sG hR2 => ?_) fun D2 G2 zs2 t2 n2 e2 h2 => ?_
        · refine ⟨_, rfl, D, ys, rfl, .inl (.inl (.inl eD1)), _, _, rfl, rfl, _, rfl, _, rfl, ?_⟩
          show R [V.int ((ys.length : Int) - 1), V.int (-1), V.int (-1)] G1
          rw [yl]; exact hR2
        · have il : os.length - 1 - k < ys.length := by omega
          have ei : ys[os.length - 1 - k]? = some ys[os.length - 1 - k] := List.getElem?_eq_getElem il
          obtain ⟨d, ed, hd⟩ := DpAll_at (DpAll_same sG hY1) ei
          have eg : (os.map (sc N))[os.length - 1 - k]? = some ((os.map (sc N)).getD (os.length - 1 - k) (0, 0)) := by
            rw [List.getD_eq_getElem?_getD, List.getElem?_eq_getElem (by rw [len_os]; omega)]; rfl
          rw [List.getElem?_map, eg] at ed
          cases ed
          have ea := atI_nat ei
          have ez : (((os.length - 1 - k : Nat)) : Int) = (os.length : Int) - 1 + (k : Int) * -1 := by omega
          rw [ez] at ea
          exact ⟨rfl, _, rfl, _, rfl, D, ys, _, _, rfl, rfl, .inl (.inl (sG _ _ eD1)), ea, hR2 _ _ (fun _ _ z => z) hd⟩
        have h2' : DpAll K G2 zs2 ((os.map (sc N)).reverse.map iD) := by
          rw [rev_get (g := iD) (os.map (sc N)) (0, 0) len_os.symm] at h2
          exact h2
        refine ⟨D2, zs2, (os.map (sc N)).reverse, rfl, .inl (.inl e2), h2', by rw [List.length_reverse, len_os]; exact ol, fun u hu => zo u (List.mem_reverse.mp hu), fun G3 c3 y2 t3 n3 e3 h3 => ?_⟩
        have e1' := t3 _ _ (t2 _ _ e1)
        have h1' := DpAll_same (t2.trans t3) h1
        have hT : (hullP os).map (sc N) = (G4.chain (os.map (sc N))).dropLast ++ (G4.chain (os.map (sc N)).reverse).dropLast := by
          rw [hullP_sc n0 hBo]
          unfold G4.hullR
          rw [if_neg (by rw [len_os]; exact l1)]
        have ly : (y1 ++ y2).length ≤ 120 := by
          rw [List.length_append, DpAll_len h1, DpAll_len h3, List.length_map, List.length_map, ← List.length_append, ← hT, List.length_map]
          have := hull_len os
          omega
        have lz : y1.length + y2.length ≤ sizeLine := by
          rw [List.length_append] at ly
          have : (1000 : Nat) ≤ sizeLine := by decide
          omega
        refine ⟨c1, c3, y1, y2, rfl, rfl, e1', e3, lz, fun r3 nr3 => ?_⟩
        have sr := PB.same_new (o := .lst (y1 ++ y2)) nr3
        have eE : (upd G3 r3 (.lst (y1 ++ y2))) r3 = some (.lst (y1 ++ y2)) := upd_same
        have hA : DpAll K (upd G3 r3 (.lst (y1 ++ y2))) (y1 ++ y2) (((hullP os).map (sc N)).map iD) := by
          rw [hT, List.map_append]
          exact dp_app (DpAll_same sr h1') (DpAll_same sr h3)
        have sE : Same H (upd G3 r3 (.lst (y1 ++ y2))) := ((((s1.trans s3).trans t1).trans t2).trans t3).trans sr
        generalize upd G3 r3 (.lst (y1 ++ y2)) = G4' at eE hA sE
        dsimp only [gName, tNext, tRet, tCB, tCons, tNil]
        have eL : (y1 ++ y2).length = (hullP os).length := by rw [DpAll_len hA, List.length_map, List.length_map]
        refine lc_map (K := K) (a := r3) (xs := (y1 ++ y2)) (j := 2) (fun i => pD ((hullP os).getD i zP)) (fun i => noL_pp _) (by rfl) (.inl (.inl (.inl eE))) (small1000 (by have := hull_len os; omega)) (fun i x G R ex sx hR2 => ?_) fun D2 G ws s9 n9 e9 h9 => ?_
        · obtain ⟨c, ec⟩ : ∃ c, (hullP os)[i]? = some c := ⟨_, List.getElem?_eq_getElem (by rw [← eL]; exact (List.getElem?_eq_some_iff.mp ex).1)⟩
          have eg : (hullP os).getD i zP = c := by rw [List.getD_eq_getElem?_getD, ec]; rfl
          (try dsimp only at hR2)
          rw [eg] at hR2
          obtain ⟨d, ed, hd⟩ := DpAll_at hA ex
          rw [List.getElem?_map, List.getElem?_map, ec] at ed
          cases ed
          have cm : c ∈ ps := (hO.m c).mp (hull_sub c (List.mem_of_getElem? ec))
          have hc : Cou K G x (.int (sc N c).1) (.int (sc N c).2) := cou_r (Dp_same sx hd)
          have bc := hB c cm
          have zc := hZ c cm
          have zN4 := sz_mono zN (by decide : 200 ≤ 2000)
          refine ⟨rfl, x, rfl, _, _, 0, _, rfl, hc, rfl, _, rfl, _, _, rfl, n0, sz_mono zc.1 (by decide), sz_mono zN (by decide), fun G1 v1 t1 hv1 => ?_⟩
          refine ⟨x, rfl, _, _, 1, _, rfl, hc.same t1, rfl, _, rfl, _, _, rfl, n0, sz_mono zc.2 (by decide), sz_mono zN (by decide), fun G2 v2 t2 hv2 => ⟨(by show 2 ≤ sizeLine; decide), fun b nb => ?_⟩⟩
          rw [norm_eq n0 bc.1.1 (sc_1 bc).1] at hv1
          rw [norm_eq n0 bc.1.2 (sc_1 bc).2] at hv2
          exact hR2 _ _ ((t1.trans t2).trans (PB.same_new nb)) (dp_mk2 nb (Dp_same t2 hv1) hv2)
        refine ⟨D2, ws, rfl, .inl ⟨.inl (.inl e9), fun l nl => ?_⟩⟩
        have sl := PB.same_new (o := .tup ws) nl
        refine q _ _ ((sE.trans s9).trans sl) (.tup (.inl (.inl upd_same)) (DpAll_same sl ?_))
        rw [← range_get (hullP os) zP, ← eL]
        exact h9
end
end F3
set_option Elab.async false
set_option linter.all false
set_option maxRecDepth 100000
set_option maxHeartbeats 4000000
set_option exponentiation.threshold 10000
namespace F3
open PySem PySem.Spec PyProof.Rows L2 FX RM PB KD KS
def tupOk : Nat → PyData → Prop
  | 0, .int _ => True
  | n + 1, .tuple ds => ∀ d ∈ ds, tupOk n d
  | _, _ => False
def spTup (K : PySem.W.Frag) (n : Nat) : Sp := fun vs H Q _ => ∃ v d, vs = [v] ∧ Dp K H v d ∧ tupOk n d ∧ ∀ H', Same H H' → Q (.bl true) H'
theorem tup_r (r : Rt) : tupOk 1 (rD r) := by
  intro d hd
  rcases List.mem_cons.mp hd with e | hd
  · rw [e]; trivial
  · rw [List.mem_singleton.mp hd]; trivial
theorem tup_p (p : Pl) : tupOk 2 (pD p) := by
  intro d hd
  rcases List.mem_cons.mp hd with e | hd
  · rw [e]; exact tup_r _
  · rw [List.mem_singleton.mp hd]; exact tup_r _
theorem tup_ps (cs : List Pl) : tupOk 3 (.tuple (cs.map pD)) := by
  intro d hd
  obtain ⟨c, _, rfl⟩ := List.mem_map.mp hd
  exact tup_p c
section
variable {P : Program} {w : World} {K : PySem.W.Frag} {mg : Str → Option Value} {base : Heap}
abbrev s_law_tuples : Stmt := topS 52
theorem sc_law_tuples : FnScope ["_law_thing", "_law_item"] ["_law_thing"] (defScope s_law_tuples) := ⟨rfl, rfl, rfl, by decide +kernel, rfl, by decide +kernel, by decide +kernel⟩
theorem ok_law_tuples (T : Txt K mg "_law_tuples" s_law_tuples) (misinstance : mg "isinstance" = none) (mtuple : mg "tuple" = none) (mint : mg "int" = none) (mbool : mg "bool" = none) : DefOk P w K mg base CX0 "_law_tuples" 1 ["_law_thing"] (spTup K 0) := by
  obtain ⟨f, fd, F, gf⟩ := T
  refine ⟨f, fd, gf, F.kp, F.binds (fun _ _ _ _ _ _ us hl => match us, hl with | [_], _ => rfl), F.ok sc_law_tuples (fun vs H Q E h => ?_) (fun cdv A outer s H vs Q E hr h => ?_)⟩
  · obtain ⟨v, d, rfl, _⟩ := h; rfl
  · obtain ⟨v, d, rfl, hv, ok, q⟩ := h
    refine ⟨_, (pss_cons (ps_if (pt_val (pe_callB call_isi (by rfl) misinstance boot_isinstance (pa_cons (pv 0) (pa_cons (pe_bltn (v := .ty "tuple") (by rfl) mtuple (by decide +kernel) rfl) pa_nil)))) pss_never pss_nil) (pss_one (ps_ret (pe_and (pe_callB call_isi (by rfl) misinstance boot_isinstance (pa_cons (pv 0) (pa_cons (pe_bltn (v := .ty "int") (by rfl) mint (by decide +kernel) rfl) pa_nil))) (pe_one (pe_not (pe_callB call_isi (by rfl) misinstance boot_isinstance (pa_cons (pv 0) (pa_cons (pe_bltn (v := .ty "bool") (by rfl) mbool (by decide +kernel) rfl) pa_nil))))))))), ?_⟩
    obtain ⟨i, rfl⟩ : ∃ i, d = .int i := by
      cases d with
      | int i => exact ⟨i, rfl⟩
      | _ => exact ok.elim
    refine ⟨v, rfl, v, _, _, _, _, rfl, .ty _, dp_tyx hv, kit_ty (kit_tuple (.int i)), _, rfl, itF rfl ?_⟩
    refine ⟨v, rfl, v, _, _, _, _, rfl, .ty _, dp_tyx hv, kit_ty (kit_int (.int i)), true, rfl, itT rfl ?_⟩
    exact ⟨v, rfl, v, _, _, _, _, rfl, .ty _, dp_tyx hv, kit_ty (kit_bool (.int i)), _, rfl, q H (fun _ _ e => e)⟩
theorem okL1_law_tuples (T : Txt K mg "_law_tuples" s_law_tuples) (G_law_tuples : DefOk P w K mg base CX0 "_law_tuples" 1 ["_law_thing"] (spTup K 0)) (misinstance : mg "isinstance" = none) (mtuple : mg "tuple" = none) (mint : mg "int" = none) (mbool : mg "bool" = none) : DefOk P w K mg base CX0 "_law_tuples" 2 ["_law_thing"] (spTup K 1) := by
  obtain ⟨f, fd, F, gf⟩ := T
  refine ⟨f, fd, gf, F.kp, F.binds (fun _ _ _ _ _ _ us hl => match us, hl with | [_], _ => rfl), F.ok sc_law_tuples (fun vs H Q E h => ?_) (fun cdv A outer s H vs Q E hr h => ?_)⟩
  · obtain ⟨v, d, rfl, _⟩ := h; rfl
  · obtain ⟨v, d, rfl, hv, ok, q⟩ := h
    refine ⟨_, (pss_cons (ps_if (pt_val (pe_callB call_isi (by rfl) misinstance boot_isinstance (pa_cons (pv 0) (pa_cons (pe_bltn (v := .ty "tuple") (by rfl) mtuple (by decide +kernel) rfl) pa_nil)))) (pss_one (ps_ret (pe_notT (pe_lc (own := [("_law_item", 1)]) (g := gName 1) (tt := tNot (tB (tCall (spTup K 0) [] E0 (tCons (tVar 1) tNil)))) rfl sc_law_tuples.nd (pi_seq (pv 0)) (blkOk_by (N := ["_law_thing", "_law_item"]) (sc := defScope s_law_tuples) (by decide +kernel)) (fun _ _ _ _ _ => pg_name (i := 1) sc_law_tuples.nd rfl (.inl rfl)) (fun _ _ _ _ _ => (pts_one (pt_not (pt_val (pe_def G_law_tuples (hr.mono (by decide)) (by rfl) (pa_cons (pv 1) pa_nil)))))) (fun _ _ _ _ _ => pe_int))))) pss_nil) (pss_one (ps_ret (pe_and (pe_callB call_isi (by rfl) misinstance boot_isinstance (pa_cons (pv 0) (pa_cons (pe_bltn (v := .ty "int") (by rfl) mint (by decide +kernel) rfl) pa_nil))) (pe_one (pe_not (pe_callB call_isi (by rfl) misinstance boot_isinstance (pa_cons (pv 0) (pa_cons (pe_bltn (v := .ty "bool") (by rfl) mbool (by decide +kernel) rfl) pa_nil))))))))), ?_⟩
    obtain ⟨ds, rfl⟩ : ∃ ds, d = .tuple ds := by
      cases d with
      | tuple ds => exact ⟨ds, rfl⟩
      | _ => exact ok.elim
    refine ⟨v, rfl, v, _, _, _, _, rfl, .ty _, dp_tyx hv, kit_ty (kit_tuple (.tuple ds)), _, rfl, itT rfl ?_⟩
    cases hv with
    | tup hS hA =>
      rename_i a xs
      dsimp only [tRet, tNotT]
      refine .inr ⟨_, rfl, a, rfl, ⟨_, hS⟩, fun D nD => ?_⟩
      refine lc_tup (K := K) (a := a) (xs := xs) (fun i H' => Same H H' ∧ H' D = some (.lst [])) ⟨PB.same_new nD, upd_same⟩ (fun i H' _ h => same_t h.1 hS) ?_ ?_
      · rintro i x H' hi ⟨s1, hD⟩
        obtain ⟨d, ed, hd⟩ := DpAll_at hA hi
        refine ⟨rfl, x, rfl, x, d, rfl, Dp_same s1 hd, ok d (List.mem_of_getElem? ed), fun H3 s3 => ⟨_, rfl, ?_⟩⟩
        exact itF rfl ⟨s1.trans s3, s3 _ _ hD⟩
      · rintro H' ⟨s1, hD⟩
        exact ⟨false, .inl ⟨[], .inl (.inl hD), rfl⟩, q H' s1⟩
theorem okL2_law_tuples (T : Txt K mg "_law_tuples" s_law_tuples) (G_law_tuples : DefOk P w K mg base CX0 "_law_tuples" 2 ["_law_thing"] (spTup K 1)) (misinstance : mg "isinstance" = none) (mtuple : mg "tuple" = none) (mint : mg "int" = none) (mbool : mg "bool" = none) : DefOk P w K mg base CX0 "_law_tuples" 3 ["_law_thing"] (spTup K 2) := by
  obtain ⟨f, fd, F, gf⟩ := T
  refine ⟨f, fd, gf, F.kp, F.binds (fun _ _ _ _ _ _ us hl => match us, hl with | [_], _ => rfl), F.ok sc_law_tuples (fun vs H Q E h => ?_) (fun cdv A outer s H vs Q E hr h => ?_)⟩
  · obtain ⟨v, d, rfl, _⟩ := h; rfl
  · obtain ⟨v, d, rfl, hv, ok, q⟩ := h
    refine ⟨_, (pss_cons (ps_if (pt_val (pe_callB call_isi (by rfl) misinstance boot_isinstance (pa_cons (pv 0) (pa_cons (pe_bltn (v := .ty "tuple") (by rfl) mtuple (by decide +kernel) rfl) pa_nil)))) (pss_one (ps_ret (pe_notT (pe_lc (own := [("_law_item", 1)]) (g := gName 1) (tt := tNot (tB (tCall (spTup K 1) [] E0 (tCons (tVar 1) tNil)))) rfl sc_law_tuples.nd (pi_seq (pv 0)) (blkOk_by (N := ["_law_thing", "_law_item"]) (sc := defScope s_law_tuples) (by decide +kernel)) (fun _ _ _ _ _ => pg_name (i := 1) sc_law_tuples.nd rfl (.inl rfl)) (fun _ _ _ _ _ => (pts_one (pt_not (pt_val (pe_def G_law_tuples (hr.mono (by decide)) (by rfl) (pa_cons (pv 1) pa_nil)))))) (fun _ _ _ _ _ => pe_int))))) pss_nil) (pss_one (ps_ret (pe_and (pe_callB call_isi (by rfl) misinstance boot_isinstance (pa_cons (pv 0) (pa_cons (pe_bltn (v := .ty "int") (by rfl) mint (by decide +kernel) rfl) pa_nil))) (pe_one (pe_not (pe_callB call_isi (by rfl) misinstance boot_isinstance (pa_cons (pv 0) (pa_cons (pe_bltn (v := .ty "bool") (by rfl) mbool (by decide +kernel) rfl) pa_nil))))))))), ?_⟩
    obtain ⟨ds, rfl⟩ : ∃ ds, d = .tuple ds := by
      cases d with
      | tuple ds => exact ⟨ds, rfl⟩
      | _ => exact ok.elim
    refine ⟨v, rfl, v, _, _, _, _, rfl, .ty _, dp_tyx hv, kit_ty (kit_tuple (.tuple ds)), _, rfl, itT rfl ?_⟩
    cases hv with
    | tup hS hA =>
      rename_i a xs
      dsimp only [tRet, tNotT]
      refine .inr ⟨_, rfl, a, rfl, ⟨_, hS⟩, fun D nD => ?_⟩
      refine lc_tup (K := K) (a := a) (xs := xs) (fun i H' => Same H H' ∧ H' D = some (.lst [])) ⟨PB.same_new nD, upd_same⟩ (fun i H' _ h => same_t h.1 hS) ?_ ?_
      · rintro i x H' hi ⟨s1, hD⟩
        obtain ⟨d, ed, hd⟩ := DpAll_at hA hi
        refine ⟨rfl, x, rfl, x, d, rfl, Dp_same s1 hd, ok d (List.mem_of_getElem? ed), fun H3 s3 => ⟨_, rfl, ?_⟩⟩
        exact itF rfl ⟨s1.trans s3, s3 _ _ hD⟩
      · rintro H' ⟨s1, hD⟩
        exact ⟨false, .inl ⟨[], .inl (.inl hD), rfl⟩, q H' s1⟩
theorem okL3_law_tuples (T : Txt K mg "_law_tuples" s_law_tuples) (G_law_tuples : DefOk P w K mg base CX0 "_law_tuples" 3 ["_law_thing"] (spTup K 2)) (misinstance : mg "isinstance" = none) (mtuple : mg "tuple" = none) (mint : mg "int" = none) (mbool : mg "bool" = none) : DefOk P w K mg base CX0 "_law_tuples" 4 ["_law_thing"] (spTup K 3) := by
  obtain ⟨f, fd, F, gf⟩ := T
  refine ⟨f, fd, gf, F.kp, F.binds (fun _ _ _ _ _ _ us hl => match us, hl with | [_], _ => rfl), F.ok sc_law_tuples (fun vs H Q E h => ?_) (fun cdv A outer s H vs Q E hr h => ?_)⟩
  · obtain ⟨v, d, rfl, _⟩ := h; rfl
  · obtain ⟨v, d, rfl, hv, ok, q⟩ := h
    refine ⟨_, (pss_cons (ps_if (pt_val (pe_callB call_isi (by rfl) misinstance boot_isinstance (pa_cons (pv 0) (pa_cons (pe_bltn (v := .ty "tuple") (by rfl) mtuple (by decide +kernel) rfl) pa_nil)))) (pss_one (ps_ret (pe_notT (pe_lc (own := [("_law_item", 1)]) (g := gName 1) (tt := tNot (tB (tCall (spTup K 2) [] E0 (tCons (tVar 1) tNil)))) rfl sc_law_tuples.nd (pi_seq (pv 0)) (blkOk_by (N := ["_law_thing", "_law_item"]) (sc := defScope s_law_tuples) (by decide +kernel)) (fun _ _ _ _ _ => pg_name (i := 1) sc_law_tuples.nd rfl (.inl rfl)) (fun _ _ _ _ _ => (pts_one (pt_not (pt_val (pe_def G_law_tuples (hr.mono (by decide)) (by rfl) (pa_cons (pv 1) pa_nil)))))) (fun _ _ _ _ _ => pe_int))))) pss_nil) (pss_one (ps_ret (pe_and (pe_callB call_isi (by rfl) misinstance boot_isinstance (pa_cons (pv 0) (pa_cons (pe_bltn (v := .ty "int") (by rfl) mint (by decide +kernel) rfl) pa_nil))) (pe_one (pe_not (pe_callB call_isi (by rfl) misinstance boot_isinstance (pa_cons (pv 0) (pa_cons (pe_bltn (v := .ty "bool") (by rfl) mbool (by decide +kernel) rfl) pa_nil))))))))), ?_⟩
    obtain ⟨ds, rfl⟩ : ∃ ds, d = .tuple ds := by
      cases d with
      | tuple ds => exact ⟨ds, rfl⟩
      | _ => exact ok.elim
    refine ⟨v, rfl, v, _, _, _, _, rfl, .ty _, dp_tyx hv, kit_ty (kit_tuple (.tuple ds)), _, rfl, itT rfl ?_⟩
    cases hv with
    | tup hS hA =>
      rename_i a xs
      dsimp only [tRet, tNotT]
      refine .inr ⟨_, rfl, a, rfl, ⟨_, hS⟩, fun D nD => ?_⟩
      refine lc_tup (K := K) (a := a) (xs := xs) (fun i H' => Same H H' ∧ H' D = some (.lst [])) ⟨PB.same_new nD, upd_same⟩ (fun i H' _ h => same_t h.1 hS) ?_ ?_
      · rintro i x H' hi ⟨s1, hD⟩
        obtain ⟨d, ed, hd⟩ := DpAll_at hA hi
        refine ⟨rfl, x, rfl, x, d, rfl, Dp_same s1 hd, ok d (List.mem_of_getElem? ed), fun H3 s3 => ⟨_, rfl, ?_⟩⟩
        exact itF rfl ⟨s1.trans s3, s3 _ _ hD⟩
      · rintro H' ⟨s1, hD⟩
        exact ⟨false, .inl ⟨[], .inl (.inl hD), rfl⟩, q H' s1⟩
end
end F3
set_option Elab.async false
set_option linter.all false
set_option maxRecDepth 100000
set_option maxHeartbeats 4000000
set_option exponentiation.threshold 10000
namespace F3
open PySem PySem.Spec PyProof.Rows L2 FX RM PB KD KS
section
variable {X : Cx}
/-- a def that raises, called within a try: the error for every state -/
theorem pe_defW {x : Str} {k : Nat} {ps : List Str} {sp : Sp} {W : WX} {e : Expr} {es : List Expr} {t : TA} {p pos : Pos} (D : DefOk X.prog X.w X.K X.mg X.base (L2.CX X.prog X.w) x k ps sp) (hr : Room k X.A) (hg : Gl X x) (ha : PA X (e :: es) t) (tk : Takes X W) (n : Nat) (en : X.N.length = n)
    (hdb : (x == ("__debug__" : Str)) = false := by decide) (he : starEach (e :: es) X.env = (false, eval e X.env) :: starEach es X.env := by rfl) (hpl : (backTo pos (starEach es X.env)).any (·.1) = false := by rfl) :
    PE X (.Call (.Name x p) (e :: es) [] pos) (tCall sp [] (fun cls d H => ∀ σ : L2.St, σ.length = n → W cls d σ H) t) := by
  subst en
  obtain ⟨f, fd, g, k, b, F⟩ := D.ex
  exact pe_call F hr hg g k b .nil (fun pins σ H s e s' I h => passAt tk σ pins H s e s' I (CX.imp h fun _ _ _ z => z σ I.len)) ha hdb he hpl
theorem pe_patWK (K : PySem.W.Frag) {W : WX} {e : Expr} {es : List Expr} {t : TA} {p pos : Pos} (c : PCt X.prog X.w K X.mg X.base) (hr : Room 8 X.A) (hg : Gl X "Patch") (ha : PA X (e :: es) t) (tk : Takes X W) (n : Nat) (en : X.N.length = n) (eK : X.K = K := by rfl)
    (he : starEach (e :: es) X.env = (false, eval e X.env) :: starEach es X.env := by rfl) (hpl : (backTo pos (starEach es X.env)).any (·.1) = false := by rfl) :
    PE X (.Call (.Name "Patch" p) (e :: es) [] pos) (tMake (cP K) (spPInit K) [] (fun cls d H => ∀ σ : L2.St, σ.length = n → W cls d σ H) t) := by
  subst eK; subst en
  exact pe_patW c hr hg ha tk he hpl
end
/-- what Patch of a thing comes to: a word, or the corners -/
def spTry (K : PySem.W.Frag) : Sp := fun vs H Q _ => ∃ v d, vs = [v] ∧ Dp K H v d ∧
  (((rowsD d = none ∨ rowsD d = some []) ∧ ∀ H', Same H H' → Q (.str "many") H') ∨ ∃ ds, rowsD d = some ds ∧ ds ≠ [] ∧ ds.length ≤ 60 ∧ (((∃ b ∈ ds, isPla b = false) ∧ ∀ H', Same H H' → Q (.str "corner") H') ∨
    ∃ ps : List Pl, PlD ds ps ∧ (∀ q ∈ ps, GoodP 400 q) ∧ ∀ os, Srt ps os → (hullP os ≠ ps → ∀ H', Same H H' → Q (.str "turn") H') ∧ (hullP os = ps → ∀ H' z, Same H H' → Dp K H' z (.tuple (ps.map pD)) → Q z H')))
def spHullTry (P : Program) (w : World) (K : PySem.W.Frag) : Sp := fun vs H Q _ => ∃ v, vs = [v] ∧ (NoRow P w K H v ∨ ∃ p, v = .ref p ∧ (SqL K H p [] ∨ SqT K H p [])) ∧ ∀ H', Same H H' → Q (.str "many") H'
section
variable {P : Program} {w : World} {K : PySem.W.Frag} {mg : Str → Option Value} {base : Heap}
abbrev s_law_try : Stmt := topS 53
theorem sc_law_try : FnScope ["_law_corners", "_law_found", "wrong"] ["_law_corners"] (defScope s_law_try) := ⟨rfl, rfl, rfl, by decide +kernel, rfl, by decide +kernel, by decide +kernel⟩
theorem ok_law_try (T : Txt K mg "_law_try" s_law_try) (cBP : CT P w K mg base "BadPatch" ["what"]) (tX : XfC K (He.ga K "BadPatch")) (nX : PySem.W.findIn K (.ref (He.ga K "BadPatch")) "what" = some none) (eX : PySem.W.exmOne K (.ref (He.ga K "BadPatch")) (.ref (He.ga K "BadPatch")) = some true) (cP_ : PCt P w K mg base) : DefOk P w K mg base CX0 "_law_try" 9 ["_law_corners"] (spTry K) := by
  obtain ⟨f, fd, F, gf⟩ := T
  refine ⟨f, fd, gf, F.kp, F.binds (fun _ _ _ _ _ _ us hl => match us, hl with | [_], _ => rfl), F.ok sc_law_try (fun vs H Q E h => ?_) (fun cdv A outer s H vs Q E hr h => ?_)⟩
  · obtain ⟨v, d, rfl, _⟩ := h; rfl
  · obtain ⟨v, d, rfl, hv, hW⟩ := h
    refine ⟨_, (pss_cons (ps_try_nm (l := [(.ref (He.ga K "BadPatch"), some 2, fun a cls d => tRet (tXf a cls d (He.ga K "BadPatch") "what" (tVar 2)))]) rfl rfl takes0 (fun W pn xe tk _ => (pss_one (ps_set (i := 1) sc_law_try.nd rfl (.inl rfl) (pe_patWK K cP_ (hr.mono (by decide)) (by rfl) (pa_cons (pv 0) pa_nil) tk 3 (by rfl))))) (.named (names_own (by rfl) cBP.g) sc_law_try.nd rfl rfl (fun a oe cls d pn hz hf => (pss_one (ps_ret (pe_xf tX nX hz hf (pv 2))))) .nil)) (pss_one (ps_ret (pe_fld (pv 1) rfl)))), ?_⟩
    refine ⟨v, rfl, ?_⟩
    dsimp only [tNil]
    refine mk_pat (Q := fun z H2 => gName 1 z _ H2 _) hv ?_
    rcases hW with ⟨hd, q⟩ | ⟨ds, ed, ne, l6, ⟨hb, q⟩ | ⟨ps, h1, h2, h3⟩⟩
    · refine .inl ⟨hd, fun dd H' s' hdd σ hσ => ?_⟩
      match σ, hσ with
      | [a0, a1, a2], _ => exact ⟨true, eX, fun _ a na => ⟨_, rfl, rfl, rfl, dd, _, _, rfl, hdd, rfl, q H' s'⟩, fun z => nomatch z⟩
    · refine .inr ⟨ds, ed, ne, l6, .inl ⟨hb, fun dd H' s' hdd σ hσ => ?_⟩⟩
      match σ, hσ with
      | [a0, a1, a2], _ => exact ⟨true, eX, fun _ a na => ⟨_, rfl, rfl, rfl, dd, _, _, rfl, hdd, rfl, q H' s'⟩, fun z => nomatch z⟩
    · refine .inr ⟨ds, ed, ne, l6, .inr ⟨ps, h1, h2, fun os ho => ⟨fun n dd H' s' hdd σ hσ => ?_, fun e H' z s' hz => ?_⟩⟩⟩
      · match σ, hσ with
        | [a0, a1, a2], _ => exact ⟨true, eX, fun _ a na => ⟨_, rfl, rfl, rfl, dd, _, _, rfl, hdd, rfl, (h3 os ho).1 n H' s'⟩, fun z => nomatch z⟩
      · obtain ⟨a, dx, t, rfl, e0, ht⟩ := hz
        exact ⟨_, rfl, a, cP K, dx, _, t, rfl, e0, cP_.cls, cP_.no, rfl, (h3 os ho).2 e H' t s' ht⟩
abbrev s_law_hull_try : Stmt := topS 54
theorem sc_law_hull_try : FnScope ["_law_places", "_law_found", "wrong"] ["_law_places"] (defScope s_law_hull_try) := ⟨rfl, rfl, rfl, by decide +kernel, rfl, by decide +kernel, by decide +kernel⟩
theorem ok_law_hull_try (T : Txt K mg "_law_hull_try" s_law_hull_try) (cBP : CT P w K mg base "BadPatch" ["what"]) (tX : XfC K (He.ga K "BadPatch")) (nX : PySem.W.findIn K (.ref (He.ga K "BadPatch")) "what" = some none) (eX : PySem.W.exmOne K (.ref (He.ga K "BadPatch")) (.ref (He.ga K "BadPatch")) = some true) (cP_ : PCt P w K mg base) (Xhull_of : DefOk P w K mg base (L2.CX P w) "hull_of" 9 ["places"] (spHullOf P w K)) : DefOk P w K mg base CX0 "_law_hull_try" 10 ["_law_places"] (spHullTry P w K) := by
  obtain ⟨f, fd, F, gf⟩ := T
  refine ⟨f, fd, gf, F.kp, F.binds (fun _ _ _ _ _ _ us hl => match us, hl with | [_], _ => rfl), F.ok sc_law_hull_try (fun vs H Q E h => ?_) (fun cdv A outer s H vs Q E hr h => ?_)⟩
  · obtain ⟨v, rfl, _⟩ := h; rfl
  · obtain ⟨v, rfl, hn, q⟩ := h
    refine ⟨_, (pss_cons (ps_try_nm (l := [(.ref (He.ga K "BadPatch"), some 2, fun a cls d => tRet (tXf a cls d (He.ga K "BadPatch") "what" (tVar 2)))]) rfl rfl takes0 (fun W pn xe tk _ => (pss_one (ps_set (i := 1) sc_law_hull_try.nd rfl (.inl rfl) (pe_defW Xhull_of (hr.mono (by decide)) (by rfl) (pa_cons (pv 0) pa_nil) tk 3 (by rfl))))) (.named (names_own (by rfl) cBP.g) sc_law_hull_try.nd rfl rfl (fun a oe cls d pn hz hf => (pss_one (ps_ret (pe_xf tX nX hz hf (pv 2))))) .nil)) (pss_one (ps_ret (pe_fld (pv 1) rfl)))), ?_⟩
    refine ⟨v, rfl, v, rfl, ?_⟩
    rcases hn with hn | ⟨p, rfl, hs⟩
    · refine .inl ⟨hn, fun dd H' s' hdd σ hσ => ?_⟩
      match σ, hσ with
      | [a0, a1, a2], _ => exact ⟨true, eX, fun _ a na => ⟨_, rfl, rfl, rfl, dd, _, _, rfl, hdd, rfl, q H' s'⟩, fun z => nomatch z⟩
    · refine .inr (.inl ⟨p, rfl, hs, fun dd H' s' hdd σ hσ => ?_⟩)
      match σ, hσ with
      | [a0, a1, a2], _ => exact ⟨true, eX, fun _ a na => ⟨_, rfl, rfl, rfl, dd, _, _, rfl, hdd, rfl, q H' s'⟩, fun z => nomatch z⟩
end
end F3
set_option Elab.async false
set_option linter.all false
set_option maxRecDepth 100000
set_option maxHeartbeats 4000000
set_option exponentiation.threshold 10000
namespace F3
open PySem PySem.Spec PyProof.Rows L2 FX RM PB KD KS
open G4 (Pt lx cr)
/-- what a hull's corners T are to the sorted points ss -/
structure Hf (T ss : List Pt) : Prop where
  sub : ∀ t ∈ T, t ∈ ss
  ne : T ≠ []
  nd : T.Nodup
  fst : T[0]? = ss[0]?
  one : T.length = 1 → ss[0]? = ss.getLast?
  side : 2 ≤ T.length → ∀ (k : Nat) (x y : Pt), T[k]? = some x → T[(k + 1) % T.length]? = some y → (∀ q ∈ ss, 0 ≤ cr x y q) ∧ ∀ q ∈ T, q ≠ x → q ≠ y → 0 < cr x y q
  two : T.length = 2 → T[1]? = ss.getLast?
theorem leP_asym {a b : Pt} (h : leP a b) (k : leP b a) : a = b := by
  rcases h with h | h
  · exact h
  · rcases k with k | k
    · exact k.symm
    · exact absurd (G4.lx_trans h k) (G4.lx_irrefl a)
theorem srt_fst {s : Pt} {ss : List Pt} (h : (s :: ss).Pairwise leP) : ∀ q ∈ s :: ss, leP s q := fun q hq => by
  rcases List.mem_cons.mp hq with e | e
  · exact .inl e.symm
  · exact (List.pairwise_cons.mp h).1 q e
theorem srt_lst {ss : List Pt} (h : ss.Pairwise leP) {z : Pt} (e : ss.getLast? = some z) : ∀ q ∈ ss, leP q z := fun q hq => by
  rcases nil_or_snoc ss with rfl | ⟨l, c, rfl⟩
  · cases hq
  · rw [List.getLast?_concat] at e
    cases e
    rcases List.mem_append.mp hq with m | m
    · exact (List.pairwise_append.mp h).2.2 q m _ (by simp)
    · exact .inl (List.mem_singleton.mp m)
theorem hull_facts {ps os : List Pl} {ss : List Pt} {N : Int} (h : Srt ps os) (n0 : 0 < N) (hb : ∀ p ∈ ps, Bot N p) (pn : ps ≠ []) (hs : ss.Pairwise leP) (hm : ∀ d, d ∈ ss ↔ d ∈ ps.map (sc N)) : Hf ((hullP os).map (sc N)) ss := by
  have hr : ∀ p ∈ ps, RatP p := fun p hp => (hb p hp).1
  have hm2 : ∀ d, d ∈ ss ↔ d ∈ os.map (sc N) := fun d => by
    rw [hm d, List.mem_map, List.mem_map]
    exact ⟨fun ⟨p, a, b⟩ => ⟨p, (h.m p).mpr a, b⟩, fun ⟨p, a, b⟩ => ⟨p, (h.m p).mp a, b⟩⟩
  have on : os ≠ [] := fun z => by
    obtain ⟨u, hu⟩ := List.exists_mem_of_ne_nil ps pn
    have := (h.m u).mpr hu
    rw [z] at this; cases this
  obtain ⟨u, hu⟩ := List.exists_mem_of_ne_nil ps pn
  obtain ⟨s0, sr, rfl⟩ : ∃ s0 sr, ss = s0 :: sr := by
    cases ss with
    | nil => exact absurd ((hm (sc N u)).mpr (List.mem_map.mpr ⟨u, hu, rfl⟩)) (fun z => nomatch z)
    | cons a b => exact ⟨a, b, rfl⟩
  obtain ⟨zl, ez⟩ : ∃ z, (s0 :: sr).getLast? = some z := ⟨_, List.getLast?_eq_some_getLast (List.cons_ne_nil _ _)⟩
  have zm : zl ∈ s0 :: sr := List.mem_of_getLast? ez
  by_cases l1 : os.length = 1
  · obtain ⟨o, rfl⟩ : ∃ o, os = [o] := by
      match os, l1 with
      | [o], _ => exact ⟨o, rfl⟩
    have eh : hullP [o] = [o] := rfl
    rw [eh]
    have all : ∀ d ∈ s0 :: sr, d = sc N o := fun d hd => List.mem_singleton.mp ((hm2 d).mp hd)
    have e0 := all s0 (List.mem_cons_self ..)
    have e1 := all zl zm
    refine ⟨fun t ht => (hm2 t).mpr ht, List.cons_ne_nil _ _, List.pairwise_singleton _ _, ?_, fun _ => ?_, fun l2 => ?_, fun l2 => ?_⟩
    · show some (sc N o) = some s0
      rw [e0]
    · rw [ez, e1, ← e0]; rfl
    · simp at l2
    · simp at l2
  · have l2 : 2 ≤ os.length := by
      have : os.length ≠ 0 := fun z => on (List.length_eq_zero_iff.mp z)
      omega
    obtain ⟨a, b, l, u', hl, e⟩ := h.hl n0 hb l2
    rw [e]
    have S : ∀ d, d ∈ s0 :: sr ↔ d ∈ os.map (sc N) := hm2
    have am := hl.mem a (List.mem_cons_self ..)
    have bm := hl.mem b (by simp)
    have ea : s0 = a := by
      have k1 := srt_fst hs a ((S a).mpr am)
      have k2 : leP a s0 := (hl.mn s0 ((S s0).mp (List.mem_cons_self ..))).elim (fun z => .inl z.symm) .inr
      exact leP_asym k1 k2
    have eb : zl = b := by
      have k1 := srt_lst hs ez b ((S b).mpr bm)
      have k2 : leP zl b := (hl.mx zl ((S zl).mp zm)).elim .inl .inr
      exact leP_asym k2 k1
    refine ⟨fun t ht => (S t).mpr (hl.mem t ht), List.cons_ne_nil _ _, hl.nodup, ?_, fun l1 => ?_, fun _ k x y hx hy => ?_, fun l2 => ?_⟩
    · show some a = some s0
      rw [ea]
    · simp at l1
    · obtain ⟨p1, p2⟩ := hl.side k x y hx hy
      exact ⟨fun q hq => p1 q ((S q).mp hq), p2⟩
    · rw [ez, eb]
      have l0 : l = [] := by
        cases l with
        | nil => rfl
        | cons c l => simp at l2
      subst l0
      rfl
end F3
set_option Elab.async false
set_option linter.all false
set_option maxRecDepth 100000
set_option maxHeartbeats 4000000
set_option exponentiation.threshold 10000
namespace F3
open PySem PySem.Spec PyProof.Rows L2 FX RM PB KD KS
theorem sl_listK {X : Cx} (K : PySem.W.Frag) (e : X.K = K := by rfl) : SlR X (rSlL K) := e ▸ sl_list
theorem op_inDK {X : Cx} (K : PySem.W.Frag) (hu : X.A.units + 65 < cLine) (e : X.K = K := by rfl) : OpR X (compareOp .In) (rInD K) := e ▸ op_inD hu
theorem nodup_len {α : Type} [DecidableEq α] : ∀ {l m : List α}, l.Nodup → (∀ x ∈ l, x ∈ m) → l.length ≤ m.length
  | [], _, _, _ => Nat.zero_le _
  | a :: l, m, h, k => by
    rw [List.nodup_cons] at h
    have am := k a (List.mem_cons_self ..)
    have i := nodup_len (m := m.erase a) h.2 fun x hx => (List.mem_erase_of_ne (fun e => h.1 (by rw [← e]; exact hx))).mpr (k x (List.mem_cons_of_mem _ hx))
    rw [List.length_erase_of_mem am] at i
    have : 0 < m.length := List.length_pos_of_mem am
    rw [List.length_cons]
    omega
theorem cut_take (xs : List V) {k : Nat} (h : k ≤ xs.length) : cutV xs none (some (k : Int)) = xs.take k := by
  unfold cutV
  cases xs with
  | nil => rw [Nat.le_zero.mp h]; rfl
  | cons x xs =>
    have e1 : HT.sIx (x :: xs).length 0 none = 0 := rfl
    have e2 : HT.sIx (x :: xs).length (x :: xs).length (some (k : Int)) = k := by
      show (if (k : Int) < 0 then ((k : Int) + ((x :: xs).length : Int)).toNat else min (k : Int).toNat (x :: xs).length) = _
      rw [if_neg (by omega)]
      omega
    rw [e1, e2]; rfl
theorem not_before {T : List G4.Pt} (h : T.Nodup) {k : Nat} {q : G4.Pt} (e : T[k]? = some q) : q ∉ T.take k := by
  intro m
  obtain ⟨j, jl, ej⟩ := List.mem_iff_getElem.mp m
  rw [List.length_take] at jl
  obtain ⟨kl, ek⟩ := List.getElem?_eq_some_iff.mp e
  rw [List.getElem_take] at ej
  exact List.pairwise_iff_getElem.mp h j k (by omega) kl (by omega) (by rw [ej, ek])
theorem dp_take {K : PySem.W.Frag} {H : Hp} : ∀ {ys : List V} {ds : List PyData} (k : Nat), DpAll K H ys ds → DpAll K H (ys.take k) (ds.take k)
  | _, _, 0, _ => by rw [List.take_zero, List.take_zero]; exact .nil
  | _, _, k + 1, .nil => .nil
  | _, _, k + 1, .cons a b => by rw [List.take_succ_cons, List.take_succ_cons]; exact .cons a (dp_take k b)
theorem atI_last {α : Type} (xs : List α) : atI xs (-1) = xs.getLast? := by
  rcases nil_or_snoc xs with rfl | ⟨l, c, rfl⟩
  · rfl
  · have hl : (l ++ [c]).length = l.length + 1 := by simp
    have e1 : ixN (l ++ [c]).length (-1) = some l.length := by
      unfold ixN
      rw [if_neg (by omega), hl, if_pos (by omega)]
      congr 1; omega
    unfold atI
    rw [e1, List.getLast?_concat]
    show (l ++ [c])[l.length]? = some c
    rw [List.getElem?_append_right (Nat.le_refl _), Nat.sub_self]; rfl
theorem dp_last {K : PySem.W.Frag} {H : Hp} {ys : List V} {ds : List PyData} {d : PyData} (h : DpAll K H ys ds) (e : ds.getLast? = some d) : ∃ z, ys.getLast? = some z ∧ Dp K H z d := by
  rw [List.getLast?_eq_getElem?] at e
  obtain ⟨z, ez, hz⟩ := DpAll_at' h e
  exact ⟨z, by rw [List.getLast?_eq_getElem?, DpAll_len h]; exact ez, hz⟩
theorem any_i {os : List G4.Pt} {d : G4.Pt} : ((os.map iD).any fun z => PyData.eqv z (iD d)) = decide (d ∈ os) := by
  rw [Bool.eq_iff_iff, List.any_eq_true, decide_eq_true_iff]
  constructor
  · rintro ⟨z, hz, e⟩
    obtain ⟨u, hu, rfl⟩ := List.mem_map.mp hz
    have e2 : PyData.eqv (iD u) (iD d) = decide (u = d) := eqv_rt u d
    rw [e2] at e
    rw [← of_decide_eq_true e]; exact hu
  · intro h
    refine ⟨iD d, List.mem_map.mpr ⟨d, h, rfl⟩, ?_⟩
    have e2 : PyData.eqv (iD d) (iD d) = decide (d = d) := eqv_rt d d
    rw [e2]; exact decide_eq_true rfl
theorem lay_i : ∀ os : List G4.Pt, PyData.canLayAll0 (os.map iD) = true ∧ PyData.depthAll (os.map iD) ≤ 1
  | [] => ⟨rfl, by simp [PyData.depthAll]⟩
  | o :: os => by
    obtain ⟨a, b⟩ := lay_i os
    constructor
    · rw [List.map_cons, PyData.canLayAll0, a]
      simp [iD, PyData.canLay0, PyData.canLayAll0]
    · rw [List.map_cons, PyData.depthAll]
      simp [iD, PyData.depth, PyData.depthAll] at b ⊢
      omega
theorem shaped_li (os : List G4.Pt) : SeqAt.shaped (.list (os.map iD)) = true := by
  obtain ⟨a, b⟩ := lay_i os
  unfold SeqAt.shaped
  rw [PyData.canLay0, a, PyData.depth]
  simp; omega
theorem eqv_i (a b : G4.Pt) : PyData.eqv (iD a) (iD b) = decide (a = b) := eqv_rt a b
def spKey (K : PySem.W.Frag) : Sp := fun vs H Q _ => ∃ (v : V) (q : Pl) (N : Int), vs = [v, .int N] ∧ Dp K H v (pD q) ∧ GoodP 400 q ∧ Sz 200 N ∧ ∀ H' z, Same H H' → Dp K H' z (iD (sc N q)) → Q z H'
def spIsHull (K : PySem.W.Frag) : Sp := fun vs H Q _ => ∃ (c : V) (p : Addr) (xs : List V) (ps os : List Pl) (M : Nat), vs = [c, .ref p] ∧ Dp K H c (.tuple ((hullP os).map pD)) ∧ Rows K H p xs ps ∧ ps ≠ [] ∧ ps.length ≤ 30 ∧ 0 < M ∧ M < 2 ^ 200 ∧ (∀ q ∈ ps, GoodP 400 q ∧ BotM M q) ∧ Srt ps os ∧ ∀ H', Same H H' → Q (.bl true) H'
section
variable {P : Program} {w : World} {K : PySem.W.Frag} {mg : Str → Option Value} {base : Heap}
abbrev s_law_key : Stmt := topS 55
theorem sc_law_key : FnScope ["_law_place_here", "_law_common"] ["_law_place_here", "_law_common"] (defScope s_law_key) := ⟨rfl, rfl, rfl, by decide +kernel, rfl, by decide +kernel, by decide +kernel⟩
theorem ok_law_key (T : Txt K mg "_law_key" s_law_key)  : DefOk P w K mg base CX0 "_law_key" 1 ["_law_place_here", "_law_common"] (spKey K) := by
  obtain ⟨f, fd, F, gf⟩ := T
  refine ⟨f, fd, gf, F.kp, F.binds (fun _ _ _ _ _ _ us hl => match us, hl with | [_, _], _ => rfl), F.ok sc_law_key (fun vs H Q E h => ?_) (fun cdv A outer s H vs Q E hr h => ?_)⟩
  · obtain ⟨v, r, N, rfl, _⟩ := h; rfl
  · obtain ⟨v, r, N, rfl, hd, gq, zN, q⟩ := h
    refine ⟨_, (pss_one (ps_ret (pe_tup (pa_cons (pe_op op_mulW (pe_ix ix_it (pe_ix ix_it (pv 0) pe_int (fun _ _ => rfl)) pe_int (fun _ _ => rfl)) (pe_op op_fdivW (pv 1) (pe_ix ix_it (pe_ix ix_it (pv 0) pe_int (fun _ _ => rfl)) pe_int (fun _ _ => rfl)))) (pa_cons (pe_op op_mulW (pe_ix ix_it (pe_ix ix_it (pv 0) pe_int (fun _ _ => rfl)) pe_int (fun _ _ => rfl)) (pe_op op_fdivW (pv 1) (pe_ix ix_it (pe_ix ix_it (pv 0) pe_int (fun _ _ => rfl)) pe_int (fun _ _ => rfl)))) pa_nil))))), ?_⟩
    obtain ⟨t, vx, vy, rfl, hT, h1, h2⟩ := dp_t2 hd
    have m4 : ∀ {z : Int}, Sz 400 z → Sz 4000 z := fun z => sz_mono z (by decide)
    have cx := cou_r h1
    have cy := cou_r h2
    have ct : Cou K H (.ref t) vx vy := ⟨t, rfl, .inl hT⟩
    have zd : ∀ {b : Int}, Sz 200 (N / b) := fun {b} => Nat.lt_of_le_of_lt (Int.natAbs_ediv_le_natAbs _ _) zN
    refine ⟨.ref t, rfl, vx, vy, 0, _, rfl, ct, rfl, _, _, 0, _, rfl, cx, rfl, _, rfl, .ref t, rfl, vx, vy, 0, _, rfl, ct, rfl, _, _, 1, _, rfl, cx, rfl, _, _, rfl, rfl, wide_div gq.1.1.1 (m4 gq.2.1.2) (by decide) (by decide), _, _, rfl, rfl, wide_mul (m4 gq.2.1.1) zd (by decide) (by decide) (by decide), ?_⟩
    refine ⟨.ref t, rfl, vx, vy, 1, _, rfl, ct, rfl, _, _, 0, _, rfl, cy, rfl, _, rfl, .ref t, rfl, vx, vy, 1, _, rfl, ct, rfl, _, _, 1, _, rfl, cy, rfl, _, _, rfl, rfl, wide_div gq.1.2.1 (m4 gq.2.2.2) (by decide) (by decide), _, _, rfl, rfl, wide_mul (m4 gq.2.2.1) zd (by decide) (by decide) (by decide), (by show 2 ≤ sizeLine; decide), fun b nb => ?_⟩
    exact q _ _ (PB.same_new nb) (.tup (.inl (.inl upd_same)) (.cons (.int _) (.cons (.int _) .nil)))
abbrev s_law_is_hull : Stmt := topS 56
theorem sc_law_is_hull : FnScope ["_law_corners", "_law_places", "_law_common", "_law_keys", "_law_rows", "_law_k", "_law_one", "_law_other", "_law_key_here", "_law_turn", "_law_place_here", "_law_corner", "_law_row"] ["_law_corners", "_law_places"] (defScope s_law_is_hull) := ⟨rfl, rfl, rfl, by decide +kernel, rfl, by decide +kernel, by decide +kernel⟩
theorem ok_law_is_hull (T : Txt K mg "_law_is_hull" s_law_is_hull) (G_law_key : DefOk P w K mg base CX0 "_law_key" 1 ["_law_place_here", "_law_common"] (spKey K)) (G_law_bottoms : DefOk P w K mg base CX0 "_law_bottoms" 2 ["_law_places"] (spBots K)) (G_law_tuples : DefOk P w K mg base CX0 "_law_tuples" 4 ["_law_thing"] (spTup K 3)) (misinstance : mg "isinstance" = none) (mtuple : mg "tuple" = none) (mlen : mg "len" = none) (mrange : mg "range" = none) (msorted : mg "sorted" = none) : DefOk P w K mg base CX0 "_law_is_hull" 5 ["_law_corners", "_law_places"] (spIsHull K) := by
  obtain ⟨f, fd, F, gf⟩ := T
  refine ⟨f, fd, gf, F.kp, F.binds (fun _ _ _ _ _ _ us hl => match us, hl with | [_, _], _ => rfl), F.ok sc_law_is_hull (fun vs H Q E h => ?_) (fun cdv A outer s H vs Q E hr h => ?_)⟩
  · obtain ⟨c, p, xs, ps, os, M, rfl, _⟩ := h; rfl
  · obtain ⟨c, p, xs, ps, os, M, rfl, hc, hR, pn, l3, M0, MZ, hg, hO, q⟩ := h
    refine ⟨_, (pss_cons (ps_if (PW.pt (pw_or (pt_not (pt_val (pe_callB call_isi (by rfl) misinstance boot_isinstance (pa_cons (pv 0) (pa_cons (pe_bltn (v := .ty "tuple") (by rfl) mtuple (by decide +kernel) rfl) pa_nil))))) (pw_or (pt_not (pt_val (pe_def G_law_tuples (hr.mono (by decide)) (by rfl) (pa_cons (pv 0) pa_nil)))) (pw_or1 (pt_not (pt_truth (pv 0) (fun _ => rfl))))))) (pss_one (ps_ret pe_bl)) pss_nil) (pss_cons (ps_set (i := 2) sc_law_is_hull.nd rfl (.inr rfl) (pe_def G_law_bottoms (hr.mono (by decide)) (by rfl) (pa_cons (pv 1) pa_nil))) (pss_cons (ps_set (i := 3) sc_law_is_hull.nd rfl (.inr rfl) (pe_callB (cr_sortDat (Room.u65 hr)) (by rfl) msorted (by decide +kernel) (pa_cons (pe_lc (own := [("_law_place_here", 10)]) rfl sc_law_is_hull.nd (pi_seq (pv 1)) (blkOk_by (N := ["_law_corners", "_law_places", "_law_common", "_law_keys", "_law_rows", "_law_k", "_law_one", "_law_other", "_law_key_here", "_law_turn", "_law_place_here", "_law_corner", "_law_row"]) (sc := defScope s_law_is_hull) (by decide +kernel)) (fun _ _ _ _ _ => (pg_name (i := 10) sc_law_is_hull.nd rfl (.inl rfl))) (fun _ _ _ _ _ => pts_nil) (fun _ _ _ _ _ => (pe_def G_law_key (hr.mono (by decide)) (by rfl) (pa_cons (pv 10) (pa_cons (pv 2) pa_nil))))) pa_nil))) (pss_cons (ps_set (i := 4) sc_law_is_hull.nd rfl (.inr rfl) (pe_lc (own := [("_law_corner", 11)]) rfl sc_law_is_hull.nd (pi_seq (pv 0)) (blkOk_by (N := ["_law_corners", "_law_places", "_law_common", "_law_keys", "_law_rows", "_law_k", "_law_one", "_law_other", "_law_key_here", "_law_turn", "_law_place_here", "_law_corner", "_law_row"]) (sc := defScope s_law_is_hull) (by decide +kernel)) (fun _ _ _ _ _ => (pg_name (i := 11) sc_law_is_hull.nd rfl (.inl rfl))) (fun _ _ _ _ _ => pts_nil) (fun _ _ _ _ _ => (pe_def G_law_key (hr.mono (by decide)) (by rfl) (pa_cons (pv 11) (pa_cons (pv 2) pa_nil)))))) (pss_cons (ps_if (PW.pt (pw_or (pt_truth (pe_lc (own := [("_law_row", 12)]) rfl sc_law_is_hull.nd (pi_seq (pv 4)) (blkOk_by (N := ["_law_corners", "_law_places", "_law_common", "_law_keys", "_law_rows", "_law_k", "_law_one", "_law_other", "_law_key_here", "_law_turn", "_law_place_here", "_law_corner", "_law_row"]) (sc := defScope s_law_is_hull) (by decide +kernel)) (fun _ _ _ _ _ => (pg_name (i := 12) sc_law_is_hull.nd rfl (.inl rfl))) (fun _ _ _ _ _ => (pts_one (pt_cmpR (op_notInDK K (Room.u65 hr)) (pv 12) (pv 3) (by with_unfolding_all rfl)))) (fun _ _ _ _ _ => pe_int)) (fun _ => rfl)) (pw_or (pt_cmpR (op_neD hr.units) (pe_ix ix_list (pv 4) pe_int (fun _ _ => rfl)) (pe_ix ix_list (pv 3) pe_int (fun _ _ => rfl)) (nomark _)) (pw_or1 (pt_cmpR op_ne (pe_callB call_len_seq (by rfl) mlen PySem.boot_len (pa_cons (pv 0) pa_nil)) (pe_callB call_len_seq (by rfl) mlen PySem.boot_len (pa_cons (pe_lc (own := [("_law_k", 5)]) rfl sc_law_is_hull.nd (pi_range1 (by rfl) mrange (pa_cons (pe_callB call_len_seq (by rfl) mlen PySem.boot_len (pa_cons (pv 4) pa_nil)) pa_nil)) (blkOk_by (N := ["_law_corners", "_law_places", "_law_common", "_law_keys", "_law_rows", "_law_k", "_law_one", "_law_other", "_law_key_here", "_law_turn", "_law_place_here", "_law_corner", "_law_row"]) (sc := defScope s_law_is_hull) (by decide +kernel)) (fun _ _ _ _ _ => (pg_name (i := 5) sc_law_is_hull.nd rfl (.inl rfl))) (fun _ _ _ _ _ => (pts_one (pt_cmpR (op_notInDK K (Room.u65 hr)) (pe_ix (ix_listK K) (pv 4) (pv 5) (fun _ _ => rfl)) (pe_slice (sl_listK K) (pv 4) po_none (po_some (pv 5))) (by with_unfolding_all rfl)))) (fun _ _ _ _ _ => pe_int)) pa_nil)) (nomark _)))))) (pss_one (ps_ret pe_bl)) pss_nil) (pss_cons (ps_if (pt_cmpR op_eq (pe_callB call_len_seq (by rfl) mlen PySem.boot_len (pa_cons (pv 4) pa_nil)) pe_int (nomark _)) (pss_one (ps_ret (pe_cmpR (op_eqD hr.units) (pe_ix ix_list (pv 3) pe_int (fun _ _ => rfl)) (pe_ix ix_list (pv 3) (pe_un un_neg pe_int) (fun _ _ => rfl)) (nomark _)))) pss_nil) (pss_cons (ps_for PassesOwn.never rfl (pi_range1 (by rfl) mrange (pa_cons (pe_callB call_len_seq (by rfl) mlen PySem.boot_len (pa_cons (pv 4) pa_nil)) pa_nil)) (pg_name (i := 5) sc_law_is_hull.nd rfl (.inl rfl)) (pss_cons (ps_par (i := 6) (j := 7) rfl sc_law_is_hull.nd rfl rfl (by decide) rfl rfl (pa_cons (pe_ix ix_list (pv 4) (pv 5) (fun _ _ => rfl)) (pa_cons (pe_ix ix_list (pv 4) (pe_op op_mod (pe_op op_add (pv 5) pe_int) (pe_callB call_len_seq (by rfl) mlen PySem.boot_len (pa_cons (pv 4) pa_nil))) (fun _ _ => rfl)) pa_nil)) rfl) (pss_one (ps_for PassesOwn.never rfl (pi_list (pv 3)) (pg_name (i := 8) sc_law_is_hull.nd rfl (.inl rfl)) (pss_cons (ps_set (i := 9) sc_law_is_hull.nd rfl (.inl rfl) (pe_op op_sub (pe_op op_mulW (pe_op op_sub (pe_ix ix_it (pv 7) pe_int (fun _ _ => rfl)) (pe_ix ix_it (pv 6) pe_int (fun _ _ => rfl))) (pe_op op_sub (pe_ix ix_it (pv 8) pe_int (fun _ _ => rfl)) (pe_ix ix_it (pv 6) pe_int (fun _ _ => rfl)))) (pe_op op_mulW (pe_op op_sub (pe_ix ix_it (pv 7) pe_int (fun _ _ => rfl)) (pe_ix ix_it (pv 6) pe_int (fun _ _ => rfl))) (pe_op op_sub (pe_ix ix_it (pv 8) pe_int (fun _ _ => rfl)) (pe_ix ix_it (pv 6) pe_int (fun _ _ => rfl)))))) (pss_one (ps_if (PW.pt (pw_or (pt_cmpR op_lt (pv 9) pe_int (nomark _)) (pw_or1 (PW.pt (pw_and (pt_cmpR op_eq (pv 9) pe_int (nomark _)) (pw_and (pt_cmpR op_gt (pe_callB call_len_seq (by rfl) mlen PySem.boot_len (pa_cons (pv 4) pa_nil)) pe_int (nomark _)) (pw_and (pt_cmpR (op_inDK K (Room.u65 hr)) (pv 8) (pv 4) (by with_unfolding_all rfl)) (pw_and (pt_cmpR (op_neD hr.units) (pv 8) (pv 6) (nomark _)) (pw_and1 (pt_cmpR (op_neD hr.units) (pv 8) (pv 7) (nomark _))))))))))) (pss_one (ps_ret pe_bl)) pss_nil))))))) (pss_one (ps_ret (pe_or (pe_cmpR op_gt (pe_callB call_len_seq (by rfl) mlen PySem.boot_len (pa_cons (pv 4) pa_nil)) pe_int (nomark _)) (pe_one (pe_cmpR (op_eqD hr.units) (pe_ix ix_list (pv 4) pe_int (fun _ _ => rfl)) (pe_ix ix_list (pv 3) (pe_un un_neg pe_int) (fun _ _ => rfl)) (nomark _))))))))))))), ?_⟩
    obtain ⟨t, ts, rfl, hT, hP, hD⟩ := pls_td hc
    have hr' : ∀ r ∈ ps, RatP r := fun r hr => (hg r hr).1.1
    refine ⟨_, rfl, _, _, _, _, true, rfl, .ty _, dp_tyx hc, kit_ty (kit_tuple _), _, rfl, itF rfl ?_⟩
    refine ⟨_, rfl, _, _, rfl, hc, tup_ps _, fun H1 s1 => ⟨_, rfl, itF rfl ?_⟩⟩
    have hne := hull_ne hO hr' pn
    have tne : ts ≠ [] := fun z => hne (List.length_eq_zero_iff.mp (by rw [hP.l, z]; rfl))
    refine ⟨_, rfl, _, .inr (.inl ⟨ts, same_t s1 hT, rfl⟩), itF (by cases ts <;> first | exact absurd rfl tne | rfl) ?_⟩
    refine ⟨_, rfl, p, xs, ps, M, rfl, hR.same s1, by omega, M0, MZ, hg, fun H2 s2 => ?_⟩
    have d0 : lcmB 1 ps ∣ M := lcmB_dvd (Nat.one_dvd _) fun r hr => (hg r hr).2
    have zN := sz_dvd d0 M0 MZ
    have n0 : (0 : Int) < (lcmB 1 ps : Nat) := by have := lcmB_pos hr' (c := 1) (by decide); omega
    have hB := lcm_bot hr'
    generalize ((lcmB 1 ps : Nat) : Int) = N at zN n0 hB
    have s12 := s1.trans s2
    have hR2 := hR.same s12
    have xl := hR.len
    dsimp only [tSeq, tAsg, tCB, tCons, tNil, gName]
    refine lc_map (K := K) (a := p) (xs := xs) (j := 1) (fun i => iD (sc N (ps.getD i zP))) (fun i => noL_i _) (by rfl) hR2.1 (small1000 (by omega)) (fun i x G R ex sx hRR => ?_) fun W G3 ws s3 n3 e3 h3 => ?_
    · obtain ⟨r, er, hr_, hd⟩ := hR2.at ex
      have e : ps.getD i zP = r := by rw [List.getD_eq_getElem?_getD, er]; rfl
      (try dsimp only at hRR)
      rw [e] at hRR
      exact ⟨rfl, x, rfl, _, rfl, x, r, N, rfl, Dp_same sx hd, (hg r hr_).1, zN, fun H' z s hz => hRR z H' s hz⟩
    have h3' : DpAll K G3 ws ((ps.map (sc N)).map iD) := by
      rw [List.map_map, ← range_get ps zP, ← xl]; exact h3
    have wl : ws.length = (ps.map (sc N)).length := by rw [DpAll_len h3', List.length_map]
    refine ⟨W, ws, _, rfl, .inl (.inl e3), h3', alike_i _, sortable_i _, depth_i _, fun qs b pm pw nb => ?_⟩
    obtain ⟨ss, o1, o2, o3, o4⟩ := sorted_i wl pm pw
    have hF := hull_facts hO n0 hB pn o1 o2
    have sb := PB.same_new (o := .lst (qs.map Prod.fst)) nb
    have hK : DpAll K (upd G3 b (.lst (qs.map Prod.fst))) (qs.map Prod.fst) (ss.map iD) := by
      rw [← o4]
      exact dpall_of fun z hz => Dp_same sb (zip_dp h3' z (pm.mem_iff.mp hz))
    have eb : (upd G3 b (.lst (qs.map Prod.fst))) b = some (.lst (qs.map Prod.fst)) := upd_same
    have s14 := (s12.trans s3).trans sb
    generalize upd G3 b (.lst (qs.map Prod.fst)) = GG at hK eb s14 ⊢
    generalize qs.map Prod.fst = ks at hK eb ⊢
    have sl : ss.length ≤ 30 := by rw [o3, List.length_map]; exact l3
    clear pm pw o4 h3 h3' n3 nb o3
    (try dsimp only [tSeq, tAsg, gName])
    refine lc_map (K := K) (a := t) (xs := ts) (j := 0) (fun i => iD (sc N ((hullP os).getD i zP))) (fun i => noL_i _) (by rfl) (.inr (same_t s14 hT)) (small1000 (by have := nodup_len hF.nd hF.sub; rw [List.length_map] at this; have := hP.l; omega)) (fun i x G R ex sx hRR => ?_) fun RR G5 rs s5 n5 e5 h5 => ?_
    · obtain ⟨r, er⟩ : ∃ q, (hullP os)[i]? = some q := ⟨_, List.getElem?_eq_getElem (by rw [hP.l]; exact (List.getElem?_eq_some_iff.mp ex).1)⟩
      have e : (hullP os).getD i zP = r := by rw [List.getD_eq_getElem?_getD, er]; rfl
      (try dsimp only at hRR)
      rw [e] at hRR
      have rm : r ∈ ps := (hO.m r).mp (hull_sub r (List.mem_of_getElem? er))
      exact ⟨rfl, x, rfl, _, rfl, x, r, N, rfl, Dp_same (s14.trans sx) (hD i x r ex er), (hg r rm).1, zN, fun H' z s hz => hRR z H' s hz⟩
    have hRs : DpAll K G5 rs (((hullP os).map (sc N)).map iD) := by
      rw [List.map_map, ← range_get (hullP os) zP, hP.l]; exact h5
    generalize hTT : (hullP os).map (sc N) = T at hRs hF
    have s15 := s14.trans s5
    have hK5 := DpAll_same s5 hK
    have eb5 := s5 _ _ eb
    clear h5 n5
    have rl : rs.length = T.length := by rw [DpAll_len hRs, List.length_map]
    have tl : ts.length = T.length := by rw [← hP.l, ← hTT, List.length_map]
    have kl : ks.length = ss.length := by rw [DpAll_len hK, List.length_map]
    have Tl : T.length ≤ 30 := by have := nodup_len hF.nd hF.sub; omega
    have T0 : T.length ≠ 0 := fun z => hF.ne (List.length_eq_zero_iff.mp z)
    -- the first of the three
    refine .inl ⟨_, rfl, RR, rfl, ⟨_, .inl (.inl e5)⟩, fun D nD => ?_⟩
    refine lc_list (K := K) (a := RR) (xs := rs) (fun i H' => Same G5 H' ∧ H' D = some (.lst [])) ⟨PB.same_new nD, upd_same⟩ (fun i H' _ h => .inl (.inl (h.1 _ _ e5))) ?_ ?_
    · rintro i x H' hi ⟨sx, eD⟩
      obtain ⟨d, ed, hd⟩ := DpAll_at hRs hi
      rw [List.getElem?_map] at ed
      cases et : T[i]? with
      | none => rw [et] at ed; cases ed
      | some q0 =>
        rw [et] at ed
        cases ed
        refine ⟨rfl, x, rfl, _, rfl, iD q0, ss.map iD, Dp_same sx hd, .lst (.inl (.inl (sx _ _ eb5))) (DpAll_same sx hK5), (shaped_r q0).1, shaped_li ss, _, rfl, ?_⟩
        rw [any_i]
        exact itF (by rw [decide_eq_true (hF.sub q0 (List.mem_of_getElem? et))]; rfl) ⟨sx, eD⟩
    rintro G6 ⟨s6, eD⟩
    refine ⟨_, .inl ⟨[], .inl (.inl eD), rfl⟩, itF rfl ?_⟩
    have s16 := s15.trans s6
    have hR6 := DpAll_same s6 hRs
    have hK6 := DpAll_same s6 hK5
    have e6 := s6 _ _ e5
    have b6 := s6 _ _ eb5
    obtain ⟨t0, et0⟩ : ∃ t0, T[0]? = some t0 := ⟨_, List.getElem?_eq_getElem (by omega)⟩
    have es0 : ss[0]? = some t0 := by rw [← hF.fst]; exact et0
    have rowAt : ∀ {k : Nat} {q0 : G4.Pt}, T[k]? = some q0 → ∃ v, rs[k]? = some v ∧ Dp K G6 v (iD q0) := fun {k q0} e => DpAll_at' hR6 (by rw [List.getElem?_map, e]; rfl)
    have keyAt : ∀ {k : Nat} {q0 : G4.Pt}, ss[k]? = some q0 → ∃ v, ks[k]? = some v ∧ Dp K G6 v (iD q0) := fun {k q0} e => DpAll_at' hK6 (by rw [List.getElem?_map, e]; rfl)
    obtain ⟨v0, ev0, hv0⟩ := rowAt et0
    obtain ⟨u0, eu0, hu0⟩ := keyAt es0
    refine ⟨_, rfl, RR, rs, 0, v0, rfl, rfl, .inl (.inl e6), atI_nat ev0, _, rfl, b, ks, 0, u0, rfl, rfl, .inl (.inl b6), atI_nat eu0, _, _, hv0, hu0, (shaped_r t0).1, (shaped_r t0).1, _, rfl, ?_⟩
    rw [eqv_i]
    refine itF (by rw [decide_eq_true rfl]; rfl) ?_
    refine ⟨_, rfl, t, ts, rfl, .inr (same_t s16 hT), ?_⟩
    refine ⟨_, rfl, RR, rs, rfl, .inl (.inl (.inl e6)), _, rfl, by omega, by omega, fun D2 nD2 => ?_⟩
    have en : ((rs.length : Int)).toNat = T.length := by rw [rl]; rfl
    rw [en]
    refine lc_range (n := T.length) (fun i H' => Same G6 H' ∧ H' D2 = some (.lst (List.replicate i (.int 1)))) ⟨PB.same_new nD2, upd_same⟩ ?_ ?_
    · rintro k H' kn ⟨sx, eD2⟩
      obtain ⟨q0, eq0⟩ : ∃ q0, T[k]? = some q0 := ⟨_, List.getElem?_eq_getElem kn⟩
      obtain ⟨v, ev, hv⟩ := rowAt eq0
      have ez : ((0 : Int) + (k : Int)) = (k : Int) := by omega
      rw [ez]
      refine ⟨rfl, _, rfl, _, rfl, RR, rs, _, v, rfl, rfl, .inl (.inl (sx _ _ e6)), atI_nat ev, ?_⟩
      refine ⟨_, rfl, _, rfl, _, rfl, RR, rs, rfl, .inl (.inl (sx _ _ e6)), fun r1 nr1 => ?_⟩
      have sr := PB.same_new (o := .lst (cutV rs none (some (k : Int)))) nr1
      have hcut : DpAll K (upd H' r1 (.lst (cutV rs none (some (k : Int))))) (cutV rs none (some (k : Int))) ((T.take k).map iD) := by
        have z := dp_take k (DpAll_same (sx.trans sr) hR6)
        rw [← cut_take rs (by omega), ← List.map_take] at z
        exact z
      refine ⟨iD q0, (T.take k).map iD, Dp_same (sx.trans sr) hv, .lst (.inl (.inl upd_same)) hcut, (shaped_r q0).1, shaped_li _, _, rfl, ?_⟩
      rw [any_i]
      refine itT (by rw [decide_eq_false (not_before hF.nd eq0)]; rfl) ⟨_, sr _ _ eD2, by rw [List.length_replicate]; exact small1000 (by omega), fun c o e => ?_, ?_⟩
      · rw [upd_ne (ne_of_none e nD2)]; exact sr _ _ (sx _ _ e)
      · rw [upd_same, List.replicate_succ']
    rintro G7 ⟨s7, eD2⟩
    refine ⟨D2, _, rfl, .inl (.inl (.inl eD2)), rfl, _, rfl, ?_⟩
    refine itF (by rw [List.length_replicate, tl]; simp) ?_
    clear eD2 nD2
    have s17 := s16.trans s7
    have e7 := s7 _ _ e6
    have b7 := s7 _ _ b6
    have hR7 := DpAll_same s7 hR6
    have hK7 := DpAll_same s7 hK6
    refine ⟨_, rfl, RR, rs, rfl, .inl (.inl (.inl e7)), rfl, _, rfl, ?_⟩
    obtain ⟨zl, ezl⟩ : ∃ z, ss.getLast? = some z := by
      cases ss with
      | nil => cases es0
      | cons a l => exact ⟨_, List.getLast?_eq_some_getLast (List.cons_ne_nil _ _)⟩
    obtain ⟨uz, euz, huz⟩ := dp_last hK7 (by rw [List.getLast?_map, ezl]; rfl)
    by_cases T1 : T.length = 1
    · refine itT (decide_eq_true (by rw [rl, T1]; rfl)) ?_
      have ee : t0 = zl := by
        have := hF.one T1
        rw [es0, ezl] at this
        exact Option.some.inj this
      refine ⟨_, rfl, b, ks, 0, u0, rfl, rfl, .inl (.inl b7), atI_nat eu0, _, rfl, _, rfl, b, ks, -1, uz, rfl, rfl, .inl (.inl b7), by rw [atI_last]; exact euz, _, _, Dp_same s7 hu0, huz, (shaped_r t0).1, (shaped_r zl).1, ?_⟩
      rw [eqv_i, decide_eq_true ee]
      exact q G7 s17
    refine itF (decide_eq_false fun z => T1 (by have := V.int.inj z; omega)) ?_
    have T2 : 2 ≤ T.length := by omega
    have szAll : ∀ d ∈ ss, SzT 1000 d := fun d hd => by
      obtain ⟨c, hcm, rfl⟩ := List.mem_map.mp ((o2 d).mp hd)
      obtain ⟨g1, g2⟩ := (hg c hcm).1.2
      have dv : ∀ {z : Int}, Sz 200 (N / z) := fun {z} => Nat.lt_of_le_of_lt (Int.natAbs_ediv_le_natAbs _ _) zN
      exact ⟨sz_mono (sz_mul g1.1 dv) (by decide), sz_mono (sz_mul g2.1 dv) (by decide)⟩
    refine ⟨_, rfl, RR, rs, rfl, .inl (.inl (.inl e7)), _, rfl, by omega, by omega, ?_⟩
    rw [en]
    refine for_range (n := T.length) (fun i σ H' => ∃ y5 y6 y7 y8 y9 : Option V, σ = [some (.ref t), some (.ref p), some (.int N), some (.ref b), some (.ref RR), y5, y6, y7, y8, y9, none, none, none] ∧ Same G7 H') ⟨none, none, none, none, none, rfl, fun _ _ z => z⟩ ?_ ?_
    · rintro k σ H' kn ⟨y5, y6, y7, y8, y9, rfl, sx⟩
      have ez : ((0 : Int) + (k : Int)) = (k : Int) := by omega
      rw [ez]
      obtain ⟨x0, ex0⟩ : ∃ q0, T[k]? = some q0 := ⟨_, List.getElem?_eq_getElem kn⟩
      obtain ⟨y0, ey0⟩ : ∃ q0, T[(k + 1) % T.length]? = some q0 := ⟨_, List.getElem?_eq_getElem (Nat.mod_lt _ (by omega))⟩
      obtain ⟨v, ev, hv⟩ := rowAt ex0
      obtain ⟨w_, ew, hw⟩ := rowAt ey0
      obtain ⟨p1, p2⟩ := hF.side T2 k x0 y0 ex0 ey0
      have em : (((k + 1) % T.length : Nat) : Int) = ((k : Int) + 1) % (rs.length : Int) := by rw [rl, Int.natCast_emod]; rfl
      have aw := atI_nat ew
      rw [em] at aw
      refine ⟨_, rfl, _, rfl, RR, rs, _, v, rfl, rfl, .inl (.inl (sx _ _ e7)), atI_nat ev, ?_⟩
      refine ⟨_, rfl, _, rfl, _, _, rfl, rfl, _, rfl, RR, rs, rfl, .inl (.inl (.inl (sx _ _ e7))), _, _, rfl, rfl, (by show (0 : Int) < _; omega), RR, rs, _, w_, rfl, rfl, .inl (.inl (sx _ _ e7)), aw, _, _, rfl, ?_⟩
      refine ⟨_, rfl, b, rfl, ⟨_, .inl (.inl (sx _ _ b7))⟩, for_list (K := K) (a := b) (xs := ks) (fun i σ H' => ∃ y8 y9 : Option V, σ = [some (.ref t), some (.ref p), some (.int N), some (.ref b), some (.ref RR), some (.int (k : Int)), some v, some w_, y8, y9, none, none, none] ∧ Same G7 H') ⟨y8, y9, rfl, sx⟩ (fun i σ H' _ ⟨_, _, _, z⟩ => .inl (.inl (z _ _ b7))) ?_ ?_⟩
      · rintro j u σ H2 hu ⟨y8, y9, rfl, s2_⟩
        obtain ⟨d, ed, hd⟩ := DpAll_at (DpAll_same s2_ hK7) hu
        rw [List.getElem?_map] at ed
        cases eq : ss[j]? with
        | none => rw [eq] at ed; cases ed
        | some qj =>
          rw [eq] at ed
          cases ed
          have qm := List.mem_of_getElem? eq
          have zq := szAll qj qm
          have zx := szAll x0 (hF.sub x0 (List.mem_of_getElem? ex0))
          have zy := szAll y0 (hF.sub y0 (List.mem_of_getElem? ey0))
          have hv2 := Dp_same (s7.trans s2_) hv
          have hw2 := Dp_same (s7.trans s2_) hw
          have ku : Cou K H2 u (.int qj.1) (.int qj.2) := cou_r hd
          have kv : Cou K H2 v (.int x0.1) (.int x0.2) := cou_r hv2
          have kw : Cou K H2 w_ (.int y0.1) (.int y0.2) := cou_r hw2
          have c0 := p1 qj qm
          unfold G4.cr at c0
          refine ⟨w_, rfl, _, _, 0, _, rfl, kw, rfl, v, rfl, _, _, 0, _, rfl, kv, rfl, _, _, rfl, rfl, u, rfl, _, _, 1, _, rfl, ku, rfl, v, rfl, _, _, 1, _, rfl, kv, rfl, _, _, rfl, rfl, _, _, rfl, rfl, wide_mul (sz_dif zy.1 zx.1) (sz_dif zq.2 zx.2) (by decide) (by decide) (by decide), 
            w_, rfl, _, _, 1, _, rfl, kw, rfl, v, rfl, _, _, 1, _, rfl, kv, rfl, _, _, rfl, rfl, u, rfl, _, _, 0, _, rfl, ku, rfl, v, rfl, _, _, 0, _, rfl, kv, rfl, _, _, rfl, rfl, _, _, rfl, rfl, wide_mul (sz_dif zy.2 zx.2) (sz_dif zq.1 zx.1) (by decide) (by decide) (by decide), _, _, rfl, rfl, ?_⟩
          have fin : (∃ y8 y9 : Option V, [some (V.ref t), some (.ref p), some (.int N), some (.ref b), some (.ref RR), some (.int (k : Int)), some v, some w_, some u, some (.int ((y0.1 - x0.1) * (qj.2 - x0.2) - (y0.2 - x0.2) * (qj.1 - x0.1))), none, none, none] = [some (V.ref t), some (.ref p), some (.int N), some (.ref b), some (.ref RR), some (.int (k : Int)), some v, some w_, y8, y9, none, none, none] ∧ Same G7 H2) := ⟨_, _, rfl, s2_⟩
          have e7_ := s2_ _ _ e7
          refine ⟨_, rfl, _, _, rfl, rfl, _, rfl, itF (decide_eq_false (by omega)) ?_⟩
          refine ⟨_, rfl, rfl, _, rfl, ?_⟩
          by_cases z0 : (y0.1 - x0.1) * (qj.2 - x0.2) - (y0.2 - x0.2) * (qj.1 - x0.1) = 0
          · refine itT (decide_eq_true (congrArg V.int z0)) ?_
            refine ⟨_, rfl, RR, rs, rfl, .inl (.inl (.inl e7_)), _, _, rfl, rfl, _, rfl, ?_⟩
            by_cases T3 : 2 < T.length
            · refine itT (decide_eq_true (by omega)) ?_
              refine ⟨_, rfl, _, rfl, iD qj, T.map iD, hd, .lst (.inl (.inl e7_)) (DpAll_same s2_ hR7), (shaped_r qj).1, shaped_li T, _, rfl, ?_⟩
              rw [any_i]
              by_cases qT : qj ∈ T
              · refine itT (decide_eq_true qT) ?_
                refine ⟨_, rfl, _, rfl, _, _, hd, hv2, (shaped_r qj).1, (shaped_r x0).1, _, rfl, ?_⟩
                rw [eqv_i]
                by_cases q1 : qj = x0
                · exact itF (by rw [decide_eq_true q1]; rfl) (itF rfl fin)
                · refine itT (by rw [decide_eq_false q1]; rfl) ?_
                  refine ⟨_, rfl, _, rfl, _, _, hd, hw2, (shaped_r qj).1, (shaped_r y0).1, _, rfl, ?_⟩
                  rw [eqv_i]
                  by_cases q2 : qj = y0
                  · exact itF (by rw [decide_eq_true q2]; rfl) fin
                  · exact absurd (p2 qj qT q1 q2) (by unfold G4.cr; omega)
              · exact itF (decide_eq_false qT) (itF rfl fin)
            · exact itF (decide_eq_false (by omega)) (itF rfl fin)
          · exact itF (decide_eq_false (fun z => z0 (V.int.inj z))) (itF rfl fin)
      · rintro σ H2 ⟨y8, y9, rfl, s2_⟩
        exact ⟨_, _, _, _, _, rfl, s2_⟩
    · rintro σ H' ⟨y5, y6, y7, y8, y9, rfl, sx⟩
      have e8 := sx _ _ e7
      have b8 := sx _ _ b7
      refine ⟨_, rfl, RR, rs, rfl, .inl (.inl (.inl e8)), _, _, rfl, rfl, _, rfl, ?_⟩
      by_cases T3 : 2 < T.length
      · have d1 : decide ((2 : Int) < (rs.length : Int)) = true := decide_eq_true (by omega)
        rw [d1]
        exact itT rfl (q H' (s17.trans sx))
      · refine itF (decide_eq_false (by omega)) ?_
        have TT2 : T.length = 2 := by omega
        have e1z := hF.two TT2
        rw [ezl] at e1z
        obtain ⟨v1, ev1, hv1⟩ := rowAt e1z
        refine ⟨_, rfl, RR, rs, 1, v1, rfl, rfl, .inl (.inl e8), atI_nat ev1, _, rfl, _, rfl, b, ks, -1, uz, rfl, rfl, .inl (.inl b8), by rw [atI_last]; exact euz, _, _, Dp_same (s7.trans sx) hv1, Dp_same sx huz, (shaped_r zl).1, (shaped_r zl).1, ?_⟩
        rw [eqv_i, decide_eq_true rfl]
        exact q H' (s17.trans sx)
end
end F3
set_option Elab.async false
set_option linter.all false
set_option maxRecDepth 100000
set_option maxHeartbeats 4000000
set_option exponentiation.threshold 10000
namespace F3
open PySem PySem.Spec PyProof.Rows L2 FX RM PB KD KS
/-- another list of the same corners is refused -/
theorem spoil_same {ps os ps' : List Pl} (h : Srt ps os) (hr : ∀ p ∈ ps, RatP p) (ne : ps ≠ []) (m : ∀ r, r ∈ ps' ↔ r ∈ hullP os) (d : ps' ≠ hullP os) : ∀ os', Srt ps' os' → hullP os' ≠ ps' := fun os' h' e => by
  have k := hull_between h h' hr ne (fun r hm => (h.m r).mp (hull_sub r ((m r).mp hm))) fun r hm => (m r).mpr hm
  exact d (e.symm.trans k)
theorem rot_ne {α : Type} {l : List α} (h : l.Nodup) {k : Nat} (k0 : 0 < k) (kl : k < l.length) : l.drop k ++ l.take k ≠ l := fun e => by
  have e1 : (l.drop k ++ l.take k)[0]? = l[k]? := by
    rw [List.getElem?_append_left (by rw [List.length_drop]; omega), List.getElem?_drop]; simp
  rw [e, List.getElem?_eq_getElem (by omega), List.getElem?_eq_getElem kl] at e1
  exact List.pairwise_iff_getElem.mp h 0 k (by omega) kl k0 (Option.some.inj e1)
theorem rot_mem {α : Type} {l : List α} {k : Nat} (r : α) : r ∈ l.drop k ++ l.take k ↔ r ∈ l := by
  conv => rhs; rw [← List.take_append_drop k l]
  rw [List.mem_append, List.mem_append, or_comm]
theorem rev_ne {α : Type} {a b : α} {l : List α} (h : (a :: b :: l).Nodup) (ln : l ≠ []) : a :: (b :: l).reverse ≠ a :: b :: l := fun e => by
  have e := (List.cons.inj e).2
  rw [List.reverse_cons] at e
  obtain ⟨c, l', e2⟩ : ∃ c l', l.reverse = c :: l' := by
    cases e3 : l.reverse with
    | nil => exact absurd (List.reverse_eq_nil_iff.mp e3) ln
    | cons c l' => exact ⟨c, l', rfl⟩
  rw [e2] at e
  have cb : c = b := (List.cons.inj e).1
  have cm : c ∈ l := List.mem_reverse.mp (by rw [e2]; exact List.mem_cons_self ..)
  rw [List.nodup_cons, List.nodup_cons] at h
  exact h.2.1 (cb ▸ cm)
theorem rev_mem {α : Type} {a : α} {l : List α} (r : α) : r ∈ a :: l.reverse ↔ r ∈ a :: l := by
  rw [List.mem_cons, List.mem_cons, List.mem_reverse]
theorem swap_ne {α : Type} {a b : α} (h : [a, b].Nodup) : [b, a] ≠ [a, b] := fun e => by
  have := (List.cons.inj e).1
  simp at h
  exact h this.symm
theorem more_ne {α : Type} {l m : List α} (h : m ≠ []) : l ++ m ≠ l := fun e => by
  have := congrArg List.length e
  rw [List.length_append] at this
  exact h (List.length_eq_zero_iff.mp (by omega))
/-- the middle of two places -/
def midP (a b : Pl) : Pl := (rmul (radd a.1 b.1) (1, 2), rmul (radd a.2 b.2) (1, 2))
theorem mid_2 {x y : Rt} (hx : IsRat x) (hy : IsRat y) : IsRat (rmul (radd x y) (1, 2)) ∧ (rmul (radd x y) (1, 2)).1 * (2 * (x.2 * y.2)) = (x.1 * y.2 + y.1 * x.2) * (rmul (radd x y) (1, 2)).2 := by
  have p := Int.mul_pos hx.1 hy.1
  have h1 := rep_norm (t := x.1 * y.2 + y.1 * x.2) p
  have sp : 0 < (radd x y).2 := h1.1.1
  have h2 := rep_norm (t := (radd x y).1 * 1) (b := (radd x y).2 * 2) (by omega)
  have k1 := h1.2.2
  have k2 := h2.2.2
  refine ⟨h2.1, ?_⟩
  show (norm ((radd x y).1 * 1) ((radd x y).2 * 2)).1 * (2 * (x.2 * y.2)) = (x.1 * y.2 + y.1 * x.2) * (norm ((radd x y).1 * 1) ((radd x y).2 * 2)).2
  have k1 : (radd x y).1 * (x.2 * y.2) = (x.1 * y.2 + y.1 * x.2) * (radd x y).2 := k1
  generalize norm ((radd x y).1 * 1) ((radd x y).2 * 2) = z at k2 ⊢
  generalize radd x y = s at *
  have e : (z.1 * (2 * (x.2 * y.2))) * s.2 = ((x.1 * y.2 + y.1 * x.2) * z.2) * s.2 := by grind
  exact Int.eq_of_mul_eq_mul_right (by omega) e
theorem mid_sc {N : Int} (n0 : 0 < N) {a b : Pl} (ha : Bot N a) (hb : Bot N b) (hm : Bot N (midP a b)) : 2 * (sc N (midP a b)).1 = (sc N a).1 + (sc N b).1 ∧ 2 * (sc N (midP a b)).2 = (sc N a).2 + (sc N b).2 := by
  have go : ∀ {x y z : Rt} {u v w : Int}, IsRat x → IsRat y → IsRat z → z.1 * (2 * (x.2 * y.2)) = (x.1 * y.2 + y.1 * x.2) * z.2 → u * x.2 = x.1 * N → v * y.2 = y.1 * N → w * z.2 = z.1 * N → 2 * w = u + v := fun {x y z u v w} hx hy hz e e1 e2 e3 => by
    have p := Int.mul_pos (Int.mul_pos hx.1 hy.1) hz.1
    have k : (2 * w) * (x.2 * y.2 * z.2) = (u + v) * (x.2 * y.2 * z.2) := by grind
    exact Int.eq_of_mul_eq_mul_right (by omega) k
  obtain ⟨m1, e1⟩ := mid_2 ha.1.1 hb.1.1
  obtain ⟨m2, e2⟩ := mid_2 ha.1.2 hb.1.2
  exact ⟨go ha.1.1 hb.1.1 m1 e1 (sc_1 ha).1 (sc_1 hb).1 (sc_1 hm).1, go ha.1.2 hb.1.2 m2 e2 (sc_1 ha).2 (sc_1 hb).2 (sc_1 hm).2⟩
/-- a corner in the middle of the first side is refused -/
theorem spoil_mid {a b : Pl} {l : List Pl} (hr : ∀ p ∈ a :: midP a b :: b :: l, RatP p) : ∀ os', Srt (a :: midP a b :: b :: l) os' → hullP os' ≠ a :: midP a b :: b :: l := fun os' h' e => by
  have hb := bots_ok hr
  have n0 := bots_pos hr
  generalize bots (a :: midP a b :: b :: l) = N at hb n0
  have nd := hull_nodup h' hr
  rw [e] at nd
  have l2 : 2 ≤ os'.length := by
    have k := nodup_len nd fun x hx => (h'.m x).mpr hx
    simp at k
    omega
  obtain ⟨c, d, l1, u1, hl, e1⟩ := h'.hl n0 hb l2
  rw [e] at e1
  have hs := (hl.side 0 (sc N a) (sc N (midP a b)) (by rw [← e1]; rfl) (by rw [← e1]; simp)).2
  have ba := hb a (by simp)
  have bm := hb (midP a b) (by simp)
  have bb := hb b (by simp)
  have z := hs (sc N b) (by rw [← e1]; simp) (fun k => by
    have := sc_inj n0 bb ba k
    rw [this] at nd; simp at nd) (fun k => by
    have := sc_inj n0 bb bm k
    rw [← this] at nd; simp at nd)
  obtain ⟨k1, k2⟩ := mid_sc n0 ba bb bm
  unfold G4.cr at z
  generalize (sc N (midP a b)).1 = m1 at k1 z
  generalize (sc N (midP a b)).2 = m2 at k2 z
  have e5 : (sc N b).1 = 2 * m1 - (sc N a).1 := by omega
  have e6 : (sc N b).2 = 2 * m2 - (sc N a).2 := by omega
  rw [e5, e6] at z
  have : (m1 - (sc N a).1) * (2 * m2 - (sc N a).2 - (sc N a).2) - (m2 - (sc N a).2) * (2 * m1 - (sc N a).1 - (sc N a).1) = 0 := by grind
  omega
end F3
set_option Elab.async false
set_option linter.all false
set_option maxRecDepth 100000
set_option maxHeartbeats 4000000
set_option exponentiation.threshold 10000
namespace F3
open PySem PySem.Spec PyProof.Rows L2 FX RM PB KD KS
theorem cut_whole {xs : List V} {lo hi : Option Int} (e : HT.sIx xs.length 0 lo = 0 ∧ HT.sIx xs.length xs.length hi = xs.length) : cutV xs lo hi = xs := by
  unfold cutV
  rw [e.1, e.2]
  simp
theorem cut_drop (xs : List V) {k : Nat} (h : k ≤ xs.length) : cutV xs (some (k : Int)) none = xs.drop k := by
  unfold cutV
  have e1 : HT.sIx xs.length 0 (some (k : Int)) = k := by
    show (if (k : Int) < 0 then ((k : Int) + (xs.length : Int)).toNat else min (k : Int).toNat xs.length) = _
    rw [if_neg (by omega)]
    omega
  have e2 : HT.sIx xs.length xs.length none = xs.length := rfl
  rw [e1, e2]
  first
    | exact List.take_of_length_le (by rw [List.length_drop]; omega)
    | (rw [List.take_of_length_le (by simp)])
    | trace_state
theorem cut_end (xs : List V) (n0 : xs ≠ []) : cutV xs (some (-1)) none = xs.drop (xs.length - 1) := by
  unfold cutV
  have l0 : 0 < xs.length := List.length_pos_iff.mpr n0
  have e1 : HT.sIx xs.length 0 (some (-1)) = xs.length - 1 := by
    show (if (-1 : Int) < 0 then (-1 + (xs.length : Int)).toNat else min (-1 : Int).toNat xs.length) = _
    rw [if_pos (by omega)]
    omega
  have e2 : HT.sIx xs.length xs.length none = xs.length := rfl
  rw [e1, e2]
  first
    | exact List.take_of_length_le (by rw [List.length_drop]; omega)
    | (rw [List.take_of_length_le (by simp)])
    | trace_state
theorem dp_drop {K : PySem.W.Frag} {H : Hp} : ∀ {ys : List V} {ds : List PyData} (k : Nat), DpAll K H ys ds → DpAll K H (ys.drop k) (ds.drop k)
  | _, _, 0, h => h
  | _, _, k + 1, .nil => .nil
  | _, _, k + 1, .cons a b => dp_drop k b
theorem catA {K : PySem.W.Frag} {H : Hp} {a b : Addr} {xs ys : List V} {Q : VK} (ha : SqT K H a xs) (hb : SqT K H b ys) (hl : xs.length + ys.length ≤ 1000) (q : ∀ c H', Same H H' → SqT K H' c (xs ++ ys) → Q (.ref c) H') : rCatA K (.ref a) (.ref b) H Q := by
  refine ⟨a, b, xs, ys, rfl, rfl, ha, hb, Nat.le_trans hl (by decide), fun e => ?_, fun e e2 => ?_, fun e e2 p np => ?_⟩
  · exact q b H (fun _ _ z => z) (by rw [e]; exact hb)
  · exact q a H (fun _ _ z => z) (by rw [e2, List.append_nil]; exact ha)
  · exact q p _ (PB.same_new np) (.inl (.inl upd_same))
theorem slA {K : PySem.W.Frag} {H : Hp} {a : Addr} {xs : List V} {lo hi : Option Int} {Q : VK} (ha : SqT K H a xs) (q : ∀ c H', Same H H' → SqT K H' c (cutV xs lo hi) → Q (.ref c) H') : rSlA K (.ref a) lo hi H Q := by
  refine ⟨a, xs, rfl, ha, fun e => ?_, fun e p np => ?_⟩
  · exact q a H (fun _ _ z => z) (by rw [cut_whole e]; exact ha)
  · exact q p _ (PB.same_new np) (.inl (.inl upd_same))
end F3
set_option Elab.async false
set_option linter.all false
set_option maxRecDepth 100000
set_option maxHeartbeats 4000000
set_option exponentiation.threshold 10000
namespace F3
open PySem PySem.Spec PyProof.Rows L2 FX RM PB KD KS
theorem HandAt.sqT {K : PySem.W.Frag} {H H' : Hp} {p a : Addr} {xs : List V} (h : HandAt H p) (s : SameBut p H H') (k : SqT K H a xs) : SqT K H' a xs := by
  obtain ⟨c, cs, i, r, t, e, _⟩ := h
  rcases k with (k | ⟨o, k⟩) | k
  · exact .inl (.inl (s.1 _ _ (fun z => by rw [z, e] at k; cases k) k))
  · exact .inl (.inr ⟨o, s.1 _ _ (fun z => by rw [z, e] at k; cases k) k⟩)
  · exact .inr k
theorem HandAt.dps {K : PySem.W.Frag} {H H' : Hp} {p : Addr} {xs : List V} {ps : List Pl} (h : HandAt H p) (s : SameBut p H H') (k : DpAll K H xs (ps.map pD)) : DpAll K H' xs (ps.map pD) := by
  obtain ⟨c, cs, i, r, t, e, _⟩ := h
  exact DpAll_but e s.1 (noLs_p ps) k
/-- a thing that Patch refuses with this word -/
def Spoil (d : PyData) (w : Str) : Prop := (w = "many" ∧ (rowsD d = none ∨ rowsD d = some [])) ∨ (w = "corner" ∧ ∃ ds, rowsD d = some ds ∧ ds ≠ [] ∧ ds.length ≤ 60 ∧ ∃ b ∈ ds, isPla b = false) ∨
  (w = "turn" ∧ ∃ ps : List Pl, d = .tuple (ps.map pD) ∧ ps ≠ [] ∧ ps.length ≤ 60 ∧ (∀ q ∈ ps, GoodP 400 q) ∧ ∀ os, Srt ps os → hullP os ≠ ps)
theorem sp_last {K : PySem.W.Frag} {p a0 a1 : Addr} {H G : Hp} (n0 : a0 ≠ p) (n1 : a1 ≠ p) (e0 : H a0 = some (.tup [])) (e1 : H a1 = some (.lst [])) (sg : SameBut p H G) {y : Int} (y0 : 0 ≤ y) (y6 : y < 6) :
    ∃ u d, atI [V.ref a0, .ref a1, .non, .int 5, .str "", .str "a"] y = some u ∧ Dp K G u d ∧ Spoil d "many" := by
  have f0 := sg.1 _ _ n0 e0
  have f1 := sg.1 _ _ n1 e1
  have hy : y = 0 ∨ y = 1 ∨ y = 2 ∨ y = 3 ∨ y = 4 ∨ y = 5 := by omega
  rcases hy with rfl | rfl | rfl | rfl | rfl | rfl
  · exact ⟨_, _, rfl, .tup (.inl (.inl f0)) .nil, .inl ⟨rfl, .inr rfl⟩⟩
  · exact ⟨_, _, rfl, .lst (.inl (.inl f1)) .nil, .inl ⟨rfl, .inr rfl⟩⟩
  · exact ⟨_, _, rfl, .non, .inl ⟨rfl, .inl rfl⟩⟩
  · exact ⟨_, _, rfl, .int _, .inl ⟨rfl, .inl rfl⟩⟩
  · exact ⟨_, _, rfl, .str _, .inl ⟨rfl, .inl rfl⟩⟩
  · exact ⟨_, _, rfl, .str _, .inl ⟨rfl, .inl rfl⟩⟩
theorem sp_bad {K : PySem.W.Frag} {p b1 b2 b3 b4 c1 c2 : Addr} {H : Hp} {a : Pl} (h : HandAt H p) (g1 : Dp K H (.ref b1) (rD (1, 2))) (g2 : Dp K H (.ref b2) (.tuple [rD a.1, rD a.2, rD a.1, rD a.2])) (m2 : c2 ≠ p) (m3 : b3 ≠ p)
    (f1 : Dp K H (.ref c1) (rD (0, 1))) (f2 : H c2 = some (.lst [.int 1, .int 1])) (f3 : H b3 = some (.tup [.ref c1, .ref c2])) (g4 : Dp K H (.ref b4) (.tuple [rD (0, 1), rD (2, 4)])) {y : Int} (y0 : 0 ≤ y) (y7 : y < 7) :
    ∃ u d, atI [V.non, .int 3, .ref b1, .ref b2, .ref b3, .ref b4, .str "ab"] y = some u ∧ isPla d = false ∧ ∀ G, SameBut p H G → Dp K G u d := by
  have hy : y = 0 ∨ y = 1 ∨ y = 2 ∨ y = 3 ∨ y = 4 ∨ y = 5 ∨ y = 6 := by omega
  rcases hy with rfl | rfl | rfl | rfl | rfl | rfl | rfl
  · exact ⟨_, _, rfl, rfl, fun G sg => .non⟩
  · exact ⟨_, _, rfl, rfl, fun G sg => .int 3⟩
  · exact ⟨_, rD (1, 2), rfl, by decide +kernel, fun G sg => h.dp sg (by rfl) g1⟩
  · exact ⟨_, .tuple [rD a.1, rD a.2, rD a.1, rD a.2], rfl, rfl, fun G sg => h.dp sg (by rfl) g2⟩
  · exact ⟨_, .tuple [rD (0, 1), .list [.int 1, .int 1]], rfl, by decide +kernel, fun G sg => .tup (.inl (.inl (sg.1 _ _ m3 f3))) (.cons (h.dp sg (by rfl) f1) (.cons (.lst (.inl (.inl (sg.1 _ _ m2 f2))) (.cons (.int _) (.cons (.int _) .nil))) .nil))⟩
  · exact ⟨_, .tuple [rD (0, 1), rD (2, 4)], rfl, by decide +kernel, fun G sg => h.dp sg (by rfl) g4⟩
  · exact ⟨_, _, rfl, rfl, fun G sg => .str "ab"⟩
theorem rg_size1 {n : Nat} : Builtin.Range.rangeSize (n : Int) 0 (-1) = n := by
  unfold Builtin.Range.rangeSize
  rw [if_neg (by decide)]
  by_cases h : (n : Int) > 0
  · rw [if_pos h]
    have e : ((n : Int) - 0 - 1) / - -1 = (n : Int) - 1 := by
      rw [show (- -1 : Int) = 1 by decide, Int.ediv_one]; omega
    rw [e]; omega
  · rw [if_neg h]; omega
theorem rg_down1 {n : Nat} (h : n ≤ 1000) : RgC (n : Int) 0 (-1) n := by
  refine ⟨by decide, by decide, ?_, rg_size1⟩
  unfold Builtin.Range.small
  rw [rg_size1]
  unfold Builtin.Range.rangeFitsLong
  simp
  omega
theorem rev_tail {α β : Type} (a : α) (r : List α) (z : α) {g : α → β} : (List.range r.length).map (fun k => g ((a :: r).getD (r.length - k) z)) = r.reverse.map g := by
  rw [← rev_get (g := g) r z rfl]
  refine List.map_congr_left fun k hk => ?_
  have kl := List.mem_range.mp hk
  have e : r.length - k = (r.length - 1 - k) + 1 := by omega
  rw [e]; rfl
theorem mid_good {a b : Pl} (ha : GoodL a) (hb : GoodL b) : GoodP 400 (midP a b) := by
  have half : IsRat (1, 2) := ⟨by decide, by decide +kernel⟩
  have hz : SzR 2 (1, 2) := ⟨by show (1 : Int).natAbs < 4; decide, by show (2 : Int).natAbs < 4; decide⟩
  have go : ∀ {x y : Rt}, IsRat x → IsRat y → SzR 151 x → SzR 151 y → IsRat (rmul (radd x y) (1, 2)) ∧ SzR 400 (rmul (radd x y) (1, 2)) := fun hx hy zx zy =>
    ⟨rat_mul (rat_add hx hy) half, szr_mono (szr_mul (rat_add hx hy) half (szr_add hx hy zx zy) hz) (by decide)⟩
  obtain ⟨⟨⟨a1, a2⟩, z1, z2⟩, _⟩ := ha
  obtain ⟨⟨⟨b1, b2⟩, y1, y2⟩, _⟩ := hb
  have p := go a1 b1 z1 y1
  have q := go a2 b2 z2 y2
  exact ⟨⟨p.1, q.1⟩, p.2, q.2⟩
end F3
set_option Elab.async false
set_option linter.all false
set_option maxRecDepth 100000
set_option maxHeartbeats 4000000
set_option exponentiation.threshold 10000
namespace F3
open PySem PySem.Spec PyProof.Rows L2 FX RM PB KD KS
def spSpoilt (K : PySem.W.Frag) : Sp := fun vs H Q _ => ∃ (p : Addr) (c : V) (ps os : List Pl), vs = [.ref p, c] ∧ Dp K H c (.tuple ((hullP os).map pD)) ∧ Srt ps os ∧ ps ≠ [] ∧ ps.length ≤ 9 ∧ (∀ q ∈ ps, GoodL q) ∧ HandAt H p ∧
  ∀ (H' : Hp) (D : Addr) (v : V) (d : PyData) (w : Str), H' D = some (.lst [v, .str w]) → Dp K H' v d → Spoil d w → HandAt H' p → SameBut p H H' → Q (.ref D) H'
section
variable {P : Program} {w : World} {K : PySem.W.Frag} {mg : Str → Option Value} {base : Heap}
abbrev s_law_spoilt : Stmt := topS 57
theorem sc_law_spoilt : FnScope ["_law_hand_here", "_law_corners", "_law_many", "_law_pick", "_law_by", "_law_back", "_law_half_here", "_law_bad", "_law_spot", "_law_k"] ["_law_hand_here", "_law_corners"] (defScope s_law_spoilt) := ⟨rfl, rfl, rfl, by decide +kernel, rfl, by decide +kernel, by decide +kernel⟩
theorem ok_law_spoilt (T : Txt K mg "_law_spoilt" s_law_spoilt) (G_law_take : DefOk P w K mg base CX0 "_law_take" 2 ["_law_hand_here", "_law_many"] spTake) (G_law_plus : DefOk P w K mg base CX0 "_law_plus" 3 ["_law_one", "_law_other"] (spBin K radd)) (G_law_times : DefOk P w K mg base CX0 "_law_times" 3 ["_law_one", "_law_other"] (spBin K rmul)) (mlen : mg "len" = none) (mrange : mg "range" = none) (mtuple : mg "tuple" = none) : DefOk P w K mg base CX0 "_law_spoilt" 5 ["_law_hand_here", "_law_corners"] (spSpoilt K) := by
  obtain ⟨f, fd, F, gf⟩ := T
  refine ⟨f, fd, gf, F.kp, F.binds (fun _ _ _ _ _ _ us hl => match us, hl with | [_, _], _ => rfl), F.ok sc_law_spoilt (fun vs H Q E h => ?_) (fun cdv A outer s H vs Q E hr h => ?_)⟩
  · obtain ⟨p, c, ps, os, rfl, _⟩ := h; rfl
  · obtain ⟨p, c, ps, os, rfl, hc, hO, pn, l9, hg, hH, q⟩ := h
    refine ⟨_, (pss_cons (ps_set (i := 2) sc_law_spoilt.nd rfl (.inl rfl) (pe_callB call_len_seq (by rfl) mlen PySem.boot_len (pa_cons (pv 1) pa_nil))) (pss_cons (ps_set (i := 3) sc_law_spoilt.nd rfl (.inl rfl) (pe_def G_law_take (hr.mono (by decide)) (by rfl) (pa_cons (pv 0) (pa_cons pe_int pa_nil)))) (pss_cons (ps_if (PW.pt (pw_and (pt_cmpR op_eq (pv 3) pe_int (nomark _)) (pw_and1 (pt_cmpR op_gt (pv 2) pe_int (nomark _))))) (pss_cons (ps_set (i := 4) sc_law_spoilt.nd rfl (.inl rfl) (pe_op op_add pe_int (pe_def G_law_take (hr.mono (by decide)) (by rfl) (pa_cons (pv 0) (pa_cons (pe_op op_sub (pv 2) pe_int) pa_nil))))) (pss_one (ps_ret (pe_lst (pa_cons (pe_op op_catA (pe_slice sl_tupA (pv 1) (po_some (pv 4)) po_none) (pe_slice sl_tupA (pv 1) po_none (po_some (pv 4)))) (pa_cons pe_str pa_nil)))))) pss_nil) (pss_cons (ps_if (PW.pt (pw_and (pt_cmpR op_eq (pv 3) pe_int (nomark _)) (pw_and1 (pt_cmpR op_gt (pv 2) pe_int (nomark _))))) (pss_cons (ps_set (i := 5) sc_law_spoilt.nd rfl (.inl rfl) (pe_callTy call_tuple_of (by rfl) mtuple (by decide +kernel) (pa_cons (pe_lc (own := [("_law_k", 9)]) rfl sc_law_spoilt.nd (pi_range3 (by rfl) mrange (pa_cons (pe_op op_sub (pv 2) pe_int) (pa_cons pe_int (pa_cons (pe_un un_neg pe_int) pa_nil)))) (blkOk_by (N := ["_law_hand_here", "_law_corners", "_law_many", "_law_pick", "_law_by", "_law_back", "_law_half_here", "_law_bad", "_law_spot", "_law_k"]) (sc := defScope s_law_spoilt) (by decide +kernel)) (fun _ _ _ _ _ => (pg_name (i := 9) sc_law_spoilt.nd rfl (.inl rfl))) (fun _ _ _ _ _ => pts_nil) (fun _ _ _ _ _ => (pe_ix (ix_tupK K) (pv 1) (pv 9) (fun _ _ => rfl)))) pa_nil))) (pss_one (ps_ret (pe_lst (pa_cons (pe_ifExp (pt_cmpR op_gt (pv 2) pe_int (nomark _)) (pe_op op_catA (pe_slice sl_tupA (pv 1) po_none (po_some pe_int)) (pv 5)) (pe_op op_catA (pv 5) (pe_slice sl_tupA (pv 1) po_none (po_some pe_int)))) (pa_cons pe_str pa_nil)))))) pss_nil) (pss_cons (ps_if (pt_cmpR op_eq (pv 3) pe_int (nomark _)) (pss_one (ps_ret (pe_lst (pa_cons (pe_op op_catA (pv 1) (pe_slice sl_tupA (pv 1) (po_some (pe_un un_neg pe_int)) po_none)) (pa_cons pe_str pa_nil))))) pss_nil) (pss_cons (ps_if (PW.pt (pw_and (pt_cmpR op_eq (pv 3) pe_int (nomark _)) (pw_and1 (pt_cmpR op_gt (pv 2) pe_int (nomark _))))) (pss_cons (ps_set (i := 6) sc_law_spoilt.nd rfl (.inl rfl) (pe_tup (pa_cons (pe_def G_law_times (hr.mono (by decide)) (by rfl) (pa_cons (pe_def G_law_plus (hr.mono (by decide)) (by rfl) (pa_cons (pe_ix ix_it (pe_ix ix_tup (pv 1) pe_int (fun _ _ => rfl)) pe_int (fun _ _ => rfl)) (pa_cons (pe_ix ix_it (pe_ix ix_tup (pv 1) pe_int (fun _ _ => rfl)) pe_int (fun _ _ => rfl)) pa_nil))) (pa_cons (pe_tup (pa_cons pe_int (pa_cons pe_int pa_nil))) pa_nil))) (pa_cons (pe_def G_law_times (hr.mono (by decide)) (by rfl) (pa_cons (pe_def G_law_plus (hr.mono (by decide)) (by rfl) (pa_cons (pe_ix ix_it (pe_ix ix_tup (pv 1) pe_int (fun _ _ => rfl)) pe_int (fun _ _ => rfl)) (pa_cons (pe_ix ix_it (pe_ix ix_tup (pv 1) pe_int (fun _ _ => rfl)) pe_int (fun _ _ => rfl)) pa_nil))) (pa_cons (pe_tup (pa_cons pe_int (pa_cons pe_int pa_nil))) pa_nil))) pa_nil)))) (pss_one (ps_ret (pe_lst (pa_cons (pe_op op_catA (pe_op op_catA (pe_slice sl_tupA (pv 1) po_none (po_some pe_int)) (pe_tup (pa_cons (pv 6) pa_nil))) (pe_slice sl_tupA (pv 1) (po_some pe_int) po_none)) (pa_cons pe_str pa_nil)))))) pss_nil) (pss_cons (ps_if (pt_cmpR op_eq (pv 3) pe_int (nomark _)) (pss_one (ps_ret (pe_lst (pa_cons (pe_op op_catA (pv 1) (pv 1)) (pa_cons pe_str pa_nil))))) pss_nil) (pss_cons (ps_if (pt_cmpR op_eq (pv 3) pe_int (nomark _)) (pss_cons (ps_set (i := 7) sc_law_spoilt.nd rfl (.inl rfl) (pe_ix ix_list (pe_lst (pa_cons pe_non (pa_cons pe_int (pa_cons (pe_tup (pa_cons pe_int (pa_cons pe_int pa_nil))) (pa_cons (pe_op op_catA (pe_ix ix_tup (pv 1) pe_int (fun _ _ => rfl)) (pe_ix ix_tup (pv 1) pe_int (fun _ _ => rfl))) (pa_cons (pe_tup (pa_cons (pe_tup (pa_cons pe_int (pa_cons pe_int pa_nil))) (pa_cons (pe_lst (pa_cons pe_int (pa_cons pe_int pa_nil))) pa_nil))) (pa_cons (pe_tup (pa_cons (pe_tup (pa_cons pe_int (pa_cons pe_int pa_nil))) (pa_cons (pe_tup (pa_cons pe_int (pa_cons pe_int pa_nil))) pa_nil))) (pa_cons pe_str pa_nil)))))))) (pe_def G_law_take (hr.mono (by decide)) (by rfl) (pa_cons (pv 0) (pa_cons pe_int pa_nil))) (fun _ _ => rfl))) (pss_cons (ps_set (i := 8) sc_law_spoilt.nd rfl (.inl rfl) (pe_def G_law_take (hr.mono (by decide)) (by rfl) (pa_cons (pv 0) (pa_cons (pe_op op_add (pv 2) pe_int) pa_nil)))) (pss_one (ps_ret (pe_lst (pa_cons (pe_op op_catA (pe_op op_catA (pe_slice sl_tupA (pv 1) po_none (po_some (pv 8))) (pe_tup (pa_cons (pv 7) pa_nil))) (pe_slice sl_tupA (pv 1) (po_some (pv 8)) po_none)) (pa_cons pe_str pa_nil))))))) pss_nil) (pss_one (ps_ret (pe_lst (pa_cons (pe_ix ix_list (pe_lst (pa_cons (pe_tup pa_nil) (pa_cons (pe_lst pa_nil) (pa_cons pe_non (pa_cons pe_int (pa_cons pe_str (pa_cons pe_str pa_nil))))))) (pe_def G_law_take (hr.mono (by decide)) (by rfl) (pa_cons (pv 0) (pa_cons pe_int pa_nil))) (fun _ _ => rfl)) (pa_cons pe_str pa_nil))))))))))))), ?_⟩
    obtain ⟨t, ts, rfl, hT, hDD⟩ : ∃ t ts, c = .ref t ∧ SqT K H t ts ∧ DpAll K H ts ((hullP os).map pD) := by
      cases hc with
      | tup h g => exact ⟨_, _, rfl, h, g⟩
    have hr' : ∀ r ∈ ps, RatP r := fun r hr => (hg r hr).1.1
    have hne := hull_ne hO hr' pn
    have hnd := hull_nodup hO hr'
    have hsub : ∀ r ∈ hullP os, r ∈ ps := fun r hr => (hO.m r).mp (hull_sub r hr)
    have hgc : ∀ r ∈ hullP os, GoodP 400 r := fun r hr => ⟨(hg r (hsub r hr)).1.1, szr_mono (hg r (hsub r hr)).1.2.1 (by decide), szr_mono (hg r (hsub r hr)).1.2.2 (by decide)⟩
    have hl9 : (hullP os).length ≤ 9 := by have := nodup_len hnd hsub; omega
    have hsame := fun {ps' : List Pl} => spoil_same (ps' := ps') hO hr' pn
    generalize hullP os = cs at *
    have tl : ts.length = cs.length := by rw [DpAll_len hDD, List.length_map]
    refine ⟨_, rfl, t, ts, rfl, .inr hT, ?_⟩
    show tSeq _ _ _ [some (.ref p), some (.ref t), some (.int (ts.length : Int)), none, none, none, none, none, none, none] H
    refine ⟨.ref p, rfl, p, 7, rfl, hH, by decide, by decide, fun k H1 k0 k7 h1 s1 => ?_⟩
    have fin : ∀ (G : Hp) (D : Addr) (v : V) (d : PyData) (w : Str), SameBut p H1 G → HandAt G p → Dp K G v d → Spoil d w → G D = none → Q (.ref D) (upd G D (.lst [v, .str w])) := fun G D v d w sG hG hd hs nD =>
      q _ D v d w upd_same (Dp_same (PB.same_new nD) hd) hs (hG.same (PB.same_new nD)) ((s1.trans sG).trans (Same.but (PB.same_new nD)))
    have turn : ∀ (G : Hp) (D a : Addr) (ys : List V) (ps' : List Pl), SameBut p H1 G → HandAt G p → SqT K G a ys → DpAll K G ys (ps'.map pD) → ps' ≠ [] → ps'.length ≤ 60 → (∀ r ∈ ps', GoodP 400 r) → (∀ os, Srt ps' os → hullP os ≠ ps') → G D = none → Q (.ref D) (upd G D (.lst [.ref a, .str "turn"])) := fun G D a ys ps' sG hG hs hd h0 h6 h7 h8 nD =>
      fin G D _ _ _ sG hG (.tup hs hd) (.inr (.inr ⟨rfl, ps', rfl, h0, h6, h7, h8⟩)) nD
    have hT1 := hH.sqT s1 hT
    have hD1 := hH.dps s1 hDD
    refine ⟨_, rfl, rfl, _, rfl, ?_⟩
    by_cases c0 : k = 0
    · refine itT (decide_eq_true (by rw [c0])) ?_
      by_cases m1 : 1 < cs.length
      · refine ⟨_, rfl, _, _, rfl, rfl, _, rfl, ?_⟩
        refine itT (decide_eq_true (by omega)) ?_
        refine ⟨.ref p, rfl, _, rfl, _, _, rfl, rfl, p, _, rfl, h1, by omega, by omega, fun y H2 y0 y1 h2 s2 => ⟨_, _, rfl, rfl, ?_⟩⟩
        have ey : (1 + y : Int) = ((y.toNat + 1 : Nat) : Int) := by omega
        show tSeq _ _ _ [some (.ref p), some (.ref t), some (.int (ts.length : Int)), some (.int k), some (.int (1 + y)), none, none, none, none, none] H2
        rw [ey]
        have b1 : y.toNat + 1 < cs.length := by omega
        have b0 : 0 < y.toNat + 1 := by omega
        generalize y.toNat + 1 = b at b0 b1
        have hT2 := h1.sqT s2 hT1
        have hD2 := h1.dps s2 hD1
        refine ⟨_, rfl, _, rfl, _, rfl, ?_⟩
        (try dsimp only [tNoPart])
        refine slA hT2 fun c1 G1 t1 hc1 => ?_
        refine ⟨_, rfl, _, rfl, _, rfl, ?_⟩
        (try dsimp only [tNoPart])
        refine slA (same_t t1 hT2) fun c2 G2 t2 hc2 => ?_
        rw [cut_drop ts (by omega)] at hc1
        rw [cut_take ts (by omega)] at hc2
        show rCatA K (.ref c1) (.ref c2) _ _
        refine catA (same_t t2 hc1) hc2 (by rw [List.length_drop, List.length_take]; omega) fun c3 G3 t3 hc3 => ⟨(by show 2 ≤ sizeLine; decide), fun D nD => ?_⟩
        have t13 := (t1.trans t2).trans t3
        have hD3 := DpAll_same t13 hD2
        refine turn G3 D c3 _ (cs.drop b ++ cs.take b) (s2.trans (Same.but t13)) (h2.same t13) hc3 ?_ ?_ ?_ ?_ (hsame (fun r => rot_mem r) (rot_ne hnd b0 b1)) nD
        · rw [List.map_append, List.map_drop, List.map_take]
          exact dp_app (dp_drop b hD3) (dp_take b hD3)
        · intro z
          have := congrArg List.length z
          rw [List.length_append, List.length_drop, List.length_take] at this
          simp at this
          omega
        · rw [List.length_append, List.length_drop, List.length_take]; omega
        · exact fun r hr => hgc r ((rot_mem r).mp hr)
      · refine ⟨_, rfl, _, _, rfl, rfl, _, rfl, ?_⟩
        refine itF (decide_eq_false (by omega)) ?_
        refine ⟨_, rfl, rfl, _, rfl, ?_⟩
        refine itF (decide_eq_false fun z => by have := V.int.inj z; omega) (itF rfl ?_)
        refine ⟨_, rfl, rfl, _, rfl, ?_⟩
        refine itF (decide_eq_false fun z => by have := V.int.inj z; omega) ?_
        refine ⟨_, rfl, rfl, _, rfl, ?_⟩
        refine itF (decide_eq_false fun z => by have := V.int.inj z; omega) (itF rfl ?_)
        refine ⟨_, rfl, rfl, _, rfl, ?_⟩
        refine itF (decide_eq_false fun z => by have := V.int.inj z; omega) ?_
        refine ⟨_, rfl, rfl, _, rfl, ?_⟩
        refine itF (decide_eq_false fun z => by have := V.int.inj z; omega) ?_
        refine ⟨(by show 0 ≤ sizeLine; decide), fun a0 na0 => ⟨(by show 0 ≤ sizeLine; decide), fun a1 na1 => ⟨(by show 6 ≤ sizeLine; decide), fun a2 na2 => ?_⟩⟩⟩
        have u0 := PB.same_new (o := .tup []) na0
        have u1 := PB.same_new (o := .lst []) na1
        have u2 := PB.same_new (o := .lst [.ref a0, .ref a1, .non, .int 5, .str "", .str "a"]) na2
        have us := (u0.trans u1).trans u2
        have n0 := h1.neD na0
        have n1 := (h1.same u0).neD na1
        have n2 := (h1.same (u0.trans u1)).neD na2
        refine ⟨.ref p, rfl, p, 6, rfl, h1.same us, by decide, by decide, fun y G y0 y6 hg sg => ?_⟩
        obtain ⟨u, d, ea, hd, hs⟩ := sp_last (K := K) n0 n1 (u2 _ _ (u1 _ _ upd_same)) (u2 _ _ upd_same) sg y0 y6
        refine ⟨a2, _, y, u, rfl, rfl, .inl (.inl (sg.1 _ _ n2 upd_same)), ea, (by show 2 ≤ sizeLine; decide), fun D nD => ?_⟩
        exact fin G D u d _ ((Same.but us).trans sg) hg hd hs nD
    refine itF (decide_eq_false (fun z => c0 (V.int.inj z))) (itF rfl ?_)
    refine ⟨_, rfl, rfl, _, rfl, ?_⟩
    by_cases c1 : k = 1
    · refine itT (decide_eq_true (by rw [c1])) ?_
      by_cases m1 : 1 < cs.length
      · refine ⟨_, rfl, _, _, rfl, rfl, _, rfl, ?_⟩
        refine itT (decide_eq_true (by omega)) ?_
        dsimp only [tSeq, tAsg, tCB, tCons, tNil]
        obtain ⟨a, r, rfl⟩ : ∃ a r, cs = a :: r := by cases cs with | nil => exact absurd rfl hne | cons a r => exact ⟨a, r, rfl⟩
        have tl2 : (ts.length : Int) - 1 = (r.length : Int) := by rw [tl, List.length_cons]; omega
        have rl : r.length ≤ 8 := by rw [List.length_cons] at hl9; omega
        refine lc_rng3 (K := K) (r.length : Int) 0 (-1) r.length (rg_down1 (by omega)) (by omega) (fun R hR2 => ?_) (fun k => pD ((a :: r).getD (r.length - k) a)) (fun k => noL_p _) (fun j G R jn sG hR2 => ?_) fun D2 G2 zs2 t2 n2 e2 h2 => ?_
        · refine ⟨_, rfl, _, _, rfl, rfl, _, rfl, ?_⟩
          show R [V.int ((ts.length : Int) - 1), .int 0, .int (-1)] H1
          rw [tl2]; exact hR2
        · have il : r.length - j < ts.length := by rw [tl, List.length_cons]; omega
          have ei : ts[r.length - j]? = some ts[r.length - j] := List.getElem?_eq_getElem il
          obtain ⟨d, ed, hd⟩ := DpAll_at (DpAll_same sG hD1) ei
          have eg : (a :: r)[r.length - j]? = some ((a :: r).getD (r.length - j) a) := by
            rw [List.getD_eq_getElem?_getD, List.getElem?_eq_getElem (by rw [List.length_cons]; omega)]; rfl
          rw [List.getElem?_map, eg] at ed
          cases ed
          have ea := atI_nat ei
          have ez : (((r.length - j : Nat)) : Int) = (r.length : Int) + (j : Int) * -1 := by omega
          rw [ez] at ea
          exact ⟨rfl, _, rfl, _, rfl, t, ts, _, _, rfl, rfl, same_t sG hT1, ea, hR2 _ _ (fun _ _ z => z) hd⟩
        have h2' : DpAll K G2 zs2 (r.reverse.map pD) := by
          rw [rev_tail (g := pD) a r a] at h2
          exact h2
        have zl : zs2.length = r.length := by rw [DpAll_len h2', List.length_map, List.length_reverse]
        refine ⟨D2, zs2, rfl, .inl ⟨.inl (.inl e2), fun l nl => ?_⟩⟩
        have t3 := t2.trans (PB.same_new (o := .tup zs2) nl)
        have hZ : SqT K (upd G2 l (.tup zs2)) l zs2 := .inl (.inl upd_same)
        have hZD := DpAll_same (PB.same_new (o := .tup zs2) nl) h2'
        have hT3 := same_t t3 hT1
        have hD3 := DpAll_same t3 hD1
        have h3 := h1.same t3
        generalize upd G2 l (.tup zs2) = G3 at t3 hZ hZD hT3 hD3 h3 ⊢
        clear e2 h2 h2' nl
        refine ⟨_, rfl, _, _, rfl, rfl, _, rfl, ?_⟩
        by_cases m2 : 2 < (a :: r).length
        · refine itT (decide_eq_true (by omega)) ?_
          obtain ⟨b, r', rfl⟩ : ∃ b r', r = b :: r' := by cases r with | nil => simp at m2 | cons b r' => exact ⟨b, r', rfl⟩
          have r0 : r' ≠ [] := by rintro rfl; simp at m2
          refine ⟨_, rfl, ?_⟩
          (try dsimp only [tNoPart])
          refine ⟨_, rfl, ?_⟩
          refine slA hT3 fun c2 G4 t4 hc4 => ?_
          rw [show cutV ts none (some 1) = ts.take 1 from cut_take (k := 1) ts (by omega)] at hc4
          refine ⟨_, rfl, ?_⟩
          show rCatA K (.ref c2) (.ref l) _ _
          refine catA hc4 (same_t t4 hZ) (by rw [List.length_take]; omega) fun c3 G5 t5 hc5 => ⟨(by show 2 ≤ sizeLine; decide), fun D nD => ?_⟩
          have t45 := t4.trans t5
          refine turn G5 D c3 _ (a :: (b :: r').reverse) (Same.but (t3.trans t45)) (h3.same t45) hc5 ?_ (List.cons_ne_nil _ _) (by rw [List.length_cons, List.length_reverse]; omega) (fun z hz => hgc z ((rev_mem z).mp hz)) (hsame (fun z => rev_mem z) (rev_ne hnd r0)) nD
          have k1 := dp_app (dp_take 1 (DpAll_same t45 hD3)) (DpAll_same t45 hZD)
          exact k1
        · refine itF (decide_eq_false (by omega)) ?_
          obtain ⟨b, rfl⟩ : ∃ b, r = [b] := by
            match r, m1, m2 with
            | [], m1, _ => simp at m1
            | [b], _, _ => exact ⟨b, rfl⟩
            | _ :: _ :: _, _, m2 => simp at m2
          refine ⟨_, rfl, ?_⟩
          refine ⟨_, rfl, ?_⟩
          (try dsimp only [tNoPart])
          refine ⟨_, rfl, ?_⟩
          refine slA hT3 fun c2 G4 t4 hc4 => ?_
          rw [show cutV ts none (some 1) = ts.take 1 from cut_take (k := 1) ts (by omega)] at hc4
          show rCatA K (.ref l) (.ref c2) _ _
          refine catA (same_t t4 hZ) hc4 (by rw [List.length_take]; omega) fun c3 G5 t5 hc5 => ⟨(by show 2 ≤ sizeLine; decide), fun D nD => ?_⟩
          have t45 := t4.trans t5
          refine turn G5 D c3 _ [b, a] (Same.but (t3.trans t45)) (h3.same t45) hc5 ?_ (List.cons_ne_nil _ _) (by show 2 ≤ 60; decide) (fun z hz => hgc z ?_) (hsame (fun z => ?_) (swap_ne hnd)) nD
          · exact dp_app (DpAll_same t45 hZD) (dp_take 1 (DpAll_same t45 hD3))
          · simp at hz ⊢; exact hz.symm
          · simp; exact or_comm
      · refine ⟨_, rfl, _, _, rfl, rfl, _, rfl, ?_⟩
        refine itF (decide_eq_false (by omega)) ?_
        refine ⟨_, rfl, rfl, _, rfl, ?_⟩
        refine itF (decide_eq_false fun z => by have := V.int.inj z; omega) ?_
        refine ⟨_, rfl, rfl, _, rfl, ?_⟩
        refine itF (decide_eq_false fun z => by have := V.int.inj z; omega) (itF rfl ?_)
        refine ⟨_, rfl, rfl, _, rfl, ?_⟩
        refine itF (decide_eq_false fun z => by have := V.int.inj z; omega) ?_
        refine ⟨_, rfl, rfl, _, rfl, ?_⟩
        refine itF (decide_eq_false fun z => by have := V.int.inj z; omega) ?_
        refine ⟨(by show 0 ≤ sizeLine; decide), fun a0 na0 => ⟨(by show 0 ≤ sizeLine; decide), fun a1 na1 => ⟨(by show 6 ≤ sizeLine; decide), fun a2 na2 => ?_⟩⟩⟩
        have u0 := PB.same_new (o := .tup []) na0
        have u1 := PB.same_new (o := .lst []) na1
        have u2 := PB.same_new (o := .lst [.ref a0, .ref a1, .non, .int 5, .str "", .str "a"]) na2
        have us := (u0.trans u1).trans u2
        have n0 := h1.neD na0
        have n1 := (h1.same u0).neD na1
        have n2 := (h1.same (u0.trans u1)).neD na2
        refine ⟨.ref p, rfl, p, 6, rfl, h1.same us, by decide, by decide, fun y G y0 y6 hg sg => ?_⟩
        obtain ⟨u, d, ea, hd, hs⟩ := sp_last (K := K) n0 n1 (u2 _ _ (u1 _ _ upd_same)) (u2 _ _ upd_same) sg y0 y6
        refine ⟨a2, _, y, u, rfl, rfl, .inl (.inl (sg.1 _ _ n2 upd_same)), ea, (by show 2 ≤ sizeLine; decide), fun D nD => ?_⟩
        exact fin G D u d _ ((Same.but us).trans sg) hg hd hs nD
    refine itF (decide_eq_false (fun z => c1 (V.int.inj z))) (itF rfl ?_)
    refine ⟨_, rfl, rfl, _, rfl, ?_⟩
    by_cases c2 : k = 2
    · refine itT (decide_eq_true (by rw [c2])) ?_
      refine ⟨_, rfl, _, rfl, _, rfl, _, rfl, ?_⟩
      (try dsimp only [tNoPart])
      refine slA hT1 fun c2 G2 t2 hc2 => ?_
      have hl0 : 0 < cs.length := List.length_pos_iff.mpr hne
      have tn : ts ≠ [] := List.length_pos_iff.mp (by omega)
      rw [show ((-1 : Int)) = -1 from rfl, cut_end ts tn] at hc2
      show rCatA K (.ref t) (.ref c2) _ _
      refine catA (same_t t2 hT1) hc2 (by rw [List.length_drop]; omega) fun c3 G3 t3 hc3 => ⟨(by show 2 ≤ sizeLine; decide), fun D nD => ?_⟩
      have t13 := t2.trans t3
      have hD3 := DpAll_same t13 hD1
      refine turn G3 D c3 _ (cs ++ cs.drop (cs.length - 1)) (Same.but t13) (h1.same t13) hc3 ?_ ?_ ?_ ?_ (hsame (fun r => ?_) (more_ne ?_)) nD
      · rw [List.map_append, List.map_drop, tl]; exact dp_app hD3 (dp_drop _ hD3)
      · exact fun z => hne (List.append_eq_nil_iff.mp z).1
      · rw [List.length_append, List.length_drop]; omega
      · exact fun r hr => hgc r ((List.mem_append.mp hr).elim id List.mem_of_mem_drop)
      · rw [List.mem_append]; exact ⟨fun z => z.elim id List.mem_of_mem_drop, .inl⟩
      · exact List.length_pos_iff.mp (by rw [List.length_drop]; omega)
    refine itF (decide_eq_false (fun z => c2 (V.int.inj z))) ?_
    refine ⟨_, rfl, rfl, _, rfl, ?_⟩
    by_cases c3 : k = 3
    · refine itT (decide_eq_true (by rw [c3])) ?_
      by_cases m1 : 1 < cs.length
      · refine ⟨_, rfl, _, _, rfl, rfl, _, rfl, ?_⟩
        refine itT (decide_eq_true (by omega)) ?_
        obtain ⟨a, b, r, rfl⟩ : ∃ a b r, cs = a :: b :: r := by
          match cs, m1 with
          | [], m1 => simp at m1
          | [a], m1 => simp at m1
          | a :: b :: r, _ => exact ⟨a, b, r, rfl⟩
        obtain ⟨x, y, xs, rfl⟩ : ∃ x y xs, ts = x :: y :: xs := by
          match ts, tl with
          | [], e => simp at e
          | [x], e => simp at e
          | x :: y :: r, _ => exact ⟨x, y, r, rfl⟩
        have hD1' := hD1
        cases hD1 with
        | cons dx hD1 => cases hD1 with
        | cons dy hD1 =>
        obtain ⟨tx, ax, ay, rfl, hx, x1, x2⟩ := dp_t2 (a := rD a.1) (b := rD a.2) dx
        obtain ⟨ty, bx, by_, rfl, hy, y1, y2⟩ := dp_t2 (a := rD b.1) (b := rD b.2) dy
        have cx : Cou K H1 (.ref tx) ax ay := ⟨tx, rfl, .inl hx⟩
        have cy : Cou K H1 (.ref ty) bx by_ := ⟨ty, rfl, .inl hy⟩
        have ga := hg a (hsub a (by simp))
        have gb := hg b (hsub b (by simp))
        have half : IsRat (1, 2) := ⟨by decide, by decide +kernel⟩
        have hz2 : SzR 2000 (1, 2) := szr_mono (n := 2) ⟨by show (1 : Int).natAbs < 4; decide, by show (2 : Int).natAbs < 4; decide⟩ (by decide)
        obtain ⟨⟨⟨ra1, ra2⟩, za1, za2⟩, _⟩ := ga
        obtain ⟨⟨⟨rb1, rb2⟩, zb1, zb2⟩, _⟩ := gb
        have m2 : ∀ {r : Rt}, SzR 151 r → SzR 2000 r := fun h => szr_mono h (by decide)
        have m3 : ∀ {r u : Rt}, IsRat r → IsRat u → SzR 151 r → SzR 151 u → SzR 2000 (radd r u) := fun hr hu h k => szr_mono (szr_add hr hu h k) (by decide)
        have ea0 : atI (V.ref tx :: V.ref ty :: xs) 0 = some (V.ref tx) := atI_nat (j := 0) rfl
        have ea1 : atI (V.ref tx :: V.ref ty :: xs) 1 = some (V.ref ty) := atI_nat (j := 1) rfl
        refine ⟨_, rfl, t, _, _, _, rfl, rfl, hT1, ea0, _, _, 0, _, rfl, cx, rfl, _, rfl, t, _, _, _, rfl, rfl, hT1, ea1, _, _, 0, _, rfl, cy, rfl, ?_⟩
        refine ⟨ax, bx, a.1, b.1, rfl, x1, y1, ra1, rb1, m2 za1, m2 zb1, fun G1 z1 t1 k1 => ⟨(by show 2 ≤ sizeLine; decide), fun q1 nq1 => ?_⟩⟩
        have u1 := PB.same_new (o := .tup [.int 1, .int 2]) nq1
        refine ⟨z1, .ref q1, radd a.1 b.1, (1, 2), rfl, Dp_same u1 k1, dp_mkr nq1, rat_add ra1 rb1, half, m3 ra1 rb1 za1 zb1, hz2, fun G2 w1 t2 e1 => ?_⟩
        have tA := (t1.trans u1).trans t2
        refine ⟨_, rfl, t, _, _, _, rfl, rfl, same_t tA hT1, ea0, _, _, 1, _, rfl, cx.same tA, rfl, _, rfl, t, _, _, _, rfl, rfl, same_t tA hT1, ea1, _, _, 1, _, rfl, cy.same tA, rfl, ?_⟩
        refine ⟨ay, by_, a.2, b.2, rfl, Dp_same tA x2, Dp_same tA y2, ra2, rb2, m2 za2, m2 zb2, fun G3 z3 t3 k3 => ⟨(by show 2 ≤ sizeLine; decide), fun q2 nq2 => ?_⟩⟩
        have u3 := PB.same_new (o := .tup [.int 1, .int 2]) nq2
        refine ⟨z3, .ref q2, radd a.2 b.2, (1, 2), rfl, Dp_same u3 k3, dp_mkr nq2, rat_add ra2 rb2, half, m3 ra2 rb2 za2 zb2, hz2, fun G4 w2 t4 e2 => ⟨(by show 2 ≤ sizeLine; decide), fun m nm => ?_⟩⟩
        have tB := (t3.trans u3).trans t4
        have hM : Dp K (upd G4 m (.tup [w1, w2])) (.ref m) (pD (midP a b)) := dp_mk2 nm (Dp_same tB e1) e2
        have tC := (tA.trans tB).trans (PB.same_new (o := .tup [w1, w2]) nm)
        have hT4 := same_t tC hT1
        have hD4 := DpAll_same tC hD1'
        have h4 := h1.same tC
        generalize upd G4 m (.tup [w1, w2]) = G5 at hM tC hT4 hD4 h4 ⊢
        clear e1 e2 k1 k3 nm nq1 nq2
        refine ⟨_, rfl, ?_⟩
        (try dsimp only [tNoPart])
        refine ⟨_, rfl, ?_⟩
        refine slA hT4 fun c2 G6 t6 hc2 => ?_
        rw [show cutV (V.ref tx :: V.ref ty :: xs) none (some 1) = (V.ref tx :: V.ref ty :: xs).take 1 from cut_take (k := 1) _ (by simp)] at hc2
        refine ⟨_, rfl, (by show 1 ≤ sizeLine; decide), fun n1 nn => ?_⟩
        have u7 := PB.same_new (o := .tup [V.ref m]) nn
        show rCatA K (.ref c2) (.ref n1) _ _
        refine catA (same_t u7 hc2) (.inl (.inl upd_same)) (by rw [List.length_take]; simp) fun c3 G7 t7 hc3 => ?_
        have tD := (t6.trans u7).trans t7
        refine ⟨_, rfl, ?_⟩
        (try dsimp only [tNoPart])
        refine ⟨_, rfl, ?_⟩
        refine slA (same_t tD hT4) fun c4 G8 t8 hc4 => ?_
        rw [show cutV (V.ref tx :: V.ref ty :: xs) (some 1) none = (V.ref tx :: V.ref ty :: xs).drop 1 from cut_drop (k := 1) _ (by simp)] at hc4
        show rCatA K (.ref c3) (.ref c4) _ _
        have xl : xs.length + 2 = r.length + 2 := tl
        refine catA (same_t t8 hc3) hc4 (by simp at hl9 ⊢; omega) fun c5 G9 t9 hc5 => ⟨(by show 2 ≤ sizeLine; decide), fun D nD => ?_⟩
        have tE := (tD.trans t8).trans t9
        have hD9 := DpAll_same tE hD4
        cases hD9 with
        | cons e1 hD9 =>
        have hdd : DpAll K G9 (V.ref tx :: V.ref m :: V.ref ty :: xs) ((a :: midP a b :: b :: r).map pD) := .cons e1 (.cons (Dp_same tE hM) hD9)
        have gall : ∀ z ∈ a :: midP a b :: b :: r, GoodP 400 z := fun z hz => by
          rcases List.mem_cons.mp hz with rfl | hz
          · exact hgc _ (by simp)
          rcases List.mem_cons.mp hz with rfl | hz
          · exact mid_good (hg a (hsub a (by simp))) (hg b (hsub b (by simp)))
          · exact hgc z (List.mem_cons_of_mem _ hz)
        exact turn G9 D c5 _ (a :: midP a b :: b :: r) (Same.but (tC.trans tE)) (h4.same tE) hc5 hdd (List.cons_ne_nil _ _) (by simp at hl9 ⊢; omega) gall (spoil_mid fun z hz => (gall z hz).1) nD
      · refine ⟨_, rfl, _, _, rfl, rfl, _, rfl, ?_⟩
        refine itF (decide_eq_false (by omega)) ?_
        refine ⟨_, rfl, rfl, _, rfl, ?_⟩
        refine itF (decide_eq_false fun z => by have := V.int.inj z; omega) ?_
        refine ⟨_, rfl, rfl, _, rfl, ?_⟩
        refine itF (decide_eq_false fun z => by have := V.int.inj z; omega) ?_
        refine ⟨(by show 0 ≤ sizeLine; decide), fun a0 na0 => ⟨(by show 0 ≤ sizeLine; decide), fun a1 na1 => ⟨(by show 6 ≤ sizeLine; decide), fun a2 na2 => ?_⟩⟩⟩
        have u0 := PB.same_new (o := .tup []) na0
        have u1 := PB.same_new (o := .lst []) na1
        have u2 := PB.same_new (o := .lst [.ref a0, .ref a1, .non, .int 5, .str "", .str "a"]) na2
        have us := (u0.trans u1).trans u2
        have n0 := h1.neD na0
        have n1 := (h1.same u0).neD na1
        have n2 := (h1.same (u0.trans u1)).neD na2
        refine ⟨.ref p, rfl, p, 6, rfl, h1.same us, by decide, by decide, fun y G y0 y6 hg sg => ?_⟩
        obtain ⟨u, d, ea, hd, hs⟩ := sp_last (K := K) n0 n1 (u2 _ _ (u1 _ _ upd_same)) (u2 _ _ upd_same) sg y0 y6
        refine ⟨a2, _, y, u, rfl, rfl, .inl (.inl (sg.1 _ _ n2 upd_same)), ea, (by show 2 ≤ sizeLine; decide), fun D nD => ?_⟩
        exact fin G D u d _ ((Same.but us).trans sg) hg hd hs nD
    refine itF (decide_eq_false (fun z => c3 (V.int.inj z))) (itF rfl ?_)
    refine ⟨_, rfl, rfl, _, rfl, ?_⟩
    by_cases c4 : k = 4
    · refine itT (decide_eq_true (by rw [c4])) ?_
      refine ⟨_, rfl, _, rfl, ?_⟩
      show rCatA K (.ref t) (.ref t) _ _
      refine catA hT1 hT1 (by omega) fun c3 G3 t3 hc3 => ⟨(by show 2 ≤ sizeLine; decide), fun D nD => ?_⟩
      have hD3 := DpAll_same t3 hD1
      refine turn G3 D c3 _ (cs ++ cs) (Same.but t3) (h1.same t3) hc3 ?_ ?_ ?_ ?_ (hsame (fun r => ?_) (more_ne hne)) nD
      · rw [List.map_append]; exact dp_app hD3 hD3
      · exact fun z => hne (List.append_eq_nil_iff.mp z).1
      · rw [List.length_append]; omega
      · exact fun r hr => hgc r ((List.mem_append.mp hr).elim id id)
      · rw [List.mem_append, or_self]
    refine itF (decide_eq_false (fun z => c4 (V.int.inj z))) ?_
    refine ⟨_, rfl, rfl, _, rfl, ?_⟩
    by_cases c5 : k = 5
    · refine itT (decide_eq_true (by rw [c5])) ?_
      obtain ⟨a, r, rfl⟩ : ∃ a r, cs = a :: r := by cases cs with | nil => exact absurd rfl hne | cons a r => exact ⟨a, r, rfl⟩
      obtain ⟨x, xs, rfl⟩ : ∃ x xs, ts = x :: xs := by cases ts with | nil => simp at tl | cons x xs => exact ⟨x, xs, rfl⟩
      have ea0 : atI (x :: xs) 0 = some x := atI_nat (j := 0) rfl
      have hD1' := hD1
      cases hD1 with
      | cons dx hD1 =>
      obtain ⟨tx, ax, ay, rfl, hx, x1, x2⟩ := dp_t2 (a := rD a.1) (b := rD a.2) dx
      refine ⟨(by show 2 ≤ sizeLine; decide), fun b1 nb1 => ?_⟩
      have u1 := PB.same_new (o := .tup [.int 1, .int 2]) nb1
      refine ⟨_, rfl, t, _, _, _, rfl, rfl, same_t u1 hT1, ea0, ?_⟩
      refine ⟨_, rfl, t, _, _, _, rfl, rfl, same_t u1 hT1, ea0, ?_⟩
      show rCatA K (.ref tx) (.ref tx) _ _
      refine catA (same_t u1 hx) (same_t u1 hx) (by show 4 ≤ 1000; decide) fun b2 G2 t2 hb2 => ?_
      have d2 : Dp K G2 (.ref b2) (.tuple [rD a.1, rD a.2, rD a.1, rD a.2]) := by
        have z1 := Dp_same (u1.trans t2) x1
        have z2 := Dp_same (u1.trans t2) x2
        exact .tup hb2 (.cons z1 (.cons z2 (.cons z1 (.cons z2 .nil))))
      have d1 : Dp K G2 (.ref b1) (rD (1, 2)) := Dp_same t2 (dp_mkr nb1)
      have tA := u1.trans t2
      have hA := h1.same tA
      clear u1 t2 hb2
      refine ⟨(by show 2 ≤ sizeLine; decide), fun c1 nc1 => ⟨(by show 2 ≤ sizeLine; decide), fun c2 nc2 => ⟨(by show 2 ≤ sizeLine; decide), fun b3 nb3 => ?_⟩⟩⟩
      have v1 := PB.same_new (o := .tup [.int 0, .int 1]) nc1
      have v2 := PB.same_new (o := .lst [.int 1, .int 1]) nc2
      have v3 := PB.same_new (o := .tup [.ref c1, .ref c2]) nb3
      have v := (v1.trans v2).trans v3
      have p1 := Dp_same (v2.trans v3) (dp_mkr (K := K) (a := 0) (b := 1) nc1)
      have p2 := v3 _ _ (upd_same (H := upd G2 c1 (.tup [.int 0, .int 1])) (a := c2) (o := .lst [.int 1, .int 1]))
      have p3 := upd_same (H := upd (upd G2 c1 (.tup [.int 0, .int 1])) c2 (.lst [.int 1, .int 1])) (a := b3) (o := .tup [.ref c1, .ref c2])
      have m2 := (hA.same v1).neD nc2
      have m3 := (hA.same (v1.trans v2)).neD nb3
      have hB := hA.same v
      have d1 := Dp_same v d1
      have d2 := Dp_same v d2
      have tB := tA.trans v
      generalize upd (upd (upd G2 c1 (.tup [.int 0, .int 1])) c2 (.lst [.int 1, .int 1])) b3 (.tup [.ref c1, .ref c2]) = G3 at *
      clear v v1 v2 v3 tA hA
      refine ⟨(by show 2 ≤ sizeLine; decide), fun c3 nc3 => ⟨(by show 2 ≤ sizeLine; decide), fun c4 nc4 => ⟨(by show 2 ≤ sizeLine; decide), fun b4 nb4 => ⟨(by show 7 ≤ sizeLine; decide), fun L nL => ?_⟩⟩⟩⟩
      have v1 := PB.same_new (o := .tup [.int 0, .int 1]) nc3
      have v2 := PB.same_new (o := .tup [.int 2, .int 4]) nc4
      have v3 := PB.same_new (o := .tup [.ref c3, .ref c4]) nb4
      have v4 := PB.same_new (o := .lst [V.non, .int 3, .ref b1, .ref b2, .ref b3, .ref b4, .str "ab"]) nL
      have d4 := Dp_same v4 (dp_mk2 (K := K) (a := rD (0, 1)) (b := rD (2, 4)) nb4 (Dp_same v2 (dp_mkr nc3)) (dp_mkr nc4))
      have v := ((v1.trans v2).trans v3).trans v4
      have hC := hB.same v
      have nLp := (hB.same ((v1.trans v2).trans v3)).neD nL
      have p1 := Dp_same v p1
      have p2 := v _ _ p2
      have p3 := v _ _ p3
      have d1 := Dp_same v d1
      have d2 := Dp_same v d2
      have tC := tB.trans v
      have eL := upd_same (H := upd (upd (upd G3 c3 (.tup [.int 0, .int 1])) c4 (.tup [.int 2, .int 4])) b4 (.tup [.ref c3, .ref c4])) (a := L) (o := .lst [V.non, .int 3, .ref b1, .ref b2, .ref b3, .ref b4, .str "ab"])
      generalize upd (upd (upd (upd G3 c3 (.tup [.int 0, .int 1])) c4 (.tup [.int 2, .int 4])) b4 (.tup [.ref c3, .ref c4])) L (.lst [V.non, .int 3, .ref b1, .ref b2, .ref b3, .ref b4, .str "ab"]) = G4 at *
      clear v v1 v2 v3 v4 tB hB
      refine ⟨.ref p, rfl, p, 7, rfl, hC, by decide, by decide, fun y G5 y0 y7 h5 s5 => ?_⟩
      obtain ⟨u, d, eu, du, hu⟩ := sp_bad (K := K) hC d1 d2 m2 m3 p1 p2 p3 d4 y0 y7
      refine ⟨L, _, y, u, rfl, rfl, .inl (.inl (s5.1 _ _ nLp eL)), eu, ?_⟩
      refine ⟨.ref p, rfl, _, rfl, _, _, rfl, rfl, p, _, rfl, h5, by omega, by omega, fun z G6 z0 z1 h6 s6 => ?_⟩
      have s56 := s5.trans s6
      have hU := hu G6 s56
      have hT6 := hC.sqT s56 (same_t tC hT1)
      have hD6 := hC.dps s56 (DpAll_same tC hD1')
      have tD := (Same.but tC).trans s56
      obtain ⟨n, rfl⟩ : ∃ n : Nat, z = (n : Int) := ⟨z.toNat, by omega⟩
      have nl : n ≤ (V.ref tx :: xs).length := by omega
      clear hu s5 s6 s56 eu h5 hC tC d1 d2 p1 p2 p3 d4 eL
      refine ⟨_, rfl, ?_⟩
      (try dsimp only [tNoPart])
      refine ⟨_, rfl, _, rfl, ?_⟩
      refine slA hT6 fun e1 G7 t7 he1 => ?_
      rw [cut_take (V.ref tx :: xs) nl] at he1
      refine ⟨_, rfl, (by show 1 ≤ sizeLine; decide), fun n1 nn => ?_⟩
      have u7 := PB.same_new (o := .tup [u]) nn
      show rCatA K (.ref e1) (.ref n1) _ _
      have xl : (V.ref tx :: xs).length ≤ 9 := by omega
      refine catA (same_t u7 he1) (.inl (.inl upd_same)) (by rw [List.length_take]; simp at xl ⊢; omega) fun e2 G8 t8 he2 => ?_
      have tE := (t7.trans u7).trans t8
      refine ⟨_, rfl, _, rfl, _, rfl, ?_⟩
      (try dsimp only [tNoPart])
      refine slA (same_t tE hT6) fun e3 G9 t9 he3 => ?_
      rw [cut_drop (V.ref tx :: xs) nl] at he3
      show rCatA K (.ref e2) (.ref e3) _ _
      refine catA (same_t t9 he2) he3 (by rw [List.length_append, List.length_take, List.length_drop]; simp at xl ⊢; omega) fun e4 G10 t10 he4 => ⟨(by show 2 ≤ sizeLine; decide), fun D nD => ?_⟩
      have tF := (tE.trans t9).trans t10
      have hD10 := DpAll_same tF hD6
      have hU10 := Dp_same tF hU
      refine fin G10 D (.ref e4) (.tuple ((((a :: r).map pD).take n ++ [d]) ++ ((a :: r).map pD).drop n)) "corner" (tD.trans (Same.but tF)) (h6.same tF) (.tup he4 (dp_app (dp_app (dp_take n hD10) (.cons hU10 .nil)) (dp_drop n hD10))) (.inr (.inl ⟨rfl, _, rfl, by simp, ?_, d, by simp, du⟩)) nD
      rw [List.length_append, List.length_append, List.length_take, List.length_drop, List.length_map]
      simp at hl9 ⊢; omega
    refine itF (decide_eq_false (fun z => c5 (V.int.inj z))) ?_
    refine ⟨(by show 0 ≤ sizeLine; decide), fun a0 na0 => ⟨(by show 0 ≤ sizeLine; decide), fun a1 na1 => ⟨(by show 6 ≤ sizeLine; decide), fun a2 na2 => ?_⟩⟩⟩
    have u0 := PB.same_new (o := .tup []) na0
    have u1 := PB.same_new (o := .lst []) na1
    have u2 := PB.same_new (o := .lst [.ref a0, .ref a1, .non, .int 5, .str "", .str "a"]) na2
    have us := (u0.trans u1).trans u2
    have n0 := h1.neD na0
    have n1 := (h1.same u0).neD na1
    have n2 := (h1.same (u0.trans u1)).neD na2
    refine ⟨.ref p, rfl, p, 6, rfl, h1.same us, by decide, by decide, fun y G y0 y6 hg sg => ?_⟩
    obtain ⟨u, d, ea, hd, hs⟩ := sp_last (K := K) n0 n1 (u2 _ _ (u1 _ _ upd_same)) (u2 _ _ upd_same) sg y0 y6
    refine ⟨a2, _, y, u, rfl, rfl, .inl (.inl (sg.1 _ _ n2 upd_same)), ea, (by show 2 ≤ sizeLine; decide), fun D nD => ?_⟩
    exact fin G D u d _ ((Same.but us).trans sg) hg hd hs nD
end
end F3
set_option Elab.async false
set_option linter.all false
set_option maxRecDepth 100000
set_option maxHeartbeats 4000000
set_option exponentiation.threshold 10000
/-! rules that the law itself wants -/
namespace F3
open PySem PySem.Spec PyProof.Rows L2 FX RM PB KD KS
/-- the class Patch, all that the law needs of it -/
structure PMt (P : Program) (w : World) (K : PySem.W.Frag) (mg : Str → Option Value) (base : Heap) : Prop where
  fa : PFa K
  cl : Cls K (cP K)
  no : NoAttr K (cP K) "corners"
  len : ∃ fd, FnOk P w K mg base CX0 1 (He.ma K (cP K) "__len__") fd ["self"] (spPLen K) ∧ L2.Binds K fd ["self"] []
  eq : ∃ fd, FnOk P w K mg base CX0 1 (He.ma K (cP K) "__eq__") fd ["self", "other"] (spPEq K) ∧ L2.Binds K fd ["self", "other"] []
  it : ∃ fd, (∀ base, FnOk P w K mg base CX0 1 (He.ma K (cP K) "__iter__") fd ["self"] (spPIter K base.objs.size)) ∧ L2.Binds K fd ["self"] []
section
variable {X : Cx}
theorem cr_lenP (m : PMt X.prog X.w X.K X.mg X.base) (hr : Room 2 X.A) : CallR X (.builtin "len") (OW.rLenO (cP X.K) (spPLen X.K)) := by
  obtain ⟨fd, F, b⟩ := m.len
  exact OW.cr_lenO m.fa.l1 m.fa.l2 F b (fun _ _ _ _ _ _ _ h => h.elim) hr.in1
theorem op_eqP (m : PMt X.prog X.w X.K X.mg X.base) (hr : Room 1 X.A) : OpR X (compareOp .Eq) (OW.rEqO X.K (cP X.K) (spPEq X.K) false) := by
  obtain ⟨fd, F, b⟩ := m.eq
  exact OW.op_eqO m.fa.e1 m.fa.e2 F b (fun _ _ _ _ _ _ _ h => h.elim) hr
theorem op_neP (m : PMt X.prog X.w X.K X.mg X.base) (hr : Room 2 X.A) : OpR X (compareOp .NotEq) (OW.rNeO (cP X.K) (spPEq X.K)) := by
  obtain ⟨fd, F, b⟩ := m.eq
  exact OW.op_neO m.fa.ne F b (fun _ _ _ _ _ _ _ h => h.elim) hr.in1
theorem pi_P {tg e : Expr} {te : TE} (m : PMt X.prog X.w X.K X.mg X.base) (hr : Room 1 X.A) (he : PE X e te) : PI X tg e (OW.iOwn X.K (cP X.K) (spPIter X.K) te) := by
  obtain ⟨fd, F, b⟩ := m.it
  exact OW.pi_own he m.fa.i1 m.fa.i2 F b (fun _ _ _ _ _ _ _ h => h.elim) hr
/-- {place: something} -/
def tDispN (P : Program) (w : World) (K : PySem.W.Frag) (tk tv : TE) : TE := fun σ H Q => ∀ D, H D = none → tk σ (upd H D (KN.ND P w D [])) fun x H1 => tv σ H1 fun y H2 => H2 D = some (KN.ND P w D []) ∧ ∃ b q, x = .ref b ∧ Dp K H2 (.ref b) (pD q) ∧ ∀ kvs, Q (.ref D) (upd H2 D (KN.ND P w D kvs))
theorem pe_dispN {pos : Pos} {k v : Expr} {tk tv : TE} (hu : X.A.units + 8 < cLine) (hk : PE X k tk) (hv : PE X v tv) : PE X (.Dict [some k] [v] pos) (tDispN X.prog X.w X.K tk tv) := by
  refine ⟨fun pins s σ H Q I q => ?_⟩
  have hn := I.hok.fresh (Nat.le_refl s.heap.objs.size)
  have I1 := I.laid (a := s.heap.objs.size) (o := KN.ND X.prog X.w s.heap.objs.size []) (h' := s.heap.push { cls := .type "dict", data := .dict #[] }) (t' := s.toks) (fun _ _ q => Heap.get?_push_of_some _ q) (Nat.le_refl _) (KN.hnewN X.prog X.w s.heap _ I.big)
  have hl := pairTrees_length [some k] [v] X.env pos rfl rfl
  have hq : tPairs [(tk, tv)] σ (upd H s.heap.objs.size (KN.ND X.prog X.w s.heap.objs.size [])) (fun ps H2 => match ps with
    | [(x, y)] => H2 s.heap.objs.size = some (KN.ND X.prog X.w s.heap.objs.size []) ∧ ∃ b q, x = .ref b ∧ Dp X.K H2 (.ref b) (pD q) ∧ ∀ kvs, Q (.ref s.heap.objs.size) (upd H2 s.heap.objs.size (KN.ND X.prog X.w s.heap.objs.size kvs))
    | _ => False) := q _ hn
  refine wpAny_Dict_pairsH (knd := nestedKind X.prog X.w) (pairs := pairTrees [some k] [v] X.env pos) hu (zip_pairTrees _ _ _ _ rfl rfl) (fun z => by rw [z] at hl; cases hl) (by rw [hl]; show 1 ≤ 15; decide) (thn ((pps_cons hk hv pps_nil).run pins _ σ _ _ I1 hq) fun ws s2 ⟨ps, H2, I2, rel, q2⟩ => ?_)
  match ps, rel, q2 with
  | [(x, y)], rel, q2 =>
    obtain ⟨e, b, p, rfl, hb, q2⟩ := q2
    cases rel with
    | @cons a c as cs h t =>
      cases t
      obtain ⟨ku, vu⟩ := c
      obtain ⟨h1, h2⟩ := h
      cases (show ku = Value.ref b from h1)
      obtain ⟨⟨nm, big, nd, o, es, ep, ho, hx, hd, hes⟩, _, _⟩ := (show ObjOk X.prog X.w H2 s2.heap s.heap.objs.size (KN.ND X.prog X.w s.heap.objs.size []) from I2.hok _ _ e)
      refine ⟨[(KN.kP p, b, vu)], ⟨rfl, rfl, KN.nested_p I2 hb, trivial⟩, ⟨o, es, ep, ho, hx, hd, hes, (fun _ z => nomatch z), nd⟩, fun h' tk dk same => ?_⟩
      obtain ⟨xs, dd, exs⟩ := dk
      obtain ⟨o2, es2, ep2, ho2, hx2, hd2, hes2, _, hn2⟩ := dd
      have xl : xs.length ≤ sizeLine := by
        have : (pairsH xs).length = xs.length := List.length_map _
        rw [← this, exs]
        show 1 ≤ sizeLine
        decide
      exact ⟨.ref s.heap.objs.size, _, d_write (ob := KN.ND X.prog X.w s.heap.objs.size xs) I2 (by rw [e]; exact True.intro) same ⟨o2, ho2⟩ ⟨⟨nm, xl, hn2, o2, es2, ep2, ho2, hx2, hd2, hes2⟩, ⟨o2, ho2⟩, fun h1 h2 ⟨a, b, c, o, es, ep, e, q⟩ k => ⟨a, b, c, o, es, ep, k o e, q⟩⟩, rfl, q2 xs⟩
end
/-- lists of the entries of rows, each its own -/
def LG (F : Hp) (D : Addr) (ys : List V) (zs : List (List V)) : Prop := ys.length = zs.length ∧ ∀ (i : Nat) (z : List V), zs[i]? = some z → ∃ l, ys[i]? = some (.ref l) ∧ l ≠ D ∧ F l = some (.lst z)
theorem LG.same {F G : Hp} {D : Addr} {ys : List V} {zs : List (List V)} (h : LG F D ys zs) (s : Same F G) : LG G D ys zs := ⟨h.1, fun i z e => by
  obtain ⟨l, a, b, c⟩ := h.2 i z e
  exact ⟨l, a, b, s _ _ c⟩⟩
theorem lc_lsts {K : PySem.W.Frag} {a : Addr} {xs : List V} {j : Nat} {g : TG} {te : TE} {own : List Nat} {τ : L2.St} {H : Hp} {Q : VK} (zs : List (List V)) (hj : τ[j]? = some (some (.ref a))) (h0 : SqL K H a xs ∨ SqT K H a xs) (hl : zs.length = xs.length) (hz : xs.length < sizeLine)
    (hs : ∀ (i : Nat) (x : V) (F : Hp) (R : V → Hp → Prop) (z : List V), xs[i]? = some x → zs[i]? = some z → Same H F → (∀ l, F l = none → R (.ref l) (upd F l (.lst z))) → g x (wipe τ own) F fun τ2 F2 => wipe τ2 own = wipe τ own ∧ te τ2 F2 R)
    (hd : ∀ (D : Addr) (F : Hp) (ys : List V), Same H F → H D = none → F D = some (.lst ys) → LG F D ys zs → Q (.ref D) F) : tLc (iSeq K (tVar j)) g tYes te own τ H Q := by
  have main : ∀ D, H D = none → ∃ Pv : Nat → Hp → Prop, Pv 0 (upd H D (.lst [])) ∧ (∀ i F, Pv i F → Same H F) ∧ (∀ i x F, xs[i]? = some x → Pv i F → g x (wipe τ own) F fun τ2 F2 => wipe τ2 own = wipe τ own ∧ tYes τ2 F2 fun b F3 =>
      if b = true then te τ2 F3 fun y F4 => ∃ acc, F4 D = some (.lst acc) ∧ acc.length < sizeLine ∧ Pv (i + 1) (upd F4 D (.lst (acc ++ [y]))) else Pv (i + 1) F3) ∧ (∀ F, Pv xs.length F → Q (.ref D) F) := by
    intro D nD
    refine ⟨fun i F => Same H F ∧ ∃ ys, F D = some (.lst ys) ∧ LG F D ys (zs.take i), ⟨PB.same_new nD, [], upd_same, rfl, fun i d e => by simp at e⟩, fun i F h => h.1, ?_, ?_⟩
    · rintro i x F hi ⟨s1, ys, eD, ll⟩
      have il : i < xs.length := (List.getElem?_eq_some_iff.mp hi).1
      have id_ : i < zs.length := by omega
      have tk : (zs.take i).length = i := by rw [List.length_take]; omega
      refine hs i x F _ zs[i] hi (List.getElem?_eq_getElem id_) s1 fun l nl => ?_
      have ne : l ≠ D := (ne_of_none eD nl).symm
      refine ⟨ys, by rw [upd_ne ne.symm]; exact eD, by have := ll.1; omega, ⟨fun b o e => ?_, ys ++ [.ref l], upd_same, ?_, fun k d e => ?_⟩⟩
      · rw [upd_ne (ne_of_none e nD)]
        exact PB.same_new nl _ _ (s1 _ _ e)
      · rw [List.length_append, ll.1, tk, List.length_take]
        show i + 1 = _
        omega
      · by_cases ki : k < i
        · rw [List.getElem?_take_of_lt (by omega)] at e
          obtain ⟨l', a1, a2, a3⟩ := ll.2 k d (by rw [List.getElem?_take_of_lt ki]; exact e)
          refine ⟨l', ?_, a2, ?_⟩
          · rw [List.getElem?_append_left (by have := ll.1; omega)]; exact a1
          · rw [upd_ne a2, upd_ne (ne_of_none a3 nl)]; exact a3
        · have kl : k < (zs.take (i + 1)).length := (List.getElem?_eq_some_iff.mp e).1
          rw [List.length_take] at kl
          obtain rfl : k = i := by omega
          rw [List.getElem?_take_of_lt (by omega), List.getElem?_eq_getElem id_] at e
          cases e
          refine ⟨l, ?_, ne, ?_⟩
          · rw [List.getElem?_append_right (by have := ll.1; omega)]
            have : k - ys.length = 0 := by have := ll.1; omega
            rw [this]; rfl
          · rw [upd_ne ne, upd_same]
    · rintro F ⟨s1, ys, eD, ll⟩
      rw [List.take_of_length_le (by omega)] at ll
      exact hd D F ys s1 nD eD ll
  rcases h0 with h0 | h0
  · refine .inl ⟨_, hj, a, rfl, ⟨_, h0⟩, fun D nD => ?_⟩
    obtain ⟨Pv, p0, p1, p2, p3⟩ := main D nD
    exact lc_list (K := K) (a := a) (xs := xs) Pv p0 (fun i F _ h => (p1 i F h).seq h0) p2 p3
  · refine .inr ⟨_, hj, a, rfl, ⟨_, h0⟩, fun D nD => ?_⟩
    obtain ⟨Pv, p0, p1, p2, p3⟩ := main D nD
    exact lc_tup (K := K) (a := a) (xs := xs) Pv p0 (fun i F _ h => same_t (p1 i F h) h0) p2 p3
/-- the rows behind places -/
structure RowsOf (K : PySem.W.Frag) (H : Hp) (xs : List V) (ps : List Pl) (zs : List (List V)) : Prop where
  l : zs.length = xs.length
  at_ : ∀ (i : Nat) (x : V) (z : List V), xs[i]? = some x → zs[i]? = some z → ∃ t vx vy q, x = .ref t ∧ z = [vx, vy] ∧ ps[i]? = some q ∧ SqT K H t [vx, vy] ∧ Dp K H vx (rD q.1) ∧ Dp K H vy (rD q.2)
theorem rows_of {K : PySem.W.Frag} {H : Hp} : ∀ {xs : List V} {ps : List Pl}, DpAll K H xs (ps.map pD) → ∃ zs, RowsOf K H xs ps zs
  | [], [], .nil => ⟨[], rfl, fun i x z e => by simp at e⟩
  | x :: xs, p :: ps, .cons a b => by
    obtain ⟨zs, h⟩ := rows_of b
    obtain ⟨t, vx, vy, rfl, hT, h1, h2⟩ := dp_t2 (a := rD p.1) (b := rD p.2) a
    refine ⟨[vx, vy] :: zs, by rw [List.length_cons, List.length_cons, h.l], fun i x z ex ez => ?_⟩
    cases i with
    | zero => cases ex; cases ez; exact ⟨t, vx, vy, p, rfl, rfl, rfl, hT, h1, h2⟩
    | succ i => exact h.at_ i x z ex ez
theorem RowsOf.same {K : PySem.W.Frag} {H G : Hp} {xs : List V} {ps : List Pl} {zs : List (List V)} (h : RowsOf K H xs ps zs) (s : Same H G) : RowsOf K G xs ps zs := ⟨h.l, fun i x z ex ez => by
  obtain ⟨t, vx, vy, q, a, b, c, d, e, f⟩ := h.at_ i x z ex ez
  exact ⟨t, vx, vy, q, a, b, c, same_t s d, Dp_same s e, Dp_same s f⟩⟩
/-- what the lists of the rows are -/
theorem LG.pls {K : PySem.W.Frag} {H F : Hp} {D : Addr} {xs ys : List V} {ps : List Pl} {zs : List (List V)} (g : LG F D ys zs) (h : RowsOf K H xs ps zs) (hl : ps.length = xs.length) (eD : F D = some (.lst ys)) (s : Same H F) :
    Pls K F D ys ps ∧ Dp K F (.ref D) (.list (ps.map plD)) := by
  have at_ : ∀ (i : Nat) (y : V) (q : Pl), ys[i]? = some y → ps[i]? = some q → ∃ l vx vy, y = .ref l ∧ F l = some (.lst [vx, vy]) ∧ Dp K F vx (rD q.1) ∧ Dp K F vy (rD q.2) := fun i y q ey eq => by
    have il : i < ys.length := (List.getElem?_eq_some_iff.mp ey).1
    have zl : i < zs.length := by rw [← g.1]; exact il
    have xl : i < xs.length := by rw [← h.l]; exact zl
    obtain ⟨l, a, b, c⟩ := g.2 i zs[i] (List.getElem?_eq_getElem zl)
    obtain ⟨t, vx, vy, q', e1, e2, e3, e4, e5, e6⟩ := h.at_ i xs[i] zs[i] (List.getElem?_eq_getElem xl) (List.getElem?_eq_getElem zl)
    rw [ey] at a; cases a
    rw [eq] at e3; cases e3
    rw [e2] at c
    exact ⟨l, vx, vy, rfl, c, Dp_same s e5, Dp_same s e6⟩
  have yl : ps.length = ys.length := by rw [g.1, h.l, hl]
  refine ⟨⟨.inl (.inl (.inl eD)), yl, fun i y q ey eq => ?_⟩, .lst (.inl (.inl eD)) ?_⟩
  · obtain ⟨l, vx, vy, rfl, e, a, b⟩ := at_ i y q ey eq
    exact ⟨vx, vy, ⟨l, rfl, .inr (.inl (.inl e))⟩, a, b⟩
  · have go : ∀ {ys : List V} {ps : List Pl}, ps.length = ys.length → (∀ (i : Nat) (y : V) (q : Pl), ys[i]? = some y → ps[i]? = some q → Dp K F y (plD q)) → DpAll K F ys (ps.map plD) := by
      intro ys
      induction ys with
      | nil => intro ps e _; cases ps with | nil => exact .nil | cons _ _ => cases e
      | cons y ys ih =>
        intro ps e h
        cases ps with
        | nil => cases e
        | cons p ps => exact .cons (h 0 y p rfl rfl) (ih (Nat.succ.inj e) fun i x q ex eq => h (i + 1) x q ex eq)
    refine go yl fun i y q ey eq => ?_
    obtain ⟨l, vx, vy, rfl, e, a, b⟩ := at_ i y q ey eq
    exact .lst (.inl (.inl e)) (.cons a (.cons b .nil))
end F3
set_option Elab.async false
set_option linter.all false
set_option maxRecDepth 100000
set_option maxHeartbeats 4000000
set_option exponentiation.threshold 10000
/-! where the law stands once the patch is made -/
namespace F3
open PySem PySem.Spec PyProof.Rows L2 FX RM PB KD KS
def spLaw (K : PySem.W.Frag) : Sp := fun vs H Q _ => ∃ (a : Addr) (ns : List Int), vs = [.ref a] ∧ SqL K H a (ns.map V.int) ∧ ns.length ≤ 63 ∧ ∀ H', Q (.bl true) H'
abbrev slaw : Stmt := topS 58
theorem sclaw : FnScope ["_law_script", "_law_hand_here", "_law_places", "_law_handed", "_law_patch", "_law_corners", "_law_spoilt_here", "_law_shorter", "_law_alone", "_law_other", "_law_common", "_law_due", "_law_place_here", "_law_corner", "_law_thing", "_law_k", "_law_one"] ["_law_script"] (defScope slaw) := ⟨rfl, rfl, rfl, by decide +kernel, rfl, by decide +kernel, by decide +kernel⟩
section
variable {X : Cx}
def tDNewN (P : Program) (w : World) : TE := fun _ H Q => ∀ D, H D = none → Q (.ref D) (upd H D (KN.ND P w D []))
theorem pe_dnewN {pos : Pos} : PE X (.Dict [] [] pos) (tDNewN X.prog X.w) := ⟨fun pins s σ H Q I h =>
  wpAny_Dict_empty ⟨.ref s.heap.objs.size, _, I.laid (a := s.heap.objs.size) (o := KN.ND X.prog X.w s.heap.objs.size []) (t' := s.toks) (fun _ _ q => Heap.get?_push_of_some _ q) (Nat.le_refl _) (KN.hnewN X.prog X.w s.heap _ I.big), rfl, h _ (I.hok.fresh (Nat.le_refl _))⟩⟩
end
theorem call_len_seqK {X : Cx} (K : PySem.W.Frag) (e : X.K = K := by rfl) : CallR X (.builtin "len") (fun xs H Q => ∃ p ys, xs = [V.ref p] ∧ (SqL K H p ys ∨ SqT K H p ys) ∧ Q (V.int ys.length) H) := e ▸ call_len_seq
theorem mk_patA {K : PySem.W.Frag} {H : Hp} {v : V} {d : PyData} {Go : Addr → Hp → Prop} {E : XK} (hv : Dp K H v d) (h : PatW K d H E fun ps => ∀ H' x dx t, Same H H' → H' x = some (.ins (cP K) dx [("corners", t)]) → Dp K H' t (.tuple (ps.map pD)) → Go x H') :
    ∀ x dx, H x = none → H dx = none → dx ≠ x → spPInit K (.ref x :: ([v] ++ [])) (upd (upd H dx (.own x)) x (.ins (cP K) dx [])) (fun u H2 => u = .non ∧ Go x H2) E := by
  intro x dx nx nd ne
  have n2 : (upd H dx (.own x)) x = none := by rw [upd_ne (Ne.symm ne)]; exact nx
  have s1 := PB.same_new (o := .own x) nd
  have s2 := PB.same_new (o := .ins (cP K) dx []) n2
  have s := s1.trans s2
  refine ⟨x, dx, v, d, rfl, upd_same, Dp_same s hv, (h.same s).imp fun ps g H' t hk hx ht => ⟨rfl, g H' x dx t (fun b o e => hk b o (ne_of_none e nx) (s b o e)) hx ht⟩⟩
structure LS (K : PySem.W.Frag) (H : Hp) (p PL : Addr) (ys : List V) (a dx t : Addr) (ts : List V) (ps os : List Pl) : Prop where
  hand : HandAt H p
  rows : H PL = some (.lst ys)
  ne : PL ≠ p
  dps : DpAll K H ys (ps.map pD)
  ins : H a = some (.ins (cP K) dx [("corners", .ref t)])
  tup : SqT K H t ts
  tds : DpAll K H ts ((hullP os).map pD)
  srt : Srt ps os
  pn : ps ≠ []
  p9 : ps.length ≤ 9
  good : ∀ q ∈ ps, GoodL q
section
variable {K : PySem.W.Frag} {H H' : Hp} {p PL : Addr} {ys : List V} {a dx t : Addr} {ts : List V} {ps os : List Pl}
theorem LS.same (h : LS K H p PL ys a dx t ts ps os) (s : Same H H') : LS K H' p PL ys a dx t ts ps os :=
  ⟨h.hand.same s, s _ _ h.rows, h.ne, DpAll_same s h.dps, s _ _ h.ins, same_t s h.tup, DpAll_same s h.tds, h.srt, h.pn, h.p9, h.good⟩
theorem LS.but (h : LS K H p PL ys a dx t ts ps os) (s : SameBut p H H') (hh : HandAt H' p) : LS K H' p PL ys a dx t ts ps os := by
  have na : a ≠ p := fun z => by
    obtain ⟨c, cs, i, r, t, e, _⟩ := h.hand
    have := h.ins
    rw [z, e] at this; cases this
  exact ⟨hh, s.1 _ _ h.ne h.rows, h.ne, h.hand.dps s h.dps, s.1 _ _ na h.ins, h.hand.sqT s h.tup, h.hand.dps s h.tds, h.srt, h.pn, h.p9, h.good⟩
theorem LS.rat (h : LS K H p PL ys a dx t ts ps os) : ∀ r ∈ ps, RatP r := fun r hr => (h.good r hr).1.1
theorem LS.sub (h : LS K H p PL ys a dx t ts ps os) : ∀ r ∈ hullP os, r ∈ ps := fun r hr => (h.srt.m r).mp (hull_sub r hr)
theorem LS.cn (h : LS K H p PL ys a dx t ts ps os) : hullP os ≠ [] := hull_ne h.srt h.rat h.pn
theorem LS.nd (h : LS K H p PL ys a dx t ts ps os) : (hullP os).Nodup := hull_nodup h.srt h.rat
theorem LS.c9 (h : LS K H p PL ys a dx t ts ps os) : (hullP os).length ≤ 9 := by have := nodup_len h.nd h.sub; have := h.p9; omega
theorem LS.gl (h : LS K H p PL ys a dx t ts ps os) : ∀ r ∈ hullP os, GoodL r := fun r hr => h.good r (h.sub r hr)
theorem good4 {q : Pl} (h : GoodL q) : GoodP 400 q ∧ BotM 420 q := ⟨⟨h.1.1, szr_mono h.1.2.1 (by decide), szr_mono h.1.2.2 (by decide)⟩, h.2⟩
theorem LS.tl (h : LS K H p PL ys a dx t ts ps os) : ts.length = (hullP os).length := by rw [DpAll_len h.tds, List.length_map]
theorem LS.yl (h : LS K H p PL ys a dx t ts ps os) : ys.length = ps.length := by rw [DpAll_len h.dps, List.length_map]
theorem LS.dp (h : LS K H p PL ys a dx t ts ps os) : Dp K H (.ref t) (.tuple ((hullP os).map pD)) := .tup h.tup h.tds
theorem LS.pat (h : LS K H p PL ys a dx t ts ps os) : PatAt K H (.ref a) (hullP os) := ⟨a, dx, .ref t, rfl, h.ins, h.dp⟩
/-- a def's places: a list or a tuple of places -/
theorem pls_dp {q : Addr} {xs : List V} {cs : List Pl} (hs : SqL K H q xs ∨ SqT K H q xs) (hd : DpAll K H xs (cs.map pD)) : Pls K H q xs cs := ⟨hs, by rw [DpAll_len hd, List.length_map], fun i x c ex eq => by
  obtain ⟨d, ed, hd⟩ := DpAll_at hd ex
  rw [List.getElem?_map, eq] at ed
  cases ed
  exact pla_t hd⟩
theorem lay_pl : ∀ l : List Pl, PyData.canLayAll0 (l.map plD) = true ∧ PyData.depthAll (l.map plD) ≤ 2
  | [] => ⟨rfl, by simp [PyData.depthAll]⟩
  | o :: os => by
    obtain ⟨a, b⟩ := lay_pl os
    constructor
    · rw [List.map_cons, PyData.canLayAll0, a]
      simp [plD, rD, PyData.canLay0, PyData.canLayAll0]
    · rw [List.map_cons, PyData.depthAll]
      simp [plD, rD, PyData.depth, PyData.depthAll] at b ⊢
      omega
theorem shaped_pls (l : List Pl) : SeqAt.shaped (.list (l.map plD)) = true ∧ PyData.canLay0 (.list (l.map plD)) = true := by
  obtain ⟨a, b⟩ := lay_pl l
  have c : PyData.canLay0 (.list (l.map plD)) = true := by rw [PyData.canLay0, a]
  refine ⟨?_, c⟩
  unfold SeqAt.shaped
  rw [c, PyData.depth]
  simp; omega
theorem shaped_pt (l : List Pl) : SeqAt.shaped (.tuple (l.map pD)) = true ∧ PyData.canLay0 (.tuple (l.map pD)) = true := ⟨shaped_ps l, SeqAt.canLay_of_shaped (shaped_ps l)⟩
theorem PlD.id (l : List Pl) : PlD (l.map pD) l := ⟨List.length_map _, fun i x q ex eq => .inl (by rw [List.getElem?_map, eq] at ex; cases ex; rfl)⟩
theorem PlD.idl (l : List Pl) : PlD (l.map plD) l := ⟨List.length_map _, fun i x q ex eq => .inr (by rw [List.getElem?_map, eq] at ex; cases ex; rfl)⟩
theorem LS.again (h : LS K H p PL ys a dx t ts ps os) {os' : List Pl} (ho : Srt (hullP os) os') : hullP os' = hullP os := hull_between h.srt ho h.rat h.pn h.sub (fun _ h => h)
theorem whD_eq {N : Int} {cs : List Pl} (h : ∀ q ∈ cs, Bot N q) : whD N cs = .tuple (cs.map fun q => iD (sc N q)) := by
  unfold whD
  congr 1
  refine List.map_congr_left fun q hq => ?_
  obtain ⟨_, b1, b2⟩ := h q hq
  unfold iD sc
  rw [Int.mul_ediv_assoc _ b1, Int.mul_ediv_assoc _ b2]
theorem shaped_due (N : Int) (l m : List Pl) : SeqAt.shaped (.tuple [.tuple [.tuple (l.map fun q => iD (sc N q)), .tuple (m.map fun q => iD (sc N q))], .int N]) = true ∧ PyData.canLay0 (.tuple [.tuple [.tuple (l.map fun q => iD (sc N q)), .tuple (m.map fun q => iD (sc N q))], .int N]) = true := by
  have e : ∀ l : List Pl, (l.map fun q => iD (sc N q)) = (l.map (sc N)).map iD := fun l => by rw [List.map_map]; rfl
  rw [e, e]
  obtain ⟨a, b⟩ := lay_i (l.map (sc N))
  obtain ⟨a2, b2⟩ := lay_i (m.map (sc N))
  generalize (l.map (sc N)).map iD = A at *
  generalize (m.map (sc N)).map iD = B at *
  have c : PyData.canLay0 (.tuple [.tuple [.tuple A, .tuple B], .int N]) = true := by
    simp [PyData.canLay0, PyData.canLayAll0, a, a2]
  refine ⟨?_, c⟩
  unfold SeqAt.shaped
  rw [c]
  simp [PyData.depth, PyData.depthAll]
  omega
theorem range_map {α β : Type} (l : List α) (z : α) (g : α → β) {n : Nat} (e : n = l.length) : (List.range n).map (fun i => g (l.getD i z)) = l.map g := by
  subst e
  apply List.ext_getElem
  · simp
  · intro i h1 h2
    simp at h1 h2
    simp [List.getD_eq_getElem?_getD, List.getElem?_eq_getElem h2]
theorem shaped_lp (as : List Pl) : SeqAt.shaped (.list (as.map pD)) = true ∧ PyData.canLay0 (.list (as.map pD)) = true := by
  obtain ⟨a, b⟩ := lay_ps as
  have c : PyData.canLay0 (.list (as.map pD)) = true := by rw [PyData.canLay0, a]
  refine ⟨?_, c⟩
  unfold SeqAt.shaped
  rw [c, PyData.depth]
  simp; omega
/-- how many corners stand when the last one is left out, but the only one -/
def mS (n : Nat) : Nat := if n = 1 then 1 else n - 1
theorem LS.short (h : LS K H p PL ys a dx t ts ps os) {os' : List Pl} (ho : Srt ((hullP os).take (mS (hullP os).length)) os') : hullP os' = (hullP os).take (mS (hullP os).length) := by
  have n0 : 0 < (hullP os).length := List.length_pos_iff.mpr h.cn
  unfold mS at *
  by_cases c : (hullP os).length = 1
  · rw [if_pos c] at *
    have e : (hullP os).take 1 = hullP os := List.take_of_length_le (by omega)
    rw [e] at ho ⊢
    exact h.again ho
  · rw [if_neg c] at *
    rw [← List.dropLast_eq_take] at ho ⊢
    exact hull_shorter h.srt h.rat (by omega) ho fun r => Iff.rfl
theorem take_min {α : Type} (l : List α) {i m : Nat} (hi : i < l.length) : (i < m → l.take (min i m) ++ [l[i]] = l.take (min (i + 1) m)) ∧ (m ≤ i → l.take (min i m) = l.take (min (i + 1) m)) := by
  constructor
  · intro h
    rw [Nat.min_eq_left (by omega), Nat.min_eq_left (by omega), List.take_succ_eq_append_getElem hi]
  · intro h
    rw [Nat.min_eq_right h, Nat.min_eq_right (by omega)]
theorem NoRow.plain {P : Program} {w : World} {H : Hp} {v : V} {d : PyData} (h : ∀ H', Same H H' → TyX K H' v (.type (tyN d))) (e : isRo d = false) : NoRow P w K H v := .inl ⟨_, h, by rw [kit_row d, e]⟩
/-- hull_of of places with the same hull -/
theorem LS.hullR {P : Program} {w : World} (h : LS K H p PL ys a dx t ts ps os) {q : Addr} {xs : List V} {ps' : List Pl} {R : VK} {E : XK} (hp : Pls K H q xs ps') (l : ps'.length ≤ 30) (m1 : ∀ r ∈ ps', r ∈ ps) (m2 : ∀ r ∈ hullP os, r ∈ ps')
    (hR : ∀ H' x dx' t', LS K H' p PL ys a dx t ts ps os → Same H H' → H' x = some (.ins (cP K) dx' [("corners", t')]) → PatAt K H' (.ref x) (hullP os) → R (.ref x) H') : spHullOf P w K [.ref q] H R E := by
  have ne : ps' ≠ [] := fun z => by
    obtain ⟨r, hr⟩ := List.exists_mem_of_ne_nil _ h.cn
    have := m2 r hr
    rw [z] at this; cases this
  refine ⟨_, rfl, .inr (.inr ⟨q, xs, ps', rfl, hp, ne, l, fun r hr => (good4 (h.good r (m1 r hr))).1, fun H' z os' s ho hz => ?_⟩)⟩
  have e : hullP os' = hullP os := hull_between h.srt ho h.rat h.pn m1 m2
  obtain ⟨x, dx', t', rfl, ex, ht⟩ := hz
  rw [e] at ht
  exact hR H' x dx' t' (h.same s) s ex ⟨x, dx', t', rfl, ex, ht⟩
def oneD (q : Pl) : PyData := .tuple [pD q]
theorem noL_one (q : Pl) : noL (oneD q) = true := by simp [oneD, pD, rD, noL, noLs]
theorem lay_one : ∀ l : List Pl, PyData.canLayAll0 (l.map oneD) = true ∧ PyData.depthAll (l.map oneD) ≤ 3
  | [] => ⟨rfl, by simp [PyData.depthAll]⟩
  | o :: os => by
    obtain ⟨a, b⟩ := lay_one os
    constructor
    · rw [List.map_cons, PyData.canLayAll0, a]
      simp [oneD, pD, rD, PyData.canLay0, PyData.canLayAll0]
    · rw [List.map_cons, PyData.depthAll]
      simp [oneD, pD, rD, PyData.depth, PyData.depthAll] at b ⊢
      omega
theorem shaped_ones (l : List Pl) : SeqAt.shaped (.list (l.map oneD)) = true ∧ PyData.canLay0 (.list (l.map oneD)) = true := by
  obtain ⟨a, b⟩ := lay_one l
  have c : PyData.canLay0 (.list (l.map oneD)) = true := by rw [PyData.canLay0, a]
  refine ⟨?_, c⟩
  unfold SeqAt.shaped
  rw [c, PyData.depth]
  simp; omega
/-- the corners make the patch again -/
theorem LS.patW (h : LS K H p PL ys a dx t ts ps os) {d : PyData} {l : List PyData} {E : XK} {Go : List Pl → Prop} {G : Hp} (hr : rowsD d = some l) (pl : PlD l (hullP os)) (g : Go (hullP os)) : PatW K d G E Go := by
  have l0 : l.length = (hullP os).length := pl.1
  have := h.c9
  exact .inr ⟨l, hr, fun z => h.cn (List.length_eq_zero_iff.mp (by rw [← l0, z]; rfl)), by omega, .inr ⟨hullP os, pl, fun r hr => (good4 (h.gl r hr)).1, fun os' ho => ⟨fun n => absurd (h.again ho) n, fun _ => g⟩⟩⟩
end
end F3
set_option Elab.async false
set_option linter.all false
set_option maxRecDepth 100000
set_option maxHeartbeats 8000000
set_option exponentiation.threshold 10000
namespace F3
open PySem PySem.Spec PyProof.Rows L2 FX RM PB KD KS
section
variable {P : Program} {w : World} {K : PySem.W.Frag} {mg : Str → Option Value} {base : Heap}
theorem law5 (G_law_hand : DefOk P w K mg base CX0 "_law_hand" 1 ["_law_script"] (spHand K)) (G_law_spots : DefOk P w K mg base CX0 "_law_spots" 5 ["_law_hand_here", "_law_most"] (spSpots K)) (Xhull_of : DefOk P w K mg base (L2.CX P w) "hull_of" 9 ["places"] (spHullOf P w K)) (G_law_is_hull : DefOk P w K mg base CX0 "_law_is_hull" 5 ["_law_corners", "_law_places"] (spIsHull K)) (G_law_hull : DefOk P w K mg base CX0 "_law_hull" 3 ["_law_places"] (spHullL K)) (G_law_try : DefOk P w K mg base CX0 "_law_try" 9 ["_law_corners"] (spTry K)) (G_law_tuples : DefOk P w K mg base CX0 "_law_tuples" 4 ["_law_thing"] (spTup K 3)) (G_law_spoilt : DefOk P w K mg base CX0 "_law_spoilt" 5 ["_law_hand_here", "_law_corners"] (spSpoilt K)) (G_law_hull_try : DefOk P w K mg base CX0 "_law_hull_try" 10 ["_law_places"] (spHullTry P w K)) (Gcorner_patches : DefOk P w K mg base CX0 "corner_patches" 9 ["patch"] (spCorn K)) (G_law_bottoms : DefOk P w K mg base CX0 "_law_bottoms" 2 ["_law_places"] (spBots K)) (G_law_wholes : DefOk P w K mg base CX0 "_law_wholes" 1 ["_law_places", "_law_common"] (spWholesL K)) (Gwhole_corners : DefOk P w K mg base CX0 "whole_corners" 1 ["patches"] (spWhole2 K)) (mP : PMt P w K mg base) (cP_ : PCt P w K mg base) (mlen : mg "len" = none) (mrange : mg "range" = none) (mlist : mg "list" = none) (mtuple : mg "tuple" = none) (misinstance : mg "isinstance" = none) {f : Addr} {cdv : Value} {A : Around} {outer : List Env} {s : Shared} {H0 : Hp} {E : XK} (hr : Room 10 (A.deeper (envOfC "law" (defScope slaw) s.heap.objs.size f cdv))) : ∃ t, PSs (cxOf CX0 P w K mg base ["_law_script", "_law_hand_here", "_law_places", "_law_handed", "_law_patch", "_law_corners", "_law_spoilt_here", "_law_shorter", "_law_alone", "_law_other", "_law_common", "_law_due", "_law_place_here", "_law_corner", "_law_thing", "_law_k", "_law_one"] "law" (defScope slaw) f cdv A outer s H0 E).nox (List.drop 14 (defBody slaw)) t ∧
    ∀ (p PL a dx t_ : Addr) (ys ts : List V) (ps os : List Pl) (y0 y3 y6 y7 y8 y9 y10 y11 y12 y13 y14 y15 y16 : Option V) (DE : Ends) (H : Hp), LS K H p PL ys a dx t_ ts ps os → (∀ H', DE.rt (.bl true) H') → t DE [y0, some (.ref p), some (.ref PL), y3, some (.ref a), some (.ref t_), y6, y7, y8, y9, y10, y11, y12, y13, y14, y15, y16] H := by
  refine ⟨_, (pss_cons (ps_set (i := 9) sclaw.nd rfl (.inl rfl) (pe_def Xhull_of (hr.mono (by decide)) (by rfl) (pa_cons (pe_def G_law_spots (hr.mono (by decide)) (by rfl) (pa_cons (pv 1) (pa_cons pe_int pa_nil))) pa_nil))) (pss_cons (ps_if (PW.pt (pw_or (pt_cmpR op_ne (pe_cmpR (op_eqP mP (hr.mono (by decide))) (pv 4) (pv 9) (nomark _)) (pe_cmpR (op_eqD hr.units) (pv 5) (pe_fld (pv 9) rfl) (nomark _)) (nomark _)) (pw_or (pt_cmpR (op_eqP mP (hr.mono (by decide))) (pv 4) (pv 5) (nomark _)) (pw_or1 (pt_cmpR (op_neP mP (hr.mono (by decide))) (pv 4) (pe_pat0 cP_ (hr.mono (by decide)) (by rfl) (pa_cons (pv 5) pa_nil)) (nomark _)))))) (pss_one (ps_ret pe_bl)) pss_nil) (pss_cons (ps_set (i := 10) sclaw.nd rfl (.inl rfl) (pe_def G_law_bottoms (hr.mono (by decide)) (by rfl) (pa_cons (pe_op op_catA (pv 5) (pe_fld (pv 9) rfl)) pa_nil))) (pss_cons (ps_set (i := 11) sclaw.nd rfl (.inl rfl) (pe_tup (pa_cons (pe_tup (pa_cons (pe_callTy call_tuple_of (by rfl) mtuple (by decide +kernel) (pa_cons (pe_def G_law_wholes (hr.mono (by decide)) (by rfl) (pa_cons (pv 5) (pa_cons (pv 10) pa_nil))) pa_nil)) (pa_cons (pe_callTy call_tuple_of (by rfl) mtuple (by decide +kernel) (pa_cons (pe_def G_law_wholes (hr.mono (by decide)) (by rfl) (pa_cons (pe_fld (pv 9) rfl) (pa_cons (pv 10) pa_nil))) pa_nil)) pa_nil))) (pa_cons (pv 10) pa_nil)))) (pss_one (ps_ret (pe_and (pe_cmpR (op_eqD hr.units) (pe_def Gwhole_corners (hr.mono (by decide)) (by rfl) (pa_cons (pe_lst (pa_cons (pv 4) (pa_cons (pv 9) pa_nil))) pa_nil)) (pv 11) (nomark _)) (pe_one (pe_cmpR (op_eqD hr.units) (pe_def Gwhole_corners (hr.mono (by decide)) (by rfl) (pa_cons (pe_tup pa_nil) pa_nil)) (pe_tup (pa_cons (pe_tup pa_nil) (pa_cons pe_int pa_nil))) (nomark _)))))))))), ?_⟩
  intro p PL a dx t_ ys ts ps os y0 y3 y6 y7 y8 y9 y10 y11 y12 y13 y14 y15 y16 DE H hS  q
  refine ⟨.ref p, rfl, p, 4, rfl, by decide, by decide, hS.hand, fun H1 D zs qs qn ql qg nD eD hz hh s1 => ?_⟩
  have hS1 := hS.but s1 hh
  refine ⟨_, rfl, .inr (.inr ⟨D, zs, qs, rfl, pls_dp (.inl (.inl (.inl eD))) hz, qn, by omega, fun r hr => (good4 (qg r hr)).1, fun H2 z os2 s2 o2 hp => ?_⟩)⟩
  have hS2 := hS1.same s2
  clear hS1 hS hz eD s2 s1 hh nD
  have ht := tyx_pat mP.fa mP.cl hp
  obtain ⟨b, dy, t2, rfl, eb, hd2⟩ := hp
  have hp : PatAt K H2 (.ref b) (hullP os2) := ⟨b, dy, t2, rfl, eb, hd2⟩
  refine ⟨.ref a, rfl, .ref b, rfl, ?_⟩
  refine ⟨a, dx, _, _, rfl, hS2.ins, ht, mP.fa.ns, _, _, _, rfl, hS2.pat, .inl ⟨_, hp, _, rfl, ?_⟩⟩
  refine ⟨_, rfl, _, rfl, b, cP K, dy, _, _, rfl, eb, mP.cl, mP.no, rfl, _, _, hS2.dp, hd2, shaped_ps _, shaped_ps _, rfl, _, rfl, itF (by rw [eqv_ps]; simp) ?_⟩
  refine ⟨_, rfl, _, rfl, ?_⟩
  refine ⟨a, dx, _, _, rfl, hS2.ins, tyx_t hS2.tup, mP.fa.nt, _, _, _, rfl, hS2.pat, .inr ⟨_, tyx_t hS2.tup, mP.fa.kt, _, rfl, _, rfl, itF rfl ?_⟩⟩
  refine ⟨_, rfl, _, rfl, ?_⟩
  dsimp only [tNil]
  refine mk_patA hS2.dp (hS2.patW rfl (PlD.id _) fun H3 e dz t3 s3 ee hd3 => ?_)
  have hz : PatAt K H3 (.ref e) (hullP os) := ⟨e, dz, t3, rfl, ee, hd3⟩
  have hS3 := hS2.same s3
  replace hp := hp.same s3
  replace hd2 := Dp_same s3 hd2
  replace eb := s3 _ _ eb
  refine ⟨a, dx, _, e, dz, _, rfl, rfl, hS3.ins, ee, _, _, _, rfl, hS3.pat, .inl ⟨_, hz, _, rfl, _, rfl, itF (by simp) ?_⟩⟩
  clear hS2 ht hz ee hd3 s3
  cases hd2 with
  | @tup t2 ts2 _ hT2 hD2 =>
  have hr2 : ∀ r ∈ qs, RatP r := fun r hr => (qg r hr).1.1
  have hsub2 : ∀ r ∈ hullP os2, r ∈ qs := fun r hr => (o2.m r).mp (hull_sub r hr)
  have c2 : (hullP os2).length ≤ 4 := by have := nodup_len (hull_nodup o2 hr2) hsub2; omega
  have g2 : ∀ r ∈ hullP os2, GoodP 400 r ∧ BotM 420 r := fun r hr => good4 (qg r (hsub2 r hr))
  have g1 : ∀ r ∈ hullP os, GoodP 400 r ∧ BotM 420 r := fun r hr => good4 (hS3.gl r hr)
  have g12 : ∀ r ∈ hullP os ++ hullP os2, GoodP 400 r ∧ BotM 420 r := fun r hr => (List.mem_append.mp hr).elim (g1 r) (g2 r)
  have c9 := hS3.c9
  have l1 := hS3.tl
  have l2 : ts2.length = (hullP os2).length := by rw [DpAll_len hD2, List.length_map]
  refine ⟨_, rfl, _, rfl, b, cP K, dy, _, .ref t2, rfl, eb, mP.cl, mP.no, rfl, ?_⟩
  show rCatA K (.ref t_) (.ref t2) _ _
  refine catA hS3.tup hT2 (by omega) fun c H4 s4 hc => ?_
  refine ⟨c, _, hullP os ++ hullP os2, 420, rfl, ⟨.inr hc, by rw [List.map_append]; exact dp_app (DpAll_same s4 hS3.tds) (DpAll_same s4 hD2)⟩, by rw [List.length_append]; omega, by decide, by decide, g12, fun H5 s5 => ?_⟩
  have s35 := s4.trans s5
  have hS5 := hS3.same s35
  replace hp := hp.same s35
  replace hT2 := same_t s35 hT2
  replace hD2 := DpAll_same s35 hD2
  replace eb := s35 _ _ eb
  clear hS3 hc s4 s5 s35
  have hb := lcm_bot (l := hullP os ++ hullP os2) fun q hq => (g12 q hq).1.1
  have zN : Sz 200 ((lcmB 1 (hullP os ++ hullP os2) : Nat) : Int) := sz_dvd (lcmB_dvd (M := 420) (Nat.one_dvd _) fun q hq => (g12 q hq).2) (by decide) (by decide)
  have eN : lcmB 1 ([hullP os, hullP os2] : List (List Pl)).flatten = lcmB 1 (hullP os ++ hullP os2) := by simp
  generalize lcmB 1 (hullP os ++ hullP os2) = N at *
  refine ⟨_, rfl, _, rfl, t_, ts, hullP os, (N : Int), rfl, ⟨.inr hS5.tup, hS5.tds⟩, by omega, zN, fun r hr => (g1 r hr).1, fun H6 D1 us1 s6 n1 e1 h1 => ?_⟩
  refine ⟨D1, us1, rfl, .inl ⟨.inl (.inl e1), fun w1 nw1 => ?_⟩⟩
  have u1 := PB.same_new (o := .tup us1) nw1
  have k1 : Dp K (upd H6 w1 (.tup us1)) (.ref w1) (.tuple ((hullP os).map fun q => iD (sc N q))) := .tup (.inl (.inl upd_same)) (DpAll_same u1 h1)
  have s56 := s6.trans u1
  refine ⟨_, rfl, b, cP K, dy, _, .ref t2, rfl, s56 _ _ eb, mP.cl, mP.no, rfl, _, rfl, t2, ts2, hullP os2, (N : Int), rfl, ⟨.inr (same_t s56 hT2), DpAll_same s56 hD2⟩, by omega, zN, fun r hr => (g2 r hr).1, fun H7 D2 us2 s7 n2 e2 h2 => ?_⟩
  refine ⟨D2, us2, rfl, .inl ⟨.inl (.inl e2), fun w2 nw2 => ?_⟩⟩
  have u2 := PB.same_new (o := .tup us2) nw2
  have k2 : Dp K (upd H7 w2 (.tup us2)) (.ref w2) (.tuple ((hullP os2).map fun q => iD (sc N q))) := .tup (.inl (.inl upd_same)) (DpAll_same u2 h2)
  have k1 := Dp_same (s7.trans u2) k1
  refine ⟨(by show 2 ≤ sizeLine; decide), fun w3 nw3 => ⟨_, rfl, (by show 2 ≤ sizeLine; decide), fun w4 nw4 => ?_⟩⟩
  have k3 := dp_mk2 (K := K) nw4 (dp_mk2 nw3 k1 k2) (.int (N : Int))
  have s57 := ((s56.trans (s7.trans u2)).trans (PB.same_new (o := .tup [.ref w1, .ref w2]) nw3)).trans (PB.same_new (o := .tup [.ref w3, .int (N : Int)]) nw4)
  have hS7 := hS5.same s57
  replace hp := hp.same s57
  generalize upd (upd (upd H7 w2 (.tup us2)) w3 (.tup [.ref w1, .ref w2])) w4 (.tup [.ref w3, .int (N : Int)]) = H8 at *
  clear k1 k2 h1 h2 e1 e2 s56 s57 u1 u2 s6 s7 hS5 nw1 nw2 nw3 nw4 n1 n2
  refine ⟨_, rfl, _, rfl, (by show 2 ≤ sizeLine; decide), fun w5 nw5 => ?_⟩
  have u5 := PB.same_new (o := .lst [V.ref a, .ref b]) nw5
  have at_ : ∀ (i : Nat) (x : V) (cs : List Pl), [V.ref a, .ref b][i]? = some x → [hullP os, hullP os2][i]? = some cs → PatAt K (upd H8 w5 (.lst [V.ref a, .ref b])) x cs := fun i x cs ex ec => by
    match i, ex, ec with
    | 0, ex, ec => cases ex; cases ec; exact hS7.pat.same u5
    | 1, ex, ec => cases ex; cases ec; exact hp.same u5
  refine ⟨w5, _, [hullP os, hullP os2], 420, rfl, .inl (.inl (.inl upd_same)), rfl, (by show 2 ≤ 20; decide), at_, by decide, by decide, fun cs hc => ?_, fun H9 z s9 hz => ?_⟩
  · simp only [List.mem_cons, List.not_mem_nil, or_false] at hc
    rcases hc with rfl | rfl
    · exact ⟨by omega, g1⟩
    · exact ⟨by omega, g2⟩
  rw [eN] at hz
  have e1 : ([hullP os, hullP os2].map (whD (N : Int))) = [.tuple ((hullP os).map fun q => iD (sc N q)), .tuple ((hullP os2).map fun q => iD (sc N q))] := by
    rw [List.map_cons, List.map_cons, List.map_nil, whD_eq fun q hq => hb q (List.mem_append_left _ hq), whD_eq fun q hq => hb q (List.mem_append_right _ hq)]
  rw [e1] at hz
  have s59 := u5.trans s9
  refine ⟨_, rfl, eq_same (shaped_due N _ _) hz (Dp_same s59 k3) ⟨_, rfl, itT rfl ?_⟩⟩
  refine ⟨(by show 0 ≤ sizeLine; decide), fun v1 nv1 => ?_⟩
  refine ⟨v1, [], [], 1, rfl, .inr (.inl (.inl upd_same)), rfl, (by show 0 ≤ 20; decide), (fun i x cs ex => by simp at ex), by decide, by decide, (fun cs hc => nomatch hc), fun HA z2 sA hz2 => ?_⟩
  refine ⟨(by show 0 ≤ sizeLine; decide), fun v2 nv2 => ⟨(by show 2 ≤ sizeLine; decide), fun v3 nv3 => ?_⟩⟩
  have sB := (PB.same_new (o := .tup []) nv2).trans (PB.same_new (o := .tup [V.ref v2, .int 1]) nv3)
  have kz : Dp K (upd (upd HA v2 (.tup [])) v3 (.tup [V.ref v2, .int 1])) (.ref v3) (.tuple [.tuple [], .int 1]) := dp_mk2 nv3 (.tup (.inl (.inl upd_same)) .nil) (.int 1)
  exact eq_same (d := .tuple [.tuple [], .int 1]) ⟨by decide +kernel, by decide +kernel⟩ (Dp_same sB hz2) kz (q _)
end
end F3
set_option Elab.async false
set_option linter.all false
set_option maxRecDepth 100000
set_option maxHeartbeats 8000000
set_option exponentiation.threshold 10000
namespace F3
open PySem PySem.Spec PyProof.Rows L2 FX RM PB KD KS
section
variable {P : Program} {w : World} {K : PySem.W.Frag} {mg : Str → Option Value} {base : Heap}
theorem law4 (G_law_hand : DefOk P w K mg base CX0 "_law_hand" 1 ["_law_script"] (spHand K)) (G_law_spots : DefOk P w K mg base CX0 "_law_spots" 5 ["_law_hand_here", "_law_most"] (spSpots K)) (Xhull_of : DefOk P w K mg base (L2.CX P w) "hull_of" 9 ["places"] (spHullOf P w K)) (G_law_is_hull : DefOk P w K mg base CX0 "_law_is_hull" 5 ["_law_corners", "_law_places"] (spIsHull K)) (G_law_hull : DefOk P w K mg base CX0 "_law_hull" 3 ["_law_places"] (spHullL K)) (G_law_try : DefOk P w K mg base CX0 "_law_try" 9 ["_law_corners"] (spTry K)) (G_law_tuples : DefOk P w K mg base CX0 "_law_tuples" 4 ["_law_thing"] (spTup K 3)) (G_law_spoilt : DefOk P w K mg base CX0 "_law_spoilt" 5 ["_law_hand_here", "_law_corners"] (spSpoilt K)) (G_law_hull_try : DefOk P w K mg base CX0 "_law_hull_try" 10 ["_law_places"] (spHullTry P w K)) (Gcorner_patches : DefOk P w K mg base CX0 "corner_patches" 9 ["patch"] (spCorn K)) (G_law_bottoms : DefOk P w K mg base CX0 "_law_bottoms" 2 ["_law_places"] (spBots K)) (G_law_wholes : DefOk P w K mg base CX0 "_law_wholes" 1 ["_law_places", "_law_common"] (spWholesL K)) (Gwhole_corners : DefOk P w K mg base CX0 "whole_corners" 1 ["patches"] (spWhole2 K)) (mP : PMt P w K mg base) (cP_ : PCt P w K mg base) (mlen : mg "len" = none) (mrange : mg "range" = none) (mlist : mg "list" = none) (mtuple : mg "tuple" = none) (misinstance : mg "isinstance" = none) {f : Addr} {cdv : Value} {A : Around} {outer : List Env} {s : Shared} {H0 : Hp} {E : XK} (hr : Room 10 (A.deeper (envOfC "law" (defScope slaw) s.heap.objs.size f cdv))) : ∃ t, PSs (cxOf CX0 P w K mg base ["_law_script", "_law_hand_here", "_law_places", "_law_handed", "_law_patch", "_law_corners", "_law_spoilt_here", "_law_shorter", "_law_alone", "_law_other", "_law_common", "_law_due", "_law_place_here", "_law_corner", "_law_thing", "_law_k", "_law_one"] "law" (defScope slaw) f cdv A outer s H0 E).nox (List.drop 12 (defBody slaw)) t ∧
    ∀ (p PL a dx t_ : Addr) (ys ts : List V) (ps os : List Pl) (y0 y3 y6 y7 y8 y9 y10 y11 y12 y13 y14 y15 y16 : Option V) (DE : Ends) (H : Hp), LS K H p PL ys a dx t_ ts ps os → (∀ H', DE.rt (.bl true) H') → t DE [y0, some (.ref p), some (.ref PL), y3, some (.ref a), some (.ref t_), y6, y7, y8, y9, y10, y11, y12, y13, y14, y15, y16] H := by
  obtain ⟨tn, dn, kn⟩ := law5 G_law_hand G_law_spots Xhull_of G_law_is_hull G_law_hull G_law_try G_law_tuples G_law_spoilt G_law_hull_try Gcorner_patches G_law_bottoms G_law_wholes Gwhole_corners mP cP_ mlen mrange mlist mtuple misinstance (outer := outer) (f := f) (cdv := cdv) (s := s) (H0 := H0) (E := E) (A := A) (K := K) (mg := mg) (base := base) (P := P) (w := w) hr
  refine ⟨_, (pss_cons (ps_set (i := 8) sclaw.nd rfl (.inl rfl) (pe_def Gcorner_patches (hr.mono (by decide)) (by rfl) (pa_cons (pv 4) pa_nil))) (pss_cons (ps_if (PW.pt (pw_or (pt_not (pt_val (pe_callB call_isi (by rfl) misinstance boot_isinstance (pa_cons (pv 8) (pa_cons (pe_bltn (v := .ty "tuple") (by rfl) mtuple (by decide +kernel) rfl) pa_nil))))) (pw_or1 (pt_cmpR (op_neD hr.units) (pe_lc (own := [("_law_one", 16)]) rfl sclaw.nd (pi_seq (pv 8)) (blkOk_by (N := ["_law_script", "_law_hand_here", "_law_places", "_law_handed", "_law_patch", "_law_corners", "_law_spoilt_here", "_law_shorter", "_law_alone", "_law_other", "_law_common", "_law_due", "_law_place_here", "_law_corner", "_law_thing", "_law_k", "_law_one"]) (sc := defScope slaw) (by decide +kernel)) (fun _ _ _ _ _ => (pg_name (i := 16) sclaw.nd rfl (.inl rfl))) (fun _ _ _ _ _ => pts_nil) (fun _ _ _ _ _ => (pe_fldK K (pv 16) rfl))) (pe_lc (own := [("_law_corner", 13)]) rfl sclaw.nd (pi_seq (pv 5)) (blkOk_by (N := ["_law_script", "_law_hand_here", "_law_places", "_law_handed", "_law_patch", "_law_corners", "_law_spoilt_here", "_law_shorter", "_law_alone", "_law_other", "_law_common", "_law_due", "_law_place_here", "_law_corner", "_law_thing", "_law_k", "_law_one"]) (sc := defScope slaw) (by decide +kernel)) (fun _ _ _ _ _ => (pg_name (i := 13) sclaw.nd rfl (.inl rfl))) (fun _ _ _ _ _ => pts_nil) (fun _ _ _ _ _ => (pe_tup (pa_cons (pv 13) pa_nil)))) (nomark _))))) (pss_one (ps_ret pe_bl)) pss_nil) dn)), ?_⟩
  intro p PL a dx t_ ys ts ps os y0 y3 y6 y7 y8 y9 y10 y11 y12 y13 y14 y15 y16 DE H hS  q
  have c9 := hS.c9
  have l1 := hS.tl
  refine ⟨_, rfl, .ref a, hullP os, rfl, hS.pat, by omega, fun r hr => (good4 (hS.gl r hr)).1, fun H1 t1 zs s1 e1 zl hz => ?_⟩
  have hS1 := hS.same s1
  clear hS s1
  refine ⟨_, rfl, _, _, _, _, true, rfl, .ty _, tyx_t (.inl (.inl e1)), kit_ty (kit_tuple (.tuple [])), _, rfl, itF rfl ?_⟩
  dsimp only [tTest, tOp]
  refine lc_map (K := K) (a := t1) (xs := zs) (j := 8) (fun i => oneD ((hullP os).getD i zP)) (fun i => noL_one _) (by rfl) (.inr (.inl (.inl e1))) (small1000 (by omega)) (fun i x G R ex sx hR => ?_) fun D2 G2 ks s2 n2 e2 h2 => ?_
  · obtain ⟨c, ec⟩ : ∃ c, (hullP os)[i]? = some c := ⟨_, List.getElem?_eq_getElem (by rw [← zl]; exact (List.getElem?_eq_some_iff.mp ex).1)⟩
    have e : (hullP os).getD i zP = c := by rw [List.getD_eq_getElem?_getD, ec]; rfl
    obtain ⟨b, dy, u, rfl, eb, hu⟩ := (hz i x c ex ec).same sx
    (try dsimp only at hR)
    rw [e] at hR
    exact ⟨rfl, _, rfl, b, cP K, dy, _, u, rfl, eb, mP.cl, mP.no, rfl, hR u G (fun _ _ z => z) hu⟩
  rw [range_map (hullP os) zP oneD zl] at h2
  have hS2 := hS1.same s2
  clear hS1 hz s2 n2 e1
  (try dsimp only)
  refine lc_map (K := K) (a := t_) (xs := ts) (j := 5) (fun i => oneD ((hullP os).getD i zP)) (fun i => noL_one _) (by rfl) (.inr hS2.tup) (small1000 (by omega)) (fun i x G R ex sx hR => ?_) fun D3 G3 us s3 n3 e3 h3 => ?_
  · obtain ⟨c, ec, _, hd⟩ := Rows.at (p := t_) ⟨.inr (same_t sx hS2.tup), DpAll_same sx hS2.tds⟩ ex
    have e : (hullP os).getD i zP = c := by rw [List.getD_eq_getElem?_getD, ec]; rfl
    (try dsimp only at hR)
    rw [e] at hR
    refine ⟨rfl, _, rfl, (by show 1 ≤ sizeLine; decide), fun b nb => ?_⟩
    have sb := PB.same_new (o := .tup [x]) nb
    exact hR _ _ sb (.tup (.inl (.inl upd_same)) (.cons (Dp_same sb hd) .nil))
  rw [range_map (hullP os) zP oneD l1] at h3
  refine ne_same (shaped_ones (hullP os)) (.lst (.inl (.inl (s3 _ _ e2))) (DpAll_same s3 h2)) (.lst (.inl (.inl e3)) h3) ⟨_, rfl, itF rfl ?_⟩
  exact kn p PL a dx t_ ys ts ps os _ _ _ _ _ _ _ _ _ _ _ _ _ _ _ (hS2.same s3) q
end
end F3
set_option Elab.async false
set_option linter.all false
set_option maxRecDepth 100000
set_option maxHeartbeats 8000000
set_option exponentiation.threshold 10000
namespace F3
open PySem PySem.Spec PyProof.Rows L2 FX RM PB KD KS
section
variable {P : Program} {w : World} {K : PySem.W.Frag} {mg : Str → Option Value} {base : Heap}
theorem law3 (G_law_hand : DefOk P w K mg base CX0 "_law_hand" 1 ["_law_script"] (spHand K)) (G_law_spots : DefOk P w K mg base CX0 "_law_spots" 5 ["_law_hand_here", "_law_most"] (spSpots K)) (Xhull_of : DefOk P w K mg base (L2.CX P w) "hull_of" 9 ["places"] (spHullOf P w K)) (G_law_is_hull : DefOk P w K mg base CX0 "_law_is_hull" 5 ["_law_corners", "_law_places"] (spIsHull K)) (G_law_hull : DefOk P w K mg base CX0 "_law_hull" 3 ["_law_places"] (spHullL K)) (G_law_try : DefOk P w K mg base CX0 "_law_try" 9 ["_law_corners"] (spTry K)) (G_law_tuples : DefOk P w K mg base CX0 "_law_tuples" 4 ["_law_thing"] (spTup K 3)) (G_law_spoilt : DefOk P w K mg base CX0 "_law_spoilt" 5 ["_law_hand_here", "_law_corners"] (spSpoilt K)) (G_law_hull_try : DefOk P w K mg base CX0 "_law_hull_try" 10 ["_law_places"] (spHullTry P w K)) (Gcorner_patches : DefOk P w K mg base CX0 "corner_patches" 9 ["patch"] (spCorn K)) (G_law_bottoms : DefOk P w K mg base CX0 "_law_bottoms" 2 ["_law_places"] (spBots K)) (G_law_wholes : DefOk P w K mg base CX0 "_law_wholes" 1 ["_law_places", "_law_common"] (spWholesL K)) (Gwhole_corners : DefOk P w K mg base CX0 "whole_corners" 1 ["patches"] (spWhole2 K)) (mP : PMt P w K mg base) (cP_ : PCt P w K mg base) (mlen : mg "len" = none) (mrange : mg "range" = none) (mlist : mg "list" = none) (mtuple : mg "tuple" = none) (misinstance : mg "isinstance" = none) {f : Addr} {cdv : Value} {A : Around} {outer : List Env} {s : Shared} {H0 : Hp} {E : XK} (hr : Room 10 (A.deeper (envOfC "law" (defScope slaw) s.heap.objs.size f cdv))) : ∃ t, PSs (cxOf CX0 P w K mg base ["_law_script", "_law_hand_here", "_law_places", "_law_handed", "_law_patch", "_law_corners", "_law_spoilt_here", "_law_shorter", "_law_alone", "_law_other", "_law_common", "_law_due", "_law_place_here", "_law_corner", "_law_thing", "_law_k", "_law_one"] "law" (defScope slaw) f cdv A outer s H0 E).nox (List.drop 10 (defBody slaw)) t ∧
    ∀ (p PL a dx t_ : Addr) (ys ts : List V) (ps os : List Pl) (y0 y3 y6 y7 y8 y9 y10 y11 y12 y13 y14 y15 y16 : Option V) (DE : Ends) (H : Hp), LS K H p PL ys a dx t_ ts ps os → (∀ H', DE.rt (.bl true) H') → t DE [y0, some (.ref p), some (.ref PL), y3, some (.ref a), some (.ref t_), y6, y7, y8, y9, y10, y11, y12, y13, y14, y15, y16] H := by
  obtain ⟨tn, dn, kn⟩ := law4 G_law_hand G_law_spots Xhull_of G_law_is_hull G_law_hull G_law_try G_law_tuples G_law_spoilt G_law_hull_try Gcorner_patches G_law_bottoms G_law_wholes Gwhole_corners mP cP_ mlen mrange mlist mtuple misinstance (outer := outer) (f := f) (cdv := cdv) (s := s) (H0 := H0) (E := E) (A := A) (K := K) (mg := mg) (base := base) (P := P) (w := w) hr
  refine ⟨_, (pss_cons (ps_set (i := 7) sclaw.nd rfl (.inl rfl) (pe_callTy call_tuple_of (by rfl) mtuple (by decide +kernel) (pa_cons (pe_lc (own := [("_law_k", 15)]) rfl sclaw.nd (pi_range1 (by rfl) mrange (pa_cons (pe_callB call_len_seq (by rfl) mlen PySem.boot_len (pa_cons (pv 5) pa_nil)) pa_nil)) (blkOk_by (N := ["_law_script", "_law_hand_here", "_law_places", "_law_handed", "_law_patch", "_law_corners", "_law_spoilt_here", "_law_shorter", "_law_alone", "_law_other", "_law_common", "_law_due", "_law_place_here", "_law_corner", "_law_thing", "_law_k", "_law_one"]) (sc := defScope slaw) (by decide +kernel)) (fun _ _ _ _ _ => (pg_name (i := 15) sclaw.nd rfl (.inl rfl))) (fun _ _ _ _ _ => (pts_one (PW.pt (pw_or (pt_cmpR op_ne (pv 15) (pe_op op_sub (pe_callB (call_len_seqK K) (by rfl) mlen PySem.boot_len (pa_cons (pv 5) pa_nil)) pe_int) (nomark _)) (pw_or1 (pt_cmpR op_eq (pv 15) pe_int (nomark _))))))) (fun _ _ _ _ _ => (pe_ix (ix_tupK K) (pv 5) (pv 15) (fun _ _ => rfl)))) pa_nil))) (pss_cons (ps_if (PW.pt (pw_or (pt_cmpR (op_neD hr.units) (pe_def G_law_try (hr.mono (by decide)) (by rfl) (pa_cons (pv 7) pa_nil)) (pv 7) (nomark _)) (pw_or (pt_cmpR op_ne (pe_callB (cr_lenP mP (hr.mono (by decide))) (by rfl) mlen PySem.boot_len (pa_cons (pv 4) pa_nil)) (pe_callB call_len_seq (by rfl) mlen PySem.boot_len (pa_cons (pv 5) pa_nil)) (nomark _)) (pw_or1 (pt_cmpR (op_neD hr.units) (pe_lc (own := [("_law_corner", 13)]) rfl sclaw.nd (pi_P mP (hr.mono (by decide)) (pv 4)) (blkOk_by (N := ["_law_script", "_law_hand_here", "_law_places", "_law_handed", "_law_patch", "_law_corners", "_law_spoilt_here", "_law_shorter", "_law_alone", "_law_other", "_law_common", "_law_due", "_law_place_here", "_law_corner", "_law_thing", "_law_k", "_law_one"]) (sc := defScope slaw) (by decide +kernel)) (fun _ _ _ _ _ => (pg_name (i := 13) sclaw.nd rfl (.inl rfl))) (fun _ _ _ _ _ => pts_nil) (fun _ _ _ _ _ => (pv 13))) (pe_callTy call_list_of (by rfl) mlist (by decide +kernel) (pa_cons (pv 5) pa_nil)) (nomark _)))))) (pss_one (ps_ret pe_bl)) pss_nil) dn)), ?_⟩
  intro p PL a dx t_ ys ts ps os y0 y3 y6 y7 y8 y9 y10 y11 y12 y13 y14 y15 y16 DE H hS  q
  have c9 := hS.c9
  have l1 := hS.tl
  have l0 : 0 < ts.length := by rw [l1]; exact List.length_pos_iff.mpr hS.cn
  dsimp only [tSeq, tAsg, tCB, tCons, tNil]
  refine ⟨_, rfl, t_, ts, rfl, .inr hS.tup, (ts.length : Int), rfl, by omega, by omega, fun D nD => ?_⟩
  rw [Int.toNat_natCast]
  generalize em : mS ts.length = m
  have mS1 : ∀ i, i < ts.length → (i < m ↔ (i ≠ ts.length - 1 ∨ i = 0)) := fun i hi => by
    rw [← em]; unfold mS; split <;> omega
  refine lc_range (lo := 0) (n := ts.length) (fun i G => Same H G ∧ G D = some (.lst (ts.take (min i m)))) ⟨PB.same_new nD, by simp [upd_same]⟩ (fun i G hi hG => ?_) (fun G hG => ?_)
  · obtain ⟨s1, eD⟩ := hG
    have ei : ts[i]? = some ts[i] := List.getElem?_eq_getElem hi
    have ea := atI_nat ei
    obtain ⟨t1, t2⟩ := take_min ts (i := i) (m := m) hi
    rw [show (0 : Int) + (i : Nat) = ((i : Nat) : Int) by omega]
    refine ⟨rfl, ?_⟩
    refine ⟨_, rfl, _, rfl, t_, ts, rfl, .inr (same_t s1 hS.tup), _, _, rfl, rfl, ?_⟩
    have yes : i < m → ∃ acc, G D = some (HO.lst acc) ∧ acc.length < sizeLine ∧ Same H (upd G D (.lst (acc ++ [ts[i]]))) ∧ upd G D (.lst (acc ++ [ts[i]])) D = some (.lst (ts.take (min (i + 1) m))) := fun hm =>
      ⟨_, eD, by rw [List.length_take]; exact small1000 (by omega), fun b o e => by rw [upd_ne (ne_of_none e nD)]; exact s1 _ _ e, by rw [upd_same, t1 hm]⟩
    by_cases c1 : i = ts.length - 1
    · refine ⟨rfl, _, rfl, itF (by simp; omega) ?_⟩
      refine ⟨_, rfl, rfl, _, rfl, ?_⟩
      by_cases c2 : i = 0
      · refine itT (decide_eq_true (by rw [c2]; rfl)) ?_
        exact ⟨_, rfl, _, rfl, t_, ts, _, _, rfl, rfl, same_t s1 hS.tup, ea, yes ((mS1 i hi).mpr (.inr c2))⟩
      · refine itF (decide_eq_false fun z => c2 (by have := V.int.inj z; omega)) ?_
        exact ⟨s1, by rw [eD, t2 (by have := mS1 i hi; omega)]⟩
    · refine ⟨rfl, _, rfl, itT (by simp; omega) ?_⟩
      exact ⟨_, rfl, _, rfl, t_, ts, _, _, rfl, rfl, same_t s1 hS.tup, ea, yes ((mS1 i hi).mpr (.inl c1))⟩
  obtain ⟨s1, eD⟩ := hG
  have ml : m ≤ ts.length := by rw [← em]; unfold mS; split <;> omega
  rw [Nat.min_eq_right ml] at eD
  refine ⟨D, _, rfl, .inl ⟨.inl (.inl eD), fun l nl => ?_⟩⟩
  have s2 := s1.trans (PB.same_new (o := .tup (ts.take m)) nl)
  have hS2 := hS.same s2
  have hsh : Dp K (upd G l (.tup (ts.take m))) (.ref l) (.tuple (((hullP os).take m).map pD)) := .tup (.inl (.inl upd_same)) (by rw [List.map_take]; exact dp_take m hS2.tds)
  generalize upd G l (.tup (ts.take m)) = G2 at *
  have em2 : mS (hullP os).length = m := by rw [← l1]; exact em
  have m0 : 0 < m := by rw [← em]; unfold mS; split <;> omega
  have sl : ((hullP os).take m).length = m := by rw [List.length_take]; omega
  have short := fun {os' : List Pl} (ho : Srt ((hullP os).take m) os') => by
    have := hS2.short (os' := os') (by rw [em2]; exact ho)
    rw [em2] at this; exact this
  clear hS s1 s2 eD nl mS1
  refine ⟨_, rfl, .ref l, _, rfl, hsh, .inr ⟨((hullP os).take m).map pD, rfl, fun z => by have := congrArg List.length z; rw [List.length_map, sl] at this; simp at this; omega, by rw [List.length_map, sl]; omega, .inr ⟨(hullP os).take m, PlD.id _, fun r hr => (good4 (hS2.gl r (List.mem_of_mem_take hr))).1, fun os' ho => ⟨fun n => absurd (short ho) n, fun _ G3 z s3 hz => ?_⟩⟩⟩⟩
  have hS3 := hS2.same s3
  refine ⟨_, rfl, ne_same (shaped_pt _) hz (Dp_same s3 hsh) ⟨_, rfl, itF rfl ?_⟩⟩
  clear hS2 hsh hz s3
  refine ⟨_, rfl, a, dx, _, rfl, hS3.ins, _, _, rfl, hS3.pat, _, rfl, by omega, by omega, ?_⟩
  refine ⟨_, rfl, t_, ts, rfl, .inr hS3.tup, rfl, _, rfl, itF (by rw [l1]; simp) ?_⟩
  dsimp only [tTest, tOp]
  refine ⟨_, rfl, a, dx, _, t_, rfl, hS3.ins, ⟨ts, hS3.tup⟩, fun n Q' hq => ⟨a, dx, t_, ts, rfl, hS3.ins, hS3.tup, hq⟩, fun H4 s4 D2 nD2 => ?_⟩
  have hS4 := hS3.same s4
  refine lc_it walk_tup (fun i G => Same H4 G ∧ G D2 = some (.lst (ts.take i))) ⟨PB.same_new nD2, by rw [upd_same]; rfl⟩ (fun i G _ h => same_t h.1 hS4.tup) (fun i x G G' hi h y => ?_) (fun G h => ?_)
  · obtain ⟨rfl, ex⟩ := y
    obtain ⟨s5, eD⟩ := h
    refine ⟨rfl, _, rfl, ts.take i, eD, by rw [List.length_take]; exact small1000 (by omega), fun b o e => by rw [upd_ne (ne_of_none e nD2)]; exact s5 _ _ e, ?_⟩
    obtain ⟨il, ex⟩ := List.getElem?_eq_some_iff.mp ex
    rw [upd_same, List.take_succ_eq_append_getElem il, ex]
  obtain ⟨s5, eD⟩ := h
  rw [List.take_length] at eD
  have hS5 := hS4.same s5
  refine ⟨_, rfl, t_, ts, rfl, .inr hS5.tup, fun l2 nl2 => ?_⟩
  have s6 := PB.same_new (o := .lst ts) nl2
  have hS6 := hS5.same s6
  refine ne_same (shaped_lp (hullP os)) (.lst (.inl (.inl (s6 _ _ eD))) hS6.tds) (.lst (.inl (.inl upd_same)) hS6.tds) ⟨_, rfl, itF rfl ?_⟩
  exact kn p PL a dx t_ ys ts ps os _ _ _ _ _ _ _ _ _ _ _ _ _ _ _ hS6 q
end
end F3
set_option Elab.async false
set_option linter.all false
set_option maxRecDepth 100000
set_option maxHeartbeats 8000000
set_option exponentiation.threshold 10000
namespace F3
open PySem PySem.Spec PyProof.Rows L2 FX RM PB KD KS
section
variable {P : Program} {w : World} {K : PySem.W.Frag} {mg : Str → Option Value} {base : Heap}
theorem law2 (G_law_hand : DefOk P w K mg base CX0 "_law_hand" 1 ["_law_script"] (spHand K)) (G_law_spots : DefOk P w K mg base CX0 "_law_spots" 5 ["_law_hand_here", "_law_most"] (spSpots K)) (Xhull_of : DefOk P w K mg base (L2.CX P w) "hull_of" 9 ["places"] (spHullOf P w K)) (G_law_is_hull : DefOk P w K mg base CX0 "_law_is_hull" 5 ["_law_corners", "_law_places"] (spIsHull K)) (G_law_hull : DefOk P w K mg base CX0 "_law_hull" 3 ["_law_places"] (spHullL K)) (G_law_try : DefOk P w K mg base CX0 "_law_try" 9 ["_law_corners"] (spTry K)) (G_law_tuples : DefOk P w K mg base CX0 "_law_tuples" 4 ["_law_thing"] (spTup K 3)) (G_law_spoilt : DefOk P w K mg base CX0 "_law_spoilt" 5 ["_law_hand_here", "_law_corners"] (spSpoilt K)) (G_law_hull_try : DefOk P w K mg base CX0 "_law_hull_try" 10 ["_law_places"] (spHullTry P w K)) (Gcorner_patches : DefOk P w K mg base CX0 "corner_patches" 9 ["patch"] (spCorn K)) (G_law_bottoms : DefOk P w K mg base CX0 "_law_bottoms" 2 ["_law_places"] (spBots K)) (G_law_wholes : DefOk P w K mg base CX0 "_law_wholes" 1 ["_law_places", "_law_common"] (spWholesL K)) (Gwhole_corners : DefOk P w K mg base CX0 "whole_corners" 1 ["patches"] (spWhole2 K)) (mP : PMt P w K mg base) (cP_ : PCt P w K mg base) (mlen : mg "len" = none) (mrange : mg "range" = none) (mlist : mg "list" = none) (mtuple : mg "tuple" = none) (misinstance : mg "isinstance" = none) {f : Addr} {cdv : Value} {A : Around} {outer : List Env} {s : Shared} {H0 : Hp} {E : XK} (hr : Room 10 (A.deeper (envOfC "law" (defScope slaw) s.heap.objs.size f cdv))) : ∃ t, PSs (cxOf CX0 P w K mg base ["_law_script", "_law_hand_here", "_law_places", "_law_handed", "_law_patch", "_law_corners", "_law_spoilt_here", "_law_shorter", "_law_alone", "_law_other", "_law_common", "_law_due", "_law_place_here", "_law_corner", "_law_thing", "_law_k", "_law_one"] "law" (defScope slaw) f cdv A outer s H0 E).nox (List.drop 8 (defBody slaw)) t ∧
    ∀ (p PL a dx t_ : Addr) (ys ts : List V) (ps os : List Pl) (y0 y3 y6 y7 y8 y9 y10 y11 y12 y13 y14 y15 y16 : Option V) (DE : Ends) (H : Hp), LS K H p PL ys a dx t_ ts ps os → (∀ H', DE.rt (.bl true) H') → t DE [y0, some (.ref p), some (.ref PL), y3, some (.ref a), some (.ref t_), y6, y7, y8, y9, y10, y11, y12, y13, y14, y15, y16] H := by
  obtain ⟨tn, dn, kn⟩ := law3 G_law_hand G_law_spots Xhull_of G_law_is_hull G_law_hull G_law_try G_law_tuples G_law_spoilt G_law_hull_try Gcorner_patches G_law_bottoms G_law_wholes Gwhole_corners mP cP_ mlen mrange mlist mtuple misinstance (outer := outer) (f := f) (cdv := cdv) (s := s) (H0 := H0) (E := E) (A := A) (K := K) (mg := mg) (base := base) (P := P) (w := w) hr
  refine ⟨_, (pss_cons (ps_set (i := 6) sclaw.nd rfl (.inl rfl) (pe_def G_law_spoilt (hr.mono (by decide)) (by rfl) (pa_cons (pv 1) (pa_cons (pv 5) pa_nil)))) (pss_cons (ps_if (PW.pt (pw_or (pt_cmpR (op_neD hr.units) (pe_def G_law_try (hr.mono (by decide)) (by rfl) (pa_cons (pe_ix ix_list (pv 6) pe_int (fun _ _ => rfl)) pa_nil)) (pe_ix ix_list (pv 6) pe_int (fun _ _ => rfl)) (nomark _)) (pw_or1 (pt_cmpR (op_neD hr.units) (pe_lc (own := [("_law_thing", 14)]) rfl sclaw.nd (pi_seq (pe_lst (pa_cons (pe_lst pa_nil) (pa_cons (pe_tup pa_nil) (pa_cons pe_non (pa_cons pe_int (pa_cons pe_str (pa_cons pe_dnewN (pa_cons (pv 4) (pa_cons (pe_dispN (Nat.lt_of_le_of_lt (Nat.add_le_add_left (show 8 ≤ 64 by decide) _) hr.units) (pe_ix ix_tup (pv 5) pe_int (fun _ _ => rfl)) pe_int) pa_nil)))))))))) (blkOk_by (N := ["_law_script", "_law_hand_here", "_law_places", "_law_handed", "_law_patch", "_law_corners", "_law_spoilt_here", "_law_shorter", "_law_alone", "_law_other", "_law_common", "_law_due", "_law_place_here", "_law_corner", "_law_thing", "_law_k", "_law_one"]) (sc := defScope slaw) (by decide +kernel)) (fun _ _ _ _ _ => (pg_name (i := 14) sclaw.nd rfl (.inl rfl))) (fun _ _ _ _ _ => pts_nil) (fun _ _ _ _ _ => (pe_def G_law_hull_try (hr.mono (by decide)) (by rfl) (pa_cons (pv 14) pa_nil)))) (pe_op op_rep (pe_lst (pa_cons pe_str pa_nil)) pe_int) (nomark _))))) (pss_one (ps_ret pe_bl)) pss_nil) dn)), ?_⟩
  intro p PL a dx t_ ys ts ps os y0 y3 y6 y7 y8 y9 y10 y11 y12 y13 y14 y15 y16 DE H hS  q
  refine ⟨_, rfl, _, rfl, p, .ref t_, ps, os, rfl, hS.dp, hS.srt, hS.pn, hS.p9, hS.good, hS.hand, fun H1 D v d wd eD hv hw hh s1 => ?_⟩
  have hS1 := hS.but s1 hh
  clear hS s1 hh
  have hts := hS1.tl
  have h0 : 0 < ts.length := by rw [hts]; exact List.length_pos_iff.mpr hS1.cn
  have tryR : ∀ R : VK, (∀ H', Same H1 H' → R (.str wd) H') → spTry K [v] H1 R E0 := fun R hR => by
    rcases hw with ⟨rfl, hw⟩ | ⟨rfl, ds, e, ne, l6, b, bm, nb⟩ | ⟨rfl, ps', rfl, ne, l6, gp, hn⟩
    · exact ⟨v, d, rfl, hv, .inl ⟨hw, hR⟩⟩
    · exact ⟨v, d, rfl, hv, .inr ⟨ds, e, ne, l6, .inl ⟨⟨b, bm, nb⟩, hR⟩⟩⟩
    · exact ⟨v, _, rfl, hv, .inr ⟨ps'.map pD, rfl, fun z => ne (List.map_eq_nil_iff.mp z), by rw [List.length_map]; exact l6, .inr ⟨ps', PlD.id _, gp, fun os' ho => ⟨fun _ => hR, fun z => absurd z (hn os' ho)⟩⟩⟩⟩
  have shw : SeqAt.shaped (.str wd) = true ∧ PyData.canLay0 (.str wd) = true := by
    rcases hw with ⟨rfl, _⟩ | ⟨rfl, _⟩ | ⟨rfl, _⟩ <;> exact ⟨by decide +kernel, by decide +kernel⟩
  have ea0 : atI [v, V.str wd] 0 = some v := rfl
  have ea1 : atI [v, V.str wd] 1 = some (V.str wd) := rfl
  refine ⟨_, rfl, D, _, _, _, rfl, rfl, .inl (.inl eD), ea0, ?_⟩
  dsimp only [tNil, List.cons_append, List.nil_append]
  refine tryR _ fun H2 s2 => ?_
  refine ⟨_, rfl, D, _, _, _, rfl, rfl, .inl (.inl (s2 _ _ eD)), ea1, ?_⟩
  refine ne_same shw (.str wd) (.str wd) ⟨_, rfl, itF rfl ?_⟩
  have hS2 := hS1.same s2
  clear tryR hS1 hw hv eD
  dsimp only [tTest, tOp]
  refine lc_mapG (K := K) (fun l xs F => Same H2 F ∧ SqL K F l xs ∧ xs.length = 8 ∧ ∀ x ∈ xs, ∀ F', Same F F' → NoRow P w K F' x ∨ ∃ p, x = .ref p ∧ (SqL K F' p [] ∨ SqT K F' p [])) (fun R hR => ?_) (fun l xs F hf => ?_)
  · obtain ⟨x0, xs0, ex⟩ : ∃ x0 xs0, ts = x0 :: xs0 := by cases ts with | nil => simp at h0 | cons x r => exact ⟨x, r, rfl⟩
    have hc0 := hS2.cn
    obtain ⟨c0, cs0, ec⟩ : ∃ c0 cs0, hullP os = c0 :: cs0 := by cases e : hullP os with | nil => exact absurd e hc0 | cons x r => exact ⟨x, r, rfl⟩
    have hx0 : Dp K H2 x0 (pD c0) := by
      have k := hS2.tds
      rw [ex, ec] at k
      cases k with | cons k _ => exact k
    have ht0 : SqT K H2 t_ (x0 :: xs0) := by rw [← ex]; exact hS2.tup
    obtain ⟨tx, _, _, rfl, _, _, _⟩ := dp_t2 (a := rD c0.1) (b := rD c0.2) hx0
    have ea2 : atI (V.ref tx :: xs0) 0 = some (V.ref tx) := atI_nat (j := 0) rfl
    refine ⟨(by show 0 ≤ sizeLine; decide), fun a0 na0 => ⟨(by show 0 ≤ sizeLine; decide), fun a1 na1 => fun D0 nD0 => ⟨_, rfl, fun D1 nD1 => ?_⟩⟩⟩
    have u0 := PB.same_new (o := .lst []) na0
    have u1 := PB.same_new (o := .tup []) na1
    have u2 := PB.same_new (o := KN.ND P w D0 []) nD0
    have u3 := PB.same_new (o := KN.ND P w D1 []) nD1
    have u03 := (u0.trans u1).trans (u2.trans u3)
    refine ⟨_, rfl, t_, _, _, _, rfl, rfl, same_t u03 ht0, ea2, upd_same, tx, c0, rfl, Dp_same u03 hx0, fun kvs => ⟨(by show 8 ≤ sizeLine; decide), fun l nl => ?_⟩⟩
    have u4 : Same (upd (upd (upd H2 a0 (.lst [])) a1 (.tup [])) D0 (KN.ND P w D0 [])) (upd (upd (upd (upd (upd H2 a0 (.lst [])) a1 (.tup [])) D0 (KN.ND P w D0 [])) D1 (KN.ND P w D1 [])) D1 (KN.ND P w D1 kvs)) := fun b o e => by
      rw [upd_ne (ne_of_none e nD1)]; exact u3 _ _ e
    have u5 := PB.same_new (o := .lst [V.ref a0, .ref a1, .non, .int 5, .str "ab", .ref D0, .ref a, .ref D1]) nl
    have uA := ((u0.trans u1).trans (u2.trans u4)).trans u5
    refine hR l _ _ ⟨uA, .inl (.inl upd_same), rfl, fun x hx F' sF => ?_⟩
    have uB := uA.trans sF
    have f0 := sF _ _ (u5 _ _ (u4 _ _ (u2 _ _ (u1 _ _ (upd_same (H := H2) (a := a0) (o := .lst []))))))
    have f1 := sF _ _ (u5 _ _ (u4 _ _ (u2 _ _ (upd_same (H := upd H2 a0 (.lst [])) (a := a1) (o := .tup [])))))
    have f2 := sF _ _ (u5 _ _ (u4 _ _ (upd_same (H := upd (upd H2 a0 (.lst [])) a1 (.tup [])) (a := D0) (o := KN.ND P w D0 []))))
    have f3 := sF _ _ (u5 _ _ (upd_same (H := upd (upd (upd (upd H2 a0 (.lst [])) a1 (.tup [])) D0 (KN.ND P w D0 [])) D1 (KN.ND P w D1 [])) (a := D1) (o := KN.ND P w D1 kvs)))
    have fp := hS2.pat.same uB
    simp only [List.mem_cons, List.not_mem_nil, or_false] at hx
    rcases hx with rfl | rfl | rfl | rfl | rfl | rfl | rfl | rfl
    · exact .inr ⟨a0, rfl, .inl (.inl (.inl f0))⟩
    · exact .inr ⟨a1, rfl, .inr (.inl (.inl f1))⟩
    · exact .inl (NoRow.plain (d := .none) (fun _ _ => .base .non) rfl)
    · exact .inl (NoRow.plain (d := .int 5) (fun _ _ => .base (.int _)) rfl)
    · exact .inl (NoRow.plain (d := .str "ab") (fun _ _ => .base (.str _)) rfl)
    · exact .inl (.inr ⟨D0, _, rfl, f2⟩)
    · exact .inl (.inl ⟨_, fun G sG => tyx_pat mP.fa mP.cl (fp.same sG), mP.fa.kr⟩)
    · exact .inl (.inr ⟨D1, _, rfl, f3⟩)
  obtain ⟨s3, hL, l8, hx⟩ := hf
  refine ⟨hL, by rw [l8]; decide, (fun _ => .str "many"), fun _ => rfl, (fun i x F' R' ei sF hR => ?_), fun D2 F' zs s4 n4 e4 h4 => ?_⟩
  · exact ⟨rfl, _, rfl, _, rfl, hx x (List.mem_of_getElem? ei) F' sF, fun F4 s5 => hR _ F4 s5 (.str _)⟩
  rw [l8] at h4
  refine ⟨(by show 1 ≤ sizeLine; decide), fun l2 nl2 => ⟨l2, 8, _, rfl, rfl, upd_same, by decide, by decide, by decide, fun l3 nl3 => ?_⟩⟩
  have v1 := PB.same_new (o := .lst [V.str "many"]) nl2
  have v2 := PB.same_new (o := .lst (List.replicate (8 : Int).toNat [V.str "many"]).flatten) nl3
  have v12 := v1.trans v2
  have k3 : Dp K (upd (upd F' l2 (.lst [V.str "many"])) l3 (.lst (List.replicate (8 : Int).toNat [V.str "many"]).flatten)) (.ref l3) (.list ((List.range 8).map fun _ => .str "many")) :=
    .lst (.inl (.inl upd_same)) (.cons (.str _) (.cons (.str _) (.cons (.str _) (.cons (.str _) (.cons (.str _) (.cons (.str _) (.cons (.str _) (.cons (.str _) .nil))))))))
  refine ne_same ⟨by decide +kernel, by decide +kernel⟩ (.lst (.inl (.inl (v12 _ _ e4))) (DpAll_same v12 h4)) k3 ⟨_, rfl, itF rfl ?_⟩
  exact kn p PL a dx t_ ys ts ps os _ _ _ _ _ _ _ _ _ _ _ _ _ _ _ (hS2.same ((s3.trans s4).trans v12)) q
end
end F3
set_option Elab.async false
set_option linter.all false
set_option maxRecDepth 100000
set_option maxHeartbeats 8000000
set_option exponentiation.threshold 10000
namespace F3
open PySem PySem.Spec PyProof.Rows L2 FX RM PB KD KS
section
variable {P : Program} {w : World} {K : PySem.W.Frag} {mg : Str → Option Value} {base : Heap}
theorem law1 (G_law_hand : DefOk P w K mg base CX0 "_law_hand" 1 ["_law_script"] (spHand K)) (G_law_spots : DefOk P w K mg base CX0 "_law_spots" 5 ["_law_hand_here", "_law_most"] (spSpots K)) (Xhull_of : DefOk P w K mg base (L2.CX P w) "hull_of" 9 ["places"] (spHullOf P w K)) (G_law_is_hull : DefOk P w K mg base CX0 "_law_is_hull" 5 ["_law_corners", "_law_places"] (spIsHull K)) (G_law_hull : DefOk P w K mg base CX0 "_law_hull" 3 ["_law_places"] (spHullL K)) (G_law_try : DefOk P w K mg base CX0 "_law_try" 9 ["_law_corners"] (spTry K)) (G_law_tuples : DefOk P w K mg base CX0 "_law_tuples" 4 ["_law_thing"] (spTup K 3)) (G_law_spoilt : DefOk P w K mg base CX0 "_law_spoilt" 5 ["_law_hand_here", "_law_corners"] (spSpoilt K)) (G_law_hull_try : DefOk P w K mg base CX0 "_law_hull_try" 10 ["_law_places"] (spHullTry P w K)) (Gcorner_patches : DefOk P w K mg base CX0 "corner_patches" 9 ["patch"] (spCorn K)) (G_law_bottoms : DefOk P w K mg base CX0 "_law_bottoms" 2 ["_law_places"] (spBots K)) (G_law_wholes : DefOk P w K mg base CX0 "_law_wholes" 1 ["_law_places", "_law_common"] (spWholesL K)) (Gwhole_corners : DefOk P w K mg base CX0 "whole_corners" 1 ["patches"] (spWhole2 K)) (mP : PMt P w K mg base) (cP_ : PCt P w K mg base) (mlen : mg "len" = none) (mrange : mg "range" = none) (mlist : mg "list" = none) (mtuple : mg "tuple" = none) (misinstance : mg "isinstance" = none) {f : Addr} {cdv : Value} {A : Around} {outer : List Env} {s : Shared} {H0 : Hp} {E : XK} (hr : Room 10 (A.deeper (envOfC "law" (defScope slaw) s.heap.objs.size f cdv))) : ∃ t, PSs (cxOf CX0 P w K mg base ["_law_script", "_law_hand_here", "_law_places", "_law_handed", "_law_patch", "_law_corners", "_law_spoilt_here", "_law_shorter", "_law_alone", "_law_other", "_law_common", "_law_due", "_law_place_here", "_law_corner", "_law_thing", "_law_k", "_law_one"] "law" (defScope slaw) f cdv A outer s H0 E).nox (List.drop 5 (defBody slaw)) t ∧
    ∀ (p PL a dx t_ HD : Addr) (ys ts : List V) (ps os : List Pl) (y0 y6 y7 y8 y9 y10 y11 y12 y13 y14 y15 y16 : Option V) (DE : Ends) (H : Hp), LS K H p PL ys a dx t_ ts ps os → Dp K H (.ref HD) (.list (ps.map plD)) → (∀ H', DE.rt (.bl true) H') → t DE [y0, some (.ref p), some (.ref PL), some (.ref HD), some (.ref a), some (.ref t_), y6, y7, y8, y9, y10, y11, y12, y13, y14, y15, y16] H := by
  obtain ⟨tn, dn, kn⟩ := law2 G_law_hand G_law_spots Xhull_of G_law_is_hull G_law_hull G_law_try G_law_tuples G_law_spoilt G_law_hull_try Gcorner_patches G_law_bottoms G_law_wholes Gwhole_corners mP cP_ mlen mrange mlist mtuple misinstance (outer := outer) (f := f) (cdv := cdv) (s := s) (H0 := H0) (E := E) (A := A) (K := K) (mg := mg) (base := base) (P := P) (w := w) hr
  refine ⟨_, (pss_cons (ps_if (PW.pt (pw_or (pt_not (pt_val (pe_def G_law_is_hull (hr.mono (by decide)) (by rfl) (pa_cons (pv 5) (pa_cons (pv 2) pa_nil))))) (pw_or1 (pt_cmpR (op_neD hr.units) (pv 3) (pe_lc (own := [("_law_place_here", 12)]) rfl sclaw.nd (pi_seq (pv 2)) (blkOk_by (N := ["_law_script", "_law_hand_here", "_law_places", "_law_handed", "_law_patch", "_law_corners", "_law_spoilt_here", "_law_shorter", "_law_alone", "_law_other", "_law_common", "_law_due", "_law_place_here", "_law_corner", "_law_thing", "_law_k", "_law_one"]) (sc := defScope slaw) (by decide +kernel)) (fun _ _ _ _ _ => (pg_name (i := 12) sclaw.nd rfl (.inl rfl))) (fun _ _ _ _ _ => pts_nil) (fun _ _ _ _ _ => (pe_callTy (call_list_ofK K) (by rfl) mlist (by decide +kernel) (pa_cons (pv 12) pa_nil)))) (nomark _))))) (pss_one (ps_ret pe_bl)) pss_nil) (pss_cons (ps_if (PW.pt (pw_or (pt_cmpR (op_neP mP (hr.mono (by decide))) (pe_def Xhull_of (hr.mono (by decide)) (by rfl) (pa_cons (pe_callTy call_tuple_of (by rfl) mtuple (by decide +kernel) (pa_cons (pv 2) pa_nil)) pa_nil)) (pv 4) (nomark _)) (pw_or (pt_cmpR (op_neP mP (hr.mono (by decide))) (pe_def Xhull_of (hr.mono (by decide)) (by rfl) (pa_cons (pv 5) pa_nil)) (pv 4) (nomark _)) (pw_or (pt_cmpR (op_neP mP (hr.mono (by decide))) (pe_def Xhull_of (hr.mono (by decide)) (by rfl) (pa_cons (pe_op op_cat (pv 2) (pv 2)) pa_nil)) (pv 4) (nomark _)) (pw_or1 (pt_cmpR (op_neD hr.units) (pv 5) (pe_def G_law_hull (hr.mono (by decide)) (by rfl) (pa_cons (pv 2) pa_nil)) (nomark _))))))) (pss_one (ps_ret pe_bl)) pss_nil) (pss_cons (ps_if (PW.pt (pw_or (pt_cmpR (op_neD hr.units) (pe_def G_law_try (hr.mono (by decide)) (by rfl) (pa_cons (pv 5) pa_nil)) (pv 5) (nomark _)) (pw_or (pt_cmpR (op_neD hr.units) (pe_def G_law_try (hr.mono (by decide)) (by rfl) (pa_cons (pe_lc (own := [("_law_corner", 13)]) rfl sclaw.nd (pi_seq (pv 5)) (blkOk_by (N := ["_law_script", "_law_hand_here", "_law_places", "_law_handed", "_law_patch", "_law_corners", "_law_spoilt_here", "_law_shorter", "_law_alone", "_law_other", "_law_common", "_law_due", "_law_place_here", "_law_corner", "_law_thing", "_law_k", "_law_one"]) (sc := defScope slaw) (by decide +kernel)) (fun _ _ _ _ _ => (pg_name (i := 13) sclaw.nd rfl (.inl rfl))) (fun _ _ _ _ _ => pts_nil) (fun _ _ _ _ _ => (pe_callTy (call_list_ofK K) (by rfl) mlist (by decide +kernel) (pa_cons (pv 13) pa_nil)))) pa_nil)) (pv 5) (nomark _)) (pw_or1 (pt_not (pt_val (pe_def G_law_tuples (hr.mono (by decide)) (by rfl) (pa_cons (pe_fld (pe_pat0 cP_ (hr.mono (by decide)) (by rfl) (pa_cons (pe_callTy call_list_of (by rfl) mlist (by decide +kernel) (pa_cons (pv 5) pa_nil)) pa_nil)) rfl) pa_nil)))))))) (pss_one (ps_ret pe_bl)) pss_nil) dn))), ?_⟩
  intro p PL a dx t_ HD ys ts ps os y0 y6 y7 y8 y9 y10 y11 y12 y13 y14 y15 y16 DE H hS hHD q
  have yl := hS.yl
  have p9 := hS.p9
  obtain ⟨zs, hzs⟩ := rows_of hS.dps
  refine ⟨_, rfl, _, rfl, .ref t_, PL, ys, ps, os, 420, rfl, hS.dp, ⟨.inl (.inl (.inl hS.rows)), hS.dps⟩, hS.pn, by omega, by decide, by decide, fun r hr => good4 (hS.good r hr), hS.srt, fun H1 s1 => ⟨_, rfl, itF rfl ?_⟩⟩
  have hS1 := hS.same s1
  have hHD1 := Dp_same s1 hHD
  have hzs1 := hzs.same s1
  clear hS hHD hzs s1
  refine ⟨_, rfl, ?_⟩
  dsimp only
  refine lc_lsts (K := K) (a := PL) (xs := ys) (j := 2) zs (by rfl) (.inl (.inl (.inl hS1.rows))) hzs1.l (small1000 (by omega)) (fun i x F R z ex ez sF hR => ?_) fun E1 F1 ws s2 nE eE lg => ?_
  · obtain ⟨tx, vx, vy, qq, rfl, rfl, _, hT, _, _⟩ := hzs1.at_ i x z ex ez
    exact ⟨rfl, _, rfl, tx, _, rfl, .inr (same_t sF hT), hR⟩
  have hE := (lg.pls hzs1 (by omega) eE s2).2
  have hS2 := hS1.same s2
  refine ne_same (shaped_pls ps) (Dp_same s2 hHD1) hE ⟨_, rfl, itF rfl ?_⟩
  clear hS1 hHD1 hzs1 hE lg eE nE s2
  -- 6
  refine ⟨_, rfl, PL, ys, rfl, .inl ⟨.inl (.inl hS2.rows), fun l nl => ?_⟩⟩
  have s3 := PB.same_new (o := .tup ys) nl
  have hS3 := hS2.same s3
  have hq3 := pls_dp (K := K) (q := l) (.inr (.inl (.inl upd_same))) hS3.dps
  generalize upd F1 l (.tup ys) = H3 at *
  clear hS2 s3 nl
  dsimp only [tNil, List.cons_append, List.nil_append]
  refine hS3.hullR hq3 (by omega) (fun _ h => h) hS3.sub fun H4 x4 dx4 t4 hS4 s4 e4 hp4 => ?_
  refine ⟨_, rfl, x4, dx4, _, a, dx, _, rfl, rfl, e4, hS4.ins, _, _, _, rfl, hp4, .inl ⟨_, hS4.pat, _, rfl, _, rfl, itF (by simp) ?_⟩⟩
  clear hS3 hq3 s4 e4 hp4
  have c9 := hS4.c9
  have tl := hS4.tl
  refine ⟨_, rfl, ?_⟩
  dsimp only [tNil, List.cons_append, List.nil_append]
  refine hS4.hullR (pls_dp (.inr hS4.tup) hS4.tds) (by omega) hS4.sub (fun _ h => h) fun H5 x5 dx5 t5 hS5 s5 e5 hp5 => ?_
  refine ⟨_, rfl, x5, dx5, _, a, dx, _, rfl, rfl, e5, hS5.ins, _, _, _, rfl, hp5, .inl ⟨_, hS5.pat, _, rfl, _, rfl, itF (by simp) ?_⟩⟩
  clear hS4 s5 e5 hp5
  refine ⟨_, rfl, _, rfl, PL, PL, ys, ys, rfl, rfl, hS5.rows, hS5.rows, Nat.le_trans (show ys.length + ys.length ≤ 1000 by omega) (by decide), fun l nl => ?_⟩
  have s6 := PB.same_new (o := .lst (ys ++ ys)) nl
  have hS6 := hS5.same s6
  have hq6 := pls_dp (K := K) (q := l) (cs := ps ++ ps) (.inl (.inl (.inl (upd_same (H := H5) (a := l) (o := .lst (ys ++ ys)))))) (by rw [List.map_append]; exact dp_app hS6.dps hS6.dps)
  generalize upd H5 l (.lst (ys ++ ys)) = H6 at *
  clear hS5 s6 nl
  dsimp only [tNil, List.cons_append, List.nil_append]
  refine hS6.hullR hq6 (by rw [List.length_append]; omega) (fun r h => (List.mem_append.mp h).elim id id) (fun r h => List.mem_append_left _ (hS6.sub r h)) fun H7 x7 dx7 t7 hS7 s7 e7 hp7 => ?_
  refine ⟨_, rfl, x7, dx7, _, a, dx, _, rfl, rfl, e7, hS7.ins, _, _, _, rfl, hp7, .inl ⟨_, hS7.pat, _, rfl, _, rfl, itF (by simp) ?_⟩⟩
  clear hS6 hq6 s7 e7 hp7
  refine ⟨_, rfl, _, rfl, PL, ys, ps, os, 420, rfl, ⟨.inl (.inl (.inl hS7.rows)), hS7.dps⟩, hS7.pn, by omega, by decide, by decide, fun r hr => good4 (hS7.good r hr), hS7.srt, fun H8 z8 s8 h8 => ?_⟩
  have hS8 := hS7.same s8
  refine ne_same (shaped_pt _) hS8.dp h8 ⟨_, rfl, itF rfl ?_⟩
  clear hS7 s8 h8
  -- 7
  have go : ∀ {H : Hp} {v : V} {d : PyData} {l : List PyData} {R : VK}, LS K H p PL ys a dx t_ ts ps os → Dp K H v d → rowsD d = some l → PlD l (hullP os) → (∀ H' z, LS K H' p PL ys a dx t_ ts ps os → Same H H' → Dp K H' z (.tuple ((hullP os).map pD)) → R z H') → spTry K [v] H R E0 := fun {H v d l R} h hv hr hl hR => by
    have l0 : l.length = (hullP os).length := hl.1
    exact ⟨v, d, rfl, hv, .inr ⟨l, hr, fun z => h.cn (List.length_eq_zero_iff.mp (by rw [← l0, z]; rfl)), by omega, .inr ⟨hullP os, hl, fun r hr => (good4 (h.gl r hr)).1, fun os' ho => ⟨fun n => absurd (h.again ho) n, fun _ H' z s hz => hR H' z (h.same s) s hz⟩⟩⟩⟩
  refine ⟨_, rfl, ?_⟩
  dsimp only [tNil, List.cons_append, List.nil_append]
  refine go hS8 hS8.dp rfl (PlD.id _) fun H9 z9 hS9 s9 h9 => ?_
  refine ⟨_, rfl, ne_same (shaped_pt _) h9 hS9.dp ⟨_, rfl, itF rfl ?_⟩⟩
  clear hS8 s9 h9
  obtain ⟨us, hus⟩ := rows_of hS9.tds
  (try dsimp only [tOr, tTest, tOp, tCall, tCons])
  refine lc_lsts (K := K) (a := t_) (xs := ts) (j := 5) us (by rfl) (.inr hS9.tup) hus.l (small1000 (by omega)) (fun i x F R z ex ez sF hR => ?_) fun E2 F2 ws s10 nE eE lg => ?_
  · obtain ⟨tx, vx, vy, qq, rfl, rfl, _, hT, _, _⟩ := hus.at_ i x z ex ez
    exact ⟨rfl, _, rfl, tx, _, rfl, .inr (same_t sF hT), hR⟩
  have hE := (lg.pls hus (by omega) eE s10).2
  have hS10 := hS9.same s10
  clear hS9 hus lg eE nE s10
  (try dsimp only [tNil, List.cons_append, List.nil_append])
  refine go hS10 hE rfl (PlD.idl _) fun H11 z11 hS11 s11 h11 => ?_
  refine ⟨_, rfl, ne_same (shaped_pt _) h11 hS11.dp ⟨_, rfl, itF rfl ?_⟩⟩
  clear hS10 hE s11 h11
  refine ⟨_, rfl, t_, ts, rfl, .inr hS11.tup, fun l nl => ?_⟩
  have s12 := PB.same_new (o := .lst ts) nl
  have hS12 := hS11.same s12
  have hl : Dp K (upd H11 l (.lst ts)) (.ref l) (.list ((hullP os).map pD)) := .lst (.inl (.inl upd_same)) hS12.tds
  generalize upd H11 l (.lst ts) = H12 at *
  clear hS11 s12 nl
  dsimp only [tNil]
  refine mk_patA hl (hS12.patW rfl (PlD.id _) fun H13 x13 dx13 t13 s13 e13 h13 => ?_)
  have hS13 := hS12.same s13
  refine ⟨x13, cP K, dx13, _, t13, rfl, e13, mP.cl, mP.no, rfl, t13, _, rfl, h13, tup_ps _, fun H14 s14 => ⟨_, rfl, itF rfl ?_⟩⟩
  exact kn p PL a dx t_ ys ts ps os _ _ _ _ _ _ _ _ _ _ _ _ _ _ _ (hS13.same s14) q
end
end F3
set_option Elab.async false
set_option linter.all false
set_option maxRecDepth 100000
set_option maxHeartbeats 8000000
set_option exponentiation.threshold 10000
namespace F3
open PySem PySem.Spec PyProof.Rows L2 FX RM PB KD KS
section
variable {P : Program} {w : World} {K : PySem.W.Frag} {mg : Str → Option Value} {base : Heap}
theorem ok_law {f : Addr} {fd : FuncData} (F : Fun K "law" "law" slaw f fd) (G_law_hand : DefOk P w K mg base CX0 "_law_hand" 1 ["_law_script"] (spHand K)) (G_law_spots : DefOk P w K mg base CX0 "_law_spots" 5 ["_law_hand_here", "_law_most"] (spSpots K)) (Xhull_of : DefOk P w K mg base (L2.CX P w) "hull_of" 9 ["places"] (spHullOf P w K)) (G_law_is_hull : DefOk P w K mg base CX0 "_law_is_hull" 5 ["_law_corners", "_law_places"] (spIsHull K)) (G_law_hull : DefOk P w K mg base CX0 "_law_hull" 3 ["_law_places"] (spHullL K)) (G_law_try : DefOk P w K mg base CX0 "_law_try" 9 ["_law_corners"] (spTry K)) (G_law_tuples : DefOk P w K mg base CX0 "_law_tuples" 4 ["_law_thing"] (spTup K 3)) (G_law_spoilt : DefOk P w K mg base CX0 "_law_spoilt" 5 ["_law_hand_here", "_law_corners"] (spSpoilt K)) (G_law_hull_try : DefOk P w K mg base CX0 "_law_hull_try" 10 ["_law_places"] (spHullTry P w K)) (Gcorner_patches : DefOk P w K mg base CX0 "corner_patches" 9 ["patch"] (spCorn K)) (G_law_bottoms : DefOk P w K mg base CX0 "_law_bottoms" 2 ["_law_places"] (spBots K)) (G_law_wholes : DefOk P w K mg base CX0 "_law_wholes" 1 ["_law_places", "_law_common"] (spWholesL K)) (Gwhole_corners : DefOk P w K mg base CX0 "whole_corners" 1 ["patches"] (spWhole2 K)) (mP : PMt P w K mg base) (cP_ : PCt P w K mg base) (mlen : mg "len" = none) (mrange : mg "range" = none) (mlist : mg "list" = none) (mtuple : mg "tuple" = none) (misinstance : mg "isinstance" = none) : FnOk P w K mg base CX0 11 f fd ["_law_script"] (spLaw K) := by
  refine F.ok sclaw (fun vs H Q E h => ?_) (fun cdv A outer s H vs Q E hr h => ?_)
  · obtain ⟨a, ns, rfl, _⟩ := h; rfl
  · obtain ⟨sa, ns, rfl, hS, hlen, q⟩ := h
    obtain ⟨tn, dn, kn⟩ := law1 G_law_hand G_law_spots Xhull_of G_law_is_hull G_law_hull G_law_try G_law_tuples G_law_spoilt G_law_hull_try Gcorner_patches G_law_bottoms G_law_wholes Gwhole_corners mP cP_ mlen mrange mlist mtuple misinstance (outer := outer) (f := f) (cdv := cdv) (s := s) (H0 := H) (E := E) (A := A) (K := K) (mg := mg) (base := base) (P := P) (w := w) hr
    refine ⟨_, (pss_cons (ps_set (i := 1) sclaw.nd rfl (.inl rfl) (pe_def G_law_hand (hr.mono (by decide)) (by rfl) (pa_cons (pv 0) pa_nil))) (pss_cons (ps_set (i := 2) sclaw.nd rfl (.inl rfl) (pe_def G_law_spots (hr.mono (by decide)) (by rfl) (pa_cons (pv 1) (pa_cons pe_int pa_nil)))) (pss_cons (ps_setLc (i := 3) (own := [("_law_place_here", 12)]) rfl sclaw.nd rfl rfl (sw_true rfl rfl rfl (by decide +kernel)) (pi_seq (pv 2)) (blkOk_by (N := ["_law_script", "_law_hand_here", "_law_places", "_law_handed", "_law_patch", "_law_corners", "_law_spoilt_here", "_law_shorter", "_law_alone", "_law_other", "_law_common", "_law_due", "_law_place_here", "_law_corner", "_law_thing", "_law_k", "_law_one"]) (sc := defScope slaw) (by decide +kernel)) (fun _ _ _ _ _ => (pg_name (i := 12) sclaw.nd rfl (.inl rfl))) (fun _ _ _ _ _ => pts_nil) (fun _ _ _ _ _ => (pe_callTy (call_list_ofK K) (by rfl) mlist (by decide +kernel) (pa_cons (pv 12) pa_nil)))) (pss_cons (ps_set (i := 4) sclaw.nd rfl (.inl rfl) (pe_def Xhull_of (hr.mono (by decide)) (by rfl) (pa_cons (pv 3) pa_nil))) (pss_cons (ps_set (i := 5) sclaw.nd rfl (.inr rfl) (pe_fld (pv 4) rfl)) dn))))), ?_⟩
    refine ⟨.ref sa, rfl, sa, ns, rfl, hS, hlen, fun H1 p s1 np h1 => ?_⟩
    refine ⟨.ref p, rfl, p, 9, rfl, by decide, by decide, h1, fun H2 PL ys ps pn pl pg nP eP hP h2 s2 => ?_⟩
    have neP : PL ≠ p := h1.neD nP
    have yl : ys.length = ps.length := by rw [DpAll_len hP, List.length_map]
    obtain ⟨zs, hzs⟩ := rows_of hP
    dsimp only [tSeq, tAsg, gName]
    refine lc_lsts (K := K) (a := PL) (xs := ys) (j := 2) zs (by rfl) (.inl (.inl (.inl eP))) hzs.l (small1000 (by omega)) (fun i x F R z ex ez sF hR => ?_) fun HD H3 ws s3 nD eD lg => ?_
    · obtain ⟨tx, vx, vy, qq, rfl, rfl, _, hT, _, _⟩ := hzs.at_ i x z ex ez
      exact ⟨rfl, _, rfl, tx, _, rfl, .inr (same_t sF hT), hR⟩
    obtain ⟨hq, hE⟩ := lg.pls hzs (by omega) eD s3
    refine ⟨_, rfl, _, rfl, .inr (.inr ⟨HD, ws, ps, rfl, hq, pn, by omega, fun r hr => (good4 (pg r hr)).1, fun H4 z os s4 ho hz => ?_⟩)⟩
    obtain ⟨a, dx, tv, rfl, ea, ht⟩ := hz
    cases ht with
    | @tup t ts _ hT hD =>
    have s34 := s3.trans s4
    have hS : LS K H4 p PL ys a dx t ts ps os := ⟨h2.same s34, s34 _ _ eP, neP, DpAll_same s34 hP, ea, hT, hD, ho, pn, pl, pg⟩
    refine ⟨.ref a, rfl, a, cP K, dx, _, .ref t, rfl, ea, mP.cl, mP.no, rfl, ?_⟩
    exact kn p PL a dx t HD ys ts ps os _ _ _ _ _ _ _ _ _ _ _ _ _ _ hS (Dp_same s4 hE) q
end
end F3
set_option Elab.async false
set_option linter.all false
set_option maxRecDepth 100000
set_option maxHeartbeats 4000000
/-! properties of an own class, constant tuples of tuples: as the head finds them -/
namespace PR
open PySem PySem.Spec PyProof.Rows L2 FX RM PB
variable {K : PySem.W.Frag} {C : Addr} {x : Str}
/-- where the property stands -/
def prP (K : PySem.W.Frag) (C : Addr) (x : Str) : Addr := match PySem.W.findIn K (.ref C) x with
  | some (some (.ref p)) => p
  | _ => 0
/-- where its getter stands -/
def prG (K : PySem.W.Frag) (C : Addr) (x : Str) : Addr := match PySem.W.recIn K (prP K C x) "property" with
  | some (.ref b :: _) => b
  | _ => 0
def firstB (l : Option (List Value)) (b : Addr) : Bool := match l with
  | some (.ref c :: _) => decide (c = b)
  | _ => false
theorem firstB_ok {l : Option (List Value)} {b : Addr} (h : firstB l b = true) : ∃ r, l = some (.ref b :: r) := by
  unfold firstB at h
  split at h
  · rename_i c r
    rw [of_decide_eq_true h]; exact ⟨r, rfl⟩
  · cases h
def prB (K : PySem.W.Frag) (C : Addr) (x : Str) : Bool := He.eqO (PySem.W.findIn K (.ref C) x) (some (some (.ref (prP K C x)))) &&
  (He.eqO (PySem.W.specialIn K (.ref (prP K C x)) "__get__") (some (some (.builtin "property.__get__"))) && (decide (PySem.W.takesIn K (.ref (prP K C x)) = some true) && firstB (PySem.W.recIn K (prP K C x) "property") (prG K C x)))
theorem prB_ok (h : prB K C x = true) : PropOf K C x (prP K C x) (prG K C x) := by
  obtain ⟨a, h⟩ := He.ba h
  obtain ⟨b, h⟩ := He.ba h
  obtain ⟨c, d⟩ := He.ba h
  exact ⟨He.eqO_ok a, He.eqO_ok b, of_decide_eq_true c, firstB_ok d⟩
/-- what a function object at an address holds -/
def fnAt (K : PySem.W.Frag) (b : Addr) : He.FnW := match K.lookup b with
  | some ⟨_, _, .func d, _⟩ => some (d.name, d.qualname, d.params, d.body, d.scope, d.globals, d.closure, d.builtins)
  | _ => none
def fnAtB (K : PySem.W.Frag) (b : Addr) (t : Str) : Bool := match K.lookup b with
  | some ⟨_, _, .func d, _⟩ => PySem.W.codeIn K d.code t && (He.dflB K d.defaults [] && He.kwdB K d.kwdefaults [])
  | _ => false
theorem fnAt_ok {b : Addr} {nm t : Str} {ps : Arguments} {bd : List Stmt} {sc : Scope} (e : fnAt K b = some (nm, t, ps, .stmts bd, sc, mainGlobals, [], builtinsNs)) (c : fnAtB K b t = true) : ∃ fd, FunD K nm t ps bd sc [] [] b fd := by
  unfold fnAt at e
  unfold fnAtB at c
  rcases hq : K.lookup b with _ | ⟨oc, od, dt, sl⟩
  · rw [hq] at e; cases e
  · rw [hq] at e c
    cases dt with
    | func d =>
      rcases d with ⟨z1, z2, z3, z4, z5, z6, z7, z8, z9, z10, z11, z12, z13, z14, z15⟩
      dsimp only at e c
      simp only [Option.some.injEq, Prod.mk.injEq] at e
      rcases e with ⟨rfl, rfl, rfl, rfl, rfl, rfl, rfl, rfl⟩
      obtain ⟨c1, c2⟩ := He.ba c
      obtain ⟨c2, c3⟩ := He.ba c2
      have kp : PySem.W.keepIn K (.ref b) = true := by unfold PySem.W.keepIn; dsimp only; rw [hq]
      exact ⟨_, ⟨oc, od, z8, z9, z10, z11, z12, z13, z14, sl, rfl, hq, c1, He.dflB_ok c2, He.kwdB_ok c3⟩, kp⟩
    | _ => cases c
/-- the i-th entry of the module's tuple x -/
def itP (x : Str) (i : Nat) (K : PySem.W.Frag) : Addr := match K.lookup (He.ga K x) with
  | some ⟨_, _, .seq ws _, _⟩ => (match ws.toList[i]? with
    | some (.ref b) => b
    | _ => 0)
  | _ => 0
def tupAt (K : PySem.W.Frag) (b : Addr) (vs : List V) : Bool := match K.lookup b with
  | some ⟨.type c, _, .seq ws _, _⟩ => decide (c = "tuple") && (decide (ws.size ≤ sizeLine) && He.relAll vs ws.toList)
  | _ => false
theorem tupAt_ok {b : Addr} {vs : List V} (h : tupAt K b vs = true) (H : Hp) : SqT K H b vs := by
  unfold tupAt at h
  split at h
  · rename_i c od ws n sl hq
    obtain ⟨h1, h⟩ := He.ba h
    obtain ⟨h2, h3⟩ := He.ba h
    exact .inr ⟨_, ws, n, hq, congrArg Value.type (of_decide_eq_true h1), rfl, of_decide_eq_true h2, He.relAll_ok h3⟩
  · cases h
def cousB (K : PySem.W.Frag) (x : Str) : Nat → List Rt → Bool
  | _, [] => true
  | i, r :: rs => tupAt K (itP x i K) [.int r.1, .int r.2] && cousB K x (i + 1) rs
theorem cousB_ok {H : Hp} : ∀ {rs : List Rt} {i : Nat}, cousB K x i rs = true → DpAll K H ((List.range' i rs.length).map fun j => V.ref (itP x j K)) (rs.map rD)
  | [], _, _ => .nil
  | r :: rs, i, h => by
    obtain ⟨a, b⟩ := He.ba h
    exact .cons (.tup (tupAt_ok a H) (.cons (.int _) (.cons (.int _) .nil))) (cousB_ok b)
/-- the module's x is a tuple of these couples of numbers -/
def rowsB (K : PySem.W.Frag) (x : Str) (rs : List Rt) : Bool := tupAt K (He.ga K x) ((List.range' 0 rs.length).map fun j => V.ref (itP x j K)) && cousB K x 0 rs
theorem rowsB_ok {rs : List Rt} (h : rowsB K x rs = true) (H : Hp) : Dp K H (.ref (He.ga K x)) (.tuple (rs.map rD)) := by
  obtain ⟨a, b⟩ := He.ba h
  exact .tup (tupAt_ok a H) (cousB_ok b)
end PR
set_option Elab.async false
set_option linter.all false
set_option maxRecDepth 100000
set_option maxHeartbeats 4000000
/-! the head's look at the heap: what is reached in n steps, each place once, by marks in one number -/
namespace HB
open PySem PySem.Spec PyProof.Rows L2
def seen (s a : Nat) : Bool := Nat.beq (Nat.land (Nat.shiftRight s a) 1) 1
/-- the places that are not marked yet, the last first -/
def news (s : Nat) (acc : List Addr) : List Addr → Nat × List Addr
  | [] => (s, acc)
  | a :: r => match seen s a with
    | true => news s acc r
    | false => news (Nat.lor s (Nat.shiftLeft 1 a)) (a :: acc) r
def kids (g : Addr → Option Obj) (a : Addr) : List Addr := match g a with
  | some o => He.refsD o
  | none => []
def walk (g : Addr → Option Obj) : Nat → Nat → List Addr → List Addr → List Addr
  | 0, _, _, acc => acc.reverse
  | n + 1, s, fr, acc => match news s [] (fr.flatMap (kids g)) with
    | (s2, nw) => walk g n s2 nw.reverse (nw ++ acc)
def reach (g : Addr → Option Obj) (n : Nat) : List Addr := walk g n (Nat.shiftLeft 1 mainGlobals) [mainGlobals] [mainGlobals]
def frag (g : Addr → Option Obj) (n : Nat) : PySem.W.Frag := He.frG g (reach g n)
/-- two looks at one run -/
theorem map_more {α β γ δ : Type} {o : Option α} {f : α → β} {g : α → γ} {k : α → δ} {b : β} {c : γ} {d : δ} (h1 : o.map (fun x => (f x, g x)) = some (b, c)) (h2 : o.map k = some d) : o.map (fun x => (f x, g x, k x)) = some (b, c, d) := by
  cases o with
  | none => cases h1
  | some x =>
    have e1 : (f x, g x) = (b, c) := Option.some.inj h1
    have e2 : k x = d := Option.some.inj h2
    show some (f x, g x, k x) = some (b, c, d)
    rw [← e2, ← (Prod.mk.inj e1).1, ← (Prod.mk.inj e1).2]
/-- the run's equation at a world, without the hook's look -/
def RunA (r : PySem.W.OpenRow) (q : Program) (M : Nat) (loose : List Str) (w : World) : Prop :=
  (HandSHeadRun.wholeF (fun p => HandSHeadRun.stepQ (HandSHeadRun.denQ HandSHeadRun.tabQ) p w) HandSHeadRun.fenceQ M r.prog).map (fun x => (HandSHeadRun.looksF r.prog x.1.heap x.2.abs, HandSHeadRun.seenQ q loose (importedModules r.prog.main.body) (fun s => PySem.W.xlAt q [] s && PySem.W.recOk r.toRowW.records s) x.2.abs)) = some (true, PySem.W.openGood q loose)
/-- the hook's look alone -/
def RunB (r : PySem.W.OpenRow) (H : PySem.W.Hook) (ob : PySem.W.SharedT → H.α) (M : Nat) (w : World) : Prop :=
  (HandSHeadRun.wholeF (fun p => HandSHeadRun.stepQ (HandSHeadRun.denQ HandSHeadRun.tabQ) p w) HandSHeadRun.fenceQ M r.prog).map (fun x => ob x.2) = some (H.val w)
theorem run_of {r : PySem.W.OpenRow} {q : Program} {H : PySem.W.Hook} {ob : PySem.W.SharedT → H.α} {M : Nat} {loose : List Str} {w : World} (a : RunA r q M loose w) (b : RunB r H ob M w) : HandSHeadRun.RunEqI r q H ob M loose w := map_more a b
end HB
set_option Elab.async false
set_option linter.all false
set_option maxRecDepth 100000
set_option maxHeartbeats 0
namespace F3
open PySem PySem.Spec PyProof.Rows L2 FX RM PB KD KS
def dD (x : Str) (i : Nat) : He.DefD := ⟨(x, none), x, x, defArgs (topS i), defBody (topS i), defScope (topS i), [], []⟩
def dW (x : Str) (i : Nat) : He.DefD := ⟨(x, none), x, x, defArgs (topS i), defBody (topS i), defScope (topS i), [.non, .non], []⟩
def dM (x m t : Str) (i k : Nat) : He.DefD := ⟨(x, some m), m, t, defArgs (inClass (topS i) k), defBody (inClass (topS i) k), defScope (inClass (topS i) k), [], []⟩
def fn : List He.DefD := [dD "_wall" 1, dD "is_row" 6, dW "is_whole" 7, dD "is_ratio" 8, dD "sign_of" 9, dD "compare" 10, dD "is_place" 12, dD "scaled_floor" 13, dD "whole_row" 14, dD "raw_cross" 15, dD "turn_at" 16, dD "compare_places" 17, dD "rough_place" 18, dD "are_told_apart" 19, dD "order_places" 20, dD "rough_turn" 22, dD "turns_left" 23, dD "left_chain" 24, dD "hull_corners" 25, dD "couples_round" 26, dD "sides_of" 27, dD "is_between" 28, dD "corners_hold" 29, dD "hull_of" 32, dD "corner_patches" 33, dD "whole_corners" 34, dD "_law_hand" 36, dD "_law_mixed" 37, dD "_law_take" 38, dD "_law_gcd" 39, dD "_law_ratio" 40, dD "_law_plus" 41, dD "_law_times" 42, dD "_law_bottoms" 43, dD "_law_wholes" 44, dD "_law_half" 45, dD "_law_hull" 46, dD "_law_of" 47, dD "_law_number" 48, dD "_law_small" 49, dD "_law_place" 50, dD "_law_spots" 51, dD "_law_tuples" 52, dD "_law_try" 53, dD "_law_hull_try" 54, dD "_law_key" 55, dD "_law_is_hull" 56, dD "_law_spoilt" 57, dD "law" 58, dM "BadPatch" "__init__" "BadPatch.__init__" 4 0, dM "Patch" "__init__" "Patch.__init__" 31 0, dM "Patch" "__len__" "Patch.__len__" 31 1, dM "Patch" "__iter__" "Patch.__iter__" 31 2, dM "Patch" "__eq__" "Patch.__eq__" 31 3]
def fa : List He.Fa := [.glo "_wall", .glo "is_row", .glo "is_whole", .glo "is_ratio", .glo "sign_of", .glo "compare", .glo "is_place", .glo "scaled_floor", .glo "whole_row", .glo "raw_cross", .glo "turn_at", .glo "compare_places", .glo "rough_place", .glo "are_told_apart", .glo "order_places", .glo "rough_turn", .glo "turns_left", .glo "left_chain", .glo "hull_corners", .glo "couples_round", .glo "sides_of", .glo "is_between", .glo "corners_hold", .glo "hull_of", .glo "corner_patches", .glo "whole_corners", .glo "_law_hand", .glo "_law_mixed", .glo "_law_take", .glo "_law_gcd", .glo "_law_ratio", .glo "_law_plus", .glo "_law_times", .glo "_law_bottoms", .glo "_law_wholes", .glo "_law_half", .glo "_law_hull", .glo "_law_of", .glo "_law_number", .glo "_law_small", .glo "_law_place", .glo "_law_spots", .glo "_law_tuples", .glo "_law_try", .glo "_law_hull_try", .glo "_law_key", .glo "_law_is_hull", .glo "_law_spoilt", .glo "law", .free "len", .free "int", .free "abs", .free "isinstance", .free "tuple", .free "list", .free "bool", .free "range", .free "max", .free "sorted", .free "iter", .free "zip", .free "all"]
def ck (K : PySem.W.Frag) : Bool := clsB K "BadPatch" ["what"] && ((He.Fa.exm "BadPatch" "BadPatch" true).ok K && (He.eqO (PySem.W.nsIn K mainGlobals "gcd") (some (some (.builtin "math.gcd"))) && (He.eqO (PySem.W.nsIn K mainGlobals "lcm") (some (some (.builtin "math.lcm"))) &&
  ((He.Fa.glo "Patch").ok K && ((He.Fa.cls "Patch").ok K && ((He.Fa.noat "Patch" "corners").ok K && ((He.Fa.mkr "Patch").ok K && patB K)))))))
def says (K : PySem.W.Frag) : Prop := ck K = true ∧ He.SaysD fa fn K
def obsM (n : Nat) (g : Addr → Option Obj) : Bool × He.AlD := (ck (HB.frag g n), He.obsD fa fn (HB.frag g n))
def hookM (n : Nat) : PySem.W.Hook where
  α := Bool × He.AlD
  obs := fun s => obsM n s.heap.get?
  val := fun _ => (true, He.valD fn)
  says := fun _ h => ∃ K : PySem.W.Frag, K.In h ∧ says K
  of := fun _ _ e => ⟨_, He.frG_in, congrArg (fun z : Bool × He.AlD => z.1) e, congrArg (fun z : Bool × He.AlD => z.2) e⟩
  keeps := fun _ _ _ ⟨K, hK, c⟩ k => ⟨K, PySem.W.Frag.In.keeps hK k, c⟩
theorem obsM_eq {n : Nat} {g : Addr → Option Obj} {s : Shared} (h : ∀ a, g a = s.heap.get? a) : obsM n g = (hookM n).obs s := by
  have e : g = s.heap.get? := funext h
  rw [e] <;> rfl
abbrev R : PySem.W.OpenRow := PySem.W.OpenLaw.row PySem.Challenge.rw_feltstone_k04_whole_patches_made_and_ref
def ob (s : PySem.W.SharedT) : Bool × He.AlD := obsM 6 (HandSHeadRun.getT s)
theorem ob_eq (s : PySem.W.SharedT) : ob s = (hookM 6).obs s.abs := obsM_eq (HandSHeadRun.getT_eq s)
def n0 : List Str := ["_wall", "FeltError", "BadPatch", "is_row", "is_whole", "is_ratio", "sign_of", "compare", "is_place", "scaled_floor", "whole_row", "raw_cross", "turn_at", "compare_places", "rough_place", "are_told_apart", "order_places", "rough_turn", "turns_left", "left_chain", "hull_corners", "couples_round", "sides_of", "is_between", "corners_hold", "Patch", "hull_of", "corner_patches", "whole_corners", "_law_hand"]
def n1 : List Str := ["_law_mixed", "_law_take", "_law_gcd", "_law_ratio", "_law_plus", "_law_times", "_law_bottoms", "_law_wholes", "_law_half", "_law_hull", "_law_of", "_law_number", "_law_small", "_law_place", "_law_spots", "_law_tuples", "_law_try", "_law_hull_try", "_law_key", "_law_is_hull", "_law_spoilt"]
def names : List Str := n0 ++ n1
theorem runA (w : World) : HB.RunA R (PySem.W.view R.prog [0, 58]) 60000 names w := by
  unfold HB.RunA
  kernel_rfl
theorem runB (w : World) : HB.RunB R (hookM 6) ob 60000 w := by
  unfold HB.RunB
  kernel_rfl
theorem run (w : World) : HandSHeadRun.RunEqI R (PySem.W.view R.prog [0, 58]) (hookM 6) ob 60000 names w := HB.run_of (runA w) (runB w)
end F3
set_option Elab.async false
set_option linter.all false
set_option maxRecDepth 100000
set_option maxHeartbeats 0
namespace F3
open PySem PySem.Spec PyProof.Rows L2 FX RM PB KD KS
theorem def_at {K : PySem.W.Frag} (c : He.SaysD fa fn K) {x : Str} {st : Stmt} (i : Nat) {d : He.DefD} (h : fn[i]? = some d) (e : d = ⟨(x, none), x, x, defArgs st, defBody st, defScope st, [], []⟩) : ∃ fd, FunD K x x (defArgs st) (defBody st) (defScope st) [] [] (He.ga K x) fd := by
  obtain ⟨fd, F⟩ := c.def_ i h
  subst e
  exact ⟨fd, F⟩
theorem def_atW {K : PySem.W.Frag} (c : He.SaysD fa fn K) {x : Str} {st : Stmt} (i : Nat) {d : He.DefD} (h : fn[i]? = some d) (e : d = ⟨(x, none), x, x, defArgs st, defBody st, defScope st, [.non, .non], []⟩) : ∃ fd, FunD K x x (defArgs st) (defBody st) (defScope st) [.non, .non] [] (He.ga K x) fd := by
  obtain ⟨fd, F⟩ := c.def_ i h
  subst e
  exact ⟨fd, F⟩
theorem met_at {K : PySem.W.Frag} (c : He.SaysD fa fn K) {x m q : Str} {st : Stmt} (i : Nat) {d : He.DefD} (h : fn[i]? = some d) (e : d = ⟨(x, some m), m, q, defArgs st, defBody st, defScope st, [], []⟩) :
    ∃ fd, FunD K m q (defArgs st) (defBody st) (defScope st) [] [] (He.ma K (He.ga K x) m) fd := by
  obtain ⟨fd, F⟩ := c.def_ i h
  subst e
  exact ⟨fd, F⟩
theorem init1 {K : PySem.W.Frag} {C : Addr} {g : Str} {H : Hp} {Q : VK} {E : XK} {vs : List V} (T : OexC K C) (n0 : PySem.W.findIn K (.ref C) g = some none) (h : spInit C [g] vs H Q E) :
    tOst K g (tVar 0) (tVar 1) { nx := fun _ H' => Q .non H', rt := Q } (start ["self", g] vs) H := by
  obtain ⟨a, ws, rfl, l, ha, q⟩ := h
  obtain ⟨v, rfl⟩ := len_one l
  refine ⟨v, rfl, .ref a, rfl, a, C, rfl, T, n0, .inl ⟨ha, fun dx nx ne => q _ dx (fun b o nb e => ?_) upd_same ?_ nx⟩⟩
  · rw [upd_ne nb, upd_ne (ne_of_none e nx)]; exact e
  · rw [upd_ne ne, upd_same]; rfl
section
variable {P : Program} {w : World} {K : PySem.W.Frag} {mg : Str → Option Value} {base h : Heap}
theorem in_BadPatch {f : Addr} {fd : FuncData} {C : Addr} (F : Fun K "__init__" "BadPatch.__init__" (inClass (topS 4) 0) f fd) (T : OexC K C) (no : ∀ f ∈ (["what"] : List Str), PySem.W.findIn K (.ref C) f = some none) : FnOk P w K mg base CX0 1 f fd ["self", "what"] (spInit C ["what"]) := by
  refine F.ok (N := ["self", "what"]) ⟨rfl, rfl, rfl, by decide +kernel, rfl, by decide +kernel, by decide +kernel⟩ (fun vs H Q E h => ?_) (fun cdv A outer s H vs Q E hr h => ?_)
  · obtain ⟨a, ws, rfl, l, _⟩ := h; exact congrArg (· + 1) l
  · exact ⟨_, pss_one (ps_ost (pv 0) (pv 1)), init1 T (no _ (List.mem_cons_self ..)) h⟩
theorem facts (X : K.In h) (G : h.Ns mainGlobals mg) {f : Addr} (hfa : mg ("law" : Str) = some (.ref f)) (c : says K) :
    ∃ fd : FuncData, (∀ (s : Shared) (v : Value), BindsTo s fd ⟨[v], []⟩ [("_law_script", v)]) ∧ ∀ base : Heap, K.In base → base.Ns mainGlobals mg → FnOk P w K mg base CX0 11 f fd ["_law_script"] (spLaw K) := by
  obtain ⟨c1, c2⟩ := c
  obtain ⟨k1, c1⟩ := He.ba c1
  obtain ⟨k2, c1⟩ := He.ba c1
  obtain ⟨k3, c1⟩ := He.ba c1
  obtain ⟨k4, c1⟩ := He.ba c1
  obtain ⟨k5, c1⟩ := He.ba c1
  obtain ⟨k6, c1⟩ := He.ba c1
  obtain ⟨k7, c1⟩ := He.ba c1
  obtain ⟨k8, k9⟩ := He.ba c1
  have cB := clsB_ok k1
  have eX := He.exm_ok k2
  have gBP := He.glo_ok X G cB.glo
  have mgcd : mg "gcd" = some (.builtin "math.gcd") := PySem.W.mg_of X G (He.eqO_ok k3)
  have mlcm : mg "lcm" = some (.builtin "math.lcm") := PySem.W.mg_of X G (He.eqO_ok k4)
  have gP : mg "Patch" = some (.ref (cP K)) := He.glo_ok X G k5
  have tC : Cls K (cP K) := He.cls_ok k6
  have nC : NoAttr K (cP K) "corners" := He.noat_ok k7
  have mkP : Mk K (cP K) (He.ma K (cP K) "__init__") := He.mkr_ok k8
  have fa_ := patB_ok k9
  have tX : XfC K (He.ga K "BadPatch") := ⟨cB.is.hg, cB.is.hk, cB.is.hs, cB.is.hd⟩
  have nX := cB.no "what" (List.mem_cons_self ..)
  have mlen := He.free_ok X G (c2.fact 49 (f := .free "len") rfl)
  have mint := He.free_ok X G (c2.fact 50 (f := .free "int") rfl)
  have mabs := He.free_ok X G (c2.fact 51 (f := .free "abs") rfl)
  have misinstance := He.free_ok X G (c2.fact 52 (f := .free "isinstance") rfl)
  have mtuple := He.free_ok X G (c2.fact 53 (f := .free "tuple") rfl)
  have mlist := He.free_ok X G (c2.fact 54 (f := .free "list") rfl)
  have mbool := He.free_ok X G (c2.fact 55 (f := .free "bool") rfl)
  have mrange := He.free_ok X G (c2.fact 56 (f := .free "range") rfl)
  have mmax := He.free_ok X G (c2.fact 57 (f := .free "max") rfl)
  have msorted := He.free_ok X G (c2.fact 58 (f := .free "sorted") rfl)
  have miter := He.free_ok X G (c2.fact 59 (f := .free "iter") rfl)
  have mzip := He.free_ok X G (c2.fact 60 (f := .free "zip") rfl)
  have mall := He.free_ok X G (c2.fact 61 (f := .free "all") rfl)
  obtain ⟨fdis_row, Fis_row⟩ := def_at c2 (x := "is_row") (st := topS 6) 1 rfl rfl
  have gis_row := He.glo_ok X G (c2.fact 1 (f := .glo "is_row") rfl)
  have tis_row : Txt K mg "is_row" (topS 6) := ⟨_, _, fun_of Fis_row, gis_row⟩
  obtain ⟨fdis_whole, Fis_whole⟩ := def_atW c2 (x := "is_whole") (st := topS 7) 2 rfl rfl
  have gis_whole := He.glo_ok X G (c2.fact 2 (f := .glo "is_whole") rfl)
  obtain ⟨fdis_ratio, Fis_ratio⟩ := def_at c2 (x := "is_ratio") (st := topS 8) 3 rfl rfl
  have gis_ratio := He.glo_ok X G (c2.fact 3 (f := .glo "is_ratio") rfl)
  have tis_ratio : Txt K mg "is_ratio" (topS 8) := ⟨_, _, fun_of Fis_ratio, gis_ratio⟩
  obtain ⟨fdsign_of, Fsign_of⟩ := def_at c2 (x := "sign_of") (st := topS 9) 4 rfl rfl
  have gsign_of := He.glo_ok X G (c2.fact 4 (f := .glo "sign_of") rfl)
  have tsign_of : Txt K mg "sign_of" (topS 9) := ⟨_, _, fun_of Fsign_of, gsign_of⟩
  obtain ⟨fdis_place, Fis_place⟩ := def_at c2 (x := "is_place") (st := topS 12) 6 rfl rfl
  have gis_place := He.glo_ok X G (c2.fact 6 (f := .glo "is_place") rfl)
  have tis_place : Txt K mg "is_place" (topS 12) := ⟨_, _, fun_of Fis_place, gis_place⟩
  obtain ⟨fdscaled_floor, Fscaled_floor⟩ := def_at c2 (x := "scaled_floor") (st := topS 13) 7 rfl rfl
  have gscaled_floor := He.glo_ok X G (c2.fact 7 (f := .glo "scaled_floor") rfl)
  have tscaled_floor : Txt K mg "scaled_floor" (topS 13) := ⟨_, _, fun_of Fscaled_floor, gscaled_floor⟩
  obtain ⟨fdwhole_row, Fwhole_row⟩ := def_at c2 (x := "whole_row") (st := topS 14) 8 rfl rfl
  have gwhole_row := He.glo_ok X G (c2.fact 8 (f := .glo "whole_row") rfl)
  have twhole_row : Txt K mg "whole_row" (topS 14) := ⟨_, _, fun_of Fwhole_row, gwhole_row⟩
  obtain ⟨fdraw_cross, Fraw_cross⟩ := def_at c2 (x := "raw_cross") (st := topS 15) 9 rfl rfl
  have graw_cross := He.glo_ok X G (c2.fact 9 (f := .glo "raw_cross") rfl)
  have traw_cross : Txt K mg "raw_cross" (topS 15) := ⟨_, _, fun_of Fraw_cross, graw_cross⟩
  obtain ⟨fdturn_at, Fturn_at⟩ := def_at c2 (x := "turn_at") (st := topS 16) 10 rfl rfl
  have gturn_at := He.glo_ok X G (c2.fact 10 (f := .glo "turn_at") rfl)
  have tturn_at : Txt K mg "turn_at" (topS 16) := ⟨_, _, fun_of Fturn_at, gturn_at⟩
  obtain ⟨fdrough_place, Frough_place⟩ := def_at c2 (x := "rough_place") (st := topS 18) 12 rfl rfl
  have grough_place := He.glo_ok X G (c2.fact 12 (f := .glo "rough_place") rfl)
  have trough_place : Txt K mg "rough_place" (topS 18) := ⟨_, _, fun_of Frough_place, grough_place⟩
  obtain ⟨fdare_told_apart, Fare_told_apart⟩ := def_at c2 (x := "are_told_apart") (st := topS 19) 13 rfl rfl
  have gare_told_apart := He.glo_ok X G (c2.fact 13 (f := .glo "are_told_apart") rfl)
  have tare_told_apart : Txt K mg "are_told_apart" (topS 19) := ⟨_, _, fun_of Fare_told_apart, gare_told_apart⟩
  obtain ⟨fdorder_places, Forder_places⟩ := def_at c2 (x := "order_places") (st := topS 20) 14 rfl rfl
  have gorder_places := He.glo_ok X G (c2.fact 14 (f := .glo "order_places") rfl)
  have torder_places : Txt K mg "order_places" (topS 20) := ⟨_, _, fun_of Forder_places, gorder_places⟩
  obtain ⟨fdrough_turn, Frough_turn⟩ := def_at c2 (x := "rough_turn") (st := topS 22) 15 rfl rfl
  have grough_turn := He.glo_ok X G (c2.fact 15 (f := .glo "rough_turn") rfl)
  have trough_turn : Txt K mg "rough_turn" (topS 22) := ⟨_, _, fun_of Frough_turn, grough_turn⟩
  obtain ⟨fdturns_left, Fturns_left⟩ := def_at c2 (x := "turns_left") (st := topS 23) 16 rfl rfl
  have gturns_left := He.glo_ok X G (c2.fact 16 (f := .glo "turns_left") rfl)
  have tturns_left : Txt K mg "turns_left" (topS 23) := ⟨_, _, fun_of Fturns_left, gturns_left⟩
  obtain ⟨fdleft_chain, Fleft_chain⟩ := def_at c2 (x := "left_chain") (st := topS 24) 17 rfl rfl
  have gleft_chain := He.glo_ok X G (c2.fact 17 (f := .glo "left_chain") rfl)
  have tleft_chain : Txt K mg "left_chain" (topS 24) := ⟨_, _, fun_of Fleft_chain, gleft_chain⟩
  obtain ⟨fdhull_corners, Fhull_corners⟩ := def_at c2 (x := "hull_corners") (st := topS 25) 18 rfl rfl
  have ghull_corners := He.glo_ok X G (c2.fact 18 (f := .glo "hull_corners") rfl)
  have thull_corners : Txt K mg "hull_corners" (topS 25) := ⟨_, _, fun_of Fhull_corners, ghull_corners⟩
  obtain ⟨fdhull_of, Fhull_of⟩ := def_at c2 (x := "hull_of") (st := topS 32) 23 rfl rfl
  have ghull_of := He.glo_ok X G (c2.fact 23 (f := .glo "hull_of") rfl)
  have thull_of : Txt K mg "hull_of" (topS 32) := ⟨_, _, fun_of Fhull_of, ghull_of⟩
  obtain ⟨fdcorner_patches, Fcorner_patches⟩ := def_at c2 (x := "corner_patches") (st := topS 33) 24 rfl rfl
  have gcorner_patches := He.glo_ok X G (c2.fact 24 (f := .glo "corner_patches") rfl)
  have tcorner_patches : Txt K mg "corner_patches" (topS 33) := ⟨_, _, fun_of Fcorner_patches, gcorner_patches⟩
  obtain ⟨fdwhole_corners, Fwhole_corners⟩ := def_at c2 (x := "whole_corners") (st := topS 34) 25 rfl rfl
  have gwhole_corners := He.glo_ok X G (c2.fact 25 (f := .glo "whole_corners") rfl)
  have twhole_corners : Txt K mg "whole_corners" (topS 34) := ⟨_, _, fun_of Fwhole_corners, gwhole_corners⟩
  obtain ⟨fd_law_hand, F_law_hand⟩ := def_at c2 (x := "_law_hand") (st := topS 36) 26 rfl rfl
  have g_law_hand := He.glo_ok X G (c2.fact 26 (f := .glo "_law_hand") rfl)
  have t_law_hand : Txt K mg "_law_hand" (topS 36) := ⟨_, _, fun_of F_law_hand, g_law_hand⟩
  obtain ⟨fd_law_mixed, F_law_mixed⟩ := def_at c2 (x := "_law_mixed") (st := topS 37) 27 rfl rfl
  have g_law_mixed := He.glo_ok X G (c2.fact 27 (f := .glo "_law_mixed") rfl)
  have t_law_mixed : Txt K mg "_law_mixed" (topS 37) := ⟨_, _, fun_of F_law_mixed, g_law_mixed⟩
  obtain ⟨fd_law_take, F_law_take⟩ := def_at c2 (x := "_law_take") (st := topS 38) 28 rfl rfl
  have g_law_take := He.glo_ok X G (c2.fact 28 (f := .glo "_law_take") rfl)
  have t_law_take : Txt K mg "_law_take" (topS 38) := ⟨_, _, fun_of F_law_take, g_law_take⟩
  obtain ⟨fd_law_gcd, F_law_gcd⟩ := def_at c2 (x := "_law_gcd") (st := topS 39) 29 rfl rfl
  have g_law_gcd := He.glo_ok X G (c2.fact 29 (f := .glo "_law_gcd") rfl)
  have t_law_gcd : Txt K mg "_law_gcd" (topS 39) := ⟨_, _, fun_of F_law_gcd, g_law_gcd⟩
  obtain ⟨fd_law_ratio, F_law_ratio⟩ := def_at c2 (x := "_law_ratio") (st := topS 40) 30 rfl rfl
  have g_law_ratio := He.glo_ok X G (c2.fact 30 (f := .glo "_law_ratio") rfl)
  have t_law_ratio : Txt K mg "_law_ratio" (topS 40) := ⟨_, _, fun_of F_law_ratio, g_law_ratio⟩
  obtain ⟨fd_law_plus, F_law_plus⟩ := def_at c2 (x := "_law_plus") (st := topS 41) 31 rfl rfl
  have g_law_plus := He.glo_ok X G (c2.fact 31 (f := .glo "_law_plus") rfl)
  have t_law_plus : Txt K mg "_law_plus" (topS 41) := ⟨_, _, fun_of F_law_plus, g_law_plus⟩
  obtain ⟨fd_law_times, F_law_times⟩ := def_at c2 (x := "_law_times") (st := topS 42) 32 rfl rfl
  have g_law_times := He.glo_ok X G (c2.fact 32 (f := .glo "_law_times") rfl)
  have t_law_times : Txt K mg "_law_times" (topS 42) := ⟨_, _, fun_of F_law_times, g_law_times⟩
  obtain ⟨fd_law_bottoms, F_law_bottoms⟩ := def_at c2 (x := "_law_bottoms") (st := topS 43) 33 rfl rfl
  have g_law_bottoms := He.glo_ok X G (c2.fact 33 (f := .glo "_law_bottoms") rfl)
  have t_law_bottoms : Txt K mg "_law_bottoms" (topS 43) := ⟨_, _, fun_of F_law_bottoms, g_law_bottoms⟩
  obtain ⟨fd_law_wholes, F_law_wholes⟩ := def_at c2 (x := "_law_wholes") (st := topS 44) 34 rfl rfl
  have g_law_wholes := He.glo_ok X G (c2.fact 34 (f := .glo "_law_wholes") rfl)
  have t_law_wholes : Txt K mg "_law_wholes" (topS 44) := ⟨_, _, fun_of F_law_wholes, g_law_wholes⟩
  obtain ⟨fd_law_half, F_law_half⟩ := def_at c2 (x := "_law_half") (st := topS 45) 35 rfl rfl
  have g_law_half := He.glo_ok X G (c2.fact 35 (f := .glo "_law_half") rfl)
  have t_law_half : Txt K mg "_law_half" (topS 45) := ⟨_, _, fun_of F_law_half, g_law_half⟩
  obtain ⟨fd_law_hull, F_law_hull⟩ := def_at c2 (x := "_law_hull") (st := topS 46) 36 rfl rfl
  have g_law_hull := He.glo_ok X G (c2.fact 36 (f := .glo "_law_hull") rfl)
  have t_law_hull : Txt K mg "_law_hull" (topS 46) := ⟨_, _, fun_of F_law_hull, g_law_hull⟩
  obtain ⟨fd_law_of, F_law_of⟩ := def_at c2 (x := "_law_of") (st := topS 47) 37 rfl rfl
  have g_law_of := He.glo_ok X G (c2.fact 37 (f := .glo "_law_of") rfl)
  have t_law_of : Txt K mg "_law_of" (topS 47) := ⟨_, _, fun_of F_law_of, g_law_of⟩
  obtain ⟨fd_law_number, F_law_number⟩ := def_at c2 (x := "_law_number") (st := topS 48) 38 rfl rfl
  have g_law_number := He.glo_ok X G (c2.fact 38 (f := .glo "_law_number") rfl)
  have t_law_number : Txt K mg "_law_number" (topS 48) := ⟨_, _, fun_of F_law_number, g_law_number⟩
  obtain ⟨fd_law_small, F_law_small⟩ := def_at c2 (x := "_law_small") (st := topS 49) 39 rfl rfl
  have g_law_small := He.glo_ok X G (c2.fact 39 (f := .glo "_law_small") rfl)
  have t_law_small : Txt K mg "_law_small" (topS 49) := ⟨_, _, fun_of F_law_small, g_law_small⟩
  obtain ⟨fd_law_place, F_law_place⟩ := def_at c2 (x := "_law_place") (st := topS 50) 40 rfl rfl
  have g_law_place := He.glo_ok X G (c2.fact 40 (f := .glo "_law_place") rfl)
  have t_law_place : Txt K mg "_law_place" (topS 50) := ⟨_, _, fun_of F_law_place, g_law_place⟩
  obtain ⟨fd_law_spots, F_law_spots⟩ := def_at c2 (x := "_law_spots") (st := topS 51) 41 rfl rfl
  have g_law_spots := He.glo_ok X G (c2.fact 41 (f := .glo "_law_spots") rfl)
  have t_law_spots : Txt K mg "_law_spots" (topS 51) := ⟨_, _, fun_of F_law_spots, g_law_spots⟩
  obtain ⟨fd_law_tuples, F_law_tuples⟩ := def_at c2 (x := "_law_tuples") (st := topS 52) 42 rfl rfl
  have g_law_tuples := He.glo_ok X G (c2.fact 42 (f := .glo "_law_tuples") rfl)
  have t_law_tuples : Txt K mg "_law_tuples" (topS 52) := ⟨_, _, fun_of F_law_tuples, g_law_tuples⟩
  obtain ⟨fd_law_try, F_law_try⟩ := def_at c2 (x := "_law_try") (st := topS 53) 43 rfl rfl
  have g_law_try := He.glo_ok X G (c2.fact 43 (f := .glo "_law_try") rfl)
  have t_law_try : Txt K mg "_law_try" (topS 53) := ⟨_, _, fun_of F_law_try, g_law_try⟩
  obtain ⟨fd_law_hull_try, F_law_hull_try⟩ := def_at c2 (x := "_law_hull_try") (st := topS 54) 44 rfl rfl
  have g_law_hull_try := He.glo_ok X G (c2.fact 44 (f := .glo "_law_hull_try") rfl)
  have t_law_hull_try : Txt K mg "_law_hull_try" (topS 54) := ⟨_, _, fun_of F_law_hull_try, g_law_hull_try⟩
  obtain ⟨fd_law_key, F_law_key⟩ := def_at c2 (x := "_law_key") (st := topS 55) 45 rfl rfl
  have g_law_key := He.glo_ok X G (c2.fact 45 (f := .glo "_law_key") rfl)
  have t_law_key : Txt K mg "_law_key" (topS 55) := ⟨_, _, fun_of F_law_key, g_law_key⟩
  obtain ⟨fd_law_is_hull, F_law_is_hull⟩ := def_at c2 (x := "_law_is_hull") (st := topS 56) 46 rfl rfl
  have g_law_is_hull := He.glo_ok X G (c2.fact 46 (f := .glo "_law_is_hull") rfl)
  have t_law_is_hull : Txt K mg "_law_is_hull" (topS 56) := ⟨_, _, fun_of F_law_is_hull, g_law_is_hull⟩
  obtain ⟨fd_law_spoilt, F_law_spoilt⟩ := def_at c2 (x := "_law_spoilt") (st := topS 57) 47 rfl rfl
  have g_law_spoilt := He.glo_ok X G (c2.fact 47 (f := .glo "_law_spoilt") rfl)
  have t_law_spoilt : Txt K mg "_law_spoilt" (topS 57) := ⟨_, _, fun_of F_law_spoilt, g_law_spoilt⟩
  obtain ⟨fdlaw, Flaw⟩ := def_at c2 (x := "law") (st := topS 58) 48 rfl rfl
  have glaw := He.glo_ok X G (c2.fact 48 (f := .glo "law") rfl)
  have tlaw : Txt K mg "law" (topS 58) := ⟨_, _, fun_of Flaw, glaw⟩
  obtain ⟨fdM0, FM0⟩ := met_at c2 (x := "BadPatch") (m := "__init__") (q := "BadPatch.__init__") (st := inClass (topS 4) 0) 49 rfl rfl
  obtain ⟨fdM1, FM1⟩ := met_at c2 (x := "Patch") (m := "__init__") (q := "Patch.__init__") (st := inClass (topS 31) 0) 50 rfl rfl
  obtain ⟨fdM2, FM2⟩ := met_at c2 (x := "Patch") (m := "__len__") (q := "Patch.__len__") (st := inClass (topS 31) 1) 51 rfl rfl
  obtain ⟨fdM3, FM3⟩ := met_at c2 (x := "Patch") (m := "__iter__") (q := "Patch.__iter__") (st := inClass (topS 31) 2) 52 rfl rfl
  obtain ⟨fdM4, FM4⟩ := met_at c2 (x := "Patch") (m := "__eq__") (q := "Patch.__eq__") (st := inClass (topS 31) 3) 53 rfl rfl
  have e := hfa.symm.trans glaw
  cases e
  have bl := FunD.bindsA (ps := ["_law_script"]) Flaw fun _ _ _ _ _ _ us hl => match us, hl with | [_], _ => rfl
  refine ⟨fdlaw, fun s v => bl s [v] rfl, fun base _ _ => ?_⟩
  have cBP : CT P w K mg base "BadPatch" ["what"] := ⟨cB, gBP, fun _ => ⟨fdM0, ["self", "what"], in_BadPatch (fun_of FM0) cB.o cB.no, FM0.bindsN fun _ _ _ _ _ _ us hl => match us, hl with | [_, _], _ => rfl⟩⟩
  have Gw1 := okis_whole1 (P := P) (w := w) (base := base) gis_whole Fis_whole misinstance mint mbool
  have Gw2 := okis_whole2 (P := P) (w := w) (base := base) gis_whole Fis_whole misinstance mint mbool
  have mP : PMt P w K mg base := ⟨fa_, tC, nC, ⟨fdM2, in_Plen (fun_of FM2) tC nC mlen, FM2.bindsN fun _ _ _ _ _ _ us hl => match us, hl with | [_], _ => rfl⟩,
    ⟨fdM4, in_Peq (fun_of FM4) tC nC fa_ gP misinstance, FM4.bindsN fun _ _ _ _ _ _ us hl => match us, hl with | [_, _], _ => rfl⟩, ⟨fdM3, fun base => in_Piter (fun_of FM3) tC nC miter, FM3.bindsN fun _ _ _ _ _ _ us hl => match us, hl with | [_], _ => rfl⟩⟩
  have Gwhole_row := okwhole_row (P := P) (w := w) (base := base) twhole_row
  have Graw_cross := okraw_cross (P := P) (w := w) (base := base) traw_cross Gwhole_row
  have Gis_ratio := okis_ratio (P := P) (w := w) (base := base) tis_ratio Gw1 Gw2 misinstance mtuple mlen mgcd
  have Gis_row := okis_row (P := P) (w := w) (base := base) tis_row misinstance mtuple mlist
  have GVis_row := okVis_row (P := P) (w := w) (base := base) tis_row misinstance mtuple mlist
  have Gis_place := okis_place (P := P) (w := w) (base := base) tis_place Gis_row Gis_ratio mlen
  have Gsign_of := oksign_of (P := P) (w := w) (base := base) tsign_of
  have Gscaled_floor := okscaled_floor (P := P) (w := w) (base := base) tscaled_floor
  have Grough_place := okrough_place (P := P) (w := w) (base := base) trough_place
  have Gare_told_apart := okare_told_apart (P := P) (w := w) (base := base) tare_told_apart
  have Gorder_places := okorder_places (P := P) (w := w) (base := base) torder_places Gscaled_floor Grough_place Gare_told_apart mlist mmax msorted mzip mall
  have Gturn_at := okturn_at (P := P) (w := w) (base := base) tturn_at Graw_cross Gsign_of
  have Grough_turn := okrough_turn (P := P) (w := w) (base := base) trough_turn Gsign_of mabs
  have Gturns_left := okturns_left (P := P) (w := w) (base := base) tturns_left Grough_turn Gturn_at
  have Gleft_chain := okleft_chain (P := P) (w := w) (base := base) tleft_chain Gturns_left mlen
  have Ghull_corners := okhull_corners (P := P) (w := w) (base := base) thull_corners Gorder_places Grough_place Gleft_chain mlen mtuple
  have cP_ : PCt P w K mg base := ⟨mkP, gP, tC, nC, ⟨fdM1, in_Pinit (fun_of FM1) cBP tC nC Gis_row Gis_place Ghull_corners mlen mtuple, FM1.bindsN fun _ _ _ _ _ _ us hl => match us, hl with | [_, _], _ => rfl⟩⟩
  have Xhull_of := okhull_of (P := P) (w := w) (base := base) thull_of cBP cP_ GVis_row Ghull_corners mlen
  have Gcorner_patches := okcorner_patches (P := P) (w := w) (base := base) tcorner_patches cP_ mtuple
  have Gwhole_corners := okwhole_corners (P := P) (w := w) (base := base) twhole_corners cP_ mtuple mlcm
  have G_law_hand := dkHand (P := P) (w := w) (base := base) t_law_hand mint mlen
  have G_law_take := dkTake (P := P) (w := w) (base := base) t_law_take t_law_mixed mint mlen
  have G_law_gcd := ok_law_gcd (P := P) (w := w) (base := base) t_law_gcd mint mabs
  have G_law_ratio := ok_law_ratio (P := P) (w := w) (base := base) t_law_ratio G_law_gcd
  have G_law_plus := ok_law_plus (P := P) (w := w) (base := base) t_law_plus G_law_ratio
  have G_law_times := ok_law_times (P := P) (w := w) (base := base) t_law_times G_law_ratio
  have G_law_number := ok_law_number (P := P) (w := w) (base := base) t_law_number G_law_take mrange
  have G_law_small := okL_law_small (P := P) (w := w) (base := base) t_law_small G_law_take G_law_ratio
  have G_law_place := okL_law_place (P := P) (w := w) (base := base) t_law_place G_law_take G_law_small G_law_number G_law_ratio
  have G_law_of := ok_law_of (P := P) (w := w) (base := base) t_law_of G_law_ratio
  have G_law_spots := ok_law_spots (P := P) (w := w) (base := base) t_law_spots G_law_take G_law_place G_law_of mrange
  have G_law_bottoms := ok_law_bottoms (P := P) (w := w) (base := base) t_law_bottoms G_law_gcd
  have G_law_wholes := ok_law_wholes (P := P) (w := w) (base := base) t_law_wholes
  have G_law_half := ok_law_half (P := P) (w := w) (base := base) t_law_half mlen
  have G_law_hull := ok_law_hull (P := P) (w := w) (base := base) t_law_hull G_law_bottoms G_law_wholes G_law_half G_law_ratio mlen mrange mtuple msorted
  have GT0 := ok_law_tuples (P := P) (w := w) (base := base) t_law_tuples misinstance mtuple mint mbool
  have GT1 := okL1_law_tuples (P := P) (w := w) (base := base) t_law_tuples GT0 misinstance mtuple mint mbool
  have GT2 := okL2_law_tuples (P := P) (w := w) (base := base) t_law_tuples GT1 misinstance mtuple mint mbool
  have G_law_tuples := okL3_law_tuples (P := P) (w := w) (base := base) t_law_tuples GT2 misinstance mtuple mint mbool
  have G_law_try := ok_law_try (P := P) (w := w) (base := base) t_law_try cBP tX nX eX cP_
  have G_law_hull_try := ok_law_hull_try (P := P) (w := w) (base := base) t_law_hull_try cBP tX nX eX cP_ Xhull_of
  have G_law_key := ok_law_key (P := P) (w := w) (base := base) t_law_key
  have G_law_is_hull := ok_law_is_hull (P := P) (w := w) (base := base) t_law_is_hull G_law_key G_law_bottoms G_law_tuples misinstance mtuple mlen mrange msorted
  have G_law_spoilt := ok_law_spoilt (P := P) (w := w) (base := base) t_law_spoilt G_law_take G_law_plus G_law_times mlen mrange mtuple
  exact ok_law (fun_of Flaw) G_law_hand G_law_spots Xhull_of G_law_is_hull G_law_hull G_law_try G_law_tuples G_law_spoilt G_law_hull_try Gcorner_patches G_law_bottoms G_law_wholes Gwhole_corners mP cP_ mlen mrange mlist mtuple misinstance
end
end F3
open PySem PySem.W PySem.Calls PyProof.Rows
theorem PySem.Challenge.cw_feltstone_k04_whole_patches_made_and_ref_holds : PySem.Challenge.rw_feltstone_k04_whole_patches_made_and_ref.Holds := by
  w_on; o_law
  refine HandSHeadRun.head_imp (r := OpenLaw.row PySem.Challenge.rw_feltstone_k04_whole_patches_made_and_ref) (q := view (OpenLaw.row PySem.Challenge.rw_feltstone_k04_whole_patches_made_and_ref).prog [0, 58]) (H := F3.hookM 6) (ob := F3.ob) (M := 60000) (loose := F3.names)
    (d := HandSHeadRun.topDef (OpenLaw.row PySem.Challenge.rw_feltstone_k04_whole_patches_made_and_ref).prog 58) (kwd := []) F3.ob_eq F3.run
    (by kernel_rfl) (by kernel_rfl) (by kernel_rfl) (by rfl) (by first | assumption | decide +kernel) (by decide +kernel) ⟨rfl, rfl, rfl, rfl, rfl, by decide +kernel⟩ ?hw ?hc
  case hw => w_witness2
  case hc =>
    refine L2.walk_ofE (l := PySem.Challenge.rw_feltstone_k04_whole_patches_made_and_ref) (n := 63) (k := 11) (x := "_law_script") (CX := L2.CX0) rfl (by decide) (by kernel_rfl) ⟨rfl, by decide, by decide⟩ ?F (fun _ _ _ _ z => z)
    intro w mg fa h Y G hmg0
    obtain ⟨K, KX, c⟩ := Y
    have hmg : mg ("law" : PySem.Str) = some (.ref fa) := by
      have e : (HandSHeadRun.topDef (OpenLaw.row PySem.Challenge.rw_feltstone_k04_whole_patches_made_and_ref).prog 58).name = ("law" : PySem.Str) := by kernel_rfl
      rw [← e]
      exact hmg0
    obtain ⟨fd, hb, hF⟩ := F3.facts (P := (PySem.Challenge.rw_feltstone_k04_whole_patches_made_and_ref).prog) (w := w) KX G hmg c
    exact ⟨K, fd, F3.spLaw K, KX, hb, fun H a ns hl _ hS => ⟨a, ns, rfl, hS, hl, fun _ => rfl⟩, hF⟩
