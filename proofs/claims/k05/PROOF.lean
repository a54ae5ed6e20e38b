import PyProof.Rows.All
import Wide.All
import OpenK.AllK
import Wide.FinOn
import HandS.ForMost
import HandS.WordsExc
import HandS.ExcInit
import HandS.ExcIs
import HandS.ExcField
import HandS.ExcValue
import HandS.IsInst
import KE.KExcIs
import HandS.Defaults
import HandS.HeadHook1
import HandS.HeadHook2
import HandS.Wide
import HandS.Gcd
import HandS.NoneIn
import KE.SortData
import KE.DataMinMax
import HandS.SortKw
import HandS.SortInts
import HandS.DictComp
import HandS.Conv
import PyProof.P3In
import KE.KeyNested
import HandS.TryMany
import HandS.Flow
import KE.GoesMore
import KE.KDictZip
import PyProof.ListNew
import PyProof.TupleOfGen
import HandS.Zip
import HandS.Walk
import HandS.Deep
import HandS.Style
import HandS.OwnIter
import HandS.OwnEq
import HandS.IterVal
import HandS.Iter
import HandS.TupAny
import HandS.Property
import HandS.Head0
import HandS.Head1
import HandS.Head2
import HandS.Head3
import HandS.HeadEnd
import KE.KStateDown
import PySem.Challenge.RW_feltstone_k05_whole_patches_asked
set_option Elab.async false
set_option linter.all false
set_option maxRecDepth 100000
set_option maxHeartbeats 4000000
/-! exceptions of own classes as values: made, read, asked for their class -/
namespace FX
open PySem PySem.Spec PyProof.Rows L2
/-- at e an exception of the class at C, with these fields -/
def ExAt (H : Hp) (e C : Addr) (fs : List (Str × V)) : Prop :=
  (fs = [] ∧ H e = some (exo e C none)) ∨ ∃ d, H e = some (exo e C (some d)) ∧ H d = some (exd d fs)
theorem ExAt.same {H H' : Hp} {e C : Addr} {fs : List (Str × V)} (x : ExAt H e C fs) (s : Same H H') : ExAt H' e C fs := by
  rcases x with ⟨a, b⟩ | ⟨d, a, b⟩
  · exact .inl ⟨a, s _ _ b⟩
  · exact .inr ⟨d, s _ _ a, s _ _ b⟩
/-- what an exception class's own constructor does -/
def spInit (C : Addr) (names : List Str) : Sp := fun vs H Q _ => ∃ (a : Addr) (ws : List V), vs = .ref a :: ws ∧ ws.length = names.length ∧ H a = some (exo a C none) ∧
  ∀ H' d, (∀ b o, b ≠ a → H b = some o → H' b = some o) → H' a = some (exo a C (some d)) → H' d = some (exd d (names.zip ws).reverse) → H d = none → Q .non H'
/-- the text's facts of an exception class, as one look -/
def oexB (K : PySem.W.Frag) (C : Addr) : Bool := (match K.lookup C with
    | some ⟨.type "type", _, .cls cd, sl⟩ => (match cd.mro, sl.toList with
      | .ref D :: bm, [_, _, _, _, some (.builtin n), _] => decide (D = C) && (decide (n = "ValueError.__new__") && (!cd.hasDel && (cd.hasDict && PySem.HandSPX.refsVE bm)))
      | _, _ => false)
    | _ => false) && (He.eqO (PySem.W.findIn K (.ref C) "__setattr__") (some (some (.builtin "object.__setattr__"))) && (decide (PySem.W.subIn K (.ref C) (.type "BaseException") = some true) && (decide (PySem.W.typeIn K (.ref C) = some (.type "type")) && PySem.W.keepIn K (.ref C))))
theorem oexB_ok {K : PySem.W.Frag} {C : Addr} (h : oexB K C = true) : OexC K C := by
  obtain ⟨h0, h⟩ := He.ba h
  obtain ⟨h1, h⟩ := He.ba h
  obtain ⟨h2, h⟩ := He.ba h
  obtain ⟨h3, h4⟩ := He.ba h
  refine ⟨?_, He.eqO_ok h1, of_decide_eq_true h2, of_decide_eq_true h3, h4⟩
  split at h0
  · rename_i dd cd sl lk
    split at h0
    · rename_i D bm k0 k1 k2 k3 n k5 em es
      obtain ⟨a, h0⟩ := He.ba h0
      obtain ⟨b, h0⟩ := He.ba h0
      obtain ⟨c, h0⟩ := He.ba h0
      obtain ⟨d, e⟩ := He.ba h0
      obtain rfl := of_decide_eq_true a
      obtain rfl := of_decide_eq_true b
      obtain ⟨nm, bs, mro, ns, qn, hd, sn, sub, ab, col, del⟩ := cd
      obtain ⟨l⟩ := sl
      dsimp only at em es c d
      subst em es d
      have c' : del = false := by simpa using c
      subst c'
      exact ⟨nm, qn, ns, bs, bm, sn, sub, ab, col, dd, k0, k1, k2, k3, k5, lk, e⟩
    · cases h0
  · cases h0
def isB (K : PySem.W.Frag) (D : Addr) : Bool := He.eqO (PySem.W.findIn K (.ref D) "__getattribute__") (some (some (.builtin "BaseException.__getattribute__"))) && (He.eqO (PySem.W.findIn K (.ref D) "__getattr__") (some none) &&
  (decide (PySem.W.subIn K (.ref D) (.type "BaseException") = some true) && (PySem.W.hasDictIn K D && (He.eqO (PySem.W.findIn K (.ref D) "__class__") (some (some (.builtin "object.__class__"))) &&
  (He.eqO (PySem.W.specialIn K (.builtin "object.__class__") "__get__") (some (some (.builtin "getset_descriptor.__get__"))) && (decide (PySem.W.takesIn K (.builtin "object.__class__") = some true) && decide (PySem.W.mroIn K D (.type "object") = some true)))))))
theorem isB_ok {K : PySem.W.Frag} {D : Addr} (h : isB K D = true) : ExcC K D := by
  obtain ⟨h1, h⟩ := He.ba h
  obtain ⟨h2, h⟩ := He.ba h
  obtain ⟨h3, h⟩ := He.ba h
  obtain ⟨h4, h⟩ := He.ba h
  obtain ⟨h5, h⟩ := He.ba h
  obtain ⟨h6, h⟩ := He.ba h
  obtain ⟨h7, h8⟩ := He.ba h
  exact ⟨He.eqO_ok h1, He.eqO_ok h2, of_decide_eq_true h3, h4, He.eqO_ok h5, He.eqO_ok h6, of_decide_eq_true h7, of_decide_eq_true h8⟩
/-- a class with its own constructor (the fields' names), or without one -/
def clsB (K : PySem.W.Frag) (x : Str) (names : List Str) : Bool := (He.Fa.glo x).ok K && (oexB K (He.ga K x) && (isB K (He.ga K x) && (names.all (fun f => (He.Fa.noat x f).ok K) && (if names = [] then PySem.W.excIn K (He.ga K x) He.veBase "ValueError.__new__" else
  (He.eqO (PySem.W.findIn K (.ref (He.ga K x)) "__init__") (some (some (.ref (He.ma K (He.ga K x) "__init__")))) && decide (PySem.W.typeIn K (.ref (He.ma K (He.ga K x) "__init__")) = some (.type "function")))))))
structure ClsOk (K : PySem.W.Frag) (x : Str) (names : List Str) : Prop where
  glo : (He.Fa.glo x).ok K = true
  o : OexC K (He.ga K x)
  is : ExcC K (He.ga K x)
  no : ∀ f ∈ names, PySem.W.findIn K (.ref (He.ga K x)) f = some none
  xin : names = [] → PySem.W.excIn K (He.ga K x) [.type "ValueError", .type "Exception", .type "BaseException", .type "object"] "ValueError.__new__" = true
  ini : names ≠ [] → PySem.W.findIn K (.ref (He.ga K x)) "__init__" = some (some (.ref (He.ma K (He.ga K x) "__init__")))
  ity : names ≠ [] → PySem.W.typeIn K (.ref (He.ma K (He.ga K x) "__init__")) = some (.type "function")
theorem clsB_ok {K : PySem.W.Frag} {x : Str} {names : List Str} (h : clsB K x names = true) : ClsOk K x names := by
  obtain ⟨h1, h⟩ := He.ba h
  obtain ⟨h2, h⟩ := He.ba h
  obtain ⟨h3, h⟩ := He.ba h
  obtain ⟨h4, h5⟩ := He.ba h
  refine ⟨h1, oexB_ok h2, isB_ok h3, fun f hf => He.noat_ok (List.all_eq_true.mp h4 f hf), fun e => ?_, fun e => ?_, fun e => ?_⟩
  · rw [if_pos e] at h5; exact h5
  · rw [if_neg e] at h5; exact He.eqO_ok (He.ba h5).1
  · rw [if_neg e] at h5; exact of_decide_eq_true (He.ba h5).2
theorem fun_of {K : PySem.W.Frag} {x q : Str} {st : Stmt} {f : Addr} {fd : FuncData} (F : FunD K x q (defArgs st) (defBody st) (defScope st) [] [] f fd) : Fun K x q st f fd := by
  obtain ⟨oc, od, dV, kV, doc, pm, an, cdv, ct, osl, rfl, lk, hcd, hD, hK⟩ := F.ex
  rcases hD with ⟨_, rfl⟩ | ⟨e, _⟩
  · exact ⟨⟨oc, od, kV, doc, pm, an, cdv, ct, osl, rfl, lk, hcd⟩, F.kp⟩
  · exact absurd rfl e
section
variable {X : Cx} {pins : List (Addr × Obj)} {σ : L2.St} {H : Hp} {s : Shared}
/-- the exception as the library sees it -/
theorem ExAt.inst {e C : Addr} {fs : List (Str × V)} (I : Inv X pins σ H s) (x : ExAt H e C fs) :
    ∃ (oe : Obj) (od : Option Obj), PySem.W.InstAt s.heap e oe C od ∧ (∀ f v, fs.lookup f = some v → ∃ oo u, od = some oo ∧ PySem.W.lookIn f oo = some (some u) ∧ RelV v u) := by
  rcases x with ⟨rfl, a⟩ | ⟨d, a, b⟩
  · obtain ⟨t1, h1⟩ := exo_at I.hok a
    exact ⟨_, none, ⟨h1, rfl, rfl, trivial⟩, fun f v l => by cases l⟩
  · obtain ⟨t1, h1⟩ := exo_at I.hok a
    obtain ⟨mA, hns, rel⟩ := exd_at I.hok b
    obtain ⟨od, ho, hl⟩ := lookIn_ns hns
    refine ⟨_, some od, ⟨h1, rfl, rfl, ho⟩, fun f v l => ?_⟩
    obtain ⟨u, hu, ru⟩ := RelO.some_of (v := v) (o := mA f) (by rw [← l]; exact rel f)
    exact ⟨od, u, rfl, by rw [hl, hu], ru⟩
/-- isinstance of such a value -/
def rIsX (K : PySem.W.Frag) : List V → Hp → VK → Prop := fun xs H Q => ∃ (e C : Addr) (fs : List (Str × V)) (c : V) (cv : Value) (b : Bool),
  xs = [.ref e, c] ∧ ExAt H e C fs ∧ ExcC K C ∧ ClsV c cv ∧ PySem.W.kitOne K (.ref C) cv = some b ∧ Q (.bl b) H
theorem call_isX : CallR X (.builtin "isinstance") (rIsX X.K) := by
  intro pins s σ H xs us Q I r h
  obtain ⟨e, C, fs, c, cv, b, rfl, x, T, k, hk, q⟩ := h
  obtain ⟨u1, u2, rfl, r1, r2⟩ := vals2 r
  obtain rfl := k.eq r2
  cases (show u1 = Value.ref e from r1)
  obtain ⟨oe, od, J, _⟩ := ExAt.inst I x
  obtain ⟨cd, hcd, _⟩ := PySem.W.any_some T.hd
  exact PySem.W.kia_one (PySem.W.kitx_exc (by rw [hcd]; rfl) T.hg T.hk T.hs T.ha T.hn T.ht T.hm) I.kIn J hk (fun z => nomatch z) fun tk => ⟨.bl b, H, I.tok tk, rfl, q⟩
/-- e.f -/
def tXv (K : PySem.W.Frag) (f : Str) (te : TE) : TE := fun σ H Q => te σ H fun x H1 => ∃ (e C : Addr) (fs : List (Str × V)) (v : V), x = .ref e ∧ ExAt H1 e C fs ∧ ExcC K C ∧ PySem.W.findIn K (.ref C) f = some none ∧ fs.lookup f = some v ∧ Q v H1
theorem pe_xv {e : Expr} {te : TE} {f : Str} {pos : Pos} (he : PE X e te) (hb : attributeBase e f X.env (eval e X.env) = eval e X.env := by rfl) : PE X (.Attribute e f pos) (tXv X.K f te) := by
  refine ⟨fun pins s σ H Q I h => ?_⟩
  refine attr_of hb (thn (he.run pins s σ H _ I h) fun u s1 hh => ?_)
  obtain ⟨x, H1, I1, rx, a, C, fs, v, rfl, ex, T, hno, l, q⟩ := hh
  cases (show u = Value.ref a from rx)
  obtain ⟨oe, od, J, hl⟩ := ExAt.inst I1 ex
  obtain ⟨oo, u, rfl, hu, ru⟩ := hl f v l
  exact PySem.HandSPX.exc_get I1.kIn J T.hg T.hk T.hs (PySem.W.findObj_own T.hd hno rfl hu) (handed_of ru) ⟨v, H1, I1.tok _, ru, q⟩
/-- C(..) as a value -/
def tEx (C : Addr) (names : List Str) (ta : TA) : TE := fun σ H Q => ta σ H fun vs H1 => vs.length = names.length ∧ vs.length ≤ 1000 ∧ ∀ e H', H1 e = none → Same H1 H' → ExAt H' e C (names.zip vs).reverse → Q (.ref e) H'
theorem pe_ex {x : Str} {C fI : Addr} {k : Nat} {fd : FuncData} {ps names : List Str} {e : Expr} {es : List Expr} {ta : TA} {p pos : Pos} (T : OexC X.K C) (iC : PySem.W.findIn X.K (.ref C) "__init__" = some (some (.ref fI))) (tI : PySem.W.typeIn X.K (.ref fI) = some (.type "function"))
    (F1 : FnOk X.prog X.w X.K X.mg X.base CX0 k fI fd ps (spInit C names)) (hr : Room (k + 1) X.A) (hb : Binds X.K fd ps []) (hg : Gl X x) (hm : X.mg x = some (.ref C)) (ha : PA X (e :: es) ta)
    (hdb : (x == ("__debug__" : Str)) = false := by decide) (he : starEach (e :: es) X.env = (false, eval e X.env) :: starEach es X.env := by rfl) (hpl : (backTo pos (starEach es X.env)).any (·.1) = false := by rfl) :
    PE X (.Call (.Name x p) (e :: es) [] pos) (tEx C names ta) := by
  refine ⟨fun pins s σ H Q I h => ?_⟩
  obtain ⟨nm, q, N, bs, bm, sn, sub, ab, col, dd, k0, k1, k2, k3, k5, hC, hbm⟩ := T.cls
  refine wpAny_Call_Name_kw (ld_glob I hg hm ?_ hdb)
  refine PySem.W.callWith_K (h₀ := X.base) I.ok.mod.kin T.kC (thn (ha.run pos pins s σ H _ I h) fun us s1 ⟨vs, H1, I1, r1, hl, hz, q1⟩ => ⟨I1.kIn, ?_⟩) he hpl
  show wpAny _ _ (call (.ref C) us) _ _ _
  obtain ⟨hp, g, dr, tk, os⟩ := s1
  have hsz : hp.objs.size ≤ hp.objs.size + 1 := Nat.le_succ _
  have hn : H1 (hp.objs.size + 1) = none := I1.hok.fresh hsz
  have kk : ∀ b o, hp.get? b = some o → ((hp.push (PySem.W.kdv_tup us)).push (PySem.HandSPX.excO C hp.objs.size)).get? b = some o := fun b o e => Heap.get?_push_of_some _ (Heap.get?_push_of_some _ e)
  have hget : ((hp.push (PySem.W.kdv_tup us)).push (PySem.HandSPX.excO C hp.objs.size)).get? (hp.objs.size + 1) = some (PySem.HandSPX.excO C hp.objs.size) := by heap_get
  have I2 : Inv X pins σ (upd H1 (hp.objs.size + 1) (exo (hp.objs.size + 1) C none)) ⟨(hp.push (PySem.W.kdv_tup us)).push (PySem.HandSPX.excO C hp.objs.size), g, dr, tk, os⟩ :=
    I1.laid (t' := tk) (a := hp.objs.size + 1) (o := exo (hp.objs.size + 1) C none) (h' := (hp.push (PySem.W.kdv_tup us)).push (PySem.HandSPX.excO C hp.objs.size)) kk hsz (exo_ok hget)
  have r2 : Vals (V.ref (hp.objs.size + 1) :: vs) (Value.ref (hp.objs.size + 1) :: us) := .cons rfl r1
  have hq : spInit C names (V.ref (hp.objs.size + 1) :: vs) (upd H1 (hp.objs.size + 1) (exo (hp.objs.size + 1) C none)) (fun v H2 => v = .non ∧ Q (.ref (hp.objs.size + 1)) H2) E0 := by
    refine ⟨_, vs, rfl, hl, upd_same, fun H' d keep ea ed _ => ⟨rfl, q1 _ H' hn (fun b o z => ?_) (.inr ⟨d, ea, ed⟩)⟩⟩
    have nb : b ≠ hp.objs.size + 1 := ne_of_none z hn
    exact keep b o nb (by rw [upd_ne nb]; exact z)
  have hlen : (Value.ref (hp.objs.size + 1) :: us).length = ps.length := by
    have e := r2.length
    rw [F1.len _ _ _ _ hq] at e
    exact e.symm
  have hus : us.length ≤ sizeLine := by
    rw [← Paired.length r1, sizeLine_eq]
    omega
  have bb : BindsTo ⟨(hp.push (PySem.W.kdv_tup us)).push (PySem.HandSPX.excO C hp.objs.size), g, dr, tk, os⟩ fd ⟨Value.ref (hp.objs.size + 1) :: us, []⟩ (ps.zip (Value.ref (hp.objs.size + 1) :: us)) := by
    have z := hb ⟨(hp.push (PySem.W.kdv_tup us)).push (PySem.HandSPX.excO C hp.objs.size), g, dr, tk, os⟩ (Value.ref (hp.objs.size + 1) :: us) I2.kIn (by rw [List.append_nil]; exact hlen)
    rw [List.append_nil] at z
    exact z
  refine wpAny_call (PySem.HandSPX.call_own F.excBase_ValueError (fun Y => PySem.HandSPX.refsVE_contains Y bm hbm) (I1.kIn _ _ hC) (PySem.W.looks_findIn I1.kIn iC) (fun self => PySem.W.bind_fn I1.kIn self tI) hus
    (codeAny_mono (F1.run _ X.stack _ _ ⟨Value.ref (hp.objs.size + 1) :: us, []⟩ (Value.ref (hp.objs.size + 1) :: us) _ _ E0 (hr.make C us []) (I2.env0.make C us []) bb r2 hq) fun r s' hq' => ?_))
  cases r with
  | error er => exact False.elim hq'
  | ok fl =>
    cases fl with
    | ret u =>
      obtain ⟨v, H', I3, rv, ev, q3⟩ := I2.after hq'
      subst ev
      exact ⟨rv, ⟨V.ref (hp.objs.size + 1), H', I3, rfl, q3⟩⟩
    | next => exact False.elim hq'
    | brk => exact False.elim hq'
    | cont => exact False.elim hq'
theorem pe_ex0 {x : Str} {C : Addr} {p pos : Pos} (T : OexC X.K C) (q : PySem.W.excIn X.K C [.type "ValueError", .type "Exception", .type "BaseException", .type "object"] "ValueError.__new__" = true) (hg : Gl X x) (hm : X.mg x = some (.ref C))
    (hdb : (x == ("__debug__" : Str)) = false := by decide) : PE X (.Call (.Name x p) [] [] pos) (tEx C [] tNil) := by
  refine ⟨fun pins s σ H Q I h => ?_⟩
  refine wpAny_Call_Name_kw (ld_glob I hg hm ?_ hdb)
  refine PySem.W.callWith_K0 I.kIn T.kC ?_
  obtain ⟨_, _, q1⟩ := h
  obtain ⟨hp, g, dr, tk, os⟩ := s
  obtain ⟨bm, N, nm, qn, bs, hdct, sn, sub, ab, col, dd, k0, k1, k2, k3, k5, mN, hC, hN, hni, Tl⟩ := exc_obj I.kIn q
  refine wpAny_call_exc_subT F.excBase_ValueError Tl hC hN hni (fun h' a hm => ?_) (by show 0 ≤ sizeLine; exact Nat.zero_le _)
  have hn : H a = none := I.hok.gone hm.new
  obtain ⟨t, ht, _, _⟩ := hm.there
  refine ⟨.ref a, upd H a (exo a C none), I.laidN hm.keeps hm.new hn (exo_ok ht), rfl, q1 a _ hn (fun b o z => ?_) (.inl ⟨rfl, upd_same⟩)⟩
  rw [upd_ne (ne_of_none z hn)]; exact z
end
end FX
set_option Elab.async false
set_option linter.all false
set_option maxRecDepth 100000
set_option maxHeartbeats 4000000
/-! a try with several clauses, each with a name for the error or without one; what a suite asks of the error -/
namespace FX
open PySem PySem.Spec PyProof.Rows L2
abbrev Clau := Value × Option Nat × (Addr → Value → Option Addr → TS)
def endsAs (o : Option Nat) (D : Ends) : Ends := match o with
  | none => D
  | some i => ⟨fun st hp => D.nx (st.set i none) hp, D.rt, fun st hp => D.bk (st.set i none) hp, fun st hp => D.ct (st.set i none) hp⟩
def inAs (o : Option Nat) (a : Addr) (st : L2.St) : L2.St := match o with
  | none => st
  | some i => st.set i (some (.ref a))
def wNm (K : PySem.W.Frag) (Wout : WX) (D : Ends) : List Clau → WX
  | [] => Wout
  | (c, o, ts) :: r => fun cls d st hp => ∃ b, PySem.W.exmOne K cls c = some b ∧ (b = true → ∀ a, hp a = none → ts a cls d (endsAs o D) (inAs o a st) hp) ∧ (b = false → wNm K Wout D r cls d st hp)
inductive HdsN (X : Cx) : List ExceptHandler → List Clau → Prop
  | nil : HdsN X [] []
  | plain {x : Str} {c : Value} {ts : Addr → Value → Option Addr → TS} {b0 : Stmt} {su : List Stmt} {np ps : Pos} {hl : List ExceptHandler} {l : List Clau} (hc : Names X x c)
      (hsu : ∀ (a : Addr) (oe : Obj) (cls : Value) (d : Option Addr) (pn : List (Addr × Obj)), Zc cls d oe → (∃ vs, oe.data = .fields vs) → PSs (X.suite a ((a, oe) :: pn)) (b0 :: su) (ts a cls d)) (r : HdsN X hl l) :
      HdsN X (.ExceptHandler (some (.Name x np)) none (b0 :: su) ps :: hl) ((c, none, ts) :: l)
  | named {x n : Str} {c : Value} {i : Nat} {ts : Addr → Value → Option Addr → TS} {b0 : Stmt} {su : List Stmt} {np ps : Pos} {hl : List ExceptHandler} {l : List Clau} (hc : Names X x c) (hN : X.N.Nodup) (hi : X.N[i]? = some n) (hln : X.env.kindOf n = some .local)
      (hsu : ∀ (a : Addr) (oe : Obj) (cls : Value) (d : Option Addr) (pn : List (Addr × Obj)), Zc cls d oe → (∃ vs, oe.data = .fields vs) → PSs (X.suite a ((a, oe) :: pn)) (b0 :: su) (ts a cls d)) (r : HdsN X hl l) :
      HdsN X (.ExceptHandler (some (.Name x np)) (some n) (b0 :: su) ps :: hl) ((c, some i, ts) :: l)
section
variable {X : Cx}
theorem names_own {x : Str} {C : Addr} (hg : Gl X x) (hm : X.mg x = some (.ref C)) (hd : (x == ("__debug__" : Str)) = false := by decide) : Names X x (.ref C) := ⟨hg, hd, .inl hm⟩
/-- the class that a clause names is asked for -/
theorem ask_class {x : Str} {np : Pos} {c : Value} {a : Addr} {oe : Obj} {pl : List (Addr × Obj)} {st : L2.St} {hp : Hp} {s : Shared} (hc : Names X x c) (J : Inv (X.suite a ((a, oe) :: pl)) [] st hp s) {Q : Value → Shared → Prop} {E : Value → Shared → Prop} (q : Q c s) :
    wpAny (model X.prog X.w) (X.A.mark (some (.ref a))) (eval (.Name x np) X.env) Q E s := by
  rcases hc with ⟨hg, hb, hm | ⟨hm, hv, hnn⟩⟩
  · exact ld_glob (X := X.suite a ((a, oe) :: pl)) J hg hm q hb
  · exact ld_blt (X := X.suite a ((a, oe) :: pl)) J hg hm hv q hnn hb
theorem ps_try_nm {body : List Stmt} {h0 : ExceptHandler} {hl : List ExceptHandler} {l : List Clau} {pos : Pos} {tb : WX → TS} {Wout : WX} (stk : X.stack = X.env :: X.outer) (fra : X.env.frame = some X.env.locals) (tk : Takes X Wout)
    (hb : ∀ (W : WX) (pn : List (Addr × Obj)) (xe : Value → Shared → Prop), Takes (X.tr pn xe) W → PassesOwn (model X.prog X.w) X.A X.env xe → PSs (X.tr pn xe) body (tb W)) (hh : HdsN X (h0 :: hl) l) :
    PS X (.Try body (h0 :: hl) [] [] pos) (fun D st hp => tb (wNm X.K Wout D l) D st hp) := by
  refine ⟨fun pins s σ H D I h => ?_⟩
  have fine := I.ok
  have frs2 : X.A.frames = some (X.env :: X.outer) := fine.frames.trans (congrArg some stk)
  refine wpAny_Try_except (wpAny_mono ((hb (wNm X.K Wout D l) (X.pn ++ pins) (fun x z => wpAny (model X.prog X.w) X.A (noteFrame x X.env) (fun _ z2 => wpAny (model X.prog X.w) X.A (setFlight x none) (fun _ z3 =>
    wpAny (model X.prog X.w) X.A (handleBy x X.env (h0 :: hl)) (SP X pins D) X.xe z3) X.xe z2) X.xe z) (fun u t0 air => ?_) PassesOwn.looking).run [] s σ H D (I.toTry _) h) (fun f t0 got => ?_) (fun _ _ bad => bad))
  · obtain ⟨ad, gr, sI, pp, st, hp, cls, d, rfl, J1, nb, up, sky, na, os, ag, w⟩ := air
    have J : Inv X pins st hp sI := J1.ofTry fine
    have sky2 : Sky gr (X.env :: X.outer) ad (Zc cls d) X.env.locals t0.heap := stk ▸ sky
    show wpAny (model X.prog X.w) X.A (noteFrame (.ref ad) X.env) _ _ _
    refine Sky.land Zc.steady frs2 fra sky2 fun hA flA upA => ?_
    have JA : Inv X pins st hp { t0 with heap := hA } := J.landed nb flA.1 (up.trans upA) os ag
    obtain ⟨oA, vA, gA, zA, dA⟩ := flA.there
    have off : ad ∉ frs (X.env :: X.outer) := fun mem => by
      obtain ⟨_, o2, g2, bad⟩ := flA.2.2.1.mem mem
      rw [gA] at g2
      cases g2
      exact bad _ dA
    have offL : ad ≠ X.env.locals := fun z => off (List.mem_filterMap.mpr ⟨X.env, List.mem_cons_self, by rw [fra, z]⟩)
    have offF : ad ∉ X.fs := fun mem => by
      obtain ⟨v, hv, z⟩ := List.mem_filterMap.mp mem
      exact off (List.mem_filterMap.mpr ⟨v, List.mem_cons_of_mem _ hv, z⟩)
    have SA := JA.suite gA dA na offL offF
    have all : ∀ {hq : List ExceptHandler} {lq : List Clau}, HdsN X hq lq → wNm X.K Wout D lq cls d st hp → wpAny (model X.prog X.w) X.A (handleBy (.ref ad) X.env hq) (SP X pins D) X.xe { t0 with heap := hA } := by
      intro hq lq k
      induction k with
      | nil =>
        intro w
        refine wpAny_handleBy_nil ?_
        obtain ⟨_, _, _, oe, vs, tb2, _, _, he, _, hd, h1, _⟩ := id flA
        unfold PySem.passOn
        refine wpAny_bind (wpAny_field he hd h1 ?_)
        rw [if_neg (show ¬ ((Value.ref tb2 == Value.none) = true) by simp)]
        have fin : wpAny (model X.prog X.w) X.A (setFlight (.ref ad) X.env.frame) (fun _ z4 => wpAny (model X.prog X.w) X.A (throw (.ref ad) : Sem Flow) (SP X pins D) X.xe z4) X.xe { t0 with heap := hA } := by
          rw [fra]
          refine HandSPX.setFlight_upZ flA fun hB hhB upB => wpAny_throw (tk _ _ ?_)
          exact ⟨ad, gr, sI, pins, st, hp, cls, d, rfl, J, nb, (up.trans upA).trans upB, .inr (.inr (stk ▸ hhB)), na, os, ag, w⟩
        first
          | exact wpAny_bind (wpAny_pure (wpAny_bind fin))
          | exact wpAny_bind fin
      | plain hc hsu r ih =>
        intro w
        obtain ⟨b, hb1, yes, no⟩ := w
        refine wpAny_handleBy_cons (codeAny_handlers_test ?_) (by intro q; cases q)
        have look := PySem.W.exm_one (M := model X.prog X.w) JA.kIn (fun A Q E s k q => wpAny_typeOf_ref (k _ _ gA) (by rw [zA.1]; exact q)) hb1
        refine ask_class hc SA (look.here ?_)
        cases b with
        | false => exact ih (no rfl)
        | true =>
          refine codeAny_handlers_suite (HandSPX.lands_againZ flA fun hB flB upB => ?_)
          have JB : Inv X pins st hp { t0 with heap := hB } := J.landed nb flB.1 ((up.trans upA).trans upB) os ag
          obtain ⟨oB, vB, gB, zB, dB⟩ := flB.there
          refine wpAny_mono ((hsu ad oB cls d (X.pn ++ pins) zB ⟨_, dB⟩).run [] _ _ hp _ (JB.suite gB dB na offL offF) (yes rfl ad na)) (fun f z6 got => ?_) (fun _ _ z => False.elim z)
          cases f with
          | ret u => obtain ⟨v6, st6, hp6, S6, r6, q6⟩ := got; exact ⟨_, _, _, S6.unsuite fine, r6, q6⟩
          | next => obtain ⟨st6, hp6, S6, q6⟩ := got; exact ⟨_, _, S6.unsuite fine, q6⟩
          | brk => obtain ⟨st6, hp6, S6, q6⟩ := got; exact ⟨_, _, S6.unsuite fine, q6⟩
          | cont => obtain ⟨st6, hp6, S6, q6⟩ := got; exact ⟨_, _, S6.unsuite fine, q6⟩
      | @named x n c i ts b0 su np ps hl2 l2 hc hN hi hln hsu r ih =>
        intro w
        obtain ⟨b, hb1, yes, no⟩ := w
        refine wpAny_handleBy_cons (codeAny_handlers_test ?_) (by intro q; cases q)
        have look := PySem.W.exm_one (M := model X.prog X.w) JA.kIn (fun A Q E s k q => wpAny_typeOf_ref (k _ _ gA) (by rw [zA.1]; exact q)) hb1
        refine ask_class hc SA (look.here ?_)
        cases b with
        | false => exact ih (no rfl)
        | true =>
          refine codeAny_handlers_suite_as (HandSPX.lands_againZ flA fun hB flB upB => ?_)
          have JB : Inv X pins st hp { t0 with heap := hB } := J.landed nb flB.1 ((up.trans upA).trans upB) os ag
          obtain ⟨oB, vB, gB, zB, dB⟩ := flB.there
          refine store_ok (X := X.suite ad ((ad, oB) :: (X.pn ++ pins))) (v := .ref ad) (JB.suite gB dB na offL offF) hN hi (.inl hln) rfl (fun z5 S5 => ?_) (.inr hln)
          refine wpAny_mono ((hsu ad oB cls d (X.pn ++ pins) zB ⟨_, dB⟩).run [] z5 _ hp _ S5 (yes rfl ad na)) (fun f z6 got => ?_) (fun _ _ z => False.elim z)
          have gone : ∀ {st6 : L2.St} {hp6 : Hp} {Q : Shared → Prop}, Inv (X.suite ad ((ad, oB) :: (X.pn ++ pins))) [] st6 hp6 z6 → (∀ z7, Inv X pins (st6.set i none) hp6 z7 → Q z7) →
              wpAny (model X.prog X.w) X.A (do bindName X.env n .none; unbindBehindTheSuite X.env n ps) (fun _ z7 => Q z7) X.xe z6 := fun S6 hq => gone_ok (S6.unsuite fine) hN hi hln hq
          cases f with
          | ret u => obtain ⟨v6, st6, hp6, S6, r6, q6⟩ := got; exact gone S6 fun z7 J7 => ⟨_, _, _, J7, r6, q6⟩
          | next => obtain ⟨st6, hp6, S6, q6⟩ := got; exact gone S6 fun z7 J7 => ⟨_, _, J7, q6⟩
          | brk => obtain ⟨st6, hp6, S6, q6⟩ := got; exact gone S6 fun z7 J7 => ⟨_, _, J7, q6⟩
          | cont => obtain ⟨st6, hp6, S6, q6⟩ := got; exact gone S6 fun z7 J7 => ⟨_, _, J7, q6⟩
    exact all hh w
  · cases f with
    | ret u => obtain ⟨v, st, hp, J, r, q⟩ := got; exact ⟨v, st, hp, J.ofTry fine, r, q⟩
    | next => obtain ⟨st, hp, J, q⟩ := got; exact wpAny_execs_nil ⟨st, hp, J.ofTry fine, q⟩
    | brk => obtain ⟨st, hp, J, q⟩ := got; exact ⟨st, hp, J.ofTry fine, q⟩
    | cont => obtain ⟨st, hp, J, q⟩ := got; exact ⟨st, hp, J.ofTry fine, q⟩
/-- isinstance of the error that the suite holds -/
def rIsP (K : PySem.W.Frag) (a : Addr) (cls : Value) (d : Option Addr) : List V → Hp → VK → Prop := fun xs hp Q => ∃ (C : Addr) (c : V) (cv : Value) (b : Bool), xs = [.ref a, c] ∧ cls = .ref C ∧ ExcC K C ∧
  (d = none ∨ ∃ dd fs, d = some dd ∧ hp dd = some (.xd fs)) ∧ ClsV c cv ∧ PySem.W.kitOne K (.ref C) cv = some b ∧ Q (.bl b) hp
theorem call_isP {a : Addr} {oe : Obj} {cls : Value} {d : Option Addr} {pn : List (Addr × Obj)} (hz : Zc cls d oe) (hf : ∃ vs, oe.data = .fields vs) : CallR (X.suite a ((a, oe) :: pn)) (.builtin "isinstance") (rIsP X.K a cls d) := by
  intro pins s σ H xs us Q I r h
  obtain ⟨C, c, cv, b, rfl, rfl, T, hd, k, hk, q⟩ := h
  obtain ⟨u1, u2, rfl, r1, r2⟩ := vals2 r
  obtain rfl := k.eq r2
  cases (show u1 = Value.ref a from r1)
  obtain ⟨got, _⟩ := I.pin (a, oe) (List.mem_append_left _ List.mem_cons_self)
  obtain ⟨vs, hv⟩ := hf
  have J : ∃ od, PySem.W.InstAt s.heap a oe C od := by
    rcases hd with rfl | ⟨dd, fs, rfl, e⟩
    · exact ⟨none, got, hz.1, by unfold PySem.W.notCls; rw [hv] <;> rfl, by rw [hz.2]; trivial⟩
    · have hx : ObjOk X.prog X.w H s.heap dd (.xd fs) := I.hok dd _ e
      obtain ⟨mA, hns, _⟩ := hx
      obtain ⟨od, ho, _⟩ := lookIn_ns hns
      exact ⟨some od, got, hz.1, by unfold PySem.W.notCls; rw [hv] <;> rfl, by rw [hz.2]; exact ho⟩
  obtain ⟨od, J⟩ := J
  obtain ⟨cd, hcd, _⟩ := PySem.W.any_some T.hd
  exact PySem.W.kia_one (PySem.W.kitx_exc (by rw [hcd]; rfl) T.hg T.hk T.hs T.ha T.hn T.ht T.hm) I.kIn J hk (fun z => nomatch z) fun tk => ⟨.bl b, H, I.tok tk, rfl, q⟩
/-- an own error without a constructor, made to be raised -/
theorem pmk_ex0 {x : Str} {C : Addr} {p pos : Pos} (H0 : Hp) (e0 : X.H_0 = H0) (hx : X.ex = []) (T : OexC X.K C) (q : PySem.W.excIn X.K C [.type "ValueError", .type "Exception", .type "BaseException", .type "object"] "ValueError.__new__" = true) (hg : Gl X x) (hm : X.mg x = some (.ref C))
    (hdb : (x == ("__debug__" : Str)) = false := by decide) : PMk X (.Call (.Name x p) [] [] pos) (fun st hp Q => (∀ a, hp a = none → H0 a = none) ∧ Q (.ref C) none hp) := by
  have he : PE X (.Call (.Name x p) [] [] pos) (fun _ hp Q => ∀ a, hp a = none → Q (.ref a) (upd hp a (ExO (.ref C) a))) := by
    refine ⟨fun pins s σ H Q I h => ?_⟩
    refine wpAny_Call_Name_kw (ld_glob I hg hm ?_ hdb)
    refine PySem.W.callWith_K0 I.kIn T.kC ?_
    obtain ⟨h0, g, dr, tk, os⟩ := s
    obtain ⟨bm, N, nm, qn, bs, hdct, sn, sub, ab, col, dd, k0, k1, k2, k3, k5, mN, hC, hN, hni, Tl⟩ := exc_obj I.kIn q
    refine wpAny_call_exc_subT F.excBase_ValueError Tl hC hN hni (fun h' a hm => ?_) (by show 0 ≤ sizeLine; exact Nat.zero_le _)
    have hn : H a = none := I.hok.gone hm.new
    obtain ⟨t, ht, _, _⟩ := hm.there
    exact ⟨.ref a, upd H a (ExO (.ref C) a), I.laidN hm.keeps hm.new hn (exO_ok ht ⟨rfl, rfl⟩ rfl rfl rfl (show 4 < 6 by decide)), rfl, h a hn⟩
  intro pins s σ H Q I h
  obtain ⟨h0, hq⟩ := h
  refine pmk_ret hx he pins s σ H Q I fun a na => ⟨a, .ref C, rfl, upd_same, fr0_none (by rw [e0]; exact h0 a na), raises_own T.exC T.tyC, ?_⟩
  rw [delH_new na]
  exact hq
end
end FX
set_option Elab.async false
set_option linter.all false
set_option maxHeartbeats 4000000
/-! ratios as couples of ints, without the program -/
namespace RM
abbrev Rt := Int × Int
def g2 (t b : Int) : Int := ((Nat.gcd t.natAbs b.natAbs : Nat) : Int)
/-- lowest terms, for a bottom above 0 -/
def norm (t b : Int) : Rt := (t / g2 t b, b / g2 t b)
def IsRat (r : Rt) : Prop := 0 < r.2 ∧ Nat.gcd r.1.natAbs r.2.natAbs = 1
/-- r is t / b -/
def Rep (r : Rt) (t b : Int) : Prop := IsRat r ∧ 0 < b ∧ r.1 * b = t * r.2
theorem g2_pos {t b : Int} (hb : b ≠ 0) : 0 < g2 t b := by
  have : 0 < Nat.gcd t.natAbs b.natAbs := Nat.gcd_pos_of_pos_right _ (by omega)
  unfold g2; omega
theorem g2_pos' {t b : Int} (hb : t ≠ 0) : 0 < g2 t b := by
  have : 0 < Nat.gcd t.natAbs b.natAbs := Nat.gcd_pos_of_pos_left _ (by omega)
  unfold g2; omega
theorem g2_l (t b : Int) : ∃ k, t = g2 t b * k := by
  have h : ((Nat.gcd t.natAbs b.natAbs : Nat) : Int) ∣ t := Int.natAbs_dvd_natAbs.mp (by rw [Int.natAbs_natCast]; exact Nat.gcd_dvd_left _ _)
  exact h
theorem g2_r (t b : Int) : ∃ k, b = g2 t b * k := by
  have h : ((Nat.gcd t.natAbs b.natAbs : Nat) : Int) ∣ b := Int.natAbs_dvd_natAbs.mp (by rw [Int.natAbs_natCast]; exact Nat.gcd_dvd_right _ _)
  exact h
/-- both parts taken out -/
theorem g2_parts {t b : Int} (h : t ≠ 0 ∨ b ≠ 0) : ∃ x y, t = g2 t b * x ∧ b = g2 t b * y ∧ t / g2 t b = x ∧ b / g2 t b = y ∧ Nat.gcd x.natAbs y.natAbs = 1 := by
  have gp : 0 < g2 t b := by
    rcases h with h | h
    · exact g2_pos' h
    · exact g2_pos h
  obtain ⟨x, hx⟩ := g2_l t b
  obtain ⟨y, hy⟩ := g2_r t b
  have gn : g2 t b ≠ 0 := by omega
  refine ⟨x, y, hx, hy, Int.ediv_eq_of_eq_mul_right gn hx, Int.ediv_eq_of_eq_mul_right gn hy, ?_⟩
  have e : (g2 t b).natAbs = Nat.gcd t.natAbs b.natAbs := by unfold g2; exact Int.natAbs_natCast _
  have ex : t.natAbs = (g2 t b).natAbs * x.natAbs := by rw [← Int.natAbs_mul, ← hx]
  have ey : b.natAbs = (g2 t b).natAbs * y.natAbs := by rw [← Int.natAbs_mul, ← hy]
  have k : (g2 t b).natAbs = (g2 t b).natAbs * Nat.gcd x.natAbs y.natAbs := by
    rw [← Nat.gcd_mul_left, ← ex, ← ey]; exact e
  have gp2 : 0 < (g2 t b).natAbs := by omega
  exact Nat.eq_of_mul_eq_mul_left gp2 (by rw [Nat.mul_one]; exact k.symm)
theorem rep_norm {t b : Int} (hb : 0 < b) : Rep (norm t b) t b := by
  obtain ⟨x, y, hx, hy, dx, dy, c⟩ := g2_parts (t := t) (b := b) (.inr (by omega))
  have gp : 0 < g2 t b := g2_pos (by omega)
  unfold norm
  rw [dx, dy]
  refine ⟨⟨?_, c⟩, hb, ?_⟩
  · show 0 < y
    have z : 0 < g2 t b * y := hy ▸ hb
    exact (by
      rcases Int.lt_trichotomy 0 y with h | h | h
      · exact h
      · rw [← h, Int.mul_zero] at z; omega
      · have := Int.mul_neg_of_pos_of_neg gp h; omega)
  · show x * b = t * y
    have e1 : x * b = x * (g2 t b * y) := congrArg (x * ·) hy
    have e2 : t * y = (g2 t b * x) * y := congrArg (· * y) hx
    rw [e1, e2]; grind
theorem rep_self {r : Rt} (h : IsRat r) : Rep r r.1 r.2 := ⟨h, h.1, rfl⟩
theorem rat_eq {r s : Rt} (h : IsRat r) (k : IsRat s) (e : r.1 * s.2 = s.1 * r.2) : r = s := by
  obtain ⟨a, b⟩ := r
  obtain ⟨c, d⟩ := s
  obtain ⟨hb, h1⟩ := h
  obtain ⟨hd, k1⟩ := k
  dsimp only at *
  have en : a.natAbs * d.natAbs = c.natAbs * b.natAbs := by rw [← Int.natAbs_mul, ← Int.natAbs_mul, e]
  have bd : b.natAbs ∣ d.natAbs := by
    have : b.natAbs ∣ a.natAbs * d.natAbs := ⟨c.natAbs, by rw [en, Nat.mul_comm]⟩
    exact Nat.Coprime.dvd_of_dvd_mul_left (by rw [Nat.coprime_iff_gcd_eq_one, Nat.gcd_comm]; exact h1) this
  have db : d.natAbs ∣ b.natAbs := by
    have : d.natAbs ∣ c.natAbs * b.natAbs := ⟨a.natAbs, by rw [← en, Nat.mul_comm]⟩
    exact Nat.Coprime.dvd_of_dvd_mul_left (by rw [Nat.coprime_iff_gcd_eq_one, Nat.gcd_comm]; exact k1) this
  have e2 : b.natAbs = d.natAbs := Nat.dvd_antisymm bd db
  have e3 : b = d := by omega
  subst e3
  have e4 : a = c := Int.eq_of_mul_eq_mul_right (by omega) e
  rw [e4]
theorem rep_eq {r s : Rt} {t b t' b' : Int} (h : Rep r t b) (k : Rep s t' b') (e : t * b' = t' * b) : r = s := by
  obtain ⟨h1, hb, h2⟩ := h
  obtain ⟨k1, kb, k2⟩ := k
  refine rat_eq h1 k1 ?_
  have nz : b * b' ≠ 0 := by
    have : 0 < b * b' := Int.mul_pos hb kb
    omega
  refine Int.eq_of_mul_eq_mul_right nz ?_
  have e1 : r.1 * s.2 * (b * b') = (r.1 * b) * (s.2 * b') := by grind
  have e2 : s.1 * r.2 * (b * b') = (s.1 * b') * (r.2 * b) := by grind
  rw [e1, e2, h2, k2]
  have e3 : t * r.2 * (s.2 * b') = (t * b') * (r.2 * s.2) := by grind
  have e4 : t' * s.2 * (r.2 * b) = (t' * b) * (r.2 * s.2) := by grind
  rw [e3, e4, e]
theorem norm_of {r : Rt} {t b : Int} (h : Rep r t b) : norm t b = r := rep_eq (rep_norm h.2.1) h rfl
theorem norm_eq {t b t' b' : Int} (h : 0 < b) (k : 0 < b') (e : t * b' = t' * b) : norm t b = norm t' b' := rep_eq (rep_norm h) (rep_norm k) e
theorem norm_rat {t b : Int} (h : 0 < b) : IsRat (norm t b) := (rep_norm h).1
def radd (r s : Rt) : Rt := norm (r.1 * s.2 + s.1 * r.2) (r.2 * s.2)
def rneg (r : Rt) : Rt := (-r.1, r.2)
def rsub (r s : Rt) : Rt := norm (r.1 * s.2 - s.1 * r.2) (r.2 * s.2)
def rmul (r s : Rt) : Rt := norm (r.1 * s.1) (r.2 * s.2)
theorem rep_add {r s : Rt} {t b t' b' : Int} (h : Rep r t b) (k : Rep s t' b') : Rep (radd r s) (t * b' + t' * b) (b * b') := by
  obtain ⟨h1, hb, h2⟩ := h
  obtain ⟨k1, kb, k2⟩ := k
  have z := rep_norm (t := r.1 * s.2 + s.1 * r.2) (Int.mul_pos h1.1 k1.1)
  have pp : 0 < r.2 * s.2 := Int.mul_pos h1.1 k1.1
  refine ⟨z.1, Int.mul_pos hb kb, ?_⟩
  have nz : r.2 * s.2 ≠ 0 := by omega
  refine Int.eq_of_mul_eq_mul_right nz ?_
  have e := z.2.2
  show (norm (r.1 * s.2 + s.1 * r.2) (r.2 * s.2)).1 * (b * b') * (r.2 * s.2) = (t * b' + t' * b) * (norm (r.1 * s.2 + s.1 * r.2) (r.2 * s.2)).2 * (r.2 * s.2)
  generalize norm (r.1 * s.2 + s.1 * r.2) (r.2 * s.2) = n at e ⊢
  have e1 : n.1 * (b * b') * (r.2 * s.2) = (n.1 * (r.2 * s.2)) * (b * b') := by grind
  have e2 : (t * b' + t' * b) * n.2 * (r.2 * s.2) = ((t * r.2) * (s.2 * b') + (t' * s.2) * (r.2 * b)) * n.2 := by grind
  rw [e1, e2, e, ← h2, ← k2]; grind
theorem rep_neg {r : Rt} {t b : Int} (h : Rep r t b) : Rep (rneg r) (-t) b := by
  obtain ⟨⟨h0, h1⟩, hb, h2⟩ := h
  refine ⟨⟨h0, ?_⟩, hb, ?_⟩
  · show Nat.gcd (-r.1).natAbs r.2.natAbs = 1
    rw [Int.natAbs_neg]; exact h1
  · show -r.1 * b = -t * r.2
    rw [Int.neg_mul, Int.neg_mul, h2]
theorem rsub_eq (r s : Rt) : rsub r s = radd r (rneg s) := by
  unfold rsub radd rneg
  have : r.1 * s.2 - s.1 * r.2 = r.1 * s.2 + -s.1 * r.2 := by grind
  rw [this]
theorem rep_sub {r s : Rt} {t b t' b' : Int} (h : Rep r t b) (k : Rep s t' b') : Rep (rsub r s) (t * b' - t' * b) (b * b') := by
  rw [rsub_eq]
  have z := rep_add h (rep_neg k)
  have e : t * b' - t' * b = t * b' + -t' * b := by grind
  rw [e]; exact z
theorem rep_mul {r s : Rt} {t b t' b' : Int} (h : Rep r t b) (k : Rep s t' b') : Rep (rmul r s) (t * t') (b * b') := by
  obtain ⟨h1, hb, h2⟩ := h
  obtain ⟨k1, kb, k2⟩ := k
  have z := rep_norm (t := r.1 * s.1) (Int.mul_pos h1.1 k1.1)
  have pp : 0 < r.2 * s.2 := Int.mul_pos h1.1 k1.1
  refine ⟨z.1, Int.mul_pos hb kb, ?_⟩
  have nz : r.2 * s.2 ≠ 0 := by omega
  refine Int.eq_of_mul_eq_mul_right nz ?_
  have e := z.2.2
  show (norm (r.1 * s.1) (r.2 * s.2)).1 * (b * b') * (r.2 * s.2) = (t * t') * (norm (r.1 * s.1) (r.2 * s.2)).2 * (r.2 * s.2)
  generalize norm (r.1 * s.1) (r.2 * s.2) = n at e ⊢
  have e1 : n.1 * (b * b') * (r.2 * s.2) = (n.1 * (r.2 * s.2)) * (b * b') := by grind
  have e2 : (t * t') * n.2 * (r.2 * s.2) = ((t * r.2) * (t' * s.2)) * n.2 := by grind
  rw [e1, e2, e, ← h2, ← k2]; grind
/-! sizes -/
def Sz (n : Nat) (x : Int) : Prop := x.natAbs < 2 ^ n
theorem sz_mono {n m : Nat} {x : Int} (h : Sz n x) (k : n ≤ m) : Sz m x := Nat.lt_of_lt_of_le h (Nat.pow_le_pow_right (by decide) k)
theorem sz_neg {n : Nat} {x : Int} (h : Sz n x) : Sz n (-x) := by unfold Sz; rw [Int.natAbs_neg]; exact h
theorem sz_mul {n m : Nat} {x y : Int} (h : Sz n x) (k : Sz m y) : Sz (n + m) (x * y) := by
  unfold Sz
  rw [Int.natAbs_mul, Nat.pow_add]
  exact Nat.mul_lt_mul'' h k
theorem sz_add {n : Nat} {x y : Int} (h : Sz n x) (k : Sz n y) : Sz (n + 1) (x + y) := by
  unfold Sz at *
  have := Int.natAbs_add_le x y
  rw [Nat.pow_succ]; omega
theorem sz_sub {n : Nat} {x y : Int} (h : Sz n x) (k : Sz n y) : Sz (n + 1) (x - y) := by
  rw [Int.sub_eq_add_neg]; exact sz_add h (sz_neg k)
theorem sz_div {n : Nat} {t b : Int} (hb : t ≠ 0 ∨ b ≠ 0) (h : Sz n t) : Sz n (t / g2 t b) := by
  obtain ⟨x, y, hx, hy, dx, dy, c⟩ := g2_parts hb
  rw [dx]
  refine Nat.lt_of_le_of_lt ?_ h
  have e : t.natAbs = (g2 t b).natAbs * x.natAbs := by rw [← Int.natAbs_mul, ← hx]
  have gp : 0 < (g2 t b).natAbs := by
    rcases hb with z | z
    · have := g2_pos' (b := b) z; omega
    · have := g2_pos (t := t) z; omega
  rw [e]
  exact Nat.le_mul_of_pos_left _ gp
theorem sz_div' {n : Nat} {t b : Int} (hb : t ≠ 0 ∨ b ≠ 0) (h : Sz n b) : Sz n (b / g2 t b) := by
  obtain ⟨x, y, hx, hy, dx, dy, c⟩ := g2_parts hb
  rw [dy]
  refine Nat.lt_of_le_of_lt ?_ h
  have e : b.natAbs = (g2 t b).natAbs * y.natAbs := by rw [← Int.natAbs_mul, ← hy]
  have gp : 0 < (g2 t b).natAbs := by
    rcases hb with z | z
    · have := g2_pos' (b := b) z; omega
    · have := g2_pos (t := t) z; omega
  rw [e]
  exact Nat.le_mul_of_pos_left _ gp
theorem sz_g {n : Nat} {t b : Int} (hb : b ≠ 0) (h : Sz n b) : Sz n (g2 t b) := by
  refine Nat.lt_of_le_of_lt ?_ h
  unfold g2
  rw [Int.natAbs_natCast]
  exact Nat.gcd_le_right _ (by omega)
def SzR (n : Nat) (r : Rt) : Prop := Sz n r.1 ∧ Sz n r.2
theorem szr_mono {n m : Nat} {r : Rt} (h : SzR n r) (k : n ≤ m) : SzR m r := ⟨sz_mono h.1 k, sz_mono h.2 k⟩
theorem szr_norm {n : Nat} {t b : Int} (hb : 0 < b) (h : Sz n t) (k : Sz n b) : SzR n (norm t b) := ⟨sz_div (.inr (by omega)) h, sz_div' (.inr (by omega)) k⟩
theorem szr_add {n m : Nat} {r s : Rt} (hr : IsRat r) (hs : IsRat s) (h : SzR n r) (k : SzR m s) : SzR (n + m + 1) (radd r s) :=
  szr_norm (Int.mul_pos hr.1 hs.1) (sz_add (sz_mul h.1 k.2) (by rw [Nat.add_comm]; exact sz_mul k.1 h.2)) (sz_mono (sz_mul h.2 k.2) (Nat.le_succ _))
theorem szr_neg {n : Nat} {r : Rt} (h : SzR n r) : SzR n (rneg r) := ⟨sz_neg h.1, h.2⟩
theorem rat_neg {r : Rt} (h : IsRat r) : IsRat (rneg r) := ⟨h.1, by show Nat.gcd (-r.1).natAbs r.2.natAbs = 1; rw [Int.natAbs_neg]; exact h.2⟩
theorem szr_sub {n m : Nat} {r s : Rt} (hr : IsRat r) (hs : IsRat s) (h : SzR n r) (k : SzR m s) : SzR (n + m + 1) (rsub r s) := by
  rw [rsub_eq]; exact szr_add hr (rat_neg hs) h (szr_neg k)
theorem szr_mul {n m : Nat} {r s : Rt} (hr : IsRat r) (hs : IsRat s) (h : SzR n r) (k : SzR m s) : SzR (n + m) (rmul r s) :=
  szr_norm (Int.mul_pos hr.1 hs.1) (sz_mul h.1 k.1) (sz_mul h.2 k.2)
theorem rat_add {r s : Rt} (hr : IsRat r) (hs : IsRat s) : IsRat (radd r s) := norm_rat (Int.mul_pos hr.1 hs.1)
theorem rat_sub {r s : Rt} (hr : IsRat r) (hs : IsRat s) : IsRat (rsub r s) := norm_rat (Int.mul_pos hr.1 hs.1)
theorem rat_mul {r s : Rt} (hr : IsRat r) (hs : IsRat s) : IsRat (rmul r s) := norm_rat (Int.mul_pos hr.1 hs.1)
theorem rat_zero : IsRat (0, 1) := ⟨by decide, by decide⟩
theorem rat_one : IsRat (1, 1) := ⟨by decide, by decide⟩
end RM
set_option Elab.async false
set_option linter.all false
set_option maxRecDepth 100000
set_option maxHeartbeats 4000000
/-! data that does not change: what is known of it stays; defs by their names -/
namespace PB
open PySem PySem.Spec PyProof.Rows L2 FX RM
theorem same_t {K : PySem.W.Frag} {H H' : Hp} {a : Addr} {xs : List V} (s : Same H H') (h : SqT K H a xs) : SqT K H' a xs := by
  rcases h with (h | ⟨o, h⟩) | h
  · exact .inl (.inl (s _ _ h))
  · exact .inl (.inr ⟨o, s _ _ h⟩)
  · exact .inr h
mutual
theorem Dp_same {K : PySem.W.Frag} {H H' : Hp} (s : Same H H') : ∀ {v : V} {d : PyData}, Dp K H v d → Dp K H' v d
  | _, _, .non => .non
  | _, _, .bl b => .bl b
  | _, _, .int i => .int i
  | _, _, .str x => .str x
  | _, _, .lst h g => .lst (s.seq h) (DpAll_same s g)
  | _, _, .tup h g => .tup (same_t s h) (DpAll_same s g)
theorem DpAll_same {K : PySem.W.Frag} {H H' : Hp} (s : Same H H') : ∀ {vs : List V} {ds : List PyData}, DpAll K H vs ds → DpAll K H' vs ds
  | _, _, .nil => .nil
  | _, _, .cons h g => .cons (Dp_same s h) (DpAll_same s g)
end
theorem same_new {H : Hp} {p : Addr} {o : HO} (h : H p = none) : Same H (upd H p o) := fun b x e => by
  rw [upd_ne (ne_of_none e h)]; exact e
def rD (r : Rt) : PyData := .tuple [.int r.1, .int r.2]
def pD (p : Rt × Rt) : PyData := .tuple [rD p.1, rD p.2]
def plD (p : Rt × Rt) : PyData := .list [rD p.1, rD p.2]
section
variable {K : PySem.W.Frag} {H H' : Hp} {v : V}
theorem dp_int {i : Int} (h : Dp K H v (.int i)) : v = .int i := by cases h; rfl
theorem dpa2 {vs : List V} {a b : PyData} (h : DpAll K H vs [a, b]) : ∃ x y, vs = [x, y] ∧ Dp K H x a ∧ Dp K H y b := by
  cases h with
  | cons h1 h => cases h with
    | cons h2 h => cases h with
      | nil => exact ⟨_, _, rfl, h1, h2⟩
theorem dp_t2 {a b : PyData} (h : Dp K H v (.tuple [a, b])) : ∃ p x y, v = .ref p ∧ SqT K H p [x, y] ∧ Dp K H x a ∧ Dp K H y b := by
  cases h with
  | tup h g =>
    obtain ⟨x, y, rfl, h1, h2⟩ := dpa2 g
    exact ⟨_, x, y, rfl, h, h1, h2⟩
theorem dp_l2 {a b : PyData} (h : Dp K H v (.list [a, b])) : ∃ p x y, v = .ref p ∧ SqL K H p [x, y] ∧ Dp K H x a ∧ Dp K H y b := by
  cases h with
  | lst h g =>
    obtain ⟨x, y, rfl, h1, h2⟩ := dpa2 g
    exact ⟨_, x, y, rfl, h, h1, h2⟩
theorem dp_r {r : Rt} (h : Dp K H v (rD r)) : ∃ p, v = .ref p ∧ SqT K H p [.int r.1, .int r.2] := by
  obtain ⟨p, x, y, rfl, hs, h1, h2⟩ := dp_t2 h
  rw [dp_int h1, dp_int h2] at hs
  exact ⟨p, rfl, hs⟩
theorem dp_mk2 {p : Addr} {x y : V} {a b : PyData} (hn : H p = none) (h1 : Dp K H x a) (h2 : Dp K H y b) : Dp K (upd H p (.tup [x, y])) (.ref p) (.tuple [a, b]) :=
  .tup (.inl (.inl upd_same)) (.cons (Dp_same (same_new hn) h1) (.cons (Dp_same (same_new hn) h2) .nil))
theorem dp_mkr {p : Addr} {a b : Int} (hn : H p = none) : Dp K (upd H p (.tup [.int a, .int b])) (.ref p) (rD (a, b)) := dp_mk2 hn (.int a) (.int b)
/-- a couple, a list or a tuple -/
def Cou (K : PySem.W.Frag) (H : Hp) (v : V) (x y : V) : Prop := ∃ p, v = .ref p ∧ (SqT K H p [x, y] ∨ SqL K H p [x, y])
theorem Cou.same {x y : V} (h : Cou K H v x y) (s : Same H H') : Cou K H' v x y := by
  obtain ⟨p, e, h | h⟩ := h
  · exact ⟨p, e, .inl (same_t s h)⟩
  · exact ⟨p, e, .inr (s.seq h)⟩
/-- a place or a step -/
def Pla (K : PySem.W.Frag) (H : Hp) (v : V) (p : Rt × Rt) : Prop := ∃ x y, Cou K H v x y ∧ Dp K H x (rD p.1) ∧ Dp K H y (rD p.2)
theorem Pla.same {p : Rt × Rt} (h : Pla K H v p) (s : Same H H') : Pla K H' v p := by
  obtain ⟨x, y, c, h1, h2⟩ := h
  exact ⟨x, y, c.same s, Dp_same s h1, Dp_same s h2⟩
theorem pla_t {p : Rt × Rt} (h : Dp K H v (pD p)) : Pla K H v p := by
  obtain ⟨a, x, y, rfl, hs, h1, h2⟩ := dp_t2 h
  exact ⟨x, y, ⟨a, rfl, .inl hs⟩, h1, h2⟩
theorem pla_l {p : Rt × Rt} (h : Dp K H v (plD p)) : Pla K H v p := by
  obtain ⟨a, x, y, rfl, hs, h1, h2⟩ := dp_l2 h
  exact ⟨x, y, ⟨a, rfl, .inr hs⟩, h1, h2⟩
/-- a direction -/
def Dir (K : PySem.W.Frag) (H : Hp) (v : V) (d : Int × Int) : Prop := Cou K H v (.int d.1) (.int d.2)
theorem dir_t {d : Int × Int} (h : Dp K H v (rD d)) : Dir K H v d := by
  obtain ⟨p, rfl, hs⟩ := dp_r h
  exact ⟨p, rfl, .inl hs⟩
end
/-! items and couples taken apart -/
section
variable {X : Cx}
/-- c[i] of a couple, a list or a tuple -/
def rIt (K : PySem.W.Frag) : L2.R2 := fun v y H Q => ∃ (x0 x1 : V) (i : Nat) (z : V), y = .int i ∧ Cou K H v x0 x1 ∧ [x0, x1][i]? = some z ∧ Q z H
theorem ix_it : IxR X (rIt X.K) := by
  intro value slice pins s σ H x y v u Q I rx ry h hs
  obtain ⟨x0, x1, i, z, rfl, ⟨p, rfl, c | c⟩, e, q⟩ := h
  · exact ix_tup value slice pins s σ H _ _ v u Q I rx ry ⟨p, _, _, _, rfl, rfl, c, atI_nat e, q⟩ hs
  · exact ix_list value slice pins s σ H _ _ v u Q I rx ry ⟨p, _, _, _, rfl, rfl, c, atI_nat e, q⟩ hs
theorem ix_itK (K : PySem.W.Frag) (e : X.K = K := by rfl) : IxR X (rIt K) := e ▸ ix_it
/-- x, y = c -/
def gCou (K : PySem.W.Frag) (t : TGs) : TG := fun v σ H Q => ∃ x y, Cou K H v x y ∧ t [x, y] σ H Q
theorem pg_cou {a b : Expr} {k : Nat} {t : TGs} {pos : Pos} (hc : X.calm = true) (h : PGs X [a, b] t) (hn : (assignEach [a, b] X.env).length = 2 := by rfl) (hst : (assignEach [a, b] X.env).findIdx? (·.1) = none := by rfl) : PG X (.Tuple [a, b] k pos) (gCou X.K t) := by
  have h1 := pg_tup (k := k) (pos := pos) hc h hn hst
  have h2 := pg_unl (k := k) (pos := pos) hc h hn hst
  refine ⟨fun pins s σ H v u Q I r q => ?_⟩
  obtain ⟨x, y, ⟨p, rfl, c | c⟩, q⟩ := q
  · exact h1.run pins s σ H _ u Q I r ⟨p, _, rfl, c, rfl, q⟩
  · exact h2.run pins s σ H _ u Q I r ⟨p, _, rfl, c, rfl, q⟩
end
/-! comprehensions over a list or a tuple -/
mutual
def noL : PyData → Bool
  | .list _ => false
  | .dict _ => false
  | .tuple xs => noLs xs
  | .none => true
  | .bool _ => true
  | .int _ => true
  | .str _ => true
def noLs : List PyData → Bool
  | [] => true
  | x :: xs => noL x && noLs xs
end
mutual
theorem Dp_but {K : PySem.W.Frag} {H H' : Hp} {p : Addr} {ys : List V} (hp : H p = some (.lst ys)) (s : ∀ b o, b ≠ p → H b = some o → H' b = some o) : ∀ {v : V} {d : PyData}, noL d = true → Dp K H v d → Dp K H' v d
  | _, _, _, .non => .non
  | _, _, _, .bl b => .bl b
  | _, _, _, .int i => .int i
  | _, _, _, .str x => .str x
  | _, _, n, .lst _ _ => by simp [noL] at n
  | _, _, n, .tup (a := a) h g => by
    have n2 := n
    simp only [noL] at n2
    refine .tup ?_ (DpAll_but hp s n2 g)
    rcases h with (h | ⟨o, h⟩) | h
    · exact .inl (.inl (s _ _ (fun e => by rw [e, hp] at h; cases h) h))
    · exact .inl (.inr ⟨o, s _ _ (fun e => by rw [e, hp] at h; cases h) h⟩)
    · exact .inr h
theorem DpAll_but {K : PySem.W.Frag} {H H' : Hp} {p : Addr} {ys : List V} (hp : H p = some (.lst ys)) (s : ∀ b o, b ≠ p → H b = some o → H' b = some o) : ∀ {vs : List V} {ds : List PyData}, noLs ds = true → DpAll K H vs ds → DpAll K H' vs ds
  | _, _, _, .nil => .nil
  | _, _, n, .cons h g => by
    have n2 := n
    simp only [noLs, Bool.and_eq_true] at n2
    exact .cons (Dp_but hp s n2.1 h) (DpAll_but hp s n2.2 g)
end
theorem noLs_all : ∀ {ds : List PyData}, (∀ d ∈ ds, noL d = true) → noLs ds = true
  | [], _ => by simp [noLs]
  | d :: ds, h => by simp [noLs, h d (List.mem_cons_self ..), noLs_all fun x hx => h x (List.mem_cons_of_mem _ hx)]
theorem DpAll_snoc {K : PySem.W.Frag} {H : Hp} {v : V} {d : PyData} (h : Dp K H v d) : ∀ {vs : List V} {ds : List PyData}, DpAll K H vs ds → DpAll K H (vs ++ [v]) (ds ++ [d])
  | _, _, .nil => .cons h .nil
  | _, _, .cons a b => .cons a (DpAll_snoc h b)
theorem DpAll_len {K : PySem.W.Frag} {H : Hp} : ∀ {vs : List V} {ds : List PyData}, DpAll K H vs ds → vs.length = ds.length
  | _, _, .nil => rfl
  | _, _, .cons _ b => congrArg (· + 1) (DpAll_len b)
theorem DpAll_at {K : PySem.W.Frag} {H : Hp} : ∀ {vs : List V} {ds : List PyData} {i : Nat} {v : V}, DpAll K H vs ds → vs[i]? = some v → ∃ d, ds[i]? = some d ∧ Dp K H v d
  | _, _, _, _, .nil, e => by cases e
  | _, _, 0, _, .cons a _, e => by cases e; exact ⟨_, rfl, a⟩
  | _, _, i + 1, _, .cons _ b, e => DpAll_at (i := i) b e
theorem DpAll_at' {K : PySem.W.Frag} {H : Hp} : ∀ {vs : List V} {ds : List PyData} {i : Nat} {d : PyData}, DpAll K H vs ds → ds[i]? = some d → ∃ v, vs[i]? = some v ∧ Dp K H v d
  | _, _, _, _, .nil, e => by cases e
  | _, _, 0, _, .cons a _, e => by cases e; exact ⟨_, rfl, a⟩
  | _, _, i + 1, _, .cons _ b, e => DpAll_at' (i := i) b e
def iSeq (K : PySem.W.Frag) (tl : TE) : TI := fun σ H R => iList K tl σ H R ∨ iTup K tl σ H R
section
variable {X : Cx}
theorem pi_seq {tg l : Expr} {tl : TE} (hl : PE X l tl) : PI X tg l (iSeq X.K tl) := ⟨fun pins s σ H R I h => h.elim (fun z => (pi_list (tg := tg) hl).run pins s σ H R I z) fun z => (pi_tup (tg := tg) hl).run pins s σ H R I z⟩
end
/-- [e for x in seq], each e some data that holds no list -/
theorem lc_map {K : PySem.W.Frag} {a : Addr} {xs : List V} {j : Nat} {g : TG} {te : TE} {vs : List Nat} {σ : L2.St} {H : Hp} {Q : VK} (f : Nat → PyData) (hn : ∀ i, noL (f i) = true) (hj : σ[j]? = some (some (.ref a))) (h0 : SqL K H a xs ∨ SqT K H a xs) (hz : xs.length < sizeLine)
    (hs : ∀ i x H' (R : V → Hp → Prop), xs[i]? = some x → Same H H' → (∀ y H4, Same H' H4 → Dp K H4 y (f i) → R y H4) → g x (wipe σ vs) H' fun σ2 H2 => wipe σ2 vs = wipe σ vs ∧ te σ2 H2 R)
    (hd : ∀ D H' ys, Same H H' → H D = none → H' D = some (.lst ys) → DpAll K H' ys ((List.range xs.length).map f) → Q (.ref D) H') : tLc (iSeq K (tVar j)) g tYes te vs σ H Q := by
  have main : ∀ D, H D = none → ∃ Pv : Nat → Hp → Prop, Pv 0 (upd H D (.lst [])) ∧ (∀ i H', Pv i H' → Same H H') ∧ (∀ i x H', xs[i]? = some x → Pv i H' → g x (wipe σ vs) H' fun σ2 H2 => wipe σ2 vs = wipe σ vs ∧ tYes σ2 H2 fun b H3 =>
      if b = true then te σ2 H3 fun y H4 => ∃ acc, H4 D = some (.lst acc) ∧ acc.length < sizeLine ∧ Pv (i + 1) (upd H4 D (.lst (acc ++ [y]))) else Pv (i + 1) H3) ∧ (∀ H', Pv xs.length H' → Q (.ref D) H') := by
    intro D nD
    refine ⟨fun i H' => Same H H' ∧ ∃ ys, H' D = some (.lst ys) ∧ ys.length = i ∧ DpAll K H' ys ((List.range i).map f), ⟨same_new nD, [], upd_same, rfl, .nil⟩, fun i H' h => h.1, ?_, ?_⟩
    · rintro i x H' hi ⟨s1, ys, hD, yl, hy⟩
      have il := (List.getElem?_eq_some_iff.mp hi).1
      refine hs i x H' _ hi s1 fun y H4 s4 h4 => ⟨ys, s4 _ _ hD, by omega, ?_, ys ++ [y], upd_same, by rw [List.length_append, yl]; rfl, ?_⟩
      · intro b o e
        rw [upd_ne (ne_of_none e nD)]; exact s4 _ _ (s1 _ _ e)
      · rw [List.range_succ, List.map_append]
        have sb : ∀ b o, b ≠ D → H4 b = some o → (upd H4 D (.lst (ys ++ [y]))) b = some o := fun b o n e => by rw [upd_ne n]; exact e
        refine DpAll_but (s4 _ _ hD) sb ?_ (DpAll_snoc h4 (DpAll_same s4 hy))
        refine noLs_all fun d hd => ?_
        rcases List.mem_append.mp hd with hd | hd
        · obtain ⟨k, _, rfl⟩ := List.mem_map.mp hd; exact hn k
        · rw [List.mem_singleton.mp hd]; exact hn i
    · rintro H' ⟨s1, ys, hD, yl, hy⟩
      exact hd D H' ys s1 nD hD hy
  rcases h0 with h0 | h0
  · refine .inl ⟨_, hj, a, rfl, ⟨_, h0⟩, fun D nD => ?_⟩
    obtain ⟨Pv, p0, p1, p2, p3⟩ := main D nD
    exact lc_list (K := K) (a := a) (xs := xs) Pv p0 (fun i H' _ h => (p1 i H' h).seq h0) p2 p3
  · refine .inr ⟨_, hj, a, rfl, ⟨_, h0⟩, fun D nD => ?_⟩
    obtain ⟨Pv, p0, p1, p2, p3⟩ := main D nD
    exact lc_tup (K := K) (a := a) (xs := xs) Pv p0 (fun i H' _ h => same_t (p1 i H' h) h0) p2 p3
/-! defs by their names -/
structure DefOk (P : Program) (w : World) (K : PySem.W.Frag) (mg : Str → Option Value) (base : Heap) (CX : CXT) (x : Str) (k : Nat) (ps : List Str) (sp : Sp) : Prop where
  ex : ∃ (f : Addr) (fd : FuncData), mg x = some (.ref f) ∧ PySem.W.keepIn K (.ref f) = true ∧ L2.Binds K fd ps [] ∧ FnOk P w K mg base CX k f fd ps sp
def Txt (K : PySem.W.Frag) (mg : Str → Option Value) (x : Str) (st : Stmt) : Prop := ∃ (f : Addr) (fd : FuncData), Fun K x x st f fd ∧ mg x = some (.ref f)
section
variable {X : Cx}
theorem pe_def {CX : CXT} {x : Str} {k : Nat} {ps : List Str} {sp : Sp} {e : Expr} {es : List Expr} {t : TA} {p pos : Pos} (D : DefOk X.prog X.w X.K X.mg X.base CX x k ps sp) (hr : Room k X.A) (hg : Gl X x) (ha : PA X (e :: es) t) (hx : Passes CX X E0 := by first | exact pass0 | exact passL)
    (hdb : (x == ("__debug__" : Str)) = false := by decide) (he : starEach (e :: es) X.env = (false, eval e X.env) :: starEach es X.env := by rfl) (hpl : (backTo pos (starEach es X.env)).any (·.1) = false := by rfl) :
    PE X (.Call (.Name x p) (e :: es) [] pos) (tCall sp [] E0 t) := by
  obtain ⟨f, fd, g, k, b, F⟩ := D.ex
  exact pe_call F hr hg g k b .nil hx ha hdb he hpl
end
end PB
set_option Elab.async false
set_option linter.all false
set_option maxRecDepth 100000
set_option maxHeartbeats 4000000
/-! sorted(..) and max(.., default=..) of rows of data -/
namespace KS
open PySem PySem.Spec PyProof.Rows L2 FX RM PB
open PySem.W (EachIs AllAlike Sortable dataLe AlikeAll)
theorem DpAll_lenK {K : PySem.W.Frag} {H : Hp} : ∀ {vs : List V} {ds : List PyData}, DpAll K H vs ds → vs.length = ds.length
  | _, _, .nil => rfl
  | _, _, .cons _ b => congrArg (· + 1) (DpAll_lenK b)
theorem each_zip {K : PySem.W.Frag} {H : Hp} : ∀ {xs : List V} {us : List Value} {ds : List PyData}, Vals xs us → DpAll K H xs ds → EachIs (fun (u : Value) (p : V × PyData) => L2.RelV p.1 u ∧ Dp K H p.1 p.2) us (xs.zip ds)
  | [], _, _, .nil, .nil => .nil
  | _ :: _, _, _, .cons a b, .cons c d => .cons ⟨a, c⟩ (each_zip b d)
theorem zip_snd {K : PySem.W.Frag} {H : Hp} : ∀ {xs : List V} {ds : List PyData}, DpAll K H xs ds → (xs.zip ds).map Prod.snd = ds
  | _, _, .nil => rfl
  | _, _, .cons _ d => by rw [List.zip_cons_cons, List.map_cons, zip_snd d]
theorem each_vals {K : PySem.W.Frag} {H : Hp} : ∀ {us : List Value} {ps : List (V × PyData)}, EachIs (fun (u : Value) (p : V × PyData) => L2.RelV p.1 u ∧ Dp K H p.1 p.2) us ps → Vals (ps.map Prod.fst) us ∧ DpAll K H (ps.map Prod.fst) (ps.map Prod.snd)
  | _, _, .nil => ⟨.nil, .nil⟩
  | _, _, .cons a b => ⟨.cons a.1 (each_vals b).1, .cons a.2 (each_vals b).2⟩
/-- sorted(xs), xs alike data -/
def rSortDat (K : PySem.W.Frag) : List V → Hp → VK → Prop := fun vs H Q => ∃ (a : Addr) (xs : List V) (ds : List PyData), vs = [V.ref a] ∧ SqL K H a xs ∧ DpAll K H xs ds ∧ AllAlike ds ∧ Sortable ds ∧ (∀ d ∈ ds, d.depth ≤ 60) ∧
  ∀ (ps : List (V × PyData)) (p : Addr), ps.Perm (xs.zip ds) → ps.Pairwise (fun x y => dataLe false Prod.snd x y = true) → H p = none → Q (.ref p) (upd H p (.lst (ps.map Prod.fst)))
section
variable {X : Cx}
theorem cr_sortDat (hu : X.A.units + 65 < cLine) : CallR X (.builtin "sorted") (rSortDat X.K) := by
  intro pins s σ H vs us Q I r h
  obtain ⟨a, xs, ds, rfl, hs, hA, hal, hk, hdp, q⟩ := h
  obtain ⟨its, rv, hl, hz⟩ := I.list hs
  rw [Vals.ref1 r]
  have e := each_zip rv hA
  have ln : (xs.zip ds).length = xs.length := by rw [List.length_zip, ← DpAll_lenK hA]; exact Nat.min_self _
  have er : EachIs (fun (v : Value) (b : V × PyData) => ∃ as, Reads s.heap v b.2 as) its (xs.zip ds) := e.mono fun u p hp => Dp.reads I p.2 p.1 u hp.2 hp.1
  have mp : (xs.zip ds).map Prod.snd = ds := zip_snd hA
  refine PySem.W.sorted_data (enc := Prod.snd) hl.isList e er (by rw [mp]; exact hal) (by rw [mp]; exact hk) (by rw [ln]; exact hz) (fun b hb => ?_) fun out ho eo => ?_
  · have : b.2 ∈ ds := by rw [← mp]; exact List.mem_map.mpr ⟨b, hb, rfl⟩
    have := hdp _ this
    omega
  · obtain ⟨vo, dd⟩ := each_vals eo
    obtain ⟨ep, he'⟩ := PyProof.Rows.sortedAll_at s.heap its out.toArray
    have pm : ((xs.zip ds).mergeSort (dataLe false Prod.snd)).Perm (xs.zip ds) := List.mergeSort_perm _ _
    have hlen : (((xs.zip ds).mergeSort (dataLe false Prod.snd)).map Prod.fst).length ≤ sizeLine := by
      rw [List.length_map, pm.length_eq, ln]; exact hz
    exact ⟨.ref _, upd H (s.heap.objs.size + 1) (.lst (((xs.zip ds).mergeSort (dataLe false Prod.snd)).map Prod.fst)), I.laid (t' := s.toks) (fun _ _ => PyProof.Rows.sortedAll_old) (Nat.le_succ _) ⟨hlen, out, ep, vo, he'⟩, rfl,
      q _ _ pm (PySem.W.sort_pairwise (PySem.W.sortLe_total _ _ _) _) (I.hok.fresh (Nat.le_succ _))⟩
/-- max(xs, default=d), xs ints -/
def rMaxDf (K : PySem.W.Frag) : List V → List V → Hp → VK → Prop := fun vs zs H Q => ∃ (a : Addr) (ns : List Int) (d : Int), vs = [V.ref a] ∧ zs = [V.int d] ∧ SqL K H a (ns.map V.int) ∧ ∀ m : Int, (ns = [] → m = d) → (ns ≠ [] → m ∈ ns ∧ ∀ y ∈ ns, y ≤ m) → Q (.int m) H
theorem fold_max : ∀ (ns : List Int) (n : Int), (ns.foldl max n = n ∨ ns.foldl max n ∈ ns) ∧ n ≤ ns.foldl max n ∧ ∀ y ∈ ns, y ≤ ns.foldl max n
  | [], n => ⟨.inl rfl, Int.le_refl _, fun _ h => nomatch h⟩
  | x :: ns, n => by
    obtain ⟨h1, h2, h3⟩ := fold_max ns (max n x)
    have hn : n ≤ max n x := Int.le_max_left ..
    have hx : x ≤ max n x := Int.le_max_right ..
    refine ⟨?_, Int.le_trans hn h2, fun y hy => ?_⟩
    · rcases h1 with h1 | h1
      · rw [List.foldl_cons, h1]
        by_cases c : n ≤ x
        · right; rw [Int.max_eq_right c]; exact List.mem_cons_self ..
        · left; exact Int.max_eq_left (by omega)
      · exact .inr (List.mem_cons_of_mem _ h1)
    · rcases List.mem_cons.mp hy with rfl | hy
      · exact Int.le_trans hx h2
      · exact h3 y hy
theorem dps_ints {K : PySem.W.Frag} {H : Hp} : ∀ ns : List Int, DpAll K H (ns.map V.int) (ns.map PyData.int)
  | [] => .nil
  | n :: ns => .cons (.int n) (dps_ints ns)
theorem alike_is (ns : List Int) : AlikeAll (ns.map PyData.int) := ⟨fun x hx y hy => by
  obtain ⟨a, _, rfl⟩ := List.mem_map.mp hx
  obtain ⟨b, _, rfl⟩ := List.mem_map.mp hy
  rfl, fun x hx => by
  obtain ⟨a, _, rfl⟩ := List.mem_map.mp hx
  intro e; cases e⟩
theorem cr_maxDf (hc : X.calm = true) (hu : X.A.units + 65 < cLine) : CallRK X (.builtin "max") [Str.ofString "default"] (rMaxDf X.K) := by
  intro pins s σ H vs zs us ws Q I r rz h
  obtain ⟨a, ns, d, rfl, rfl, hs, q⟩ := h
  obtain rfl := Vals.ref1 r
  obtain ⟨w1, rfl, t1, rfl⟩ := vals1 rz
  obtain ⟨its, rv, hl, hz⟩ := I.list hs
  obtain ⟨as, ra⟩ := Dp.readsAll I (ns.map PyData.int) (ns.map V.int) its (dps_ints ns) rv
  have dp : PyData.depthAll (ns.map PyData.int) = 0 := PySem.W.depth_ints ns
  refine PySem.W.max_list_default (I.ok.hd hc) hl.isList ra (alike_is ns) (by rw [dp]; omega) (fun e h' tk kp => ?_) fun y ys i v h' tk bs e hv rd kp => ?_
  · have e0 : ns = [] := List.map_eq_nil_iff.mp e
    exact ⟨.int d, H, I.kept kp, ⟨_, rfl⟩, q d (fun _ => rfl) (fun n => absurd e0 n)⟩
  · cases ns with
    | nil => cases e
    | cons n ns =>
      cases e
      rw [PySem.W.maxD_ints] at rd
      obtain ⟨t, rfl⟩ : ∃ t, v = Value.int (ns.foldl max n) t := by
        cases rd
        exact ⟨_, rfl⟩
      obtain ⟨h1, h2, h3⟩ := fold_max ns n
      refine ⟨.int (ns.foldl max n), H, I.kept kp, ⟨_, rfl⟩, q _ (fun z => by cases z) fun _ => ⟨?_, fun y hy => ?_⟩⟩
      · rcases h1 with h1 | h1
        · rw [h1]; exact List.mem_cons_self ..
        · exact List.mem_cons_of_mem _ h1
      · rcases List.mem_cons.mp hy with rfl | hy
        · exact h2
        · exact h3 y hy
end
end KS
set_option Elab.async false
set_option linter.all false
set_option maxRecDepth 100000
set_option maxHeartbeats 4000000
/-! dict comprehensions whose keys may be tuples; list(such a dict); membership in tuples of data -/
namespace KD
open PySem PySem.Spec PyProof.Rows L2 FX RM PB
section
variable {X : Cx}
theorem put_in {pins : List (Addr × Obj)} {τ : L2.St} {H G : Hp} {s : Shared} {E : Value → Shared → Prop} {D : Addr} {y z : V} {u r : Value} {R : Unit → Shared → Prop} (room : X.A.units < cLine) (I : Inv X pins τ H s) (g : DPut H D y z G) (ry : RelV y u) (rz : RelV z r)
    (k : ∀ t, Inv X pins τ G t → R () t) : wpAny (model X.prog X.w) X.A (dictSet D u r) R E s := by
  rcases g with ⟨kvs, c, e, rfl, l, rfl⟩ | ⟨kvs, c, b, e, rfl, eb, l, rfl⟩
  · exact d_dictSet I e l ry rz k
  · cases (show u = Value.ref b from ry)
    obtain ⟨big, nm, xs, rel, dh⟩ := dt_of I.hok e
    have lx : xs.length ≤ sizeLine := by rw [← Paired.length rel]; exact big
    have ln : (putK kvs c z).length ≤ sizeLine := by have := length_putK kvs c z; omega
    refine wpAny_dictSet_heap (hsz := lx) (knd := tupleKind (mixKind X.prog X.w)) (show X.A.units < cLine from room) (key_of I.hok eb) dh fun h2 dh2 same => k _ ?_
    obtain ⟨ob, es, ep, ho, hx, hd, hes, _, hn⟩ := dh2
    refine d_write I (by rw [e]; exact True.intro) same ⟨ob, ho⟩ ⟨ln, nm, _, (rel.put c eb rz).keeps fun b2 ys e2 => ?_, ob, es, ep, ho, hx, hd, hes, hn⟩
    rw [upd_ne (ne_of e2 e (fun w => nomatch w))]
    exact e2
/-- {k: v for target in walk}: D the new dict, W what holds before each turn -/
def tDP (wi : TI) (g : TG) (tk tv : TE) (own : List Nat) : TE := fun τ H Q => wi τ H fun J G => ∀ D, G D = none → ∃ W : Nat → Nat → Hp → Prop, (∃ m, W 0 m (upd G D (.dT []))) ∧ ∀ i m F, W i m F →
  (J.stop i F ∧ Q (.ref D) F) ∨ (J.go i F ∧ ∃ Nx : Hp → Prop, (∀ F', Nx F' → ∃ m', m' < m ∧ W (i + 1) m' F') ∧ ∀ x F', J.yld i F x F' → g x (wipe τ own) F' fun τ2 F2 => wipe τ2 own = wipe τ own ∧ tk τ2 F2 fun y F3 => tv τ2 F3 fun z F4 => ∃ F5, DPut F4 D y z F5 ∧ Nx F5)
theorem core {pins : List (Addr × Obj)} {s : Shared} {τ : L2.St} {H : Hp} {Q : VK} {kx vx tg it : Expr} {sc : Scope} {own : List (Str × Nat)} {pos pos' : Pos} {wi : TI} {g : TG} {tk tv : TE} {use : Option (Value → Sem Unit)} {Qf : Value → Shared → Prop}
    (room : X.A.units < cLine) (calm : X.calm = true) (nd : X.N.Nodup) (I : Inv X pins τ H s) (walk : PI X tg it wi) (blk : BlkOk X.N X.env.scope sc own)
    (pg : ∀ (s : Shared) (H : Hp) (C : Addr) (cl : List (Str × Addr)) (fp : List Addr), PG (X.blk s H sc (compEnvC sc cl C X.env) fp) tg g)
    (pk : ∀ (s : Shared) (H : Hp) (C : Addr) (cl : List (Str × Addr)) (fp : List Addr), PE (X.blk s H sc (compEnvC sc cl C X.env) fp) kx tk)
    (pv : ∀ (s : Shared) (H : Hp) (C : Addr) (cl : List (Str × Addr)) (fp : List Addr), PE (X.blk s H sc (compEnvC sc cl C X.env) fp) vx tv)
    (fold : ∀ x, foldedSetIterable it X.env x = pure x) (h : tDP wi g tk tv (own.map (·.2)) τ H Q)
    (back : ∀ D C t m G, Inv X pins τ G t → Q (.ref D) G → t.heap.Ns C m → FpOk X pins G C → compPost (model X.prog X.w) X.A X.xe use Qf (.ref D) C (.ok .next) t) :
    wpAny (model X.prog X.w) X.A (comprehension (.DictComp kx vx [⟨tg, it, [], 0⟩] sc pos) sc X.env pos' newDict false (eval it X.env) use) Qf X.xe s := by
  have cells : ∀ y ∈ sc.names, y.2 = .free → ∃ c, X.env.cells.lookup y.1 = some c := fun y m e => (blk.free y m e).elim (fun k => I.ok.has _ (.inl k)) fun k => I.ok.has _ (.inr k)
  refine wpAny_comprehension_free (use := use) rfl fold (closure_ok cells) blk.kind (fun y m e => by rw [blk.uniq y m, e]) (thn (walk.run pins s τ H _ I h) fun _ t1 hx => thn hx fun _ t2 ⟨it2, fp, tn, J, G, e, I2, T, stt, fpk, rest⟩ => ?_)
  subst e
  refine wpAny_newObj_type (newEnv_comp ?_)
  generalize hD : t2.heap.objs.size = D
  have free : G D = none := I2.hok.fresh (Nat.le_of_eq hD)
  obtain ⟨W, ⟨m0, w0⟩, turn⟩ := rest D free
  generalize ht3 : ({ t2 with heap := t2.heap.push { cls := .type "dict", data := .dict #[] } } : Shared) = t3
  have hp3 : t3.heap = t2.heap.push { cls := .type "dict", data := .dict #[] } := by rw [← ht3]
  have I3 : Inv X pins τ (upd G D (.dT [])) t3 := by
    rw [← ht3]
    refine I2.laid (t' := t2.toks) (fun _ _ e => Heap.get?_push_of_some _ e) (Nat.le_of_eq hD) ?_
    rw [← hD]
    exact dt_empty t2.heap I2.big
  have below : ∀ b ∈ fp, b < t2.heap.objs.size := fun b hb => by
    obtain ⟨_, e, _⟩ := T.obj _ _ stt b hb
    exact Heap.lt_size e
  have fp3 : ∀ b ∈ fp, FpOk X pins (upd G D (.dT [])) b ∧ b < t3.heap.objs.size := fun b hb => by
    have lt := below b hb
    exact ⟨⟨by rw [upd_ne (by rw [← hD]; exact Nat.ne_of_lt lt)]; exact (fpk b hb).1, (fpk b hb).2⟩, by rw [hp3, Heap.size_push]; exact Nat.lt_succ_of_lt lt⟩
  have stt3 : tn 0 t3.heap := T.keep _ _ _ stt fun b _ o e => by rw [hp3]; exact Heap.get?_push_of_some _ e
  have I4 := block_start I3 blk nd fp3
  have rg := pg t3 (upd G D (.dT [])) t3.heap.objs.size (cellsFrom (t3.heap.objs.size + 1) sc.names (cloFrom X.env.cells sc.names [])) fp
  have rk := pk t3 (upd G D (.dT [])) t3.heap.objs.size (cellsFrom (t3.heap.objs.size + 1) sc.names (cloFrom X.env.cells sc.names [])) fp
  have rv := pv t3 (upd G D (.dT [])) t3.heap.objs.size (cellsFrom (t3.heap.objs.size + 1) sc.names (cloFrom X.env.cells sc.names [])) fp
  show codeAny _ _ (.compStart (.DictComp kx vx [⟨tg, it, [], 0⟩] sc pos) 0 (.ref it2) (.ref D) (compEnvC sc (cellsFrom (t3.heap.objs.size + 1) sc.names (cloFrom X.env.cells sc.names [])) t3.heap.objs.size X.env)) (compPost (model X.prog X.w) X.A X.xe use Qf (.ref D) t3.heap.objs.size) { t3 with heap := pushCells (t3.heap.push { cls := .type "dict", data := .dict #[] }) sc.names }
  have hid : ∀ b ∈ fp, (upd G D (.dT [])) b = none := fun b hb => (fp3 b hb).1.1
  generalize hen : compEnvC sc (cellsFrom (t3.heap.objs.size + 1) sc.names (cloFrom X.env.cells sc.names [])) t3.heap.objs.size X.env = en at I4 rg rk rv ⊢
  have enl : en.locals = t3.heap.objs.size := by subst hen; rfl
  generalize hG3 : upd G D (.dT []) = G3 at I3 I4 rg rk rv w0 hid fp3
  generalize ht4 : ({ t3 with heap := pushCells (t3.heap.push { cls := .type "dict", data := .dict #[] }) sc.names } : Shared) = t4 at I4 ⊢
  have stt4 : tn 0 t4.heap := T.keep _ _ _ stt3 fun b _ o e => by rw [← ht4]; exact pushCells_keeps _ _ _ _ (Heap.get?_push_of_some _ e)
  have still : ∀ {τ' : L2.St} {F : Hp} {t : Shared}, Inv (X.blk t3 G3 sc en fp) [] τ' F t → (∀ b ∈ fp, F b = none) → ∀ b ∈ fp, FpOk (X.blk t3 G3 sc en fp) [] F b := fun {τ' F t} J hn b hb =>
    ⟨hn b hb, (J.ok.exf b hb).1, J.ok.exfs b hb, .inl hb, fun x c e => (J.ok.exf b hb).2 x c e, fun p hp => absurd (show p ∈ ([] : List (Addr × Obj)) ++ [] from hp) (by simp)⟩
  have loop : codeAny (model X.prog X.w) X.A (.compLoop (.DictComp kx vx [⟨tg, it, [], 0⟩] sc pos) 0 (.ref it2) (.ref D) en) (compPost (model X.prog X.w) X.A X.xe use Qf (.ref D) t3.heap.objs.size) t4 := by
    refine compLoop_anyD (fun n t => ∃ i F, Inv (X.blk t3 G3 sc en fp) [] (wipe τ (own.map (·.2))) F t ∧ tn i t.heap ∧ (∀ b ∈ fp, F b = none) ∧ W i n F) ?_ m0 ⟨0, G3, I4, stt4, hid, w0⟩
    rintro n t5 ⟨i, F5, I5, stt5, hid5, w5⟩
    rcases turn i n F5 w5 with ⟨stop, fin⟩ | ⟨go, Nx, next, step⟩
    · refine thnF (T.done (X.blk t3 G3 sc en fp) rfl rfl rfl calm i [] t5 _ F5 (fun _ _ => False) I5 (still I5 hid5) stt5 stop) fun r t6 ⟨hr, I6⟩ => ?_
      subst hr
      have I7 : Inv X pins τ F5 t6 := I3.call' (ch := fp) I6.os I6.base I6.hok I6.bare fun b hb => ⟨(fp3 b hb).1.2.2.2.1, (fp3 b hb).1.2.1, (fp3 b hb).1.2.2.2.2.1, (fp3 b hb).1.2.2.2.2.2⟩
      have nC : F5 t3.heap.objs.size = none := enl ▸ (show F5 en.locals = none from I6.free)
      obtain ⟨m, hn, _⟩ := I6.loc
      have hn : t6.heap.Ns en.locals m := hn
      exact back D t3.heap.objs.size t6 m F5 I7 fin (enl ▸ hn) (I3.fpOk (Nat.le_refl _) nC)
    · refine thnF (T.item (X.blk t3 G3 sc en fp) rfl rfl rfl calm i [] t5 _ F5 (fun _ _ => False) I5 (still I5 hid5) stt5 go) fun r t6 ⟨u, hr, h6⟩ => ?_
      subst hr
      refine thnF h6 fun _ t7 ⟨x, F7, I7, r7, y7, stt7, hid7⟩ => ?_
      have J7 := I7.pinned (still I7 hid7) (T.obj _ _ stt7)
      refine thnF (rg.run _ t7 _ F7 x u _ J7 r7 (step x F7 y7)) fun _ t8 ⟨τ8, F8, I8, wip, more⟩ => ?_
      refine thnF ((pts_nil (X := X.blk t3 G3 sc en fp)).run _ t8 τ8 F8 (fun b G => b = true ∧ tk τ8 G fun y F3 => tv τ8 F3 fun z F4 => ∃ F5, DPut F4 D y z F5 ∧ Nx F5) I8 ⟨rfl, more⟩) fun b t9 ⟨F9, I9, eb, more9⟩ => ?_
      subst eb
      have close : ∀ {t : Shared} {F : Hp}, Inv (X.blk t3 G3 sc en fp) ([] ++ pinsAt fp t7.heap) τ8 F t → Nx F → ∃ m, m < n ∧ ∃ i F, Inv (X.blk t3 G3 sc en fp) [] (wipe τ (own.map (·.2))) F t ∧ tn i t.heap ∧ (∀ b ∈ fp, F b = none) ∧ W i m F := fun {t F} J nx => by
        obtain ⟨m', lt, w'⟩ := next F nx
        have pin : ∀ b ∈ fp, ∀ o, t7.heap.get? b = some o → t.heap.get? b = some o ∧ F b = none := fun b hb o e =>
          let z := J.pin (b, o) (List.mem_append_right _ (List.mem_append_right _ (mem_pinsAt hb e)))
          ⟨z.1, z.2.1⟩
        refine ⟨m', lt, i + 1, F, (J.unpinned (pins := [])).weak (by rw [← wip, wipe_length]) (fun j v e => by rw [← wip] at e; exact (wipe_some e).1), T.keep _ _ _ stt7 fun b hb o e => (pin b hb o e).1, fun b hb => ?_, w'⟩
        obtain ⟨o, e, _⟩ := T.obj _ _ stt7 b hb
        exact (pin b hb o e).2
      simp only [if_true]
      refine thnF (rk.run _ t9 τ8 F9 _ I9 more9) fun _ t10 ⟨y, F10, I10, r10, more10⟩ => ?_
      refine thnF (rv.run _ t10 τ8 F10 _ I10 more10) fun _ t11 ⟨z, F11, I11, r11, F12, put, nx⟩ => ?_
      exact put_in (X := X.blk t3 G3 sc en fp) room I11 put r10 r11 fun t12 I12 => close I12 nx
  exact codeAny_compStart_dict loop (T.self X.A 0 _ _ _ stt4 loop)
theorem pe_dcT {kx vx tg it : Expr} {sc : Scope} {own : List (Str × Nat)} {pos : Pos} {wi : TI} {g : TG} {tk tv : TE} (room : X.A.units < cLine) (calm : X.calm = true) (nd : X.N.Nodup) (walk : PI X tg it wi) (blk : BlkOk X.N X.env.scope sc own)
    (pg : ∀ (s : Shared) (H : Hp) (C : Addr) (cl : List (Str × Addr)) (fp : List Addr), PG (X.blk s H sc (compEnvC sc cl C X.env) fp) tg g)
    (pk : ∀ (s : Shared) (H : Hp) (C : Addr) (cl : List (Str × Addr)) (fp : List Addr), PE (X.blk s H sc (compEnvC sc cl C X.env) fp) kx tk)
    (pv : ∀ (s : Shared) (H : Hp) (C : Addr) (cl : List (Str × Addr)) (fp : List Addr), PE (X.blk s H sc (compEnvC sc cl C X.env) fp) vx tv)
    (fold : ∀ x, foldedSetIterable it X.env x = pure x := by intro _; rfl) : PE X (.DictComp kx vx [⟨tg, it, [], 0⟩] sc pos) (tDP wi g tk tv (own.map (·.2))) := by
  refine ⟨fun pins s τ H Q I h => ?_⟩
  rw [arm_eval_DictComp]
  refine core room calm nd I walk blk pg pk pv fold h fun D C t m G J q hn f => ⟨m, hn, fun h2 sb => ?_⟩
  obtain ⟨f0, f1, f2, f3, f4, f5⟩ := f
  exact ⟨.ref D, G, J.turned (t' := t.toks) (fun b o hb e => (sb.2 b hb).trans e) f0 f1 f3 f4 f5, rfl, q⟩
theorem swD {kx vx : Expr} {gs : List Comprehension} {sc : Scope} {pos py : Pos} {y : Str} {l : Nat} {env : Env} (fn : env.scope.kind = .function) (loc : env.scope.names.lookup y = some .local) (row : (py.line == pos.line) = true)
    (un : (sc.names.any fun (n, k) => n == y && (k == .local || k == .cell)) = false) : swapsWith (.DictComp kx vx gs sc pos) (some (.Name y py)) l env = pure true := by
  have k1 : env.kindOf y = some .local := loc
  have k2 : env.blockKind = .function := by unfold Env.blockKind; rw [fn]; rfl
  unfold swapsWith
  simp only [k2, k1, un, Expr.pos, row]
  rfl
/-- name = {k: v for ..} on one row, the name a local -/
theorem ps_setDc {i : Nat} {y : Str} {py : Pos} {kx vx tg it : Expr} {sc : Scope} {own : List (Str × Nat)} {pos spos : Pos} {wi : TI} {g : TG} {tk tv : TE} (room : X.A.units < cLine) (calm : X.calm = true) (nd : X.N.Nodup) (at_ : X.N[i]? = some y) (loc : X.env.scope.names.lookup y = some .local)
    (sw : swapsWith (.DictComp kx vx [⟨tg, it, [], 0⟩] sc pos) (some (.Name y py)) spos.line X.env = pure true) (walk : PI X tg it wi) (blk : BlkOk X.N X.env.scope sc own)
    (pg : ∀ (s : Shared) (H : Hp) (C : Addr) (cl : List (Str × Addr)) (fp : List Addr), PG (X.blk s H sc (compEnvC sc cl C X.env) fp) tg g)
    (pk : ∀ (s : Shared) (H : Hp) (C : Addr) (cl : List (Str × Addr)) (fp : List Addr), PE (X.blk s H sc (compEnvC sc cl C X.env) fp) kx tk)
    (pv : ∀ (s : Shared) (H : Hp) (C : Addr) (cl : List (Str × Addr)) (fp : List Addr), PE (X.blk s H sc (compEnvC sc cl C X.env) fp) vx tv)
    (fold : ∀ x, foldedSetIterable it X.env x = pure x := by intro _; rfl) : PS X (.Assign [.Name y py] (.DictComp kx vx [⟨tg, it, [], 0⟩] sc pos) spos) (tAsg (tDP wi g tk tv (own.map (·.2))) (gName i)) := by
  refine ⟨fun pins s τ H D I h => ?_⟩
  rw [exec_Assign_Name_used _ _ _ _ sw]
  refine wpAny_bind (wpAny_standAt (wpAny_bind ?_))
  show wpAny _ X.A (do let _ ← comprehension (.DictComp kx vx [⟨tg, it, [], 0⟩] sc pos) sc X.env (firstIterPos [⟨tg, it, [], 0⟩] pos) newDict false (eval it X.env) (some (assign (.Name y py) X.env))) _ _ s
  have h2 : tDP wi g tk tv (own.map (·.2)) τ H (fun x G => gName i x τ G D.nx) := h
  refine wpAny_bind (thn (core (Qf := fun _ t => SP X pins D .next t) room calm nd I walk blk pg pk pv fold h2 fun L C t m G J q hn f => ?_) fun _ _ hq => wpAny_pure (wpAny_pure hq))
  show wpAny _ _ (assign (.Name y py) X.env (.ref L)) _ _ _
  obtain ⟨f0, f1, f2, f3, f4, f5⟩ := f
  refine wpAny_assign_Name (store_ok2 (v := V.ref L) J nd at_ (.inl loc) rfl (fun t2 J2 ⟨a, sb, ha⟩ => ?_) (.inr loc))
  have ne : C ≠ a := ha.elim (fun z => by rw [z]; exact f1) fun z e => f4 y a z e.symm
  exact ⟨m, hn.sameBut sb ne, fun h3 sb3 => ⟨_, G, J2.turned (t' := t2.toks) (fun b o hb e => (sb3.2 b hb).trans e) f0 f1 f3 f4 f5, q⟩⟩
/-- i ** j of wide numbers -/
def CPowW (i j : Int) : Prop := 0 ≤ j ∧ (Builtin.Int.intBits i : Int) * j ≤ 2 ^ 27
theorem op_powW : OpR X (binaryOp .Pow) (rI CPowW fun i j => .int (i ^ j.toNat)) := opI fun _ _ _ _ _ _ _ hc q => pow_int hc.1 hc.2 q
end
/-! what such a dict holds: unlike couples of whole numbers -/
abbrev Dn := Int × Int
def kd (d : Dn) : List L2.Key × V := ([.inl d.1, .inl d.2], .bl true)
def ins (us : List Dn) (d : Dn) : List Dn := if d ∈ us then us else us ++ [d]
def uq (ds : List Dn) : List Dn := ds.foldl ins []
theorem kd_inj {d e : Dn} (h : (kd d).1 = (kd e).1) : d = e := by
  have h := List.cons.inj h
  have h2 := List.cons.inj h.2
  exact Prod.ext (Sum.inl.inj h.1) (Sum.inl.inj h2.1)
theorem put_ins (us : List Dn) (d : Dn) : putK (us.map kd) (kd d).1 (.bl true) = (ins us d).map kd := by
  unfold putK ins
  by_cases m : d ∈ us
  · have a : ((us.map kd).any fun kv => decide (kv.1 = (kd d).1)) = true := List.any_eq_true.mpr ⟨kd d, List.mem_map.mpr ⟨d, m, rfl⟩, decide_eq_true rfl⟩
    rw [if_pos a, if_pos m, List.map_map]
    refine List.map_congr_left fun e _ => ?_
    show (if (kd e).1 = (kd d).1 then ((kd e).1, V.bl true) else kd e) = kd e
    split <;> rfl
  · have a : ¬ ((us.map kd).any fun kv => decide (kv.1 = (kd d).1)) = true := fun z => by
      obtain ⟨kv, h1, h2⟩ := List.any_eq_true.mp z
      obtain ⟨e, he, rfl⟩ := List.mem_map.mp h1
      exact m (kd_inj (of_decide_eq_true h2) ▸ he)
    rw [if_neg a, if_neg m, List.map_append]
    rfl
theorem uq_snoc (ds : List Dn) (d : Dn) : uq (ds ++ [d]) = ins (uq ds) d := by unfold uq; rw [List.foldl_append]; rfl
theorem ins_mem {us : List Dn} {d e : Dn} : e ∈ ins us d ↔ e ∈ us ∨ e = d := by
  unfold ins
  split
  · rename_i m
    exact ⟨.inl, fun h => h.elim id fun z => z ▸ m⟩
  · rw [List.mem_append, List.mem_singleton]
theorem ins_nodup {us : List Dn} {d : Dn} (h : us.Nodup) : (ins us d).Nodup := by
  unfold ins
  split
  · exact h
  · rename_i m
    exact List.nodup_append.mpr ⟨h, by simp, fun a ha b hb => by rw [List.mem_singleton.mp hb]; intro z; exact m (z ▸ ha)⟩
theorem fold_spec : ∀ (ds us : List Dn), us.Nodup → (ds.foldl ins us).Nodup ∧ (∀ e, e ∈ ds.foldl ins us ↔ e ∈ us ∨ e ∈ ds) ∧ (ds.foldl ins us).length ≤ us.length + ds.length
  | [], us, h => ⟨h, fun e => by simp, by simp⟩
  | d :: ds, us, h => by
    obtain ⟨a, b, c⟩ := fold_spec ds (ins us d) (ins_nodup h)
    refine ⟨a, fun e => ?_, ?_⟩
    · rw [List.foldl_cons, b, ins_mem, List.mem_cons, or_assoc]
    · have : (ins us d).length ≤ us.length + 1 := by
        unfold ins
        split
        · omega
        · rw [List.length_append]; exact Nat.le_refl _
      rw [List.foldl_cons, List.length_cons]
      omega
theorem uq_nodup (ds : List Dn) : (uq ds).Nodup := (fold_spec ds [] List.nodup_nil).1
theorem uq_mem {ds : List Dn} {e : Dn} : e ∈ uq ds ↔ e ∈ ds := by rw [show uq ds = ds.foldl ins [] from rfl, (fold_spec ds [] List.nodup_nil).2.1]; simp
theorem uq_len (ds : List Dn) : (uq ds).length ≤ ds.length := by have := (fold_spec ds [] List.nodup_nil).2.2; rw [show uq ds = ds.foldl ins [] from rfl]; simpa using this
/-- the walk over a list or a tuple of couples -/
theorem dc_seq {K : PySem.W.Frag} {a : Addr} {xs : List V} {j : Nat} {g : TG} {tk tv : TE} {own : List Nat} {τ : L2.St} {H : Hp} {Q : VK} (ds : List Dn) (hj : τ[j]? = some (some (.ref a))) (h0 : SqL K H a xs ∨ SqT K H a xs) (hl : ds.length = xs.length) (hz : xs.length < sizeLine)
    (hs : ∀ (i : Nat) (x : V) (F : Hp) (R : V → V → Hp → Prop) (d : Dn), xs[i]? = some x → ds[i]? = some d → Same H F → (∀ p, F p = none → R (.ref p) (.bl true) (upd F p (.tup [.int d.1, .int d.2]))) → g x (wipe τ own) F fun τ2 F2 => wipe τ2 own = wipe τ own ∧ tk τ2 F2 fun y F3 => tv τ2 F3 fun z F4 => R y z F4)
    (hd : ∀ D F, Same H F → F D = some (.dT ((uq ds).map kd)) → Q (.ref D) F) : tDP (iSeq K (tVar j)) g tk tv own τ H Q := by
  have turnD : ∀ (D : Addr) (i : Nat) (F : Hp) (x : V), H D = none → xs[i]? = some x → (Same H F ∧ F D = some (.dT ((uq (ds.take i)).map kd))) →
      g x (wipe τ own) F fun τ2 F2 => wipe τ2 own = wipe τ own ∧ tk τ2 F2 fun y F3 => tv τ2 F3 fun z F4 => ∃ F5, DPut F4 D y z F5 ∧ (Same H F5 ∧ F5 D = some (.dT ((uq (ds.take (i + 1))).map kd))) := by
    rintro D i F x nD ex ⟨sF, eD⟩
    have il : i < ds.length := by rw [hl]; exact (List.getElem?_eq_some_iff.mp ex).1
    refine hs i x F _ ds[i] ex (List.getElem?_eq_getElem il) sF fun p np => ?_
    have ne : D ≠ p := ne_of_none eD np
    refine ⟨_, DPut.t (k := (kd ds[i]).1) (kvs := (uq (ds.take i)).map kd) (by rw [upd_ne ne]; exact eD) upd_same ?_, fun b o e => ?_, ?_⟩
    · rw [List.length_map]
      have := uq_len (ds.take i)
      rw [List.length_take] at this
      omega
    · have bD : b ≠ D := ne_of_none e nD
      rw [upd_ne bD]
      exact PB.same_new np _ _ (sF _ _ e)
    · rw [upd_same, put_ins, List.take_succ_eq_append_getElem il, uq_snoc]
  have mk : ∀ (D : Addr) (nD : H D = none), (Same H (upd H D (.dT []))) ∧ (upd H D (.dT [])) D = some (.dT ((uq (ds.take 0)).map kd)) := fun D nD => ⟨PB.same_new nD, by rw [upd_same]; rfl⟩
  have fin : ∀ D F, (Same H F ∧ F D = some (.dT ((uq (ds.take xs.length)).map kd))) → Q (.ref D) F := fun D F h => hd D F h.1 (by rw [h.2, ← hl, List.take_length])
  rcases h0 with h0 | h0
  · refine .inl ⟨_, hj, a, rfl, ⟨_, h0⟩, fun D nD => ⟨fun i m F => m = xs.length - i ∧ i ≤ xs.length ∧ (Same H F ∧ F D = some (.dT ((uq (ds.take i)).map kd))), ⟨_, rfl, Nat.zero_le _, mk D nD⟩, ?_⟩⟩
    rintro i m F ⟨rfl, hi, p⟩
    have sq := p.1.seq h0
    by_cases lt : i < xs.length
    · exact .inr ⟨⟨xs, xs[i], sq, List.getElem?_eq_getElem lt⟩, _, fun F' p' => ⟨xs.length - (i + 1), by omega, rfl, lt, p'⟩, fun x F' y => by
        obtain ⟨rfl, y⟩ := y
        exact turnD D i _ x nD (y xs sq) p⟩
    · obtain rfl : i = xs.length := by omega
      exact .inl ⟨⟨xs, sq, Nat.le_refl _⟩, fin D F p⟩
  · refine .inr ⟨_, hj, a, rfl, ⟨_, h0⟩, fun D nD => ⟨fun i m F => m = xs.length - i ∧ i ≤ xs.length ∧ (Same H F ∧ F D = some (.dT ((uq (ds.take i)).map kd))), ⟨_, rfl, Nat.zero_le _, mk D nD⟩, ?_⟩⟩
    rintro i m F ⟨rfl, hi, p⟩
    have sq := PB.same_t p.1 h0
    by_cases lt : i < xs.length
    · exact .inr ⟨⟨xs, xs[i], sq, List.getElem?_eq_getElem lt⟩, _, fun F' p' => ⟨xs.length - (i + 1), by omega, rfl, lt, p'⟩, fun x F' y => by
        obtain ⟨rfl, y⟩ := y
        exact turnD D i _ x nD (y xs sq) p⟩
    · obtain rfl : i = xs.length := by omega
      exact .inl ⟨⟨xs, sq, Nat.le_refl _⟩, fin D F p⟩
/-- the keys of such a dict in a list -/
theorem keys_dp {K : PySem.W.Frag} {H : Hp} : ∀ {us : List Dn} {bs : List Addr}, IsKeys H (us.map kd) bs → DpAll K H (bs.map V.ref) (us.map rD)
  | [], _, .nil => .nil
  | _ :: _, _, .cons a b => .cons (.tup (.inl (.inl a)) (.cons (.int _) (.cons (.int _) .nil))) (keys_dp b)
/-- x not in t, a tuple of data -/
def rNotInT (K : PySem.W.Frag) : L2.R2 := fun x y H Q => ∃ d ds, Dp K H x d ∧ Dp K H y (.tuple ds) ∧ SeqAt.shaped d = true ∧ SeqAt.shaped (.tuple ds) = true ∧ Q (.bl (!ds.any fun z => PyData.eqv z d)) H
section
variable {X : Cx}
theorem op_notInT (hu : X.A.units + 65 < cLine) : OpR X (compareOp .NotIn) (rNotInT X.K) := by
  rintro pins s τ H x y v u Q I rx ry ⟨d, ds, hd, he, sd, se, q⟩
  obtain ⟨as, r1⟩ := Dp.reads I d x v hd rx
  obtain ⟨bs, r2⟩ := Dp.reads I (.tuple ds) y u he ry
  exact SeqAt.notIn_tuple_reads r2 r1 (SeqAt.canLay_of_shaped se) (SeqAt.canLay_of_shaped sd) (room_in_shaped sd hu) ⟨.bl _, H, I, rfl, q⟩
/-- [e for x in l], l any expression that comes to a list, each e some data that holds no list -/
theorem lc_mapG {K : PySem.W.Frag} {g : TG} {te tl : TE} {own : List Nat} {τ : L2.St} {H : Hp} {Q : VK} (facts : Addr → List V → Hp → Prop) (ht : ∀ R : VK, (∀ a xs F, facts a xs F → R (.ref a) F) → tl τ H R)
    (hk : ∀ a xs F, facts a xs F → SqL K F a xs ∧ xs.length < sizeLine ∧ ∃ f : Nat → PyData, (∀ i, noL (f i) = true) ∧
      (∀ i x F' (R' : V → Hp → Prop), xs[i]? = some x → Same F F' → (∀ y F4, Same F' F4 → Dp K F4 y (f i) → R' y F4) → g x (wipe τ own) F' fun τ2 F2 => wipe τ2 own = wipe τ own ∧ te τ2 F2 R') ∧
      (∀ D F' ys, Same F F' → F D = none → F' D = some (.lst ys) → DpAll K F' ys ((List.range xs.length).map f) → Q (.ref D) F')) : tLc (iSeq K tl) g tYes te own τ H Q := by
  refine .inl (ht _ fun a xs F hf => ?_)
  obtain ⟨h0, hz, f, hn, hs, hd⟩ := hk a xs F hf
  refine ⟨a, rfl, ⟨_, h0⟩, fun D nD => ?_⟩
  refine lc_list (K := K) (a := a) (xs := xs) (fun i F' => Same F F' ∧ ∃ ys, F' D = some (.lst ys) ∧ ys.length = i ∧ DpAll K F' ys ((List.range i).map f)) ⟨PB.same_new nD, [], upd_same, rfl, .nil⟩ (fun i F' _ h => h.1.seq h0) ?_ ?_
  · rintro i x F' hi ⟨s1, ys, eD, yl, hy⟩
    have il := (List.getElem?_eq_some_iff.mp hi).1
    refine hs i x F' _ hi s1 fun y F4 s4 h4 => ⟨ys, s4 _ _ eD, by omega, ?_, ys ++ [y], upd_same, by rw [List.length_append, yl]; rfl, ?_⟩
    · intro b o e
      rw [upd_ne (ne_of_none e nD)]; exact s4 _ _ (s1 _ _ e)
    · rw [List.range_succ, List.map_append]
      refine DpAll_but (s4 _ _ eD) (fun b o n e => by rw [upd_ne n]; exact e) ?_ (DpAll_snoc h4 (DpAll_same s4 hy))
      refine noLs_all fun d hd => ?_
      rcases List.mem_append.mp hd with hd | hd
      · obtain ⟨k, _, rfl⟩ := List.mem_map.mp hd; exact hn k
      · rw [List.mem_singleton.mp hd]; exact hn i
  · rintro F' ⟨s1, ys, eD, yl, hy⟩
    exact hd D F' ys s1 nD eD hy
end
end KD
set_option Elab.async false
set_option linter.all false
set_option maxRecDepth 100000
set_option maxHeartbeats 4000000
/-! dict comprehensions whose keys are places -/
namespace KN
open PySem PySem.Spec PyProof.Rows L2 FX RM PB KD
section
variable {X : Cx}
/-- {k: v for target in walk}: D the new dict, W what holds before each turn -/
def tDN (o0 : Addr → HO) (Put : Hp → Addr → V → V → Hp → Prop) (wi : TI) (g : TG) (tk tv : TE) (own : List Nat) : TE := fun τ H Q => wi τ H fun J G => ∀ D, G D = none → ∃ W : Nat → Nat → Hp → Prop, (∃ m, W 0 m (upd G D (o0 D))) ∧ ∀ i m F, W i m F →
  (J.stop i F ∧ Q (.ref D) F) ∨ (J.go i F ∧ ∃ Nx : Hp → Prop, (∀ F', Nx F' → ∃ m', m' < m ∧ W (i + 1) m' F') ∧ ∀ x F', J.yld i F x F' → g x (wipe τ own) F' fun τ2 F2 => wipe τ2 own = wipe τ own ∧ tk τ2 F2 fun y F3 => tv τ2 F3 fun z F4 => ∃ F5, Put F4 D y z F5 ∧ Nx F5)
theorem core {o0 : Addr → HO} {Put : Hp → Addr → V → V → Hp → Prop} {pins : List (Addr × Obj)} {s : Shared} {τ : L2.St} {H : Hp} {Q : VK} {kx vx tg it : Expr} {sc : Scope} {own : List (Str × Nat)} {pos pos' : Pos} {wi : TI} {g : TG} {tk tv : TE} {use : Option (Value → Sem Unit)} {Qf : Value → Shared → Prop}
    (hnew : ∀ (h : Heap) (H : Hp), sysModules < h.objs.size → ObjOk X.prog X.w H (h.push { cls := .type "dict", data := .dict #[] }) h.objs.size (o0 h.objs.size))
    (hput : ∀ (X' : Cx), X'.prog = X.prog → X'.w = X.w → X'.A = X.A → X'.K = X.K → ∀ {pins : List (Addr × Obj)} {τ : L2.St} {H G : Hp} {s : Shared} {E : Value → Shared → Prop} {D : Addr} {y z : V} {u r : Value} {R : Unit → Shared → Prop}, Inv X' pins τ H s → Put H D y z G → RelV y u → RelV z r →
      (∀ t, Inv X' pins τ G t → R () t) → wpAny (model X'.prog X'.w) X'.A (dictSet D u r) R E s) (calm : X.calm = true) (nd : X.N.Nodup) (I : Inv X pins τ H s) (walk : PI X tg it wi) (blk : BlkOk X.N X.env.scope sc own)
    (pg : ∀ (s : Shared) (H : Hp) (C : Addr) (cl : List (Str × Addr)) (fp : List Addr), PG (X.blk s H sc (compEnvC sc cl C X.env) fp) tg g)
    (pk : ∀ (s : Shared) (H : Hp) (C : Addr) (cl : List (Str × Addr)) (fp : List Addr), PE (X.blk s H sc (compEnvC sc cl C X.env) fp) kx tk)
    (pv : ∀ (s : Shared) (H : Hp) (C : Addr) (cl : List (Str × Addr)) (fp : List Addr), PE (X.blk s H sc (compEnvC sc cl C X.env) fp) vx tv)
    (fold : ∀ x, foldedSetIterable it X.env x = pure x) (h : tDN o0 Put wi g tk tv (own.map (·.2)) τ H Q)
    (back : ∀ D C t m G, Inv X pins τ G t → Q (.ref D) G → t.heap.Ns C m → FpOk X pins G C → compPost (model X.prog X.w) X.A X.xe use Qf (.ref D) C (.ok .next) t) :
    wpAny (model X.prog X.w) X.A (comprehension (.DictComp kx vx [⟨tg, it, [], 0⟩] sc pos) sc X.env pos' newDict false (eval it X.env) use) Qf X.xe s := by
  have cells : ∀ y ∈ sc.names, y.2 = .free → ∃ c, X.env.cells.lookup y.1 = some c := fun y m e => (blk.free y m e).elim (fun k => I.ok.has _ (.inl k)) fun k => I.ok.has _ (.inr k)
  refine wpAny_comprehension_free (use := use) rfl fold (closure_ok cells) blk.kind (fun y m e => by rw [blk.uniq y m, e]) (thn (walk.run pins s τ H _ I h) fun _ t1 hx => thn hx fun _ t2 ⟨it2, fp, tn, J, G, e, I2, T, stt, fpk, rest⟩ => ?_)
  subst e
  refine wpAny_newObj_type (newEnv_comp ?_)
  generalize hD : t2.heap.objs.size = D
  have free : G D = none := I2.hok.fresh (Nat.le_of_eq hD)
  obtain ⟨W, ⟨m0, w0⟩, turn⟩ := rest D free
  generalize ht3 : ({ t2 with heap := t2.heap.push { cls := .type "dict", data := .dict #[] } } : Shared) = t3
  have hp3 : t3.heap = t2.heap.push { cls := .type "dict", data := .dict #[] } := by rw [← ht3]
  have I3 : Inv X pins τ (upd G D (o0 D)) t3 := by
    rw [← ht3]
    refine I2.laid (t' := t2.toks) (fun _ _ e => Heap.get?_push_of_some _ e) (Nat.le_of_eq hD) ?_
    rw [← hD]
    exact hnew t2.heap _ I2.big
  have below : ∀ b ∈ fp, b < t2.heap.objs.size := fun b hb => by
    obtain ⟨_, e, _⟩ := T.obj _ _ stt b hb
    exact Heap.lt_size e
  have fp3 : ∀ b ∈ fp, FpOk X pins (upd G D (o0 D)) b ∧ b < t3.heap.objs.size := fun b hb => by
    have lt := below b hb
    exact ⟨⟨by rw [upd_ne (by rw [← hD]; exact Nat.ne_of_lt lt)]; exact (fpk b hb).1, (fpk b hb).2⟩, by rw [hp3, Heap.size_push]; exact Nat.lt_succ_of_lt lt⟩
  have stt3 : tn 0 t3.heap := T.keep _ _ _ stt fun b _ o e => by rw [hp3]; exact Heap.get?_push_of_some _ e
  have I4 := block_start I3 blk nd fp3
  have rg := pg t3 (upd G D (o0 D)) t3.heap.objs.size (cellsFrom (t3.heap.objs.size + 1) sc.names (cloFrom X.env.cells sc.names [])) fp
  have rk := pk t3 (upd G D (o0 D)) t3.heap.objs.size (cellsFrom (t3.heap.objs.size + 1) sc.names (cloFrom X.env.cells sc.names [])) fp
  have rv := pv t3 (upd G D (o0 D)) t3.heap.objs.size (cellsFrom (t3.heap.objs.size + 1) sc.names (cloFrom X.env.cells sc.names [])) fp
  show codeAny _ _ (.compStart (.DictComp kx vx [⟨tg, it, [], 0⟩] sc pos) 0 (.ref it2) (.ref D) (compEnvC sc (cellsFrom (t3.heap.objs.size + 1) sc.names (cloFrom X.env.cells sc.names [])) t3.heap.objs.size X.env)) (compPost (model X.prog X.w) X.A X.xe use Qf (.ref D) t3.heap.objs.size) { t3 with heap := pushCells (t3.heap.push { cls := .type "dict", data := .dict #[] }) sc.names }
  have hid : ∀ b ∈ fp, (upd G D (o0 D)) b = none := fun b hb => (fp3 b hb).1.1
  generalize hen : compEnvC sc (cellsFrom (t3.heap.objs.size + 1) sc.names (cloFrom X.env.cells sc.names [])) t3.heap.objs.size X.env = en at I4 rg rk rv ⊢
  have enl : en.locals = t3.heap.objs.size := by subst hen; rfl
  generalize hG3 : upd G D (o0 D) = G3 at I3 I4 rg rk rv w0 hid fp3
  generalize ht4 : ({ t3 with heap := pushCells (t3.heap.push { cls := .type "dict", data := .dict #[] }) sc.names } : Shared) = t4 at I4 ⊢
  have stt4 : tn 0 t4.heap := T.keep _ _ _ stt3 fun b _ o e => by rw [← ht4]; exact pushCells_keeps _ _ _ _ (Heap.get?_push_of_some _ e)
  have still : ∀ {τ' : L2.St} {F : Hp} {t : Shared}, Inv (X.blk t3 G3 sc en fp) [] τ' F t → (∀ b ∈ fp, F b = none) → ∀ b ∈ fp, FpOk (X.blk t3 G3 sc en fp) [] F b := fun {τ' F t} J hn b hb =>
    ⟨hn b hb, (J.ok.exf b hb).1, J.ok.exfs b hb, .inl hb, fun x c e => (J.ok.exf b hb).2 x c e, fun p hp => absurd (show p ∈ ([] : List (Addr × Obj)) ++ [] from hp) (by simp)⟩
  have loop : codeAny (model X.prog X.w) X.A (.compLoop (.DictComp kx vx [⟨tg, it, [], 0⟩] sc pos) 0 (.ref it2) (.ref D) en) (compPost (model X.prog X.w) X.A X.xe use Qf (.ref D) t3.heap.objs.size) t4 := by
    refine compLoop_anyD (fun n t => ∃ i F, Inv (X.blk t3 G3 sc en fp) [] (wipe τ (own.map (·.2))) F t ∧ tn i t.heap ∧ (∀ b ∈ fp, F b = none) ∧ W i n F) ?_ m0 ⟨0, G3, I4, stt4, hid, w0⟩
    rintro n t5 ⟨i, F5, I5, stt5, hid5, w5⟩
    rcases turn i n F5 w5 with ⟨stop, fin⟩ | ⟨go, Nx, next, step⟩
    · refine thnF (T.done (X.blk t3 G3 sc en fp) rfl rfl rfl calm i [] t5 _ F5 (fun _ _ => False) I5 (still I5 hid5) stt5 stop) fun r t6 ⟨hr, I6⟩ => ?_
      subst hr
      have I7 : Inv X pins τ F5 t6 := I3.call' (ch := fp) I6.os I6.base I6.hok I6.bare fun b hb => ⟨(fp3 b hb).1.2.2.2.1, (fp3 b hb).1.2.1, (fp3 b hb).1.2.2.2.2.1, (fp3 b hb).1.2.2.2.2.2⟩
      have nC : F5 t3.heap.objs.size = none := enl ▸ (show F5 en.locals = none from I6.free)
      obtain ⟨m, hn, _⟩ := I6.loc
      have hn : t6.heap.Ns en.locals m := hn
      exact back D t3.heap.objs.size t6 m F5 I7 fin (enl ▸ hn) (I3.fpOk (Nat.le_refl _) nC)
    · refine thnF (T.item (X.blk t3 G3 sc en fp) rfl rfl rfl calm i [] t5 _ F5 (fun _ _ => False) I5 (still I5 hid5) stt5 go) fun r t6 ⟨u, hr, h6⟩ => ?_
      subst hr
      refine thnF h6 fun _ t7 ⟨x, F7, I7, r7, y7, stt7, hid7⟩ => ?_
      have J7 := I7.pinned (still I7 hid7) (T.obj _ _ stt7)
      refine thnF (rg.run _ t7 _ F7 x u _ J7 r7 (step x F7 y7)) fun _ t8 ⟨τ8, F8, I8, wip, more⟩ => ?_
      refine thnF ((pts_nil (X := X.blk t3 G3 sc en fp)).run _ t8 τ8 F8 (fun b G => b = true ∧ tk τ8 G fun y F3 => tv τ8 F3 fun z F4 => ∃ F5, Put F4 D y z F5 ∧ Nx F5) I8 ⟨rfl, more⟩) fun b t9 ⟨F9, I9, eb, more9⟩ => ?_
      subst eb
      have close : ∀ {t : Shared} {F : Hp}, Inv (X.blk t3 G3 sc en fp) ([] ++ pinsAt fp t7.heap) τ8 F t → Nx F → ∃ m, m < n ∧ ∃ i F, Inv (X.blk t3 G3 sc en fp) [] (wipe τ (own.map (·.2))) F t ∧ tn i t.heap ∧ (∀ b ∈ fp, F b = none) ∧ W i m F := fun {t F} J nx => by
        obtain ⟨m', lt, w'⟩ := next F nx
        have pin : ∀ b ∈ fp, ∀ o, t7.heap.get? b = some o → t.heap.get? b = some o ∧ F b = none := fun b hb o e =>
          let z := J.pin (b, o) (List.mem_append_right _ (List.mem_append_right _ (mem_pinsAt hb e)))
          ⟨z.1, z.2.1⟩
        refine ⟨m', lt, i + 1, F, (J.unpinned (pins := [])).weak (by rw [← wip, wipe_length]) (fun j v e => by rw [← wip] at e; exact (wipe_some e).1), T.keep _ _ _ stt7 fun b hb o e => (pin b hb o e).1, fun b hb => ?_, w'⟩
        obtain ⟨o, e, _⟩ := T.obj _ _ stt7 b hb
        exact (pin b hb o e).2
      simp only [if_true]
      refine thnF (rk.run _ t9 τ8 F9 _ I9 more9) fun _ t10 ⟨y, F10, I10, r10, more10⟩ => ?_
      refine thnF (rv.run _ t10 τ8 F10 _ I10 more10) fun _ t11 ⟨z, F11, I11, r11, F12, put, nx⟩ => ?_
      exact hput (X.blk t3 G3 sc en fp) rfl rfl rfl rfl I11 put r10 r11 fun t12 I12 => close I12 nx
  exact codeAny_compStart_dict loop (T.self X.A 0 _ _ _ stt4 loop)
theorem pe_dcN {o0 : Addr → HO} {Put : Hp → Addr → V → V → Hp → Prop} {kx vx tg it : Expr} {sc : Scope} {own : List (Str × Nat)} {pos : Pos} {wi : TI} {g : TG} {tk tv : TE} (hnew : ∀ (h : Heap) (H : Hp), sysModules < h.objs.size → ObjOk X.prog X.w H (h.push { cls := .type "dict", data := .dict #[] }) h.objs.size (o0 h.objs.size))
    (hput : ∀ (X' : Cx), X'.prog = X.prog → X'.w = X.w → X'.A = X.A → X'.K = X.K → ∀ {pins : List (Addr × Obj)} {τ : L2.St} {H G : Hp} {s : Shared} {E : Value → Shared → Prop} {D : Addr} {y z : V} {u r : Value} {R : Unit → Shared → Prop}, Inv X' pins τ H s → Put H D y z G → RelV y u → RelV z r →
      (∀ t, Inv X' pins τ G t → R () t) → wpAny (model X'.prog X'.w) X'.A (dictSet D u r) R E s) (calm : X.calm = true) (nd : X.N.Nodup) (walk : PI X tg it wi) (blk : BlkOk X.N X.env.scope sc own)
    (pg : ∀ (s : Shared) (H : Hp) (C : Addr) (cl : List (Str × Addr)) (fp : List Addr), PG (X.blk s H sc (compEnvC sc cl C X.env) fp) tg g)
    (pk : ∀ (s : Shared) (H : Hp) (C : Addr) (cl : List (Str × Addr)) (fp : List Addr), PE (X.blk s H sc (compEnvC sc cl C X.env) fp) kx tk)
    (pv : ∀ (s : Shared) (H : Hp) (C : Addr) (cl : List (Str × Addr)) (fp : List Addr), PE (X.blk s H sc (compEnvC sc cl C X.env) fp) vx tv)
    (fold : ∀ x, foldedSetIterable it X.env x = pure x := by intro _; rfl) : PE X (.DictComp kx vx [⟨tg, it, [], 0⟩] sc pos) (tDN o0 Put wi g tk tv (own.map (·.2))) := by
  refine ⟨fun pins s τ H Q I h => ?_⟩
  rw [arm_eval_DictComp]
  refine core hnew hput calm nd I walk blk pg pk pv fold h fun D C t m G J q hn f => ⟨m, hn, fun h2 sb => ?_⟩
  obtain ⟨f0, f1, f2, f3, f4, f5⟩ := f
  exact ⟨.ref D, G, J.turned (t' := t.toks) (fun b o hb e => (sb.2 b hb).trans e) f0 f1 f3 f4 f5, rfl, q⟩
end
abbrev Pl := Rt × Rt
abbrev Ent := NestedKey × Addr × Value
def kR (r : Rt) : NestedKey := .tup [.num r.1, .num r.2]
def kP (p : Pl) : NestedKey := .tup [kR p.1, kR p.2]
/-- a dict with such keys -/
def ND (P : Program) (w : World) (D : Addr) (xs : List Ent) : HO := .ext fun h => (D == sysModules) = false ∧ xs.length ≤ sizeLine ∧ (xs.map (·.1)).Nodup ∧ ∃ o es ep, h.get? D = some o ∧ o.ExactDict ∧ o.data = .dict es ep ∧ es.toList = xs.map (entryOfKey (nestedKind P w))
/-- its entries, by what is known of the heap: places, each with True -/
def LP (K : PySem.W.Frag) (H : Hp) (us : List Pl) (xs : List Ent) : Prop := Paired (fun (p : Pl) (x : Ent) => x.1 = kP p ∧ Dp K H (.ref x.2.1) (pD p) ∧ x.2.2 = .bool true) us xs
theorem LP.same {K : PySem.W.Frag} {H H' : Hp} {us : List Pl} {xs : List Ent} (h : LP K H us xs) (s : Same H H') : LP K H' us xs := Paired.mapP h fun p x k => ⟨k.1, Dp_same s k.2.1, k.2.2⟩
theorem kR_inj {r s : Rt} (h : kR r = kR s) : r = s := by
  unfold kR at h
  injection h with h
  injection h with h1 h
  injection h with h2 h
  injection h1 with h1
  injection h2 with h2
  exact Prod.ext h1 h2
theorem kP_inj {p q : Pl} (h : kP p = kP q) : p = q := by
  unfold kP at h
  injection h with h
  injection h with h1 h
  injection h with h2 h
  exact Prod.ext (kR_inj h1) (kR_inj h2)
theorem nested_r {X : Cx} {pins : List (Addr × Obj)} {τ : L2.St} {H : Hp} {s : Shared} {v : V} {u : Value} {r : Rt} (I : Inv X pins τ H s) (h : Dp X.K H v (rD r)) (ru : RelV v u) : NestedIs s.heap (kR r) u := by
  obtain ⟨p, rfl, hs⟩ := dp_r h
  cases (show u = Value.ref p from ru)
  obtain ⟨its, rv, ⟨o, e, c, n, d⟩, _⟩ := I.tuple hs
  obtain ⟨i1, i2, rfl, r1, r2⟩ : ∃ i1 i2, its = [i1, i2] ∧ RelV (.int r.1) i1 ∧ RelV (.int r.2) i2 := by
    cases rv with
    | cons k1 k2 => cases k2 with
      | cons k3 k4 => cases k4 with
        | nil => exact ⟨_, _, rfl, k1, k3⟩
  obtain ⟨t1, rfl⟩ := r1
  obtain ⟨t2, rfl⟩ := r2
  exact .tup e c d (.cons (.int _ _) (.cons (.int _ _) .nil))
theorem nested_p {X : Cx} {pins : List (Addr × Obj)} {τ : L2.St} {H : Hp} {s : Shared} {b : Addr} {p : Pl} (I : Inv X pins τ H s) (h : Dp X.K H (.ref b) (pD p)) : (nestedKind X.prog X.w).is s.heap (kP p) b := by
  refine ⟨?_, by simp [kP, kR, NestedKey.depth, NestedKey.depthAll]⟩
  obtain ⟨b', x, y, e, hs, hx, hy⟩ := dp_t2 h
  cases e
  obtain ⟨its, rv, ⟨o, e, c, n, d⟩, _⟩ := I.tuple hs
  obtain ⟨i1, i2, rfl, r1, r2⟩ : ∃ i1 i2, its = [i1, i2] ∧ RelV x i1 ∧ RelV y i2 := by
    cases rv with
    | cons k1 k2 => cases k2 with
      | cons k3 k4 => cases k4 with
        | nil => exact ⟨_, _, rfl, k1, k3⟩
  exact .tup e c d (.cons (nested_r I hx r1) (.cons (nested_r I hy r2) .nil))
/-- D[place] = True -/
def PutN (K : PySem.W.Frag) (P : Program) (w : World) (H : Hp) (D : Addr) (y z : V) (G : Hp) : Prop := ∃ (us : List Pl) (xs : List Ent) (b : Addr) (p : Pl), H D = some (ND P w D xs) ∧ LP K H us xs ∧ y = .ref b ∧ Dp K H (.ref b) (pD p) ∧ xs.length < sizeLine ∧ z = .bl true ∧ G = upd H D (ND P w D (storedH xs (kP p) b (.bool true)))
theorem stored_len (xs : List Ent) (k : NestedKey) (b : Addr) (v : Value) : (storedH xs k b v).length ≤ xs.length + 1 := by
  unfold storedH
  split
  · rw [List.length_map]; omega
  · rw [List.length_append]; exact Nat.le_refl _
theorem hnewN (P : Program) (w : World) (h : Heap) (H : Hp) (hb : sysModules < h.objs.size) : ObjOk P w H (h.push { cls := .type "dict", data := .dict #[] }) h.objs.size (ND P w h.objs.size []) :=
  ⟨⟨beq_eq_false_iff_ne.mpr (Ne.symm (Nat.ne_of_lt hb)), Nat.zero_le _, List.nodup_nil, _, #[], 0, Heap.get?_push_size _ rfl, ⟨rfl, rfl, rfl⟩, rfl, rfl⟩, ⟨_, Heap.get?_push_size _ rfl⟩, fun h1 h2 ⟨a, b, c, o, es, ep, e, q⟩ k => ⟨a, b, c, o, es, ep, k o e, q⟩⟩
theorem lp_is {X : Cx} {pins : List (Addr × Obj)} {τ : L2.St} {H : Hp} {s : Shared} (I : Inv X pins τ H s) : ∀ {us : List Pl} {xs : List Ent}, LP X.K H us xs → ∀ x ∈ xs, (nestedKind X.prog X.w).is s.heap x.1 x.2.1
  | _, _, .nil, _, h => nomatch h
  | _, _, .cons a t, x, h => by
    rcases List.mem_cons.mp h with rfl | h
    · rw [a.1]; exact nested_p I a.2.1
    · exact lp_is I t x h
theorem putN_ok {X : Cx} {K : PySem.W.Frag} (eK : X.K = K) (room : X.A.units + 8 < cLine) {pins : List (Addr × Obj)} {τ : L2.St} {H G : Hp} {s : Shared} {E : Value → Shared → Prop} {D : Addr} {y z : V} {u r : Value} {R : Unit → Shared → Prop} (I : Inv X pins τ H s) (g : PutN K X.prog X.w H D y z G) (ry : RelV y u) (rz : RelV z r)
    (k : ∀ t, Inv X pins τ G t → R () t) : wpAny (model X.prog X.w) X.A (dictSet D u r) R E s := by
  subst eK
  obtain ⟨us, xs, b, p, eD, lp, rfl, hb, ln, rfl, rfl⟩ := g
  cases (show u = Value.ref b from ry)
  cases (show r = Value.bool true from rz)
  obtain ⟨⟨nm, big, nd, o, es, ep, ho, hx, hd, hes⟩, _, _⟩ := (show ObjOk X.prog X.w H s.heap D (ND X.prog X.w D xs) from I.hok D _ eD)
  refine wpAny_dictSet_heap (hsz := big) (knd := nestedKind X.prog X.w) room (nested_p I hb) ⟨o, es, ep, ho, hx, hd, hes, lp_is I lp, nd⟩ fun h2 dh2 same => k _ ?_
  obtain ⟨o2, es2, ep2, ho2, hx2, hd2, hes2, _, hn2⟩ := dh2
  refine d_write I (by rw [eD]; exact True.intro) same ⟨o2, ho2⟩ ⟨⟨nm, ?_, hn2, o2, es2, ep2, ho2, hx2, hd2, hes2⟩, ⟨o2, ho2⟩, fun h1 h2 ⟨a, b, c, o, es, ep, e, q⟩ k => ⟨a, b, c, o, es, ep, k o e, q⟩⟩
  have := stored_len xs (kP p) b (.bool true)
  omega
theorem hputN {X : Cx} {K : PySem.W.Frag} {P : Program} {w : World} (eK : X.K = K) (room : X.A.units + 8 < cLine) (eP : X.prog = P) (ew : X.w = w) (X' : Cx) (e1 : X'.prog = X.prog) (e2 : X'.w = X.w) (e3 : X'.A = X.A) (e4 : X'.K = X.K) {pins : List (Addr × Obj)} {τ : L2.St} {H G : Hp} {s : Shared} {E : Value → Shared → Prop} {D : Addr} {y z : V} {u r : Value} {R : Unit → Shared → Prop}
    (I : Inv X' pins τ H s) (g : PutN K P w H D y z G) (ry : RelV y u) (rz : RelV z r) (k : ∀ t, Inv X' pins τ G t → R () t) : wpAny (model X'.prog X'.w) X'.A (dictSet D u r) R E s :=
  putN_ok (X := X') (e4.trans eK) (by rw [e3]; exact room) I (by rw [e1, e2, eP, ew]; exact g) ry rz k
/-- what comes of a store -/
def insP (us : List Pl) (p : Pl) : List Pl := if p ∈ us then us else us ++ [p]
def uqP (ps : List Pl) : List Pl := ps.foldl insP []
theorem lp_at {K : PySem.W.Frag} {H : Hp} : ∀ {us : List Pl} {xs : List Ent} (_ : LP K H us xs) (p : Pl), (atKey xs (kP p)).isSome = true ↔ p ∈ us
  | _, _, .nil, p => by simp [atKey]
  | q :: us, x :: xs, .cons a t, p => by
    have ih := lp_at t p
    by_cases e : q = p
    · subst e
      have : atKey (x :: xs) (kP q) = some x.2 := by
        unfold atKey
        rw [List.find?_cons]
        simp [a.1]
      rw [this]
      simp
    · have : atKey (x :: xs) (kP p) = atKey xs (kP p) := by
        unfold atKey
        have n : decide (x.1 = kP p) = false := decide_eq_false fun z => e (kP_inj (a.1.symm.trans z))
        rw [List.find?_cons]
        simp [n]
      rw [this, ih, List.mem_cons]
      constructor
      · exact .inr
      · rintro (z | z)
        · exact absurd z.symm e
        · exact z
theorem lp_put {K : PySem.W.Frag} {H : Hp} {us : List Pl} {xs : List Ent} {b : Addr} {p : Pl} (h : LP K H us xs) (hb : Dp K H (.ref b) (pD p)) : LP K H (insP us p) (storedH xs (kP p) b (.bool true)) := by
  unfold storedH insP
  by_cases m : p ∈ us
  · rw [if_pos m, if_pos ((lp_at h p).mpr m)]
    have : xs.map (putAt (kP p) (.bool true)) = xs := by
      have : ∀ {us : List Pl} {xs : List Ent}, LP K H us xs → xs.map (putAt (kP p) (.bool true)) = xs := by
        intro us xs h
        induction h with
        | nil => rfl
        | cons a t ih =>
          rename_i q x us xs
          rw [List.map_cons, ih]
          congr 1
          unfold putAt
          split
          · exact Prod.ext rfl (Prod.ext rfl a.2.2.symm)
          · rfl
      exact this h
    rw [this]
    exact h
  · rw [if_neg m, if_neg fun z => m ((lp_at h p).mp z)]
    have : ∀ {us : List Pl} {xs : List Ent}, LP K H us xs → LP K H (us ++ [p]) (xs ++ [(kP p, b, .bool true)]) := by
      intro us xs h
      induction h with
      | nil => exact .cons ⟨rfl, hb, rfl⟩ .nil
      | cons a t ih => exact .cons a ih
    exact this h
theorem uqP_snoc (ps : List Pl) (p : Pl) : uqP (ps ++ [p]) = insP (uqP ps) p := by unfold uqP; rw [List.foldl_append]; rfl
theorem insP_mem {us : List Pl} {p q : Pl} : q ∈ insP us p ↔ q ∈ us ∨ q = p := by
  unfold insP
  split
  · rename_i m
    exact ⟨.inl, fun h => h.elim id fun z => z ▸ m⟩
  · rw [List.mem_append, List.mem_singleton]
theorem insP_nodup {us : List Pl} {p : Pl} (h : us.Nodup) : (insP us p).Nodup := by
  unfold insP
  split
  · exact h
  · rename_i m
    exact List.nodup_append.mpr ⟨h, by simp, fun a ha b hb => by rw [List.mem_singleton.mp hb]; intro z; exact m (z ▸ ha)⟩
theorem foldP_spec : ∀ (ds us : List Pl), us.Nodup → (ds.foldl insP us).Nodup ∧ (∀ e, e ∈ ds.foldl insP us ↔ e ∈ us ∨ e ∈ ds) ∧ (ds.foldl insP us).length ≤ us.length + ds.length
  | [], us, h => ⟨h, fun e => by simp, by simp⟩
  | d :: ds, us, h => by
    obtain ⟨a, b, c⟩ := foldP_spec ds (insP us d) (insP_nodup h)
    refine ⟨a, fun e => ?_, ?_⟩
    · rw [List.foldl_cons, b, insP_mem, List.mem_cons, or_assoc]
    · have : (insP us d).length ≤ us.length + 1 := by
        unfold insP
        split
        · omega
        · rw [List.length_append]; exact Nat.le_refl _
      rw [List.foldl_cons, List.length_cons]
      omega
theorem uqP_nodup (ds : List Pl) : (uqP ds).Nodup := (foldP_spec ds [] List.nodup_nil).1
theorem uqP_mem {ds : List Pl} {e : Pl} : e ∈ uqP ds ↔ e ∈ ds := by rw [show uqP ds = ds.foldl insP [] from rfl, (foldP_spec ds [] List.nodup_nil).2.1]; simp
theorem uqP_len (ds : List Pl) : (uqP ds).length ≤ ds.length := by have := (foldP_spec ds [] List.nodup_nil).2.2; rw [show uqP ds = ds.foldl insP [] from rfl]; simpa using this
mutual
/-- data without lists stays, where a thing that is no tuple changes -/
theorem Dp_notT {K : PySem.W.Frag} {H H' : Hp} {p : Addr} {φ : Heap → Prop} (hp : H p = some (.ext φ)) (s : ∀ b o, b ≠ p → H b = some o → H' b = some o) : ∀ {v : V} {d : PyData}, noL d = true → Dp K H v d → Dp K H' v d
  | _, _, _, .non => .non
  | _, _, _, .bl b => .bl b
  | _, _, _, .int i => .int i
  | _, _, _, .str x => .str x
  | _, _, n, .lst _ _ => by simp [noL] at n
  | _, _, n, .tup (a := a) h g => by
    have n2 := n
    simp only [noL] at n2
    refine .tup ?_ (DpAll_notT hp s n2 g)
    rcases h with (h | ⟨o, h⟩) | h
    · exact .inl (.inl (s _ _ (fun e => by rw [e, hp] at h; cases h) h))
    · exact .inl (.inr ⟨o, s _ _ (fun e => by rw [e, hp] at h; cases h) h⟩)
    · exact .inr h
theorem DpAll_notT {K : PySem.W.Frag} {H H' : Hp} {p : Addr} {φ : Heap → Prop} (hp : H p = some (.ext φ)) (s : ∀ b o, b ≠ p → H b = some o → H' b = some o) : ∀ {vs : List V} {ds : List PyData}, noLs ds = true → DpAll K H vs ds → DpAll K H' vs ds
  | _, _, _, .nil => .nil
  | _, _, n, .cons h g => by
    have n2 := n
    simp only [noLs, Bool.and_eq_true] at n2
    exact .cons (Dp_notT hp s n2.1 h) (DpAll_notT hp s n2.2 g)
end
/-- the walk over a list or a tuple of places -/
theorem dc_places {K : PySem.W.Frag} {P : Program} {w : World} {a : Addr} {xs : List V} {j : Nat} {g : TG} {tk tv : TE} {own : List Nat} {τ : L2.St} {H : Hp} {Q : VK} (ps : List Pl) (hj : τ[j]? = some (some (.ref a))) (h0 : SqL K H a xs ∨ SqT K H a xs) (hl : ps.length = xs.length) (hz : xs.length < sizeLine)
    (hs : ∀ (i : Nat) (x : V) (F : Hp) (R : V → V → Hp → Prop) (p : Pl), xs[i]? = some x → ps[i]? = some p → Same H F → (∀ b G, Same F G → Dp K G (.ref b) (pD p) → R (.ref b) (.bl true) G) → g x (wipe τ own) F fun τ2 F2 => wipe τ2 own = wipe τ own ∧ tk τ2 F2 fun y F3 => tv τ2 F3 fun z F4 => R y z F4)
    (hd : ∀ (D : Addr) (F : Hp) (es : List Ent), Same H F → F D = some (ND P w D es) → LP K F (uqP ps) es → Q (.ref D) F) : tDN (fun D => ND P w D []) (PutN K P w) (iSeq K (tVar j)) g tk tv own τ H Q := by
  have turnD : ∀ (D : Addr) (i : Nat) (F : Hp) (x : V), H D = none → xs[i]? = some x → (Same H F ∧ ∃ es, F D = some (ND P w D es) ∧ LP K F (uqP (ps.take i)) es) →
      g x (wipe τ own) F fun τ2 F2 => wipe τ2 own = wipe τ own ∧ tk τ2 F2 fun y F3 => tv τ2 F3 fun z F4 => ∃ F5, PutN K P w F4 D y z F5 ∧ (Same H F5 ∧ ∃ es, F5 D = some (ND P w D es) ∧ LP K F5 (uqP (ps.take (i + 1))) es) := by
    rintro D i F x nD ex ⟨sF, es, eD, lp⟩
    have il : i < ps.length := by rw [hl]; exact (List.getElem?_eq_some_iff.mp ex).1
    refine hs i x F _ ps[i] ex (List.getElem?_eq_getElem il) sF fun b G sG hb => ?_
    have le : es.length = (uqP (ps.take i)).length := (Paired.length lp).symm
    have ll := uqP_len (ps.take i)
    rw [List.length_take] at ll
    have eG := sG _ _ eD
    have keepD : ∀ {v : V} {d : PyData}, noL d = true → Dp K G v d → Dp K (upd G D (ND P w D (storedH es (kP ps[i]) b (.bool true)))) v d := fun {v d} n h => by
      exact Dp_notT eG (fun b o n e => by rw [upd_ne n]; exact e) n h
    refine ⟨_, ⟨_, es, b, ps[i], eG, lp.same sG, rfl, hb, by omega, rfl, rfl⟩, fun c o e => ?_, _, upd_same, ?_⟩
    · have cD : c ≠ D := ne_of_none e nD
      rw [upd_ne cD]
      exact sG _ _ (sF _ _ e)
    · rw [List.take_succ_eq_append_getElem il, uqP_snoc]
      exact Paired.mapP (lp_put (lp.same sG) hb) fun p x k => ⟨k.1, keepD (by simp [pD, rD, noL, noLs]) k.2.1, k.2.2⟩
  have mk : ∀ (D : Addr) (nD : H D = none), Same H (upd H D (ND P w D [])) ∧ ∃ es, (upd H D (ND P w D [])) D = some (ND P w D es) ∧ LP K (upd H D (ND P w D [])) (uqP (ps.take 0)) es := fun D nD => ⟨PB.same_new nD, [], upd_same, .nil⟩
  have fin : ∀ D F, (Same H F ∧ ∃ es, F D = some (ND P w D es) ∧ LP K F (uqP (ps.take xs.length)) es) → Q (.ref D) F := fun D F ⟨s, es, e, lp⟩ => hd D F es s e (by rw [← hl, List.take_length] at lp; exact lp)
  rcases h0 with h0 | h0
  · refine .inl ⟨_, hj, a, rfl, ⟨_, h0⟩, fun D nD => ⟨fun i m F => m = xs.length - i ∧ i ≤ xs.length ∧ (Same H F ∧ ∃ es, F D = some (ND P w D es) ∧ LP K F (uqP (ps.take i)) es), ⟨_, rfl, Nat.zero_le _, mk D nD⟩, ?_⟩⟩
    rintro i m F ⟨rfl, hi, p⟩
    have sq := p.1.seq h0
    by_cases lt : i < xs.length
    · exact .inr ⟨⟨xs, xs[i], sq, List.getElem?_eq_getElem lt⟩, _, fun F' p' => ⟨xs.length - (i + 1), by omega, rfl, lt, p'⟩, fun x F' y => by
        obtain ⟨rfl, y⟩ := y
        exact turnD D i _ x nD (y xs sq) p⟩
    · obtain rfl : i = xs.length := by omega
      exact .inl ⟨⟨xs, sq, Nat.le_refl _⟩, fin D F p⟩
  · refine .inr ⟨_, hj, a, rfl, ⟨_, h0⟩, fun D nD => ⟨fun i m F => m = xs.length - i ∧ i ≤ xs.length ∧ (Same H F ∧ ∃ es, F D = some (ND P w D es) ∧ LP K F (uqP (ps.take i)) es), ⟨_, rfl, Nat.zero_le _, mk D nD⟩, ?_⟩⟩
    rintro i m F ⟨rfl, hi, p⟩
    have sq := PB.same_t p.1 h0
    by_cases lt : i < xs.length
    · exact .inr ⟨⟨xs, xs[i], sq, List.getElem?_eq_getElem lt⟩, _, fun F' p' => ⟨xs.length - (i + 1), by omega, rfl, lt, p'⟩, fun x F' y => by
        obtain ⟨rfl, y⟩ := y
        exact turnD D i _ x nD (y xs sq) p⟩
    · obtain rfl : i = xs.length := by omega
      exact .inl ⟨⟨xs, sq, Nat.le_refl _⟩, fin D F p⟩
/-- list(such a dict) -/
def rListN (K : PySem.W.Frag) (P : Program) (w : World) : List V → Hp → VK → Prop := fun vs H Q => ∃ (D : Addr) (es : List Ent) (us : List Pl), vs = [.ref D] ∧ H D = some (ND P w D es) ∧ LP K H us es ∧ ∀ (p : Addr) (ys : List V), H p = none → DpAll K H ys (us.map pD) → Q (.ref p) (upd H p (.lst ys))
theorem lp_dps {K : PySem.W.Frag} {H : Hp} : ∀ {us : List Pl} {xs : List Ent}, LP K H us xs → DpAll K H (xs.map fun x => V.ref x.2.1) (us.map pD)
  | _, _, .nil => .nil
  | _, _, .cons a t => .cons a.2.1 (lp_dps t)
section
variable {X : Cx}
theorem cr_listN (hc : X.calm = true) : CallR X (.type "list") (rListN X.K X.prog X.w) := by
  rintro pins s τ H vs args Q I r ⟨D, xs, us, rfl, eD, lp, q⟩
  obtain ⟨u, rfl, rx⟩ := r.one
  cases rx
  obtain ⟨⟨nm, big, nd, o, es, ep, ho, hx, hdt, he⟩, _, _⟩ := (show ObjOk X.prog X.w H s.heap D (ND X.prog X.w D xs) from I.hok D _ eD)
  have l1 : es.size = xs.length := by
    have := congrArg List.length he
    simpa using this
  refine PySem.W.kdl_call (kdl_raw nm hx hdt) (I.ok.hd hc) ho (by omega) fun h' tk acc' c' kp e it => ?_
  have ea : acc'.toList = xs.map fun x => Value.ref x.2.1 := by
    have hl : acc'.toList.length = xs.length := by rw [Array.length_toList, it.1]; exact l1
    refine List.ext_getElem? fun j => ?_
    rw [List.getElem?_map]
    by_cases jl : j < xs.length
    · obtain ⟨v, hv⟩ : ∃ v, acc'[j]? = some v := ⟨_, Array.getElem?_eq_getElem (by rw [← Array.length_toList]; omega)⟩
      obtain ⟨en, hen, ev⟩ := it.2 j v hv
      have q2 : es.toList[j]? = some en := by rw [Array.getElem?_toList]; exact hen
      rw [he, List.getElem?_map, List.getElem?_eq_getElem jl] at q2
      have q3 : en = entryOfKey (nestedKind X.prog X.w) xs[j] := (Option.some.inj q2).symm
      rw [Array.getElem?_toList, hv, List.getElem?_eq_getElem jl, ev, q3]
      rfl
    · rw [List.getElem?_eq_none (by omega), List.getElem?_eq_none (by omega)]
      rfl
  have rv : Vals (xs.map fun x => V.ref x.2.1) acc'.toList := by
    rw [ea]
    have : ∀ l : List Ent, Vals (l.map fun x => V.ref x.2.1) (l.map fun x => Value.ref x.2.1) := fun l => by
      induction l with
      | nil => exact .nil
      | cons a l ih => exact .cons rfl ih
    exact this xs
  refine ⟨.ref s.heap.objs.size, _, I.laid (t' := tk) (o := .lst (xs.map fun x => V.ref x.2.1)) kp (Nat.le_refl _) ?_, rfl, q _ _ (I.hok.fresh (Nat.le_refl _)) (lp_dps lp)⟩
  exact ⟨by rw [List.length_map]; exact big, acc'.toList, c', rv, by rw [Array.toArray_toList]; exact e⟩
end
end KN
set_option Elab.async false
set_option linter.all false
set_option maxRecDepth 100000
set_option maxHeartbeats 4000000
namespace F3
open PySem PySem.Spec PyProof.Rows L2 FX RM PB
def topS (i : Nat) : Stmt := PySem.Challenge.pw_feltstone_k05_whole_patches_asked.main.body.getD i (.Pass ⟨0, 0, 0, 0⟩)
theorem cou_r {K : PySem.W.Frag} {H : Hp} {v : V} {r : Rt} (h : Dp K H v (rD r)) : Cou K H v (.int r.1) (.int r.2) := dir_t h
theorem sz1 : Sz 2000 1 := by show (1 : Int).natAbs < 2 ^ 2000; exact Nat.one_lt_two_pow (by decide)
theorem g2_one (t : Int) : g2 t 1 = 1 := by unfold g2; show ((Nat.gcd t.natAbs 1 : Nat) : Int) = 1; rw [Nat.gcd_one_right]; rfl
theorem norm_one (t : Int) : norm t 1 = (t, 1) := by unfold norm; rw [g2_one]; simp
theorem radd_fast {r s : Rt} (hr : IsRat r) (e : r.2 = s.2) : norm (r.1 + s.1) r.2 = radd r s := by
  unfold radd
  refine norm_eq hr.1 (Int.mul_pos hr.1 (e ▸ hr.1)) ?_
  rw [← e]; grind
/-! promises: ratios -/
def spLow (K : PySem.W.Frag) : Sp := fun vs H Q _ => ∃ t b : Int, vs = [.int t, .int b] ∧ 0 < b ∧ Sz 8000 t ∧ Sz 8000 b ∧ ∀ H' v, Same H H' → Dp K H' v (rD (norm t b)) → Q v H'
def spBin (K : PySem.W.Frag) (o : Rt → Rt → Rt) : Sp := fun vs H Q _ => ∃ v u r s, vs = [v, u] ∧ Dp K H v (rD r) ∧ Dp K H u (rD s) ∧ IsRat r ∧ IsRat s ∧ SzR 2000 r ∧ SzR 2000 s ∧ ∀ H' z, Same H H' → Dp K H' z (rD (o r s)) → Q z H'
def spNeg (K : PySem.W.Frag) : Sp := fun vs H Q _ => ∃ v r, vs = [v] ∧ Dp K H v (rD r) ∧ ∀ H' z, Same H H' → Dp K H' z (rD (rneg r)) → Q z H'
/-- the first by a positive whole number -/
def spOver (K : PySem.W.Frag) : Sp := fun vs H Q _ => ∃ v u r n, vs = [v, u] ∧ Dp K H v (rD r) ∧ Dp K H u (rD (n, 1)) ∧ 0 < n ∧ IsRat r ∧ SzR 2000 r ∧ Sz 2000 n ∧ ∀ H' z, Same H H' → Dp K H' z (rD (rmul r (1, n))) → Q z H'
section
variable {P : Program} {w : World} {K : PySem.W.Frag} {mg : Str → Option Value} {base : Heap}
abbrev slowest_terms : Stmt := topS 11
theorem sclowest_terms : FnScope ["top", "bottom", "share"] ["top", "bottom"] (defScope slowest_terms) := ⟨rfl, rfl, rfl, by decide +kernel, rfl, by decide +kernel, by decide +kernel⟩
theorem oklowest_terms (T : Txt K mg "lowest_terms" slowest_terms) (mgcd : mg "gcd" = some (.builtin "math.gcd")) : DefOk P w K mg base CX0 "lowest_terms" 1 ["top", "bottom"] (spLow K) := by
  obtain ⟨f, fd, F, gf⟩ := T
  refine ⟨f, fd, gf, F.kp, F.binds (fun _ _ _ _ _ _ us hl => match us, hl with | [_, _], _ => rfl), F.ok sclowest_terms (fun vs H Q E h => ?_) (fun cdv A outer s H vs Q E hr h => ?_)⟩
  · obtain ⟨t, b, rfl, _⟩ := h; rfl
  · obtain ⟨t, b, rfl, b0, zt, zb, q⟩ := h
    refine ⟨_, (pss_cons (ps_if (pt_cmpR op_eq (pv 1) pe_int (nomark _)) (pss_one (ps_ret (pe_tup (pa_cons (pv 0) (pa_cons pe_int pa_nil))))) pss_nil) (pss_cons (ps_set (i := 2) sclowest_terms.nd rfl (.inl rfl) (pe_callBfun cr_gcd (by rfl) mgcd (pa_cons (pv 0) (pa_cons (pv 1) pa_nil)))) (pss_cons (ps_if (pt_cmpR op_lt (pv 1) pe_int (nomark _)) (pss_one (ps_set (i := 2) sclowest_terms.nd rfl (.inl rfl) (pe_un un_neg (pv 2)))) pss_nil) (pss_one (ps_ret (pe_tup (pa_cons (pe_op op_fdivW (pv 0) (pv 2)) (pa_cons (pe_op op_fdivW (pv 1) (pv 2)) pa_nil)))))))), ?_⟩
    refine ⟨.int b, rfl, rfl, _, rfl, ite2 (fun e => ?_) (fun e => ?_)⟩
    · have e1 : b = 1 := V.int.inj (of_decide_eq_true e)
      subst e1
      refine ⟨_, rfl, (by show 2 ≤ sizeLine; decide), fun p np => q _ _ (same_new np) ?_⟩
      rw [norm_one]; exact dp_mkr np
    · have bn : b ≠ 0 := by omega
      have gp := g2_pos (t := t) bn
      have gz := sz_g (t := t) bn zb
      refine ⟨_, rfl, _, rfl, t, b, rfl, ?_⟩
      show tSeq _ _ _ [some (.int t), some (.int b), some (.int (g2 t b))] H
      refine ⟨_, rfl, _, _, rfl, rfl, _, rfl, ?_⟩
      rw [decide_eq_false (by omega : ¬ b < 0)]
      refine iteF ⟨_, rfl, _, rfl, _, _, rfl, rfl, wide_div gp gz (by decide) (by decide), _, rfl, _, rfl, _, _, rfl, rfl, wide_div gp gz (by decide) (by decide), (by show 2 ≤ sizeLine; decide), fun p np => q _ _ (same_new np) (dp_mkr np)⟩
abbrev splus : Stmt := topS 12
theorem scplus : FnScope ["one", "other"] ["one", "other"] (defScope splus) := ⟨rfl, rfl, rfl, by decide +kernel, rfl, by decide +kernel, by decide +kernel⟩
theorem okplus (T : Txt K mg "plus" splus) (Glowest_terms : DefOk P w K mg base CX0 "lowest_terms" 1 ["top", "bottom"] (spLow K)) : DefOk P w K mg base CX0 "plus" 2 ["one", "other"] (spBin K radd) := by
  obtain ⟨f, fd, F, gf⟩ := T
  refine ⟨f, fd, gf, F.kp, F.binds (fun _ _ _ _ _ _ us hl => match us, hl with | [_, _], _ => rfl), F.ok scplus (fun vs H Q E h => ?_) (fun cdv A outer s H vs Q E hr h => ?_)⟩
  · obtain ⟨v, u, r, s_, rfl, _⟩ := h; rfl
  · obtain ⟨v, u, r, s_, rfl, hv, hu, ir, is_, zr, zs, q⟩ := h
    refine ⟨_, (pss_cons (ps_if (pt_cmpR op_eq (pe_ix ix_it (pv 0) pe_int (fun _ _ => rfl)) (pe_ix ix_it (pv 1) pe_int (fun _ _ => rfl)) (nomark _)) (pss_one (ps_ret (pe_def Glowest_terms (hr.mono (by decide)) (by rfl) (pa_cons (pe_op op_add (pe_ix ix_it (pv 0) pe_int (fun _ _ => rfl)) (pe_ix ix_it (pv 1) pe_int (fun _ _ => rfl))) (pa_cons (pe_ix ix_it (pv 0) pe_int (fun _ _ => rfl)) pa_nil))))) pss_nil) (pss_one (ps_ret (pe_def Glowest_terms (hr.mono (by decide)) (by rfl) (pa_cons (pe_op op_add (pe_op op_mulW (pe_ix ix_it (pv 0) pe_int (fun _ _ => rfl)) (pe_ix ix_it (pv 1) pe_int (fun _ _ => rfl))) (pe_op op_mulW (pe_ix ix_it (pv 1) pe_int (fun _ _ => rfl)) (pe_ix ix_it (pv 0) pe_int (fun _ _ => rfl)))) (pa_cons (pe_op op_mulW (pe_ix ix_it (pv 0) pe_int (fun _ _ => rfl)) (pe_ix ix_it (pv 1) pe_int (fun _ _ => rfl))) pa_nil)))))), ?_⟩
    have c1 := cou_r hv
    have c2 := cou_r hu
    refine ⟨v, rfl, _, _, 1, _, rfl, c1, rfl, u, rfl, _, _, 1, _, rfl, c2, rfl, rfl, _, rfl, ite2 (fun e => ?_) (fun e => ?_)⟩
    · have e2 : r.2 = s_.2 := V.int.inj (of_decide_eq_true e)
      refine ⟨v, rfl, _, _, 0, _, rfl, c1, rfl, u, rfl, _, _, 0, _, rfl, c2, rfl, _, _, rfl, rfl, v, rfl, _, _, 1, _, rfl, c1, rfl, _, _, rfl, ir.1, sz_mono (sz_add zr.1 zs.1) (by decide), sz_mono zr.2 (by decide), fun H' z sm hz => q H' z sm ?_⟩
      rw [← radd_fast ir e2]; exact hz
    · refine ⟨v, rfl, _, _, 0, _, rfl, c1, rfl, u, rfl, _, _, 1, _, rfl, c2, rfl, _, _, rfl, rfl, wide_mul zr.1 zs.2 (by decide) (by decide) (by decide), u, rfl, _, _, 0, _, rfl, c2, rfl, v, rfl, _, _, 1, _, rfl, c1, rfl, _, _, rfl, rfl, wide_mul zs.1 zr.2 (by decide) (by decide) (by decide), _, _, rfl, rfl, ?_⟩
      refine ⟨v, rfl, _, _, 1, _, rfl, c1, rfl, u, rfl, _, _, 1, _, rfl, c2, rfl, _, _, rfl, rfl, wide_mul zr.2 zs.2 (by decide) (by decide) (by decide), _, _, rfl, Int.mul_pos ir.1 is_.1, sz_mono (sz_add (sz_mul zr.1 zs.2) (sz_mul zs.1 zr.2)) (by decide), sz_mono (sz_mul zr.2 zs.2) (by decide), fun H' z sm hz => q H' z sm hz⟩
abbrev snegative : Stmt := topS 15
theorem scnegative : FnScope ["one"] ["one"] (defScope snegative) := ⟨rfl, rfl, rfl, by decide +kernel, rfl, by decide +kernel, by decide +kernel⟩
theorem oknegative (T : Txt K mg "negative" snegative)  : DefOk P w K mg base CX0 "negative" 1 ["one"] (spNeg K) := by
  obtain ⟨f, fd, F, gf⟩ := T
  refine ⟨f, fd, gf, F.kp, F.binds (fun _ _ _ _ _ _ us hl => match us, hl with | [_], _ => rfl), F.ok scnegative (fun vs H Q E h => ?_) (fun cdv A outer s H vs Q E hr h => ?_)⟩
  · obtain ⟨v, r, rfl, _⟩ := h; rfl
  · obtain ⟨v, r, rfl, hv, q⟩ := h
    refine ⟨_, (pss_one (ps_ret (pe_tup (pa_cons (pe_un un_neg (pe_ix ix_it (pv 0) pe_int (fun _ _ => rfl))) (pa_cons (pe_ix ix_it (pv 0) pe_int (fun _ _ => rfl)) pa_nil))))), ?_⟩
    have c1 := cou_r hv
    exact ⟨v, rfl, _, _, 0, _, rfl, c1, rfl, _, rfl, v, rfl, _, _, 1, _, rfl, c1, rfl, (by show 2 ≤ sizeLine; decide), fun p np => q _ _ (same_new np) (dp_mkr np)⟩
abbrev sminus : Stmt := topS 13
theorem scminus : FnScope ["one", "other"] ["one", "other"] (defScope sminus) := ⟨rfl, rfl, rfl, by decide +kernel, rfl, by decide +kernel, by decide +kernel⟩
theorem okminus (T : Txt K mg "minus" sminus) (Gplus : DefOk P w K mg base CX0 "plus" 2 ["one", "other"] (spBin K radd)) (Gnegative : DefOk P w K mg base CX0 "negative" 1 ["one"] (spNeg K)) : DefOk P w K mg base CX0 "minus" 3 ["one", "other"] (spBin K rsub) := by
  obtain ⟨f, fd, F, gf⟩ := T
  refine ⟨f, fd, gf, F.kp, F.binds (fun _ _ _ _ _ _ us hl => match us, hl with | [_, _], _ => rfl), F.ok scminus (fun vs H Q E h => ?_) (fun cdv A outer s H vs Q E hr h => ?_)⟩
  · obtain ⟨v, u, r, s_, rfl, _⟩ := h; rfl
  · obtain ⟨v, u, r, s_, rfl, hv, hu, ir, is_, zr, zs, q⟩ := h
    refine ⟨_, (pss_one (ps_ret (pe_def Gplus (hr.mono (by decide)) (by rfl) (pa_cons (pv 0) (pa_cons (pe_def Gnegative (hr.mono (by decide)) (by rfl) (pa_cons (pv 1) pa_nil)) pa_nil))))), ?_⟩
    refine ⟨v, rfl, u, rfl, u, s_, rfl, hu, fun H1 z1 s1 hz1 => ?_⟩
    refine ⟨v, z1, r, rneg s_, rfl, Dp_same s1 hv, hz1, ir, rat_neg is_, zr, szr_neg zs, fun H' z sm hz => q H' z (s1.trans sm) ?_⟩
    rw [rsub_eq]; exact hz
abbrev sover : Stmt := topS 14
theorem scover : FnScope ["one", "other"] ["one", "other"] (defScope sover) := ⟨rfl, rfl, rfl, by decide +kernel, rfl, by decide +kernel, by decide +kernel⟩
theorem okover (T : Txt K mg "over" sover) (Glowest_terms : DefOk P w K mg base CX0 "lowest_terms" 1 ["top", "bottom"] (spLow K)) : DefOk P w K mg base CX0 "over" 2 ["one", "other"] (spOver K) := by
  obtain ⟨f, fd, F, gf⟩ := T
  refine ⟨f, fd, gf, F.kp, F.binds (fun _ _ _ _ _ _ us hl => match us, hl with | [_, _], _ => rfl), F.ok scover (fun vs H Q E h => ?_) (fun cdv A outer s H vs Q E hr h => ?_)⟩
  · obtain ⟨v, u, r, n, rfl, _⟩ := h; rfl
  · obtain ⟨v, u, r, n, rfl, hv, hu, n0, ir, zr, zn, q⟩ := h
    refine ⟨_, (pss_cons (ps_if (pt_cmpR op_eq (pe_ix ix_it (pv 1) pe_int (fun _ _ => rfl)) pe_int (nomark _)) (pss_one ps_never) pss_nil) (pss_one (ps_ret (pe_def Glowest_terms (hr.mono (by decide)) (by rfl) (pa_cons (pe_op op_mulW (pe_ix ix_it (pv 0) pe_int (fun _ _ => rfl)) (pe_ix ix_it (pv 1) pe_int (fun _ _ => rfl))) (pa_cons (pe_op op_mulW (pe_ix ix_it (pv 0) pe_int (fun _ _ => rfl)) (pe_ix ix_it (pv 1) pe_int (fun _ _ => rfl))) pa_nil)))))), ?_⟩
    have c1 := cou_r hv
    have c2 := cou_r hu
    refine ⟨u, rfl, _, _, 0, _, rfl, c2, rfl, rfl, _, rfl, ?_⟩
    rw [decide_eq_false (fun z => by have := V.int.inj z; omega : ¬ V.int ((n, (1 : Int)).1) = V.int 0)]
    refine iteF ⟨v, rfl, _, _, 0, _, rfl, c1, rfl, u, rfl, _, _, 1, _, rfl, c2, rfl, _, _, rfl, rfl, wide_mul zr.1 sz1 (by decide) (by decide) (by decide), v, rfl, _, _, 1, _, rfl, c1, rfl, u, rfl, _, _, 0, _, rfl, c2, rfl, _, _, rfl, rfl, wide_mul zr.2 zn (by decide) (by decide) (by decide), _, _, rfl, Int.mul_pos ir.1 n0, sz_mono (sz_mul zr.1 sz1) (by decide), sz_mono (sz_mul zr.2 zn) (by decide), fun H' z sm hz => q H' z sm hz⟩
end
end F3
set_option Elab.async false
set_option linter.all false
set_option maxRecDepth 100000
set_option maxHeartbeats 4000000
set_option exponentiation.threshold 3000
namespace F3
open PySem PySem.Spec PyProof.Rows L2 FX RM PB
theorem sz_gg {n : Nat} {x y : Int} (h : x ≠ 0 ∨ y ≠ 0) (a : Sz n x) (b : Sz n y) : Sz n (g2 x y) := by
  by_cases z : y = 0
  · have hx : x ≠ 0 := by
      rcases h with h | h
      · exact h
      · exact absurd z h
    refine Nat.lt_of_le_of_lt ?_ a
    unfold g2
    rw [Int.natAbs_natCast]
    exact Nat.gcd_le_left _ (by omega)
  · exact sz_g z b
theorem g2_posO {x y : Int} (h : x ≠ 0 ∨ y ≠ 0) : 0 < g2 x y := by
  rcases h with h | h
  · exact g2_pos' h
  · exact g2_pos h
/-! places: what is reckoned -/
abbrev Pl := Rt × Rt
def RatP (p : Pl) : Prop := IsRat p.1 ∧ IsRat p.2
def SzP (n : Nat) (p : Pl) : Prop := SzR n p.1 ∧ SzR n p.2
def rawA (d : Int × Int) (p : Pl) : Int × Int := (d.1 * p.1.1 * p.2.2 + d.2 * p.2.1 * p.1.2, p.1.2 * p.2.2)
def amt (d : Int × Int) (p : Pl) : Rt := norm (rawA d p).1 (rawA d p).2
def stepF (p s : Pl) : Pl := (rsub s.1 p.1, rsub s.2 p.2)
def byP (p s : Pl) : Pl := (radd p.1 s.1, radd p.2 s.2)
def growP (p : Pl) (z : Rt) : Pl := (rmul p.1 z, rmul p.2 z)
def wrow (p : Pl) : Int × Int × Int := if p.1.2 = p.2.2 then (p.1.1, p.2.1, p.1.2) else (p.1.1 * p.2.2, p.2.1 * p.1.2, p.1.2 * p.2.2)
def rawC (f g h : Int × Int × Int) : Int × Int := (f.2.2 * (g.1 * h.2.1 - g.2.1 * h.1) + g.2.2 * (h.1 * f.2.1 - h.2.1 * f.1) + h.2.2 * (f.1 * g.2.1 - f.2.1 * g.1), f.2.2 * g.2.2 * h.2.2)
def crossP (a b c : Pl) : Rt := norm (rawC (wrow a) (wrow b) (wrow c)).1 (rawC (wrow a) (wrow b) (wrow c)).2
def dirOf (p : Pl) : Int × Int := norm (p.1.1 * p.2.2) (p.2.1 * p.1.2)
def sumR (rs : List Rt) : Rt := rs.foldl radd (0, 1)
theorem szr_zero : SzR 1 ((0, 1) : Rt) := ⟨by show (0 : Int).natAbs < 2; decide, by show (1 : Int).natAbs < 2; decide⟩
theorem sumR_snoc (rs : List Rt) (r : Rt) : sumR (rs ++ [r]) = radd (sumR rs) r := by unfold sumR; rw [List.foldl_append]; rfl
theorem fold_ok {n : Nat} : ∀ (rs : List Rt) (s : Rt) (m : Nat), IsRat s → SzR m s → (∀ r ∈ rs, IsRat r ∧ SzR n r) → IsRat (rs.foldl radd s) ∧ SzR (m + rs.length * (n + 1)) (rs.foldl radd s)
  | [], s, m, h1, h2, _ => ⟨h1, szr_mono h2 (by omega)⟩
  | r :: rs, s, m, h1, h2, h => by
    obtain ⟨a, b⟩ := h r (List.mem_cons_self ..)
    obtain ⟨c, d⟩ := fold_ok rs (radd s r) (m + n + 1) (rat_add h1 a) (szr_add h1 a h2 b) (fun x hx => h x (List.mem_cons_of_mem _ hx))
    refine ⟨c, szr_mono d ?_⟩
    rw [List.length_cons, Nat.add_mul]; omega
theorem sum_ok {n : Nat} {rs : List Rt} (h : ∀ r ∈ rs, IsRat r ∧ SzR n r) : IsRat (sumR rs) ∧ SzR (1 + rs.length * (n + 1)) (sumR rs) := fold_ok rs (0, 1) 1 rat_zero szr_zero h
/-! promises: places -/
def spSum (K : PySem.W.Frag) : Sp := fun vs H Q _ => ∃ p xs rs, vs = [.ref p] ∧ SqL K H p xs ∧ DpAll K H xs (rs.map rD) ∧ rs.length ≤ 4 ∧ (∀ r ∈ rs, IsRat r ∧ SzR 300 r) ∧ ∀ H' z, Same H H' → Dp K H' z (rD (sumR rs)) → Q z H'
def spWd (K : PySem.W.Frag) : Sp := fun vs H Q _ => ∃ x y : Int, vs = [.int x, .int y] ∧ (x ≠ 0 ∨ y ≠ 0) ∧ Sz 8000 x ∧ Sz 8000 y ∧ ∀ H' z, Same H H' → Dp K H' z (rD (norm x y)) → Q z H'
def spDirOf (K : PySem.W.Frag) : Sp := fun vs H Q _ => ∃ v p, vs = [v] ∧ Pla K H v p ∧ RatP p ∧ SzP 2000 p ∧ (p.1.1 ≠ 0 ∨ p.2.1 ≠ 0) ∧ ∀ H' z, Same H H' → Dp K H' z (rD (dirOf p)) → Q z H'
def spRawA (K : PySem.W.Frag) (o : Int × Int → Pl → Int × Int) : Sp := fun vs H Q _ => ∃ v u d p, vs = [v, u] ∧ Dir K H v d ∧ Pla K H u p ∧ RatP p ∧ SzR 600 d ∧ SzP 600 p ∧ ∀ H' z, Same H H' → Dp K H' z (rD (o d p)) → Q z H'
def spPP (K : PySem.W.Frag) (n : Nat) (o : Pl → Pl → Pl) : Sp := fun vs H Q _ => ∃ v u p s, vs = [v, u] ∧ Pla K H v p ∧ Pla K H u s ∧ RatP p ∧ RatP s ∧ SzP n p ∧ SzP n s ∧ ∀ H' z, Same H H' → Dp K H' z (pD (o p s)) → Q z H'
def spGrow (K : PySem.W.Frag) : Sp := fun vs H Q _ => ∃ v u p s, vs = [v, u] ∧ Pla K H v p ∧ Dp K H u (rD s) ∧ RatP p ∧ IsRat s ∧ SzP 2000 p ∧ SzR 2000 s ∧ ∀ H' z, Same H H' → Dp K H' z (pD (growP p s)) → Q z H'
def spOn (K : PySem.W.Frag) : Sp := fun vs H Q _ => ∃ v u t p s r, vs = [v, u, t] ∧ Pla K H v p ∧ Pla K H u s ∧ Dp K H t (rD r) ∧ RatP p ∧ RatP s ∧ IsRat r ∧ SzP 600 p ∧ SzP 600 s ∧ SzR 600 r ∧ ∀ H' z, Same H H' → Dp K H' z (pD (byP p (growP (stepF p s) r))) → Q z H'
def tD (f : Int × Int × Int) : PyData := .tuple [.int f.1, .int f.2.1, .int f.2.2]
def spWrow (K : PySem.W.Frag) : Sp := fun vs H Q _ => ∃ v p, vs = [v] ∧ Pla K H v p ∧ RatP p ∧ SzP 600 p ∧ ∀ H' z, Same H H' → Dp K H' z (tD (wrow p)) → Q z H'
def spCross (K : PySem.W.Frag) (o : Pl → Pl → Pl → Rt) : Sp := fun vs H Q _ => ∃ v u t a b c, vs = [v, u, t] ∧ Pla K H v a ∧ Pla K H u b ∧ Pla K H t c ∧ RatP a ∧ RatP b ∧ RatP c ∧ SzP 600 a ∧ SzP 600 b ∧ SzP 600 c ∧ ∀ H' z, Same H H' → Dp K H' z (rD (o a b c)) → Q z H'
def spNormal (K : PySem.W.Frag) : Sp := fun vs H Q _ => ∃ v u p s, vs = [v, u] ∧ Pla K H v p ∧ Pla K H u s ∧ RatP p ∧ RatP s ∧ SzP 600 p ∧ SzP 600 s ∧ ((stepF p s).1.1 ≠ 0 ∨ (stepF p s).2.1 ≠ 0) ∧ ∀ H' z, Same H H' → Dp K H' z (rD (dirOf ((stepF p s).2, rneg (stepF p s).1))) → Q z H'
def spP1 (K : PySem.W.Frag) (o : Pl → Pl) : Sp := fun vs H Q _ => ∃ v p, vs = [v] ∧ Pla K H v p ∧ ∀ H' z, Same H H' → Dp K H' z (pD (o p)) → Q z H'
theorem wrow_spec {p : Pl} (h : RatP p) : 0 < (wrow p).2.2 ∧ (wrow p).1 * p.1.2 = p.1.1 * (wrow p).2.2 ∧ (wrow p).2.1 * p.2.2 = p.2.1 * (wrow p).2.2 := by
  unfold wrow
  by_cases e : p.1.2 = p.2.2
  · rw [if_pos e]; exact ⟨h.1.1, rfl, by show p.2.1 * p.2.2 = p.2.1 * p.1.2; rw [e]⟩
  · rw [if_neg e]; exact ⟨Int.mul_pos h.1.1 h.2.1, by show p.1.1 * p.2.2 * p.1.2 = p.1.1 * (p.1.2 * p.2.2); grind, by show p.2.1 * p.1.2 * p.2.2 = p.2.1 * (p.1.2 * p.2.2); grind⟩
theorem wrow_sz {n : Nat} {p : Pl} (h : SzP n p) : Sz (n + n) (wrow p).1 ∧ Sz (n + n) (wrow p).2.1 ∧ Sz (n + n) (wrow p).2.2 := by
  unfold wrow
  split
  · exact ⟨sz_mono h.1.1 (by omega), sz_mono h.2.1 (by omega), sz_mono h.1.2 (by omega)⟩
  · exact ⟨sz_mul h.1.1 h.2.2, sz_mul h.2.1 h.1.2, sz_mul h.1.2 h.2.2⟩
section
variable {P : Program} {w : World} {K : PySem.W.Frag} {mg : Str → Option Value} {base : Heap}
theorem dp_t3 {H : Hp} {v : V} {f : Int × Int × Int} (h : Dp K H v (tD f)) : ∃ p, v = .ref p ∧ SqT K H p [.int f.1, .int f.2.1, .int f.2.2] := by
  cases h with
  | tup h g =>
    cases g with
    | cons h1 g => cases g with
      | cons h2 g => cases g with
        | cons h3 g => cases g with
          | nil =>
            rw [dp_int h1, dp_int h2, dp_int h3] at h
            exact ⟨_, rfl, h⟩
abbrev ssum_of : Stmt := topS 18
theorem scsum_of : FnScope ["row", "total", "one"] ["row"] (defScope ssum_of) := ⟨rfl, rfl, rfl, by decide +kernel, rfl, by decide +kernel, by decide +kernel⟩
theorem oksum_of (T : Txt K mg "sum_of" ssum_of) (Gplus : DefOk P w K mg base CX0 "plus" 2 ["one", "other"] (spBin K radd)) {zA : Addr} (gZ : mg "ZERO" = some (.ref zA)) (hZ : ∀ H, SqT K H zA [.int 0, .int 1]) : DefOk P w K mg base CX0 "sum_of" 3 ["row"] (spSum K) := by
  obtain ⟨f, fd, F, gf⟩ := T
  refine ⟨f, fd, gf, F.kp, F.binds (fun _ _ _ _ _ _ us hl => match us, hl with | [_], _ => rfl), F.ok scsum_of (fun vs H Q E h => ?_) (fun cdv A outer s H vs Q E hr h => ?_)⟩
  · obtain ⟨p, xs, rs, rfl, _⟩ := h; rfl
  · obtain ⟨p, xs, rs, rfl, hS, hD, hl, hr_, q⟩ := h
    refine ⟨_, (pss_cons (ps_set (i := 1) scsum_of.nd rfl (.inl rfl) (pe_glob (v := .ref zA) (by rfl) gZ rfl)) (pss_cons (ps_for PassesOwn.never rfl (pi_list (pv 0)) (pg_name (i := 2) scsum_of.nd rfl (.inl rfl)) (pss_one (ps_set (i := 1) scsum_of.nd rfl (.inl rfl) (pe_def Gplus (hr.mono (by decide)) (by rfl) (pa_cons (pv 1) (pa_cons (pv 2) pa_nil)))))) (pss_one (ps_ret (pv 1))))), ?_⟩
    have lx : xs.length = rs.length := by
      have : ∀ {vs : List V} {ds : List PyData}, DpAll K H vs ds → vs.length = ds.length := by
        intro vs ds h
        induction vs generalizing ds with
        | nil => cases h; rfl
        | cons v vs ih => cases h with
          | cons _ g => exact congrArg (· + 1) (ih g)
      rw [this hD, List.length_map]
    have at_ : ∀ {vs : List V} {ls : List Rt} {i : Nat} {x : V}, DpAll K H vs (ls.map rD) → vs[i]? = some x → ∃ r, ls[i]? = some r ∧ Dp K H x (rD r) := by
      intro vs
      induction vs with
      | nil => intro ls i x _ e; cases e
      | cons v vs ih =>
        intro ls i x h e
        cases ls with
        | nil => cases h
        | cons l ls =>
          cases h with
          | cons h1 g =>
            cases i with
            | zero => cases e; exact ⟨l, rfl, h1⟩
            | succ i => exact ih (i := i) g e
    refine ⟨.ref p, rfl, p, rfl, ⟨_, hS⟩, for_list (K := K) (a := p) (xs := xs) (fun i σ H' => ∃ (t : V) (y : Option V), σ = [some (.ref p), some t, y] ∧ Same H H' ∧ Dp K H' t (rD (sumR (rs.take i))))
      ⟨.ref zA, none, rfl, fun _ _ e => e, .tup (hZ H) (.cons (.int 0) (.cons (.int 1) .nil))⟩ (fun i σ H' _ ⟨_, _, _, s1, _⟩ => s1.seq hS) ?_ ?_⟩
    · rintro i x σ H' hi ⟨t, y, rfl, s1, ht⟩
      obtain ⟨r, er, hx⟩ := at_ hD hi
      have il : i < rs.length := (List.getElem?_eq_some_iff.mp er).1
      obtain ⟨rr, rz⟩ := hr_ r (List.mem_of_getElem? er)
      obtain ⟨ir, iz⟩ := sum_ok (rs := rs.take i) (n := 300) (fun z hz => hr_ z (List.mem_of_mem_take hz))
      have iz2 : SzR 2000 (sumR (rs.take i)) := szr_mono iz (by rw [List.length_take]; have : min i rs.length ≤ 4 := by omega
                                                                omega)
      refine ⟨t, rfl, x, rfl, t, x, _, r, rfl, ht, Dp_same s1 hx, ir, rr, iz2, szr_mono rz (by decide), fun H2 z s2 hz => ⟨z, some x, rfl, s1.trans s2, ?_⟩⟩
      rw [List.take_add_one, er]
      show Dp K H2 z (rD (sumR (rs.take i ++ [r])))
      rw [sumR_snoc]; exact hz
    · rintro σ H' ⟨t, y, rfl, s1, ht⟩
      rw [lx, List.take_length] at ht
      exact ⟨t, rfl, q H' t s1 ht⟩
abbrev swhole_direction : Stmt := topS 24
theorem scwhole_direction : FnScope ["x", "y", "share"] ["x", "y"] (defScope swhole_direction) := ⟨rfl, rfl, rfl, by decide +kernel, rfl, by decide +kernel, by decide +kernel⟩
theorem okwhole_direction (T : Txt K mg "whole_direction" swhole_direction) (mgcd : mg "gcd" = some (.builtin "math.gcd")) : DefOk P w K mg base CX0 "whole_direction" 1 ["x", "y"] (spWd K) := by
  obtain ⟨f, fd, F, gf⟩ := T
  refine ⟨f, fd, gf, F.kp, F.binds (fun _ _ _ _ _ _ us hl => match us, hl with | [_, _], _ => rfl), F.ok scwhole_direction (fun vs H Q E h => ?_) (fun cdv A outer s H vs Q E hr h => ?_)⟩
  · obtain ⟨x, y, rfl, _⟩ := h; rfl
  · obtain ⟨x, y, rfl, nz, zx, zy, q⟩ := h
    refine ⟨_, (pss_cons (ps_set (i := 2) scwhole_direction.nd rfl (.inl rfl) (pe_callBfun cr_gcd (by rfl) mgcd (pa_cons (pv 0) (pa_cons (pv 1) pa_nil)))) (pss_cons (ps_if (pt_cmpR op_eq (pv 2) pe_int (nomark _)) (pss_one ps_never) pss_nil) (pss_one (ps_ret (pe_tup (pa_cons (pe_op op_fdivW (pv 0) (pv 2)) (pa_cons (pe_op op_fdivW (pv 1) (pv 2)) pa_nil))))))), ?_⟩
    have gp := g2_posO nz
    have gz := sz_gg nz zx zy
    refine ⟨_, rfl, _, rfl, x, y, rfl, ?_⟩
    show tSeq _ _ _ [some (.int x), some (.int y), some (.int (g2 x y))] H
    refine ⟨_, rfl, rfl, _, rfl, ?_⟩
    rw [decide_eq_false (fun z => by have := V.int.inj z; omega : ¬ V.int (g2 x y) = V.int 0)]
    refine iteF ⟨_, rfl, _, rfl, _, _, rfl, rfl, wide_div gp gz (by decide) (by decide), _, rfl, _, rfl, _, _, rfl, rfl, wide_div gp gz (by decide) (by decide), (by show 2 ≤ sizeLine; decide), fun p np => q _ _ (same_new np) (dp_mkr np)⟩
abbrev sdirection_of : Stmt := topS 25
theorem scdirection_of : FnScope ["step", "x", "y"] ["step"] (defScope sdirection_of) := ⟨rfl, rfl, rfl, by decide +kernel, rfl, by decide +kernel, by decide +kernel⟩
theorem okdirection_of (T : Txt K mg "direction_of" sdirection_of) (Gwhole_direction : DefOk P w K mg base CX0 "whole_direction" 1 ["x", "y"] (spWd K)) : DefOk P w K mg base CX0 "direction_of" 2 ["step"] (spDirOf K) := by
  obtain ⟨f, fd, F, gf⟩ := T
  refine ⟨f, fd, gf, F.kp, F.binds (fun _ _ _ _ _ _ us hl => match us, hl with | [_], _ => rfl), F.ok scdirection_of (fun vs H Q E h => ?_) (fun cdv A outer s H vs Q E hr h => ?_)⟩
  · obtain ⟨v, p, rfl, _⟩ := h; rfl
  · obtain ⟨v, p, rfl, ⟨x, y, c, hx, hy⟩, rp, zp, nz, q⟩ := h
    refine ⟨_, (pss_cons (ps_asg (pv 0) (pg_cou rfl (pgs_cons (pg_name (i := 1) scdirection_of.nd rfl (.inl rfl)) (pgs_cons (pg_name (i := 2) scdirection_of.nd rfl (.inl rfl)) pgs_nil)))) (pss_one (ps_ret (pe_def Gwhole_direction (hr.mono (by decide)) (by rfl) (pa_cons (pe_op op_mulW (pe_ix ix_it (pv 1) pe_int (fun _ _ => rfl)) (pe_ix ix_it (pv 2) pe_int (fun _ _ => rfl))) (pa_cons (pe_op op_mulW (pe_ix ix_it (pv 2) pe_int (fun _ _ => rfl)) (pe_ix ix_it (pv 1) pe_int (fun _ _ => rfl))) pa_nil)))))), ?_⟩
    have cx := cou_r hx
    have cy := cou_r hy
    refine ⟨v, rfl, x, y, c, x, [y], rfl, y, [], rfl, rfl, x, rfl, _, _, 0, _, rfl, cx, rfl, y, rfl, _, _, 1, _, rfl, cy, rfl, _, _, rfl, rfl, wide_mul zp.1.1 zp.2.2 (by decide) (by decide) (by decide), y, rfl, _, _, 0, _, rfl, cy, rfl, x, rfl, _, _, 1, _, rfl, cx, rfl, _, _, rfl, rfl, wide_mul zp.2.1 zp.1.2 (by decide) (by decide) (by decide), _, _, rfl, ?_, sz_mono (sz_mul zp.1.1 zp.2.2) (by decide), sz_mono (sz_mul zp.2.1 zp.1.2) (by decide), fun H' z sm hz => q H' z sm hz⟩
    rcases nz with nz | nz
    · exact .inl (Int.mul_ne_zero nz (by have := rp.2.1; omega))
    · exact .inr (Int.mul_ne_zero nz (by have := rp.1.1; omega))
abbrev sraw_amount : Stmt := topS 28
theorem scraw_amount : FnScope ["direction", "place", "x", "y"] ["direction", "place"] (defScope sraw_amount) := ⟨rfl, rfl, rfl, by decide +kernel, rfl, by decide +kernel, by decide +kernel⟩
theorem okraw_amount (T : Txt K mg "raw_amount" sraw_amount)  : DefOk P w K mg base CX0 "raw_amount" 1 ["direction", "place"] (spRawA K rawA) := by
  obtain ⟨f, fd, F, gf⟩ := T
  refine ⟨f, fd, gf, F.kp, F.binds (fun _ _ _ _ _ _ us hl => match us, hl with | [_, _], _ => rfl), F.ok scraw_amount (fun vs H Q E h => ?_) (fun cdv A outer s H vs Q E hr h => ?_)⟩
  · obtain ⟨v, u, d, p, rfl, _⟩ := h; rfl
  · obtain ⟨v, u, d, p, rfl, cd, ⟨x, y, c, hx, hy⟩, rp, zd, zp, q⟩ := h
    refine ⟨_, (pss_cons (ps_asg (pv 1) (pg_cou rfl (pgs_cons (pg_name (i := 2) scraw_amount.nd rfl (.inl rfl)) (pgs_cons (pg_name (i := 3) scraw_amount.nd rfl (.inl rfl)) pgs_nil)))) (pss_one (ps_ret (pe_tup (pa_cons (pe_op op_add (pe_op op_mulW (pe_op op_mulW (pe_ix ix_it (pv 0) pe_int (fun _ _ => rfl)) (pe_ix ix_it (pv 2) pe_int (fun _ _ => rfl))) (pe_ix ix_it (pv 3) pe_int (fun _ _ => rfl))) (pe_op op_mulW (pe_op op_mulW (pe_ix ix_it (pv 0) pe_int (fun _ _ => rfl)) (pe_ix ix_it (pv 3) pe_int (fun _ _ => rfl))) (pe_ix ix_it (pv 2) pe_int (fun _ _ => rfl)))) (pa_cons (pe_op op_mulW (pe_ix ix_it (pv 2) pe_int (fun _ _ => rfl)) (pe_ix ix_it (pv 3) pe_int (fun _ _ => rfl))) pa_nil)))))), ?_⟩
    have cx := cou_r hx
    have cy := cou_r hy
    refine ⟨u, rfl, x, y, c, x, [y], rfl, y, [], rfl, rfl, ?_⟩
    refine ⟨v, rfl, _, _, 0, _, rfl, cd, rfl, x, rfl, _, _, 0, _, rfl, cx, rfl, _, _, rfl, rfl, wide_mul zd.1 zp.1.1 (by decide) (by decide) (by decide), y, rfl, _, _, 1, _, rfl, cy, rfl, _, _, rfl, rfl, wide_mul (sz_mul zd.1 zp.1.1) zp.2.2 (by decide) (by decide) (by decide), v, rfl, _, _, 1, _, rfl, cd, rfl, y, rfl, _, _, 0, _, rfl, cy, rfl, _, _, rfl, rfl, wide_mul zd.2 zp.2.1 (by decide) (by decide) (by decide), x, rfl, _, _, 1, _, rfl, cx, rfl, _, _, rfl, rfl, wide_mul (sz_mul zd.2 zp.2.1) zp.1.2 (by decide) (by decide) (by decide), _, _, rfl, rfl, ?_⟩
    exact ⟨x, rfl, _, _, 1, _, rfl, cx, rfl, y, rfl, _, _, 1, _, rfl, cy, rfl, _, _, rfl, rfl, wide_mul zp.1.2 zp.2.2 (by decide) (by decide) (by decide), (by show 2 ≤ sizeLine; decide), fun r nr => q _ _ (same_new nr) (dp_mkr nr)⟩
abbrev samount_at : Stmt := topS 29
theorem scamount_at : FnScope ["direction", "place", "top", "bottom"] ["direction", "place"] (defScope samount_at) := ⟨rfl, rfl, rfl, by decide +kernel, rfl, by decide +kernel, by decide +kernel⟩
theorem okamount_at (T : Txt K mg "amount_at" samount_at) (Glowest_terms : DefOk P w K mg base CX0 "lowest_terms" 1 ["top", "bottom"] (spLow K)) (Graw_amount : DefOk P w K mg base CX0 "raw_amount" 1 ["direction", "place"] (spRawA K rawA)) : DefOk P w K mg base CX0 "amount_at" 2 ["direction", "place"] (spRawA K amt) := by
  obtain ⟨f, fd, F, gf⟩ := T
  refine ⟨f, fd, gf, F.kp, F.binds (fun _ _ _ _ _ _ us hl => match us, hl with | [_, _], _ => rfl), F.ok scamount_at (fun vs H Q E h => ?_) (fun cdv A outer s H vs Q E hr h => ?_)⟩
  · obtain ⟨v, u, d, p, rfl, _⟩ := h; rfl
  · obtain ⟨v, u, d, p, rfl, cd, pu, rp, zd, zp, q⟩ := h
    refine ⟨_, (pss_cons (ps_asg (pe_def Graw_amount (hr.mono (by decide)) (by rfl) (pa_cons (pv 0) (pa_cons (pv 1) pa_nil))) (pg_cou rfl (pgs_cons (pg_name (i := 2) scamount_at.nd rfl (.inl rfl)) (pgs_cons (pg_name (i := 3) scamount_at.nd rfl (.inl rfl)) pgs_nil)))) (pss_one (ps_ret (pe_def Glowest_terms (hr.mono (by decide)) (by rfl) (pa_cons (pv 2) (pa_cons (pv 3) pa_nil)))))), ?_⟩
    refine ⟨v, rfl, u, rfl, v, u, d, p, rfl, cd, pu, rp, zd, zp, fun H1 z1 s1 h1 => ?_⟩
    refine ⟨_, _, cou_r h1, _, _, rfl, _, _, rfl, rfl, ?_⟩
    refine ⟨_, rfl, _, rfl, _, _, rfl, Int.mul_pos rp.1.1 rp.2.1, sz_mono (sz_add (sz_mul (sz_mul zd.1 zp.1.1) zp.2.2) (sz_mul (sz_mul zd.2 zp.2.1) zp.1.2)) (by decide), sz_mono (sz_mul zp.1.2 zp.2.2) (by decide), fun H2 z s2 hz => q H2 z (s1.trans s2) hz⟩
abbrev sstep_from : Stmt := topS 30
theorem scstep_from : FnScope ["one", "other"] ["one", "other"] (defScope sstep_from) := ⟨rfl, rfl, rfl, by decide +kernel, rfl, by decide +kernel, by decide +kernel⟩
theorem okstep_from (T : Txt K mg "step_from" sstep_from) (Gminus : DefOk P w K mg base CX0 "minus" 3 ["one", "other"] (spBin K rsub)) : DefOk P w K mg base CX0 "step_from" 4 ["one", "other"] (spPP K 2000 stepF) := by
  obtain ⟨f, fd, F, gf⟩ := T
  refine ⟨f, fd, gf, F.kp, F.binds (fun _ _ _ _ _ _ us hl => match us, hl with | [_, _], _ => rfl), F.ok scstep_from (fun vs H Q E h => ?_) (fun cdv A outer s H vs Q E hr h => ?_)⟩
  · obtain ⟨v, u, p, s_, rfl, _⟩ := h; rfl
  · obtain ⟨v, u, p, s_, rfl, ⟨x, y, cv, hx, hy⟩, ⟨x_, y_, cu, hx_, hy_⟩, rp, rs, zp, zs, q⟩ := h
    refine ⟨_, (pss_one (ps_ret (pe_tup (pa_cons (pe_def Gminus (hr.mono (by decide)) (by rfl) (pa_cons (pe_ix ix_it (pv 1) pe_int (fun _ _ => rfl)) (pa_cons (pe_ix ix_it (pv 0) pe_int (fun _ _ => rfl)) pa_nil))) (pa_cons (pe_def Gminus (hr.mono (by decide)) (by rfl) (pa_cons (pe_ix ix_it (pv 1) pe_int (fun _ _ => rfl)) (pa_cons (pe_ix ix_it (pv 0) pe_int (fun _ _ => rfl)) pa_nil))) pa_nil))))), ?_⟩
    refine ⟨u, rfl, _, _, 0, _, rfl, cu, rfl, v, rfl, _, _, 0, _, rfl, cv, rfl, _, _, _, _, rfl, hx_, hx, rs.1, rp.1, zs.1, zp.1, fun H1 z1 s1 h1 => ?_⟩
    refine ⟨u, rfl, _, _, 1, _, rfl, (cu.same s1), rfl, v, rfl, _, _, 1, _, rfl, (cv.same s1), rfl, _, _, _, _, rfl, Dp_same s1 hy_, Dp_same s1 hy, rs.2, rp.2, zs.2, zp.2, fun H2 z2 s2 h2 => ⟨(by show 2 ≤ sizeLine; decide), fun r nr => q _ _ ((s1.trans s2).trans (same_new nr)) (dp_mk2 nr (Dp_same s2 h1) h2)⟩⟩
end
end F3
set_option Elab.async false
set_option linter.all false
set_option maxRecDepth 100000
set_option maxHeartbeats 4000000
set_option exponentiation.threshold 3000
namespace F3
open PySem PySem.Spec PyProof.Rows L2 FX RM PB
def rstep (p s : Pl) : Int × Int := ((wrow s).1 * (wrow p).2.2 - (wrow p).1 * (wrow s).2.2, (wrow s).2.1 * (wrow p).2.2 - (wrow p).2.1 * (wrow s).2.2)
def spRawS (K : PySem.W.Frag) : Sp := fun vs H Q _ => ∃ v u p s, vs = [v, u] ∧ Pla K H v p ∧ Pla K H u s ∧ RatP p ∧ RatP s ∧ SzP 600 p ∧ SzP 600 s ∧ ∀ H' z, Same H H' → Dp K H' z (rD (rstep p s)) → Q z H'
theorem norm_scaled {a b c : Int} (h : 0 < c) : norm (a * c) (b * c) = norm a b := by
  have e : g2 (a * c) (b * c) = g2 a b * c := by
    unfold g2
    rw [Int.natAbs_mul, Int.natAbs_mul, Nat.gcd_mul_right]
    rw [Int.natCast_mul, Int.natAbs_of_nonneg (Int.le_of_lt h)]
  unfold norm
  rw [e, Int.mul_ediv_mul_of_pos_left _ _ h, Int.mul_ediv_mul_of_pos_left _ _ h]
theorem norm_like {a b a' b' c c' : Int} (h : 0 < c) (h' : 0 < c') (e : a * c = a' * c') (e' : b * c = b' * c') : norm a b = norm a' b' := by
  rw [← norm_scaled h, e, e', norm_scaled h']
theorem rstep_rep {p s : Pl} (hp : RatP p) (hs : RatP s) : Rep (stepF p s).1 (rstep p s).1 ((wrow s).2.2 * (wrow p).2.2) ∧ Rep (stepF p s).2 (rstep p s).2 ((wrow s).2.2 * (wrow p).2.2) := by
  obtain ⟨a1, a2, a3⟩ := wrow_spec hp
  obtain ⟨b1, b2, b3⟩ := wrow_spec hs
  exact ⟨rep_sub (r := s.1) (s := p.1) ⟨hs.1, b1, b2.symm⟩ ⟨hp.1, a1, a2.symm⟩, rep_sub (r := s.2) (s := p.2) ⟨hs.2, b1, b3.symm⟩ ⟨hp.2, a1, a3.symm⟩⟩
theorem rep_zero {r : Rt} {t b : Int} (h : IsRat r) (w : 0 < b) (e : r.1 * b = t * r.2) : t = 0 ↔ r.1 = 0 := by
  constructor
  · intro z
    rw [z, Int.zero_mul] at e
    rcases Int.mul_eq_zero.mp e with k | k
    · exact k
    · omega
  · intro z
    rw [z, Int.zero_mul] at e
    rcases Int.mul_eq_zero.mp e.symm with k | k
    · exact k
    · have := h.1; omega
theorem rstep_zero {p s : Pl} (hp : RatP p) (hs : RatP s) : ((rstep p s).1 = 0 ↔ (stepF p s).1.1 = 0) ∧ ((rstep p s).2 = 0 ↔ (stepF p s).2.1 = 0) := by
  obtain ⟨⟨i1, w, e1⟩, ⟨i2, _, e2⟩⟩ := rstep_rep hp hs
  exact ⟨rep_zero i1 w e1, rep_zero i2 w e2⟩
theorem rstep_dir {p s : Pl} (hp : RatP p) (hs : RatP s) : norm (rstep p s).2 (-(rstep p s).1) = dirOf ((stepF p s).2, rneg (stepF p s).1) := by
  obtain ⟨⟨i1, w, e1⟩, ⟨i2, _, e2⟩⟩ := rstep_rep hp hs
  unfold dirOf
  refine norm_like (c := (stepF p s).1.2 * (stepF p s).2.2) (c' := (wrow s).2.2 * (wrow p).2.2) (Int.mul_pos i1.1 i2.1) w ?_ ?_
  · show (rstep p s).2 * ((stepF p s).1.2 * (stepF p s).2.2) = (stepF p s).2.1 * (stepF p s).1.2 * ((wrow s).2.2 * (wrow p).2.2)
    grind
  · show -(rstep p s).1 * ((stepF p s).1.2 * (stepF p s).2.2) = -(stepF p s).1.1 * (stepF p s).2.2 * ((wrow s).2.2 * (wrow p).2.2)
    grind
theorem rstep_sz {p s : Pl} (zp : SzP 600 p) (zs : SzP 600 s) : Sz 2401 (rstep p s).1 ∧ Sz 2401 (rstep p s).2 := by
  obtain ⟨ax, ay, aa⟩ := wrow_sz zp
  obtain ⟨bx, by_, bb⟩ := wrow_sz zs
  exact ⟨sz_sub (sz_mul bx aa) (sz_mul ax bb), sz_sub (sz_mul by_ aa) (sz_mul ay bb)⟩
def meanP (ps : List Pl) : Pl := (rmul (sumR (ps.map (·.1))) (1, (ps.length : Int)), rmul (sumR (ps.map (·.2))) (1, (ps.length : Int)))
def spMean (K : PySem.W.Frag) : Sp := fun vs H Q _ => ∃ p xs ps, vs = [.ref p] ∧ (SqL K H p xs ∨ SqT K H p xs) ∧ DpAll K H xs (ps.map pD) ∧ 0 < ps.length ∧ ps.length ≤ 4 ∧ (∀ r ∈ ps, RatP r ∧ SzP 300 r) ∧ ∀ H' z, Same H H' → Dp K H' z (pD (meanP ps)) → Q z H'
def spRawC (K : PySem.W.Frag) : Sp := fun vs H Q _ => ∃ v u t a b c, vs = [v, u, t] ∧ Pla K H v a ∧ Pla K H u b ∧ Pla K H t c ∧ RatP a ∧ RatP b ∧ RatP c ∧ SzP 600 a ∧ SzP 600 b ∧ SzP 600 c ∧ ∀ H' z, Same H H' → Dp K H' z (rD (rawC (wrow a) (wrow b) (wrow c))) → Q z H'
section
variable {P : Program} {w : World} {K : PySem.W.Frag} {mg : Str → Option Value} {base : Heap}
abbrev swhole_row : Stmt := topS 32
theorem scwhole_row : FnScope ["place", "x", "y"] ["place"] (defScope swhole_row) := ⟨rfl, rfl, rfl, by decide +kernel, rfl, by decide +kernel, by decide +kernel⟩
theorem okwhole_row (T : Txt K mg "whole_row" swhole_row)  : DefOk P w K mg base CX0 "whole_row" 1 ["place"] (spWrow K) := by
  obtain ⟨f, fd, F, gf⟩ := T
  refine ⟨f, fd, gf, F.kp, F.binds (fun _ _ _ _ _ _ us hl => match us, hl with | [_], _ => rfl), F.ok scwhole_row (fun vs H Q E h => ?_) (fun cdv A outer s H vs Q E hr h => ?_)⟩
  · obtain ⟨v, p, rfl, _⟩ := h; rfl
  · obtain ⟨v, p, rfl, ⟨x, y, c, hx, hy⟩, rp, zp, q⟩ := h
    refine ⟨_, (pss_cons (ps_asg (pv 0) (pg_cou rfl (pgs_cons (pg_name (i := 1) scwhole_row.nd rfl (.inl rfl)) (pgs_cons (pg_name (i := 2) scwhole_row.nd rfl (.inl rfl)) pgs_nil)))) (pss_cons (ps_if (pt_cmpR op_eq (pe_ix ix_it (pv 1) pe_int (fun _ _ => rfl)) (pe_ix ix_it (pv 2) pe_int (fun _ _ => rfl)) (nomark _)) (pss_one (ps_ret (pe_tup (pa_cons (pe_ix ix_it (pv 1) pe_int (fun _ _ => rfl)) (pa_cons (pe_ix ix_it (pv 2) pe_int (fun _ _ => rfl)) (pa_cons (pe_ix ix_it (pv 1) pe_int (fun _ _ => rfl)) pa_nil)))))) pss_nil) (pss_one (ps_ret (pe_tup (pa_cons (pe_op op_mulW (pe_ix ix_it (pv 1) pe_int (fun _ _ => rfl)) (pe_ix ix_it (pv 2) pe_int (fun _ _ => rfl))) (pa_cons (pe_op op_mulW (pe_ix ix_it (pv 2) pe_int (fun _ _ => rfl)) (pe_ix ix_it (pv 1) pe_int (fun _ _ => rfl))) (pa_cons (pe_op op_mulW (pe_ix ix_it (pv 1) pe_int (fun _ _ => rfl)) (pe_ix ix_it (pv 2) pe_int (fun _ _ => rfl))) pa_nil)))))))), ?_⟩
    have cx := cou_r hx
    have cy := cou_r hy
    refine ⟨v, rfl, x, y, c, x, [y], rfl, y, [], rfl, rfl, ?_⟩
    refine ⟨x, rfl, _, _, 1, _, rfl, cx, rfl, y, rfl, _, _, 1, _, rfl, cy, rfl, rfl, _, rfl, ite2 (fun e => ?_) (fun e => ?_)⟩
    · have e2 : p.1.2 = p.2.2 := V.int.inj (of_decide_eq_true e)
      refine ⟨x, rfl, _, _, 0, _, rfl, cx, rfl, y, rfl, _, _, 0, _, rfl, cy, rfl, x, rfl, _, _, 1, _, rfl, cx, rfl, (by show 3 ≤ sizeLine; decide), fun r nr => q _ _ (PB.same_new nr) ?_⟩
      have : wrow p = (p.1.1, p.2.1, p.1.2) := if_pos e2
      rw [this]
      exact .tup (.inl (.inl upd_same)) (.cons (.int _) (.cons (.int _) (.cons (.int _) .nil)))
    · have e2 : ¬ p.1.2 = p.2.2 := fun z => e (decide_eq_true (by rw [z]))
      refine ⟨x, rfl, _, _, 0, _, rfl, cx, rfl, y, rfl, _, _, 1, _, rfl, cy, rfl, _, _, rfl, rfl, wide_mul zp.1.1 zp.2.2 (by decide) (by decide) (by decide), y, rfl, _, _, 0, _, rfl, cy, rfl, x, rfl, _, _, 1, _, rfl, cx, rfl, _, _, rfl, rfl, wide_mul zp.2.1 zp.1.2 (by decide) (by decide) (by decide), x, rfl, _, _, 1, _, rfl, cx, rfl, y, rfl, _, _, 1, _, rfl, cy, rfl, _, _, rfl, rfl, wide_mul zp.1.2 zp.2.2 (by decide) (by decide) (by decide), (by show 3 ≤ sizeLine; decide), fun r nr => q _ _ (PB.same_new nr) ?_⟩
      have : wrow p = (p.1.1 * p.2.2, p.2.1 * p.1.2, p.1.2 * p.2.2) := if_neg e2
      rw [this]
      exact .tup (.inl (.inl upd_same)) (.cons (.int _) (.cons (.int _) (.cons (.int _) .nil)))
abbrev sraw_cross : Stmt := topS 34
theorem scraw_cross : FnScope ["first", "second", "third", "ax", "ay", "a", "bx", "by", "b", "cx", "cy", "c", "top"] ["first", "second", "third"] (defScope sraw_cross) := ⟨rfl, rfl, rfl, by decide +kernel, rfl, by decide +kernel, by decide +kernel⟩
theorem okraw_cross (T : Txt K mg "raw_cross" sraw_cross) (Gwhole_row : DefOk P w K mg base CX0 "whole_row" 1 ["place"] (spWrow K)) : DefOk P w K mg base CX0 "raw_cross" 2 ["first", "second", "third"] (spRawC K) := by
  obtain ⟨f, fd, F, gf⟩ := T
  refine ⟨f, fd, gf, F.kp, F.binds (fun _ _ _ _ _ _ us hl => match us, hl with | [_, _, _], _ => rfl), F.ok scraw_cross (fun vs H Q E h => ?_) (fun cdv A outer s H vs Q E hr h => ?_)⟩
  · obtain ⟨v, u, t, a, b, c, rfl, _⟩ := h; rfl
  · obtain ⟨v, u, t, a, b, c, rfl, ha, hb, hc, ra, rb, rc, za, zb, zc, q⟩ := h
    refine ⟨_, (pss_cons (ps_asg (pe_def Gwhole_row (hr.mono (by decide)) (by rfl) (pa_cons (pv 0) pa_nil)) (pg_tup rfl (pgs_cons (pg_name (i := 3) scraw_cross.nd rfl (.inl rfl)) (pgs_cons (pg_name (i := 4) scraw_cross.nd rfl (.inl rfl)) (pgs_cons (pg_name (i := 5) scraw_cross.nd rfl (.inl rfl)) pgs_nil))))) (pss_cons (ps_asg (pe_def Gwhole_row (hr.mono (by decide)) (by rfl) (pa_cons (pv 1) pa_nil)) (pg_tup rfl (pgs_cons (pg_name (i := 6) scraw_cross.nd rfl (.inl rfl)) (pgs_cons (pg_name (i := 7) scraw_cross.nd rfl (.inl rfl)) (pgs_cons (pg_name (i := 8) scraw_cross.nd rfl (.inl rfl)) pgs_nil))))) (pss_cons (ps_asg (pe_def Gwhole_row (hr.mono (by decide)) (by rfl) (pa_cons (pv 2) pa_nil)) (pg_tup rfl (pgs_cons (pg_name (i := 9) scraw_cross.nd rfl (.inl rfl)) (pgs_cons (pg_name (i := 10) scraw_cross.nd rfl (.inl rfl)) (pgs_cons (pg_name (i := 11) scraw_cross.nd rfl (.inl rfl)) pgs_nil))))) (pss_cons (ps_set (i := 12) scraw_cross.nd rfl (.inl rfl) (pe_op op_add (pe_op op_add (pe_op op_mulW (pv 5) (pe_op op_sub (pe_op op_mulW (pv 6) (pv 10)) (pe_op op_mulW (pv 7) (pv 9)))) (pe_op op_mulW (pv 8) (pe_op op_sub (pe_op op_mulW (pv 9) (pv 4)) (pe_op op_mulW (pv 10) (pv 3))))) (pe_op op_mulW (pv 11) (pe_op op_sub (pe_op op_mulW (pv 3) (pv 7)) (pe_op op_mulW (pv 4) (pv 6)))))) (pss_one (ps_ret (pe_tup (pa_cons (pv 12) (pa_cons (pe_op op_mulW (pe_op op_mulW (pv 5) (pv 8)) (pv 11)) pa_nil))))))))), ?_⟩
    obtain ⟨ax, ay, aa⟩ := wrow_sz za
    obtain ⟨bx, by_, bb⟩ := wrow_sz zb
    obtain ⟨cx, cy, cc⟩ := wrow_sz zc
    refine ⟨v, rfl, v, a, rfl, ha, ra, za, fun H1 z1 s1 h1 => ?_⟩
    obtain ⟨p1, rfl, t1⟩ := dp_t3 h1
    refine ⟨p1, _, rfl, t1, rfl, _, _, rfl, _, _, rfl, _, [], rfl, rfl, ?_⟩
    refine ⟨u, rfl, u, b, rfl, hb.same s1, rb, zb, fun H2 z2 s2 h2 => ?_⟩
    obtain ⟨p2, rfl, t2⟩ := dp_t3 h2
    refine ⟨p2, _, rfl, t2, rfl, _, _, rfl, _, _, rfl, _, [], rfl, rfl, ?_⟩
    refine ⟨t, rfl, t, c, rfl, hc.same (s1.trans s2), rc, zc, fun H3 z3 s3 h3 => ?_⟩
    obtain ⟨p3, rfl, t3⟩ := dp_t3 h3
    refine ⟨p3, _, rfl, t3, rfl, _, _, rfl, _, _, rfl, _, [], rfl, rfl, ?_⟩
    refine ⟨_, rfl, _, rfl, _, rfl, _, _, rfl, rfl, wide_mul bx cy (by decide) (by decide) (by decide), _, rfl, _, rfl, _, _, rfl, rfl, wide_mul by_ cx (by decide) (by decide) (by decide), _, _, rfl, rfl, _, _, rfl, rfl, wide_mul aa (sz_sub (sz_mul bx cy) (sz_mul by_ cx)) (by decide) (by decide) (by decide), _, rfl, _, rfl, _, rfl, _, _, rfl, rfl, wide_mul cx ay (by decide) (by decide) (by decide), _, rfl, _, rfl, _, _, rfl, rfl, wide_mul cy ax (by decide) (by decide) (by decide), _, _, rfl, rfl, _, _, rfl, rfl, wide_mul bb (sz_sub (sz_mul cx ay) (sz_mul cy ax)) (by decide) (by decide) (by decide), _, _, rfl, rfl, _, rfl, _, rfl, _, rfl, _, _, rfl, rfl, wide_mul ax by_ (by decide) (by decide) (by decide), _, rfl, _, rfl, _, _, rfl, rfl, wide_mul ay bx (by decide) (by decide) (by decide), _, _, rfl, rfl, _, _, rfl, rfl, wide_mul cc (sz_sub (sz_mul ax by_) (sz_mul ay bx)) (by decide) (by decide) (by decide), _, _, rfl, rfl, ?_⟩
    exact ⟨_, rfl, _, rfl, _, rfl, _, _, rfl, rfl, wide_mul aa bb (by decide) (by decide) (by decide), _, rfl, _, _, rfl, rfl, wide_mul (sz_mul aa bb) cc (by decide) (by decide) (by decide), (by show 2 ≤ sizeLine; decide), fun r nr => q _ _ (((s1.trans s2).trans s3).trans (PB.same_new nr)) (dp_mkr nr)⟩
abbrev scross_at : Stmt := topS 35
theorem sccross_at : FnScope ["first", "second", "third", "top", "bottom"] ["first", "second", "third"] (defScope scross_at) := ⟨rfl, rfl, rfl, by decide +kernel, rfl, by decide +kernel, by decide +kernel⟩
theorem okcross_at (T : Txt K mg "cross_at" scross_at) (Glowest_terms : DefOk P w K mg base CX0 "lowest_terms" 1 ["top", "bottom"] (spLow K)) (Graw_cross : DefOk P w K mg base CX0 "raw_cross" 2 ["first", "second", "third"] (spRawC K)) : DefOk P w K mg base CX0 "cross_at" 3 ["first", "second", "third"] (spCross K crossP) := by
  obtain ⟨f, fd, F, gf⟩ := T
  refine ⟨f, fd, gf, F.kp, F.binds (fun _ _ _ _ _ _ us hl => match us, hl with | [_, _, _], _ => rfl), F.ok sccross_at (fun vs H Q E h => ?_) (fun cdv A outer s H vs Q E hr h => ?_)⟩
  · obtain ⟨v, u, t, a, b, c, rfl, _⟩ := h; rfl
  · obtain ⟨v, u, t, a, b, c, rfl, ha, hb, hc, ra, rb, rc, za, zb, zc, q⟩ := h
    refine ⟨_, (pss_cons (ps_asg (pe_def Graw_cross (hr.mono (by decide)) (by rfl) (pa_cons (pv 0) (pa_cons (pv 1) (pa_cons (pv 2) pa_nil)))) (pg_cou rfl (pgs_cons (pg_name (i := 3) sccross_at.nd rfl (.inl rfl)) (pgs_cons (pg_name (i := 4) sccross_at.nd rfl (.inl rfl)) pgs_nil)))) (pss_one (ps_ret (pe_def Glowest_terms (hr.mono (by decide)) (by rfl) (pa_cons (pv 3) (pa_cons (pv 4) pa_nil)))))), ?_⟩
    obtain ⟨ax, ay, aa⟩ := wrow_sz za
    obtain ⟨bx, by_, bb⟩ := wrow_sz zb
    obtain ⟨cx, cy, cc⟩ := wrow_sz zc
    refine ⟨v, rfl, u, rfl, t, rfl, v, u, t, a, b, c, rfl, ha, hb, hc, ra, rb, rc, za, zb, zc, fun H1 z1 s1 h1 => ?_⟩
    refine ⟨_, _, cou_r h1, _, _, rfl, _, _, rfl, rfl, ?_⟩
    refine ⟨_, rfl, _, rfl, _, _, rfl, Int.mul_pos (Int.mul_pos (wrow_spec ra).1 (wrow_spec rb).1) (wrow_spec rc).1, ?_, sz_mono (sz_mul (sz_mul aa bb) cc) (by decide), fun H2 z s2 hz => q H2 z (s1.trans s2) hz⟩
    have A := sz_mono (m := 3700) (sz_mul aa (sz_sub (sz_mul bx cy) (sz_mul by_ cx))) (by decide)
    have B := sz_mono (m := 3700) (sz_mul bb (sz_sub (sz_mul cx ay) (sz_mul cy ax))) (by decide)
    have C := sz_mono (m := 3701) (sz_mul cc (sz_sub (sz_mul ax by_) (sz_mul ay bx))) (by decide)
    exact sz_mono (sz_add (sz_add A B) C) (by decide)
abbrev sraw_step : Stmt := topS 33
theorem scraw_step : FnScope ["one", "other", "ax", "ay", "a", "bx", "by", "b"] ["one", "other"] (defScope sraw_step) := ⟨rfl, rfl, rfl, by decide +kernel, rfl, by decide +kernel, by decide +kernel⟩
theorem okraw_step (T : Txt K mg "raw_step" sraw_step) (Gwhole_row : DefOk P w K mg base CX0 "whole_row" 1 ["place"] (spWrow K)) : DefOk P w K mg base CX0 "raw_step" 2 ["one", "other"] (spRawS K) := by
  obtain ⟨f, fd, F, gf⟩ := T
  refine ⟨f, fd, gf, F.kp, F.binds (fun _ _ _ _ _ _ us hl => match us, hl with | [_, _], _ => rfl), F.ok scraw_step (fun vs H Q E h => ?_) (fun cdv A outer s H vs Q E hr h => ?_)⟩
  · obtain ⟨v, u, p, s_, rfl, _⟩ := h; rfl
  · obtain ⟨v, u, p, s_, rfl, ha, hb, ra, rb, za, zb, q⟩ := h
    refine ⟨_, (pss_cons (ps_asg (pe_def Gwhole_row (hr.mono (by decide)) (by rfl) (pa_cons (pv 0) pa_nil)) (pg_tup rfl (pgs_cons (pg_name (i := 2) scraw_step.nd rfl (.inl rfl)) (pgs_cons (pg_name (i := 3) scraw_step.nd rfl (.inl rfl)) (pgs_cons (pg_name (i := 4) scraw_step.nd rfl (.inl rfl)) pgs_nil))))) (pss_cons (ps_asg (pe_def Gwhole_row (hr.mono (by decide)) (by rfl) (pa_cons (pv 1) pa_nil)) (pg_tup rfl (pgs_cons (pg_name (i := 5) scraw_step.nd rfl (.inl rfl)) (pgs_cons (pg_name (i := 6) scraw_step.nd rfl (.inl rfl)) (pgs_cons (pg_name (i := 7) scraw_step.nd rfl (.inl rfl)) pgs_nil))))) (pss_one (ps_ret (pe_tup (pa_cons (pe_op op_sub (pe_op op_mulW (pv 5) (pv 4)) (pe_op op_mulW (pv 2) (pv 7))) (pa_cons (pe_op op_sub (pe_op op_mulW (pv 6) (pv 4)) (pe_op op_mulW (pv 3) (pv 7))) pa_nil))))))), ?_⟩
    obtain ⟨ax, ay, aa⟩ := wrow_sz za
    obtain ⟨bx, by_, bb⟩ := wrow_sz zb
    refine ⟨v, rfl, v, p, rfl, ha, ra, za, fun H1 z1 s1 h1 => ?_⟩
    obtain ⟨p1, rfl, t1⟩ := dp_t3 h1
    refine ⟨p1, _, rfl, t1, rfl, _, _, rfl, _, _, rfl, _, [], rfl, rfl, ?_⟩
    refine ⟨u, rfl, u, s_, rfl, hb.same s1, rb, zb, fun H2 z2 s2 h2 => ?_⟩
    obtain ⟨p2, rfl, t2⟩ := dp_t3 h2
    refine ⟨p2, _, rfl, t2, rfl, _, _, rfl, _, _, rfl, _, [], rfl, rfl, ?_⟩
    exact ⟨_, rfl, _, rfl, _, _, rfl, rfl, wide_mul bx aa (by decide) (by decide) (by decide), _, rfl, _, rfl, _, _, rfl, rfl, wide_mul ax bb (by decide) (by decide) (by decide), _, _, rfl, rfl, _, rfl, _, rfl, _, _, rfl, rfl, wide_mul by_ aa (by decide) (by decide) (by decide), _, rfl, _, rfl, _, _, rfl, rfl, wide_mul ay bb (by decide) (by decide) (by decide), _, _, rfl, rfl, (by show 2 ≤ sizeLine; decide), fun r nr => q _ _ ((s1.trans s2).trans (PB.same_new nr)) (dp_mkr nr)⟩
abbrev sside_normal : Stmt := topS 37
theorem scside_normal : FnScope ["one", "other", "dx", "dy"] ["one", "other"] (defScope sside_normal) := ⟨rfl, rfl, rfl, by decide +kernel, rfl, by decide +kernel, by decide +kernel⟩
theorem okside_normal (T : Txt K mg "side_normal" sside_normal) (Graw_step : DefOk P w K mg base CX0 "raw_step" 2 ["one", "other"] (spRawS K)) (Gwhole_direction : DefOk P w K mg base CX0 "whole_direction" 1 ["x", "y"] (spWd K)) : DefOk P w K mg base CX0 "side_normal" 5 ["one", "other"] (spNormal K) := by
  obtain ⟨f, fd, F, gf⟩ := T
  refine ⟨f, fd, gf, F.kp, F.binds (fun _ _ _ _ _ _ us hl => match us, hl with | [_, _], _ => rfl), F.ok scside_normal (fun vs H Q E h => ?_) (fun cdv A outer s H vs Q E hr h => ?_)⟩
  · obtain ⟨v, u, p, s_, rfl, _⟩ := h; rfl
  · obtain ⟨v, u, p, s_, rfl, hv, hu, rp, rs, zp, zs, nz, q⟩ := h
    refine ⟨_, (pss_cons (ps_asg (pe_def Graw_step (hr.mono (by decide)) (by rfl) (pa_cons (pv 0) (pa_cons (pv 1) pa_nil))) (pg_cou rfl (pgs_cons (pg_name (i := 2) scside_normal.nd rfl (.inl rfl)) (pgs_cons (pg_name (i := 3) scside_normal.nd rfl (.inl rfl)) pgs_nil)))) (pss_one (ps_ret (pe_def Gwhole_direction (hr.mono (by decide)) (by rfl) (pa_cons (pv 3) (pa_cons (pe_un un_neg (pv 2)) pa_nil)))))), ?_⟩
    obtain ⟨zx, zy⟩ := rstep_sz zp zs
    refine ⟨v, rfl, u, rfl, v, u, p, s_, rfl, hv, hu, rp, rs, zp, zs, fun H1 z1 s1 h1 => ?_⟩
    refine ⟨_, _, cou_r h1, _, _, rfl, _, _, rfl, rfl, ?_⟩
    refine ⟨_, rfl, _, rfl, _, rfl, _, _, rfl, ?_, sz_mono zy (by decide), sz_mono (sz_neg zx) (by decide), fun H2 z s2 hz => q H2 z (s1.trans s2) ?_⟩
    · rcases nz with nz | nz
      · exact .inr (fun z => nz (((rstep_zero rp rs).1).mp (by omega)))
      · exact .inl (fun z => nz (((rstep_zero rp rs).2).mp z))
    · rw [← rstep_dir rp rs]; exact hz
end
end F3
set_option Elab.async false
set_option linter.all false
set_option maxRecDepth 100000
set_option maxHeartbeats 4000000
namespace F3
open PySem PySem.Spec PyProof.Rows L2 FX RM PB
/-! kinds of data -/
def tyN : PyData → String
  | .none => "NoneType"
  | .bool _ => "bool"
  | .int _ => "int"
  | .str _ => "str"
  | .list _ => "list"
  | .tuple _ => "tuple"
  | .dict _ => "dict"
def isI : PyData → Bool
  | .int _ => true
  | .bool _ => true
  | _ => false
def isBo : PyData → Bool
  | .bool _ => true
  | _ => false
def isTu : PyData → Bool
  | .tuple _ => true
  | _ => false
def isRo : PyData → Bool
  | .tuple _ => true
  | .list _ => true
  | _ => false
theorem kit_int : ∀ d, kitB (tyN d) "int" = some (isI d)
  | .none => by show kitB "NoneType" "int" = some false; decide +kernel
  | .bool _ => by show kitB "bool" "int" = some true; decide +kernel
  | .int _ => by show kitB "int" "int" = some true; decide +kernel
  | .str _ => by show kitB "str" "int" = some false; decide +kernel
  | .list _ => by show kitB "list" "int" = some false; decide +kernel
  | .tuple _ => by show kitB "tuple" "int" = some false; decide +kernel
  | .dict _ => by show kitB "dict" "int" = some false; decide +kernel
theorem kit_bool : ∀ d, kitB (tyN d) "bool" = some (isBo d)
  | .none => by show kitB "NoneType" "bool" = some false; decide +kernel
  | .bool _ => by show kitB "bool" "bool" = some true; decide +kernel
  | .int _ => by show kitB "int" "bool" = some false; decide +kernel
  | .str _ => by show kitB "str" "bool" = some false; decide +kernel
  | .list _ => by show kitB "list" "bool" = some false; decide +kernel
  | .tuple _ => by show kitB "tuple" "bool" = some false; decide +kernel
  | .dict _ => by show kitB "dict" "bool" = some false; decide +kernel
theorem kit_tuple : ∀ d, kitB (tyN d) "tuple" = some (isTu d)
  | .none => by show kitB "NoneType" "tuple" = some false; decide +kernel
  | .bool _ => by show kitB "bool" "tuple" = some false; decide +kernel
  | .int _ => by show kitB "int" "tuple" = some false; decide +kernel
  | .str _ => by show kitB "str" "tuple" = some false; decide +kernel
  | .list _ => by show kitB "list" "tuple" = some false; decide +kernel
  | .tuple _ => by show kitB "tuple" "tuple" = some true; decide +kernel
  | .dict _ => by show kitB "dict" "tuple" = some false; decide +kernel
theorem kit_list : ∀ d, kitB (tyN d) "list" = some (match d with | .list _ => true | _ => false)
  | .none => by show kitB "NoneType" "list" = some false; decide +kernel
  | .bool _ => by show kitB "bool" "list" = some false; decide +kernel
  | .int _ => by show kitB "int" "list" = some false; decide +kernel
  | .str _ => by show kitB "str" "list" = some false; decide +kernel
  | .list _ => by show kitB "list" "list" = some true; decide +kernel
  | .tuple _ => by show kitB "tuple" "list" = some false; decide +kernel
  | .dict _ => by show kitB "dict" "list" = some false; decide +kernel
theorem kit_row {K : PySem.W.Frag} (d : PyData) : PySem.W.kitAny K (.type (tyN d)) [.type "list", .type "tuple"] = some (isRo d) := by
  refine kitAny_cons (kit_ty (kit_list d)) (fun _ => kitAny_cons (b := isTu d) (r := isRo d) (kit_ty (kit_tuple d)) (fun e => ?_) (fun e => ?_)) (fun e => ?_)
  · rw [kitAny_nil]; cases d <;> simp_all [isTu, isRo]
  · cases d <;> simp_all [isTu, isRo]
  · cases d <;> simp_all [isRo]
theorem tyx_t {K : PySem.W.Frag} {H : Hp} {a : Addr} {xs : List V} (h : SqT K H a xs) : TyX K H (.ref a) (.type "tuple") := by
  rcases h with (h | ⟨o, h⟩) | ⟨o, its, n, h, c, _⟩
  · exact .base (.tup h)
  · exact .fTuple h
  · exact .kTuple h c
theorem tyx_l {K : PySem.W.Frag} {H : Hp} {a : Addr} {xs : List V} (h : SqL K H a xs) : TyX K H (.ref a) (.type "list") := by
  rcases h with (h | ⟨o, h⟩) | ⟨o, its, n, h, c, _⟩
  · exact .base (.lst h)
  · exact .base (.frz h)
  · exact .kList h c
theorem dp_tyx {K : PySem.W.Frag} {H : Hp} {v : V} {d : PyData} (h : Dp K H v d) : TyX K H v (.type (tyN d)) := by
  cases h with
  | non => exact .base .non
  | bl b => exact .base (.bl b)
  | int i => exact .base (.int i)
  | str x => exact .base (.str x)
  | lst h _ => exact tyx_l h
  | tup h _ => exact tyx_t h
def isWh : PyData → Option Int → Bool
  | .int _, none => true
  | .int i, some l => decide (l ≤ i)
  | _, _ => false
def isRat : PyData → Bool
  | .tuple [.int t, .int b] => decide ((1 : Int) ≤ b) && decide (g2 t b = 1)
  | _ => false
def isPla : PyData → Bool
  | .tuple [a, b] => isRat a && isRat b
  | .list [a, b] => isRat a && isRat b
  | _ => false
def lowV : Option Int → V
  | none => .non
  | some l => .int l
theorem itF {c : Bool} {A B : Prop} (h : c = false) (b : B) : if c = true then A else B := by rw [h, if_neg Bool.false_ne_true]; exact b
theorem itT {c : Bool} {A B : Prop} (h : c = true) (a : A) : if c = true then A else B := by rw [h, if_pos rfl]; exact a
/-- a def with defaults -/
structure DefDf (P : Program) (w : World) (K : PySem.W.Frag) (mg : Str → Option Value) (base : Heap) (x : Str) (k : Nat) (ps : List Str) (dvs : List V) (sp : Sp) : Prop where
  ex : ∃ (f : Addr) (fd : FuncData) (ds : List Value), mg x = some (.ref f) ∧ PySem.W.keepIn K (.ref f) = true ∧ Vals dvs ds ∧ L2.Binds K fd ps ds ∧ FnOk P w K mg base CX0 k f fd ps sp
theorem len_two' {α : Type} : ∀ {l : List α}, l.length = 2 → ∃ a b, l = [a, b]
  | [a, b], _ => ⟨a, b, rfl⟩
section
variable {X : Cx}
theorem pe_defd {x : Str} {k : Nat} {ps : List Str} {dvs : List V} {sp : Sp} {e : Expr} {es : List Expr} {t : TA} {p pos : Pos} (D : DefDf X.prog X.w X.K X.mg X.base x k ps dvs sp) (hr : Room k X.A) (hg : Gl X x) (ha : PA X (e :: es) t)
    (hdb : (x == ("__debug__" : Str)) = false := by decide) (he : starEach (e :: es) X.env = (false, eval e X.env) :: starEach es X.env := by rfl) (hpl : (backTo pos (starEach es X.env)).any (·.1) = false := by rfl) :
    PE X (.Call (.Name x p) (e :: es) [] pos) (tCall sp dvs E0 t) := by
  obtain ⟨f, fd, ds, g, k, v, b, F⟩ := D.ex
  exact pe_call F hr hg g k b v pass0 ha hdb he hpl
end
def spWhole (K : PySem.W.Frag) : Sp := fun vs H Q _ => ∃ v d low, vs = [v, lowV low, .non] ∧ Dp K H v d ∧ Q (.bl (isWh d low)) H
def spIsR (K : PySem.W.Frag) : Sp := fun vs H Q _ => ∃ v d, vs = [v] ∧ Dp K H v d ∧ Q (.bl (isRat d)) H
def spRow (K : PySem.W.Frag) (o : PyData → Bool) : Sp := fun vs H Q _ => ∃ v d, vs = [v] ∧ Dp K H v d ∧ ∀ H', Same H H' → Q (.bl (o d)) H'
section
variable {P : Program} {w : World} {K : PySem.W.Frag} {mg : Str → Option Value} {base : Heap}
abbrev sis_whole : Stmt := topS 9
theorem scis_whole : FnScope ["thing", "low", "high"] ["thing", "low", "high"] (defScope sis_whole) := ⟨rfl, rfl, rfl, by decide +kernel, rfl, by decide +kernel, by decide +kernel⟩
theorem fnis_whole {f : Addr} {fd : FuncData} (F : FunD K "is_whole" "is_whole" (defArgs sis_whole) (defBody sis_whole) (defScope sis_whole) [.non, .non] [] f fd) (misinstance : mg "isinstance" = none) (mint : mg "int" = none) (mbool : mg "bool" = none) :
    FnOk P w K mg base CX0 1 f fd ["thing", "low", "high"] (spWhole K) := by
  refine F.ok scis_whole (fun vs H Q E h => ?_) (fun cdv A outer s H vs Q E hr h => ?_)
  · obtain ⟨v, d, low, rfl, _⟩ := h; rfl
  · obtain ⟨v, d, low, rfl, hv, q⟩ := h
    refine ⟨_, PSs.nox (pss_cons (ps_if (PW.pt (pw_or (pt_not (pt_val (pe_callB call_isi (by rfl) misinstance boot_isinstance (pa_cons (pv 0) (pa_cons (pe_bltn (v := .ty "int") (by rfl) mint (by decide +kernel) rfl) pa_nil))))) (pw_or1 (pt_val (pe_callB call_isi (by rfl) misinstance boot_isinstance (pa_cons (pv 0) (pa_cons (pe_bltn (v := .ty "bool") (by rfl) mbool (by decide +kernel) rfl) pa_nil))))))) (pss_one (ps_ret pe_bl)) pss_nil) (pss_one (ps_ret (pe_and (pe_or (pe_cmpR op_isN (pv 1) pe_non (nomark _)) (pe_one (pe_cmpR op_ge (pv 0) (pv 1) (nomark _)))) (pe_one (pe_or (pe_cmpR op_isN (pv 2) pe_non (nomark _)) (pe_one (pe_cmpR op_le (pv 0) (pv 2) (nomark _))))))))), ?_⟩
    have no : isI d = false → isWh d low = false := fun e => by cases d <;> simp_all [isI, isWh]
    have nb : isBo d = true → isWh d low = false := fun e => by cases d <;> simp_all [isBo, isWh]
    refine ⟨v, rfl, v, _, _, _, _, rfl, .ty _, dp_tyx hv, kit_ty (kit_int d), _, rfl, ?_⟩
    cases eI : isI d with
    | false => exact itT rfl (itT rfl (by show Q (.bl false) H; rw [no eI] at q; exact q))
    | true =>
      refine itF rfl ⟨v, rfl, v, _, _, _, _, rfl, .ty _, dp_tyx hv, kit_ty (kit_bool d), _, rfl, ?_⟩
      cases eB : isBo d with
      | true => exact itT rfl (by show Q (.bl false) H; rw [nb eB] at q; exact q)
      | false =>
        obtain ⟨i, rfl⟩ : ∃ i, d = .int i := by cases d <;> simp_all [isI, isBo]
        obtain rfl := dp_int hv
        refine itF rfl ?_
        cases low with
        | none => exact ⟨_, rfl, rfl, true, rfl, itT rfl ⟨true, rfl, itT rfl ⟨_, rfl, rfl, true, rfl, itT rfl q⟩⟩⟩
        | some l =>
          refine ⟨_, rfl, rfl, false, rfl, itF rfl ⟨_, rfl, _, rfl, _, _, rfl, rfl, _, rfl, ?_⟩⟩
          by_cases c : l ≤ i
          · rw [decide_eq_true c]
            have q2 : Q (.bl true) H := by have z : isWh (.int i) (some l) = true := decide_eq_true c; rw [z] at q; exact q
            exact itT rfl ⟨_, rfl, rfl, true, rfl, itT rfl q2⟩
          · rw [decide_eq_false c]
            have q2 : Q (.bl false) H := by have z : isWh (.int i) (some l) = false := decide_eq_false c; rw [z] at q; exact q
            exact itF rfl q2
theorem okis_whole1 {f : Addr} {fd : FuncData} (g : mg "is_whole" = some (.ref f)) (F : FunD K "is_whole" "is_whole" (defArgs sis_whole) (defBody sis_whole) (defScope sis_whole) [.non, .non] [] f fd) (misinstance : mg "isinstance" = none) (mint : mg "int" = none) (mbool : mg "bool" = none) :
    DefDf P w K mg base "is_whole" 1 ["thing", "low", "high"] [.non, .non] (spWhole K) := by
  obtain ⟨ds, hd, b⟩ := F.binds1 (ps := ["thing", "low", "high"]) 1 0 (List.cons_ne_nil _ _) rfl fun T kV doc pm an cdv ct us its hu hi => match us, hu, its, hi with | [_], _, [_, _], _ => ⟨_, rfl, rfl⟩
  exact ⟨f, fd, ds, g, F.kp, hd, b, fnis_whole F misinstance mint mbool⟩
theorem okis_whole2 {f : Addr} {fd : FuncData} (g : mg "is_whole" = some (.ref f)) (F : FunD K "is_whole" "is_whole" (defArgs sis_whole) (defBody sis_whole) (defScope sis_whole) [.non, .non] [] f fd) (misinstance : mg "isinstance" = none) (mint : mg "int" = none) (mbool : mg "bool" = none) :
    DefDf P w K mg base "is_whole" 1 ["thing", "low", "high"] [.non] (spWhole K) := by
  obtain ⟨ds, hd, b⟩ := F.binds1 (ps := ["thing", "low", "high"]) 2 1 (List.cons_ne_nil _ _) rfl fun T kV doc pm an cdv ct us its hu hi => match us, hu, its, hi with | [_, _], _, [_, _], _ => ⟨_, rfl, rfl⟩
  exact ⟨f, fd, ds, g, F.kp, hd, b, fnis_whole F misinstance mint mbool⟩
abbrev sis_ratio : Stmt := topS 10
theorem scis_ratio : FnScope ["thing"] ["thing"] (defScope sis_ratio) := ⟨rfl, rfl, rfl, by decide +kernel, rfl, by decide +kernel, by decide +kernel⟩
theorem okis_ratio (T : Txt K mg "is_ratio" sis_ratio) (Gw1 : DefDf P w K mg base "is_whole" 1 ["thing", "low", "high"] [.non, .non] (spWhole K)) (Gw2 : DefDf P w K mg base "is_whole" 1 ["thing", "low", "high"] [.non] (spWhole K)) (misinstance : mg "isinstance" = none) (mtuple : mg "tuple" = none) (mlen : mg "len" = none) (mgcd : mg "gcd" = some (.builtin "math.gcd")) : DefOk P w K mg base CX0 "is_ratio" 2 ["thing"] (spIsR K) := by
  obtain ⟨f, fd, F, gf⟩ := T
  refine ⟨f, fd, gf, F.kp, F.binds (fun _ _ _ _ _ _ us hl => match us, hl with | [_], _ => rfl), F.ok scis_ratio (fun vs H Q E h => ?_) (fun cdv A outer s H vs Q E hr h => ?_)⟩
  · obtain ⟨v, d, rfl, _⟩ := h; rfl
  · obtain ⟨v, d, rfl, hv, q⟩ := h
    refine ⟨_, (pss_cons (ps_if (PW.pt (pw_or (pt_not (pt_val (pe_callB call_isi (by rfl) misinstance boot_isinstance (pa_cons (pv 0) (pa_cons (pe_bltn (v := .ty "tuple") (by rfl) mtuple (by decide +kernel) rfl) pa_nil))))) (pw_or1 (pt_cmpR op_ne (pe_callB call_len_seq (by rfl) mlen PySem.boot_len (pa_cons (pv 0) pa_nil)) pe_int (nomark _))))) (pss_one (ps_ret pe_bl)) pss_nil) (pss_one (ps_ret (pe_and (pe_defd Gw1 (hr.mono (by decide)) (by rfl) (pa_cons (pe_ix ix_it (pv 0) pe_int (fun _ _ => rfl)) pa_nil)) (pe_and (pe_defd Gw2 (hr.mono (by decide)) (by rfl) (pa_cons (pe_ix ix_it (pv 0) pe_int (fun _ _ => rfl)) (pa_cons pe_int pa_nil))) (pe_one (pe_cmpR op_eq (pe_callBfun cr_gcd (by rfl) mgcd (pa_cons (pe_ix ix_it (pv 0) pe_int (fun _ _ => rfl)) (pa_cons (pe_ix ix_it (pv 0) pe_int (fun _ _ => rfl)) pa_nil))) pe_int (nomark _)))))))), ?_⟩
    refine ⟨v, rfl, v, _, _, _, _, rfl, .ty _, dp_tyx hv, kit_ty (kit_tuple d), _, rfl, ?_⟩
    cases eT : isTu d with
    | false =>
      have z : isRat d = false := by cases d <;> simp_all [isTu, isRat]
      rw [z] at q
      exact itT rfl (itT rfl q)
    | true =>
      cases hv with
      | non => cases eT
      | bl _ => cases eT
      | int _ => cases eT
      | str _ => cases eT
      | lst _ _ => cases eT
      | @tup a xs ds hs hd =>
        refine itF rfl ⟨.ref a, rfl, a, xs, rfl, .inr hs, rfl, _, rfl, ?_⟩
        by_cases l2 : xs.length = 2
        · have e0 : (!decide (V.int (xs.length : Int) = V.int 2)) = false := by rw [l2]; rfl
          refine itF e0 ?_
          obtain ⟨x, y, rfl⟩ := len_two' l2
          cases hd with
          | cons hx hd => cases hd with
            | @cons _ _ dy ds2 hy hd => cases hd with
              | nil =>
                rename_i dx
                have c : Cou K H (.ref a) x y := ⟨a, rfl, .inl hs⟩
                refine ⟨.ref a, rfl, x, y, 0, _, rfl, c, rfl, x, dx, none, rfl, hx, _, rfl, ?_⟩
                cases w1 : isWh dx none with
                | false =>
                  have z : isRat (.tuple [dx, dy]) = false := by cases dx <;> simp_all [isWh, isRat]
                  rw [z] at q
                  exact itF rfl q
                | true =>
                  obtain ⟨t, rfl⟩ : ∃ t, dx = .int t := by cases dx <;> simp_all [isWh]
                  refine itT rfl ⟨.ref a, rfl, x, y, 1, _, rfl, c, rfl, y, dy, some 1, rfl, hy, _, rfl, ?_⟩
                  cases w2 : isWh dy (some 1) with
                  | false =>
                    have z : isRat (.tuple [.int t, dy]) = false := by cases dy <;> simp_all [isWh, isRat] <;> (intro h; omega)
                    rw [z] at q
                    exact itF rfl q
                  | true =>
                    obtain ⟨b, rfl⟩ : ∃ b, dy = .int b := by cases dy <;> simp_all [isWh]
                    obtain rfl := dp_int hx
                    obtain rfl := dp_int hy
                    have b1 : (1 : Int) ≤ b := of_decide_eq_true w2
                    refine itT rfl ⟨.ref a, rfl, _, _, 0, _, rfl, c, rfl, .ref a, rfl, _, _, 1, _, rfl, c, rfl, t, b, rfl, rfl, ?_⟩
                    have z : isRat (.tuple [.int t, .int b]) = decide (V.int (g2 t b) = V.int 1) := by
                      show (decide ((1 : Int) ≤ b) && decide (g2 t b = 1)) = _
                      rw [decide_eq_true b1, Bool.true_and]
                      by_cases k : g2 t b = 1
                      · rw [decide_eq_true k, k]; rfl
                      · rw [decide_eq_false k, decide_eq_false (fun z => k (V.int.inj z))]
                    rw [z] at q
                    exact q
        · have e0 : (!decide (V.int (xs.length : Int) = V.int 2)) = true := by
            rw [decide_eq_false (fun z => l2 (by have := V.int.inj z; omega))]; rfl
          have z : isRat (.tuple ds) = false := by
            have dl := DpAll_len hd
            match ds, dl with
            | [], _ => rfl
            | [_], _ => simp [isRat]
            | [_, _], dl => exact absurd dl l2
            | _ :: _ :: _ :: _, _ => simp [isRat]
          rw [z] at q
          exact itT e0 q
abbrev sis_row : Stmt := topS 8
theorem scis_row : FnScope ["thing"] ["thing"] (defScope sis_row) := ⟨rfl, rfl, rfl, by decide +kernel, rfl, by decide +kernel, by decide +kernel⟩
theorem okis_row (T : Txt K mg "is_row" sis_row) (misinstance : mg "isinstance" = none) (mtuple : mg "tuple" = none) (mlist : mg "list" = none) : DefOk P w K mg base CX0 "is_row" 1 ["thing"] (spRow K isRo) := by
  obtain ⟨f, fd, F, gf⟩ := T
  refine ⟨f, fd, gf, F.kp, F.binds (fun _ _ _ _ _ _ us hl => match us, hl with | [_], _ => rfl), F.ok scis_row (fun vs H Q E h => ?_) (fun cdv A outer s H vs Q E hr h => ?_)⟩
  · obtain ⟨v, d, rfl, _⟩ := h; rfl
  · obtain ⟨v, d, rfl, hv, q⟩ := h
    refine ⟨_, (pss_one (ps_ret (pe_callB call_isiT (by rfl) misinstance boot_isinstance (pa_cons (pv 0) (pa_cons (pe_tup (pa_cons (pe_bltn (v := .ty "list") (by rfl) mlist (by decide +kernel) rfl) (pa_cons (pe_bltn (v := .ty "tuple") (by rfl) mtuple (by decide +kernel) rfl) pa_nil))) pa_nil))))), ?_⟩
    refine ⟨v, rfl, (by show 2 ≤ sizeLine; decide), fun p np => ?_⟩
    exact ⟨v, p, _, _, _, _, rfl, upd_same, .cons (.ty _) (.cons (.ty _) .nil), dp_tyx (Dp_same (PB.same_new np) hv), kit_row d, q _ (PB.same_new np)⟩
abbrev sis_place : Stmt := topS 23
theorem scis_place : FnScope ["thing"] ["thing"] (defScope sis_place) := ⟨rfl, rfl, rfl, by decide +kernel, rfl, by decide +kernel, by decide +kernel⟩
theorem okis_place (T : Txt K mg "is_place" sis_place) (Gis_row : DefOk P w K mg base CX0 "is_row" 1 ["thing"] (spRow K isRo)) (Gis_ratio : DefOk P w K mg base CX0 "is_ratio" 2 ["thing"] (spIsR K)) (mlen : mg "len" = none) : DefOk P w K mg base CX0 "is_place" 3 ["thing"] (spRow K isPla) := by
  obtain ⟨f, fd, F, gf⟩ := T
  refine ⟨f, fd, gf, F.kp, F.binds (fun _ _ _ _ _ _ us hl => match us, hl with | [_], _ => rfl), F.ok scis_place (fun vs H Q E h => ?_) (fun cdv A outer s H vs Q E hr h => ?_)⟩
  · obtain ⟨v, d, rfl, _⟩ := h; rfl
  · obtain ⟨v, d, rfl, hv, q⟩ := h
    refine ⟨_, (pss_one (ps_ret (pe_and (pe_def Gis_row (hr.mono (by decide)) (by rfl) (pa_cons (pv 0) pa_nil)) (pe_and (pe_cmpR op_eq (pe_callB call_len_seq (by rfl) mlen PySem.boot_len (pa_cons (pv 0) pa_nil)) pe_int (nomark _)) (pe_and (pe_def Gis_ratio (hr.mono (by decide)) (by rfl) (pa_cons (pe_ix ix_it (pv 0) pe_int (fun _ _ => rfl)) pa_nil)) (pe_one (pe_def Gis_ratio (hr.mono (by decide)) (by rfl) (pa_cons (pe_ix ix_it (pv 0) pe_int (fun _ _ => rfl)) pa_nil)))))))), ?_⟩
    refine ⟨v, rfl, v, d, rfl, hv, fun H1 s1 => ⟨_, rfl, ?_⟩⟩
    have hv1 := Dp_same s1 hv
    cases eR : isRo d with
    | false =>
      have z : isPla d = false := by cases d <;> simp_all [isRo, isPla]
      have q2 := q H1 s1
      rw [z] at q2
      exact itF rfl q2
    | true =>
      have seq : ∃ a xs ds, v = .ref a ∧ (SqL K H1 a xs ∨ SqT K H1 a xs) ∧ DpAll K H1 xs ds ∧ (d = .list ds ∨ d = .tuple ds) := by
        cases hv1 with
        | non => cases eR
        | bl _ => cases eR
        | int _ => cases eR
        | str _ => cases eR
        | @lst a xs ds hs hd => exact ⟨a, xs, ds, rfl, .inl hs, hd, .inl rfl⟩
        | @tup a xs ds hs hd => exact ⟨a, xs, ds, rfl, .inr hs, hd, .inr rfl⟩
      obtain ⟨a, xs, ds, rfl, hs, hd, ed⟩ := seq
      refine itT rfl ⟨.ref a, rfl, a, xs, rfl, hs, rfl, _, rfl, ?_⟩
      by_cases l2 : xs.length = 2
      · refine itT (by rw [l2]; rfl) ?_
        obtain ⟨x, y, rfl⟩ := len_two' l2
        obtain ⟨dx, dy, rfl⟩ := len_two' (by rw [← DpAll_len hd]; exact l2)
        obtain ⟨x_, y_, e, hx, hy⟩ := dpa2 hd
        cases e
        have c : Cou K H1 (.ref a) x y := ⟨a, rfl, hs.symm⟩
        have z : isPla d = (isRat dx && isRat dy) := by rcases ed with rfl | rfl <;> rfl
        have q2 := q H1 s1
        rw [z] at q2
        refine ⟨.ref a, rfl, x, y, 0, _, rfl, c, rfl, x, dx, rfl, hx, _, rfl, ?_⟩
        cases e1 : isRat dx with
        | false => rw [e1] at q2; exact itF rfl q2
        | true =>
          rw [e1] at q2
          exact itT rfl ⟨.ref a, rfl, x, y, 1, _, rfl, c, rfl, y, dy, rfl, hy, q2⟩
      · refine itF (decide_eq_false (fun z => l2 (by have := V.int.inj z; omega))) ?_
        have z : isPla d = false := by
          have dl := DpAll_len hd
          have k : ds.length ≠ 2 := by rw [← dl]; exact l2
          match ds, k with
          | [], _ => rcases ed with rfl | rfl <;> rfl
          | [_], _ => rcases ed with rfl | rfl <;> simp [isPla]
          | [_, _], k => exact absurd rfl k
          | _ :: _ :: _ :: _, _ => rcases ed with rfl | rfl <;> simp [isPla]
        have q2 := q H1 s1
        rw [z] at q2
        exact q2
end
end F3
set_option Elab.async false
set_option linter.all false
set_option maxRecDepth 100000
set_option maxHeartbeats 4000000
set_option exponentiation.threshold 3000
namespace F3
open PySem PySem.Spec PyProof.Rows L2 FX RM PB
section
variable {X : Cx}
theorem pe_defX {x : Str} {k : Nat} {ps : List Str} {sp : Sp} {E : XK} {e : Expr} {es : List Expr} {t : TA} {p pos : Pos} (D : DefOk X.prog X.w X.K X.mg X.base (L2.CX X.prog X.w) x k ps sp) (hr : Room k X.A) (hg : Gl X x) (ha : PA X (e :: es) t) (tk : Takes X (fun cls d _ H => E cls d H))
    (hdb : (x == ("__debug__" : Str)) = false := by decide) (he : starEach (e :: es) X.env = (false, eval e X.env) :: starEach es X.env := by rfl) (hpl : (backTo pos (starEach es X.env)).any (·.1) = false := by rfl) :
    PE X (.Call (.Name x p) (e :: es) [] pos) (tCall sp [] E t) := by
  obtain ⟨f, fd, g, k, b, F⟩ := D.ex
  exact pe_call F hr hg g k b .nil (passes_call tk fun _ _ _ _ h => h) ha hdb he hpl
theorem pe_defS {x : Str} {k : Nat} {ps : List Str} {sp : Sp} {W : WX} {e : Expr} {es : List Expr} {t : TA} {p pos : Pos} (D : DefOk X.prog X.w X.K X.mg X.base (L2.CX X.prog X.w) x k ps sp) (hr : Room k X.A) (hg : Gl X x) (ha : PA X (e :: es) t) (tk : Takes X W)
    (hdb : (x == ("__debug__" : Str)) = false := by decide) (he : starEach (e :: es) X.env = (false, eval e X.env) :: starEach es X.env := by rfl) (hpl : (backTo pos (starEach es X.env)).any (·.1) = false := by rfl) :
    PE X (.Call (.Name x p) (e :: es) [] pos) (tCallS sp (WE W) t) := by
  obtain ⟨f, fd, g, k, b, F⟩ := D.ex
  exact pe_callS F hr hg g k b (fun σ => passAt tk σ) ha hdb he hpl
end
def isSz : PyData → Bool
  | .tuple [.int t, .int b] => isRat (.tuple [.int t, .int b]) && decide (0 < t)
  | _ => false
def spCkP (K : PySem.W.Frag) : Sp := fun vs H Q E => ∃ v d, vs = [v] ∧ Dp K H v d ∧ (∀ a b, (d = .tuple [a, b] ∨ d = .list [a, b]) → isPla d = true → ∀ H' z, Same H H' → Dp K H' z (.tuple [a, b]) → Q z H') ∧ (isPla d = false → ∀ H', Same H H' → E (.ref (He.ga K "BadPlace")) none H')
def spCkA (K : PySem.W.Frag) (o : PyData → Bool) (x : Str) : Sp := fun vs H Q E => ∃ v d, vs = [v] ∧ Dp K H v d ∧ (o d = true → Q v H) ∧ (o d = false → E (.ref (He.ga K x)) none H)
def spWdX (K : PySem.W.Frag) : Sp := fun vs H Q E => ∃ x y : Int, vs = [.int x, .int y] ∧ Sz 8000 x ∧ Sz 8000 y ∧ ((x ≠ 0 ∨ y ≠ 0) → ∀ H' z, Same H H' → Dp K H' z (rD (norm x y)) → Q z H') ∧ ((x = 0 ∧ y = 0) → E (.ref (He.ga K "BadDirection")) none H)
def spDirX (K : PySem.W.Frag) : Sp := fun vs H Q E => ∃ v p, vs = [v] ∧ Pla K H v p ∧ RatP p ∧ SzP 2000 p ∧ ((p.1.1 ≠ 0 ∨ p.2.1 ≠ 0) → ∀ H' z, Same H H' → Dp K H' z (rD (dirOf p)) → Q z H') ∧ ((p.1.1 = 0 ∧ p.2.1 = 0) → E (.ref (He.ga K "BadDirection")) none H)
def spNorX (K : PySem.W.Frag) : Sp := fun vs H Q E => ∃ v u p s, vs = [v, u] ∧ Pla K H v p ∧ Pla K H u s ∧ RatP p ∧ RatP s ∧ SzP 600 p ∧ SzP 600 s ∧ (((stepF p s).1.1 ≠ 0 ∨ (stepF p s).2.1 ≠ 0) → ∀ H' z, Same H H' → Dp K H' z (rD (dirOf ((stepF p s).2, rneg (stepF p s).1))) → Q z H') ∧
  (((stepF p s).1.1 = 0 ∧ (stepF p s).2.1 = 0) → ∀ H', Same H H' → E (.ref (He.ga K "BadDirection")) none H')
section
variable {P : Program} {w : World} {K : PySem.W.Frag} {mg : Str → Option Value} {base : Heap}
theorem okXwhole_direction (T : Txt K mg "whole_direction" swhole_direction) (mgcd : mg "gcd" = some (.builtin "math.gcd")) (cBadDirection : ClsOk K "BadDirection" []) (gBadDirection : mg "BadDirection" = some (.ref (He.ga K "BadDirection"))) : DefOk P w K mg base (L2.CX P w) "whole_direction" 1 ["x", "y"] (spWdX K) := by
  obtain ⟨f, fd, F, gf⟩ := T
  refine ⟨f, fd, gf, F.kp, F.binds (fun _ _ _ _ _ _ us hl => match us, hl with | [_, _], _ => rfl), F.okX scwhole_direction (fun vs H Q E h => ?_) (fun cdv A outer s H vs Q E hr h => ?_)⟩
  · obtain ⟨x, y, rfl, _⟩ := h; rfl
  · obtain ⟨x, y, rfl, zx, zy, q, qE⟩ := h
    refine ⟨_, (pss_cons (ps_set (i := 2) scwhole_direction.nd rfl (.inl rfl) (pe_callBfun cr_gcd (by rfl) mgcd (pa_cons (pv 0) (pa_cons (pv 1) pa_nil)))) (pss_cons (ps_if (pt_cmpR op_eq (pv 2) pe_int (nomark _)) (pss_one (ps_raise rfl (takes_of rfl rfl rfl rfl) (pmk_ex0 H rfl rfl cBadDirection.o (cBadDirection.xin rfl) (by rfl) gBadDirection))) pss_nil) (pss_one (ps_ret (pe_tup (pa_cons (pe_op op_fdivW (pv 0) (pv 2)) (pa_cons (pe_op op_fdivW (pv 1) (pv 2)) pa_nil))))))), ?_⟩
    refine ⟨_, rfl, _, rfl, x, y, rfl, ?_⟩
    show tSeq _ _ _ [some (.int x), some (.int y), some (.int (g2 x y))] H
    by_cases nz : x ≠ 0 ∨ y ≠ 0
    · have gp := g2_posO nz
      have gz := sz_gg nz zx zy
      refine ⟨_, rfl, rfl, _, rfl, ?_⟩
      refine itF (decide_eq_false (fun z => by have := V.int.inj z; omega)) ⟨_, rfl, _, rfl, _, _, rfl, rfl, wide_div gp gz (by decide) (by decide), _, rfl, _, rfl, _, _, rfl, rfl, wide_div gp gz (by decide) (by decide), (by show 2 ≤ sizeLine; decide), fun p np => q nz _ _ (PB.same_new np) (dp_mkr np)⟩
    · have hx : x = 0 := by omega
      have hy : y = 0 := by omega
      refine ⟨_, rfl, rfl, _, rfl, itT (decide_eq_true ?_) ⟨fun a na => na, qE ⟨hx, hy⟩⟩⟩
      rw [hx, hy]; rfl
theorem okXdirection_of (T : Txt K mg "direction_of" sdirection_of) (Xwhole_direction : DefOk P w K mg base (L2.CX P w) "whole_direction" 1 ["x", "y"] (spWdX K)) : DefOk P w K mg base (L2.CX P w) "direction_of" 2 ["step"] (spDirX K) := by
  obtain ⟨f, fd, F, gf⟩ := T
  refine ⟨f, fd, gf, F.kp, F.binds (fun _ _ _ _ _ _ us hl => match us, hl with | [_], _ => rfl), F.okX scdirection_of (fun vs H Q E h => ?_) (fun cdv A outer s H vs Q E hr h => ?_)⟩
  · obtain ⟨v, p, rfl, _⟩ := h; rfl
  · obtain ⟨v, p, rfl, ⟨x, y, c, hx, hy⟩, rp, zp, q, qE⟩ := h
    refine ⟨_, (pss_cons (ps_asg (pv 0) (pg_cou rfl (pgs_cons (pg_name (i := 1) scdirection_of.nd rfl (.inl rfl)) (pgs_cons (pg_name (i := 2) scdirection_of.nd rfl (.inl rfl)) pgs_nil)))) (pss_one (ps_ret (pe_defX (E := E) Xwhole_direction (hr.mono (by decide)) (by rfl) (pa_cons (pe_op op_mulW (pe_ix ix_it (pv 1) pe_int (fun _ _ => rfl)) (pe_ix ix_it (pv 2) pe_int (fun _ _ => rfl))) (pa_cons (pe_op op_mulW (pe_ix ix_it (pv 2) pe_int (fun _ _ => rfl)) (pe_ix ix_it (pv 1) pe_int (fun _ _ => rfl))) pa_nil)) (takes_of rfl rfl rfl rfl))))), ?_⟩
    have cx := cou_r hx
    have cy := cou_r hy
    refine ⟨v, rfl, x, y, c, x, [y], rfl, y, [], rfl, rfl, x, rfl, _, _, 0, _, rfl, cx, rfl, y, rfl, _, _, 1, _, rfl, cy, rfl, _, _, rfl, rfl, wide_mul zp.1.1 zp.2.2 (by decide) (by decide) (by decide), y, rfl, _, _, 0, _, rfl, cy, rfl, x, rfl, _, _, 1, _, rfl, cx, rfl, _, _, rfl, rfl, wide_mul zp.2.1 zp.1.2 (by decide) (by decide) (by decide), _, _, rfl, sz_mono (sz_mul zp.1.1 zp.2.2) (by decide), sz_mono (sz_mul zp.2.1 zp.1.2) (by decide), fun nz H' z sm hz => q ?_ H' z sm hz, fun z => qE ⟨?_, ?_⟩⟩
    · by_cases a : p.1.1 = 0
      · by_cases b : p.2.1 = 0
        · rw [a, b] at nz; simp at nz
        · exact .inr b
      · exact .inl a
    · rcases Int.mul_eq_zero.mp z.1 with k | k
      · exact k
      · have := rp.2.1; omega
    · rcases Int.mul_eq_zero.mp z.2 with k | k
      · exact k
      · have := rp.1.1; omega
theorem okXside_normal (T : Txt K mg "side_normal" sside_normal) (Graw_step : DefOk P w K mg base CX0 "raw_step" 2 ["one", "other"] (spRawS K)) (Xwhole_direction : DefOk P w K mg base (L2.CX P w) "whole_direction" 1 ["x", "y"] (spWdX K)) : DefOk P w K mg base (L2.CX P w) "side_normal" 5 ["one", "other"] (spNorX K) := by
  obtain ⟨f, fd, F, gf⟩ := T
  refine ⟨f, fd, gf, F.kp, F.binds (fun _ _ _ _ _ _ us hl => match us, hl with | [_, _], _ => rfl), F.okX scside_normal (fun vs H Q E h => ?_) (fun cdv A outer s H vs Q E hr h => ?_)⟩
  · obtain ⟨v, u, p, s_, rfl, _⟩ := h; rfl
  · obtain ⟨v, u, p, s_, rfl, hv, hu, rp, rs, zp, zs, q, qE⟩ := h
    refine ⟨_, (pss_cons (ps_asg (pe_def Graw_step (hr.mono (by decide)) (by rfl) (pa_cons (pv 0) (pa_cons (pv 1) pa_nil))) (pg_cou rfl (pgs_cons (pg_name (i := 2) scside_normal.nd rfl (.inl rfl)) (pgs_cons (pg_name (i := 3) scside_normal.nd rfl (.inl rfl)) pgs_nil)))) (pss_one (ps_ret (pe_defX (E := E) Xwhole_direction (hr.mono (by decide)) (by rfl) (pa_cons (pv 3) (pa_cons (pe_un un_neg (pv 2)) pa_nil)) (takes_of rfl rfl rfl rfl))))), ?_⟩
    obtain ⟨zx, zy⟩ := rstep_sz zp zs
    refine ⟨v, rfl, u, rfl, v, u, p, s_, rfl, hv, hu, rp, rs, zp, zs, fun H1 z1 s1 h1 => ?_⟩
    refine ⟨_, _, cou_r h1, _, _, rfl, _, _, rfl, rfl, ?_⟩
    refine ⟨_, rfl, _, rfl, _, rfl, _, _, rfl, sz_mono zy (by decide), sz_mono (sz_neg zx) (by decide), fun nz H2 z s2 hz => q ?_ H2 z (s1.trans s2) ?_, fun nz => qE ⟨?_, ?_⟩ _ s1⟩
    · rcases nz with nz | nz
      · exact .inr (fun z => nz (((rstep_zero rp rs).2).mpr z))
      · exact .inl (fun z => nz (by have := ((rstep_zero rp rs).1).mpr z; omega))
    · rw [← rstep_dir rp rs]; exact hz
    · exact ((rstep_zero rp rs).1).mp (by have := nz.2; omega)
    · exact ((rstep_zero rp rs).2).mp nz.1
end
end F3
set_option Elab.async false
set_option linter.all false
set_option maxRecDepth 100000
set_option maxHeartbeats 4000000
set_option exponentiation.threshold 3000
namespace F3
open PySem PySem.Spec PyProof.Rows L2 FX RM PB
def spGcd : Sp := fun vs H Q _ => ∃ x y : Int, vs = [.int x, .int y] ∧ Q (.int (g2 x y)) H
def amtL (d : Int × Int) (p : Pl) : Rt := radd (rmul (d.1, 1) p.1) (rmul (d.2, 1) p.2)
def crossL (a b c : Pl) : Rt := rsub (rmul (rsub b.1 a.1) (rsub c.2 a.2)) (rmul (rsub b.2 a.2) (rsub c.1 a.1))
def spAmtL (K : PySem.W.Frag) : Sp := fun vs H Q _ => ∃ v u d p, vs = [v, u] ∧ Dp K H v (rD d) ∧ Dp K H u (pD p) ∧ RatP p ∧ SzR 600 d ∧ SzP 600 p ∧ ∀ H' z, Same H H' → Dp K H' z (rD (amtL d p)) → Q z H'
def spCroL (K : PySem.W.Frag) : Sp := fun vs H Q _ => ∃ v u t a b c, vs = [v, u, t] ∧ Dp K H v (pD a) ∧ Dp K H u (pD b) ∧ Dp K H t (pD c) ∧ RatP a ∧ RatP b ∧ RatP c ∧ SzP 300 a ∧ SzP 300 b ∧ SzP 300 c ∧ ∀ H' z, Same H H' → Dp K H' z (rD (crossL a b c)) → Q z H'
def spPT (K : PySem.W.Frag) (o : Pl → Pl → Pl) : Sp := fun vs H Q _ => ∃ v u p s, vs = [v, u] ∧ Dp K H v (pD p) ∧ Dp K H u (pD s) ∧ RatP p ∧ RatP s ∧ SzP 2000 p ∧ SzP 2000 s ∧ ∀ H' z, Same H H' → Dp K H' z (pD (o p s)) → Q z H'
def spPlain (K : PySem.W.Frag) : Sp := fun vs H Q _ => ∃ v u r, vs = [v, u] ∧ Dp K H v (rD r) ∧ Dp K H u (rD r) ∧ Q (.bl true) H
theorem rat_int (n : Int) : IsRat (n, 1) := ⟨by show (0 : Int) < 1; decide, by show Nat.gcd n.natAbs 1 = 1; exact Nat.gcd_one_right _⟩
theorem szr_int {n : Nat} {x : Int} (h : Sz n x) (k : 1 ≤ n) : SzR n (x, 1) := ⟨h, sz_mono (by show (1 : Int).natAbs < 2 ^ 1; decide) k⟩
theorem shaped_r (r : Rt) : SeqAt.shaped (rD r) = true ∧ PyData.canLay0 (rD r) = true := by
  have c : PyData.canLay0 (rD r) = true := by simp [rD, PyData.canLay0, PyData.canLayAll0]
  exact ⟨by unfold SeqAt.shaped; rw [c]; simp [rD, PyData.depth, PyData.depthAll], c⟩
theorem shaped_p (p : Pl) : SeqAt.shaped (pD p) = true ∧ PyData.canLay0 (pD p) = true := by
  have c : PyData.canLay0 (pD p) = true := by simp [pD, rD, PyData.canLay0, PyData.canLayAll0]
  exact ⟨by unfold SeqAt.shaped; rw [c]; simp [pD, rD, PyData.depth, PyData.depthAll], c⟩
/-- == and != of equal data -/
theorem eq_same {K : PySem.W.Frag} {H : Hp} {v u : V} {d : PyData} {Q : VK} (s : SeqAt.shaped d = true ∧ PyData.canLay0 d = true) (h1 : Dp K H v d) (h2 : Dp K H u d) (q : Q (.bl true) H) : rEqD K v u H Q :=
  ⟨d, d, h1, h2, s.1, s.1, by rw [SeqAt.eqv_refl _ s.2]; exact q⟩
theorem ne_same {K : PySem.W.Frag} {H : Hp} {v u : V} {d : PyData} {Q : VK} (s : SeqAt.shaped d = true ∧ PyData.canLay0 d = true) (h1 : Dp K H v d) (h2 : Dp K H u d) (q : Q (.bl false) H) : rNeD K v u H Q :=
  ⟨d, d, h1, h2, s.1, s.1, by rw [SeqAt.eqv_refl _ s.2]; exact q⟩
section
variable {P : Program} {w : World} {K : PySem.W.Frag} {mg : Str → Option Value} {base : Heap}
abbrev s_law_gcd : Stmt := topS 65
theorem sc_law_gcd : FnScope ["_law_one", "_law_other"] ["_law_one", "_law_other"] (defScope s_law_gcd) := ⟨rfl, rfl, rfl, by decide +kernel, rfl, by decide +kernel, by decide +kernel⟩
theorem ok_law_gcd (T : Txt K mg "_law_gcd" s_law_gcd) (mint : mg "int" = none) (mabs : mg "abs" = none) : DefOk P w K mg base CX0 "_law_gcd" 1 ["_law_one", "_law_other"] spGcd := by
  obtain ⟨f, fd, F, gf⟩ := T
  refine ⟨f, fd, gf, F.kp, F.binds (fun _ _ _ _ _ _ us hl => match us, hl with | [_, _], _ => rfl), F.ok sc_law_gcd (fun vs H Q E h => ?_) (fun cdv A outer s H vs Q E hr h => ?_)⟩
  · obtain ⟨x, y, rfl, _⟩ := h; rfl
  · obtain ⟨x, y, rfl, q⟩ := h
    refine ⟨_, (pss_cons (ps_par (i := 0) (j := 1) rfl sc_law_gcd.nd rfl rfl (by decide) rfl rfl (pa_cons (pe_callB call_abs (by rfl) mabs (by decide +kernel) (pa_cons (pv 0) pa_nil)) (pa_cons (pe_callB call_abs (by rfl) mabs (by decide +kernel) (pa_cons (pv 1) pa_nil)) pa_nil)) rfl) (pss_cons (ps_while PassesOwn.never (pt_truth (pv 1) (fun _ => rfl)) (pss_one (ps_par (i := 0) (j := 1) rfl sc_law_gcd.nd rfl rfl (by decide) rfl rfl (pa_cons (pv 1) (pa_cons (pe_op op_mod (pe_callTy call_int1 (by rfl) mint boot_int (pa_cons (pv 0) pa_nil)) (pv 1)) pa_nil)) rfl))) (pss_one (ps_ret (pv 0))))), ?_⟩
    have ab : ∀ i : Int, (if i < 0 then -i else i) = (i.natAbs : Int) := fun i => by split <;> omega
    refine ⟨_, rfl, x, rfl, _, rfl, y, rfl, _, _, rfl, ?_⟩
    rw [ab, ab]
    dsimp only [tSeq]
    refine while_by (fun σ H' => ∃ a b : Nat, σ = [some (.int (a : Int)), some (.int (b : Int))] ∧ Nat.gcd a b = Nat.gcd x.natAbs y.natAbs ∧ H' = H)
      (fun σ H' => match σ with | [_, some (.int b)] => b.toNat | _ => 0) ⟨_, _, rfl, rfl, rfl⟩ ?_ (fun σ H Q Q' hq hc => by
      obtain ⟨v, e, k, t, q⟩ := hc
      exact ⟨v, e, k, t, hq _ _ q⟩)
    rintro σ H' ⟨a, b, rfl, e, rfl⟩
    refine ⟨_, rfl, ((b : Int) != 0), rfl, ?_⟩
    by_cases b0 : b = 0
    · subst b0
      refine itF rfl ?_
      refine ⟨_, rfl, ?_⟩
      rw [Nat.gcd_zero_right] at e
      rw [e]; exact q
    · refine itT (by simp [b0]) ?_
      refine ⟨_, rfl, _, rfl, .inl ⟨_, rfl, _, rfl, _, _, rfl, rfl, (by show (0 : Int) < _; omega), _, _, rfl, ⟨b, a % b, rfl, ?_, rfl⟩, ?_⟩⟩
      · rw [← e, Nat.gcd_comm a b, Nat.gcd_rec b a, Nat.gcd_comm]
      · show ((a : Int) % (b : Int)).toNat < ((b : Int)).toNat
        have := Int.emod_lt_of_pos (a : Int) (by omega : (0 : Int) < (b : Int))
        omega
abbrev s_law_ratio : Stmt := topS 66
theorem sc_law_ratio : FnScope ["_law_top_here", "_law_bottom_here", "_law_part"] ["_law_top_here", "_law_bottom_here"] (defScope s_law_ratio) := ⟨rfl, rfl, rfl, by decide +kernel, rfl, by decide +kernel, by decide +kernel⟩
theorem ok_law_ratio (T : Txt K mg "_law_ratio" s_law_ratio) (G_law_gcd : DefOk P w K mg base CX0 "_law_gcd" 1 ["_law_one", "_law_other"] spGcd) : DefOk P w K mg base CX0 "_law_ratio" 2 ["_law_top_here", "_law_bottom_here"] (spLow K) := by
  obtain ⟨f, fd, F, gf⟩ := T
  refine ⟨f, fd, gf, F.kp, F.binds (fun _ _ _ _ _ _ us hl => match us, hl with | [_, _], _ => rfl), F.ok sc_law_ratio (fun vs H Q E h => ?_) (fun cdv A outer s H vs Q E hr h => ?_)⟩
  · obtain ⟨t, b, rfl, _⟩ := h; rfl
  · obtain ⟨t, b, rfl, b0, zt, zb, q⟩ := h
    refine ⟨_, (pss_cons (ps_set (i := 2) sc_law_ratio.nd rfl (.inl rfl) (pe_def G_law_gcd (hr.mono (by decide)) (by rfl) (pa_cons (pv 0) (pa_cons (pv 1) pa_nil)))) (pss_cons (ps_if (pt_cmpR op_lt (pv 1) pe_int (nomark _)) (pss_one (ps_set (i := 2) sc_law_ratio.nd rfl (.inl rfl) (pe_un un_neg (pv 2)))) pss_nil) (pss_one (ps_ret (pe_tup (pa_cons (pe_op op_fdivW (pv 0) (pv 2)) (pa_cons (pe_op op_fdivW (pv 1) (pv 2)) pa_nil))))))), ?_⟩
    have bn : b ≠ 0 := by omega
    have gp := g2_pos (t := t) bn
    have gz := sz_g (t := t) bn zb
    refine ⟨_, rfl, _, rfl, t, b, rfl, ?_⟩
    refine ⟨_, rfl, _, _, rfl, rfl, _, rfl, itF (decide_eq_false (by omega)) ?_⟩
    refine ⟨_, rfl, _, rfl, _, _, rfl, rfl, wide_div gp gz (by decide) (by decide), _, rfl, _, rfl, _, _, rfl, rfl, wide_div gp gz (by decide) (by decide), (by show 2 ≤ sizeLine; decide), fun p np => q _ _ (PB.same_new np) (dp_mkr np)⟩
abbrev s_law_plus : Stmt := topS 67
theorem sc_law_plus : FnScope ["_law_one", "_law_other"] ["_law_one", "_law_other"] (defScope s_law_plus) := ⟨rfl, rfl, rfl, by decide +kernel, rfl, by decide +kernel, by decide +kernel⟩
theorem ok_law_plus (T : Txt K mg "_law_plus" s_law_plus) (G_law_ratio : DefOk P w K mg base CX0 "_law_ratio" 2 ["_law_top_here", "_law_bottom_here"] (spLow K)) : DefOk P w K mg base CX0 "_law_plus" 3 ["_law_one", "_law_other"] (spBin K radd) := by
  obtain ⟨f, fd, F, gf⟩ := T
  refine ⟨f, fd, gf, F.kp, F.binds (fun _ _ _ _ _ _ us hl => match us, hl with | [_, _], _ => rfl), F.ok sc_law_plus (fun vs H Q E h => ?_) (fun cdv A outer s H vs Q E hr h => ?_)⟩
  · obtain ⟨v, u, r, s_, rfl, _⟩ := h; rfl
  · obtain ⟨v, u, r, s_, rfl, hv, hu, ir, is_, zr, zs, q⟩ := h
    refine ⟨_, (pss_one (ps_ret (pe_def G_law_ratio (hr.mono (by decide)) (by rfl) (pa_cons (pe_op op_add (pe_op op_mulW (pe_ix ix_it (pv 0) pe_int (fun _ _ => rfl)) (pe_ix ix_it (pv 1) pe_int (fun _ _ => rfl))) (pe_op op_mulW (pe_ix ix_it (pv 1) pe_int (fun _ _ => rfl)) (pe_ix ix_it (pv 0) pe_int (fun _ _ => rfl)))) (pa_cons (pe_op op_mulW (pe_ix ix_it (pv 0) pe_int (fun _ _ => rfl)) (pe_ix ix_it (pv 1) pe_int (fun _ _ => rfl))) pa_nil))))), ?_⟩
    have c1 := cou_r hv
    have c2 := cou_r hu
    refine ⟨v, rfl, _, _, 0, _, rfl, c1, rfl, u, rfl, _, _, 1, _, rfl, c2, rfl, _, _, rfl, rfl, wide_mul zr.1 zs.2 (by decide) (by decide) (by decide), u, rfl, _, _, 0, _, rfl, c2, rfl, v, rfl, _, _, 1, _, rfl, c1, rfl, _, _, rfl, rfl, wide_mul zs.1 zr.2 (by decide) (by decide) (by decide), _, _, rfl, rfl, ?_⟩
    exact ⟨v, rfl, _, _, 1, _, rfl, c1, rfl, u, rfl, _, _, 1, _, rfl, c2, rfl, _, _, rfl, rfl, wide_mul zr.2 zs.2 (by decide) (by decide) (by decide), _, _, rfl, Int.mul_pos ir.1 is_.1, sz_mono (sz_add (sz_mul zr.1 zs.2) (sz_mul zs.1 zr.2)) (by decide), sz_mono (sz_mul zr.2 zs.2) (by decide), fun H' z sm hz => q H' z sm hz⟩
abbrev s_law_less : Stmt := topS 68
theorem sc_law_less : FnScope ["_law_one", "_law_other"] ["_law_one", "_law_other"] (defScope s_law_less) := ⟨rfl, rfl, rfl, by decide +kernel, rfl, by decide +kernel, by decide +kernel⟩
theorem ok_law_less (T : Txt K mg "_law_less" s_law_less) (G_law_ratio : DefOk P w K mg base CX0 "_law_ratio" 2 ["_law_top_here", "_law_bottom_here"] (spLow K)) : DefOk P w K mg base CX0 "_law_less" 3 ["_law_one", "_law_other"] (spBin K rsub) := by
  obtain ⟨f, fd, F, gf⟩ := T
  refine ⟨f, fd, gf, F.kp, F.binds (fun _ _ _ _ _ _ us hl => match us, hl with | [_, _], _ => rfl), F.ok sc_law_less (fun vs H Q E h => ?_) (fun cdv A outer s H vs Q E hr h => ?_)⟩
  · obtain ⟨v, u, r, s_, rfl, _⟩ := h; rfl
  · obtain ⟨v, u, r, s_, rfl, hv, hu, ir, is_, zr, zs, q⟩ := h
    refine ⟨_, (pss_one (ps_ret (pe_def G_law_ratio (hr.mono (by decide)) (by rfl) (pa_cons (pe_op op_sub (pe_op op_mulW (pe_ix ix_it (pv 0) pe_int (fun _ _ => rfl)) (pe_ix ix_it (pv 1) pe_int (fun _ _ => rfl))) (pe_op op_mulW (pe_ix ix_it (pv 1) pe_int (fun _ _ => rfl)) (pe_ix ix_it (pv 0) pe_int (fun _ _ => rfl)))) (pa_cons (pe_op op_mulW (pe_ix ix_it (pv 0) pe_int (fun _ _ => rfl)) (pe_ix ix_it (pv 1) pe_int (fun _ _ => rfl))) pa_nil))))), ?_⟩
    have c1 := cou_r hv
    have c2 := cou_r hu
    refine ⟨v, rfl, _, _, 0, _, rfl, c1, rfl, u, rfl, _, _, 1, _, rfl, c2, rfl, _, _, rfl, rfl, wide_mul zr.1 zs.2 (by decide) (by decide) (by decide), u, rfl, _, _, 0, _, rfl, c2, rfl, v, rfl, _, _, 1, _, rfl, c1, rfl, _, _, rfl, rfl, wide_mul zs.1 zr.2 (by decide) (by decide) (by decide), _, _, rfl, rfl, ?_⟩
    exact ⟨v, rfl, _, _, 1, _, rfl, c1, rfl, u, rfl, _, _, 1, _, rfl, c2, rfl, _, _, rfl, rfl, wide_mul zr.2 zs.2 (by decide) (by decide) (by decide), _, _, rfl, Int.mul_pos ir.1 is_.1, sz_mono (sz_sub (sz_mul zr.1 zs.2) (sz_mul zs.1 zr.2)) (by decide), sz_mono (sz_mul zr.2 zs.2) (by decide), fun H' z sm hz => q H' z sm hz⟩
abbrev s_law_times : Stmt := topS 69
theorem sc_law_times : FnScope ["_law_one", "_law_other"] ["_law_one", "_law_other"] (defScope s_law_times) := ⟨rfl, rfl, rfl, by decide +kernel, rfl, by decide +kernel, by decide +kernel⟩
theorem ok_law_times (T : Txt K mg "_law_times" s_law_times) (G_law_ratio : DefOk P w K mg base CX0 "_law_ratio" 2 ["_law_top_here", "_law_bottom_here"] (spLow K)) : DefOk P w K mg base CX0 "_law_times" 3 ["_law_one", "_law_other"] (spBin K rmul) := by
  obtain ⟨f, fd, F, gf⟩ := T
  refine ⟨f, fd, gf, F.kp, F.binds (fun _ _ _ _ _ _ us hl => match us, hl with | [_, _], _ => rfl), F.ok sc_law_times (fun vs H Q E h => ?_) (fun cdv A outer s H vs Q E hr h => ?_)⟩
  · obtain ⟨v, u, r, s_, rfl, _⟩ := h; rfl
  · obtain ⟨v, u, r, s_, rfl, hv, hu, ir, is_, zr, zs, q⟩ := h
    refine ⟨_, (pss_one (ps_ret (pe_def G_law_ratio (hr.mono (by decide)) (by rfl) (pa_cons (pe_op op_mulW (pe_ix ix_it (pv 0) pe_int (fun _ _ => rfl)) (pe_ix ix_it (pv 1) pe_int (fun _ _ => rfl))) (pa_cons (pe_op op_mulW (pe_ix ix_it (pv 0) pe_int (fun _ _ => rfl)) (pe_ix ix_it (pv 1) pe_int (fun _ _ => rfl))) pa_nil))))), ?_⟩
    have c1 := cou_r hv
    have c2 := cou_r hu
    exact ⟨v, rfl, _, _, 0, _, rfl, c1, rfl, u, rfl, _, _, 0, _, rfl, c2, rfl, _, _, rfl, rfl, wide_mul zr.1 zs.1 (by decide) (by decide) (by decide), v, rfl, _, _, 1, _, rfl, c1, rfl, u, rfl, _, _, 1, _, rfl, c2, rfl, _, _, rfl, rfl, wide_mul zr.2 zs.2 (by decide) (by decide) (by decide), _, _, rfl, Int.mul_pos ir.1 is_.1, sz_mono (sz_mul zr.1 zs.1) (by decide), sz_mono (sz_mul zr.2 zs.2) (by decide), fun H' z sm hz => q H' z sm hz⟩
abbrev s_law_amount : Stmt := topS 71
theorem sc_law_amount : FnScope ["_law_direction_here", "_law_place_here"] ["_law_direction_here", "_law_place_here"] (defScope s_law_amount) := ⟨rfl, rfl, rfl, by decide +kernel, rfl, by decide +kernel, by decide +kernel⟩
theorem ok_law_amount (T : Txt K mg "_law_amount" s_law_amount) (G_law_plus : DefOk P w K mg base CX0 "_law_plus" 3 ["_law_one", "_law_other"] (spBin K radd)) (G_law_times : DefOk P w K mg base CX0 "_law_times" 3 ["_law_one", "_law_other"] (spBin K rmul)) : DefOk P w K mg base CX0 "_law_amount" 4 ["_law_direction_here", "_law_place_here"] (spAmtL K) := by
  obtain ⟨f, fd, F, gf⟩ := T
  refine ⟨f, fd, gf, F.kp, F.binds (fun _ _ _ _ _ _ us hl => match us, hl with | [_, _], _ => rfl), F.ok sc_law_amount (fun vs H Q E h => ?_) (fun cdv A outer s H vs Q E hr h => ?_)⟩
  · obtain ⟨v, u, d, p, rfl, _⟩ := h; rfl
  · obtain ⟨v, u, d, p, rfl, hv, hu, rp, zd, zp, q⟩ := h
    refine ⟨_, (pss_one (ps_ret (pe_def G_law_plus (hr.mono (by decide)) (by rfl) (pa_cons (pe_def G_law_times (hr.mono (by decide)) (by rfl) (pa_cons (pe_tup (pa_cons (pe_ix ix_it (pv 0) pe_int (fun _ _ => rfl)) (pa_cons pe_int pa_nil))) (pa_cons (pe_ix ix_it (pv 1) pe_int (fun _ _ => rfl)) pa_nil))) (pa_cons (pe_def G_law_times (hr.mono (by decide)) (by rfl) (pa_cons (pe_tup (pa_cons (pe_ix ix_it (pv 0) pe_int (fun _ _ => rfl)) (pa_cons pe_int pa_nil))) (pa_cons (pe_ix ix_it (pv 1) pe_int (fun _ _ => rfl)) pa_nil))) pa_nil))))), ?_⟩
    have cd := cou_r hv
    obtain ⟨x, y, cu, hx, hy⟩ := pla_t hu
    refine ⟨v, rfl, _, _, 0, _, rfl, cd, rfl, (by show 2 ≤ sizeLine; decide), fun a na => ?_⟩
    have s1 := PB.same_new (o := .tup [.int d.1, .int 1]) na
    refine ⟨u, rfl, _, _, 0, _, rfl, cu.same s1, rfl, _, _, _, _, rfl, dp_mkr na, Dp_same s1 hx, rat_int _, rp.1, szr_int (sz_mono zd.1 (by decide)) (by decide), szr_mono zp.1 (by decide), fun H2 z1 s2 h1 => ?_⟩
    have s12 := s1.trans s2
    refine ⟨v, rfl, _, _, 1, _, rfl, cd.same s12, rfl, (by show 2 ≤ sizeLine; decide), fun b nb => ?_⟩
    have s3 := PB.same_new (o := .tup [.int d.2, .int 1]) nb
    refine ⟨u, rfl, _, _, 1, _, rfl, (cu.same s12).same s3, rfl, _, _, _, _, rfl, dp_mkr nb, Dp_same s3 (Dp_same s12 hy), rat_int _, rp.2, szr_int (sz_mono zd.2 (by decide)) (by decide), szr_mono zp.2 (by decide), fun H4 z2 s4 h2 => ?_⟩
    refine ⟨_, _, _, _, rfl, Dp_same (s3.trans s4) h1, h2, rat_mul (rat_int _) rp.1, rat_mul (rat_int _) rp.2, szr_mono (szr_mul (rat_int _) rp.1 (szr_int zd.1 (by decide)) zp.1) (by decide), szr_mono (szr_mul (rat_int _) rp.2 (szr_int zd.2 (by decide)) zp.2) (by decide), fun H5 z3 s5 h3 => q H5 z3 ((s12.trans (s3.trans s4)).trans s5) h3⟩
abbrev s_law_direction : Stmt := topS 74
theorem sc_law_direction : FnScope ["_law_x", "_law_y", "_law_part"] ["_law_x", "_law_y"] (defScope s_law_direction) := ⟨rfl, rfl, rfl, by decide +kernel, rfl, by decide +kernel, by decide +kernel⟩
theorem ok_law_direction (T : Txt K mg "_law_direction" s_law_direction) (G_law_gcd : DefOk P w K mg base CX0 "_law_gcd" 1 ["_law_one", "_law_other"] spGcd) : DefOk P w K mg base CX0 "_law_direction" 2 ["_law_x", "_law_y"] (spWd K) := by
  obtain ⟨f, fd, F, gf⟩ := T
  refine ⟨f, fd, gf, F.kp, F.binds (fun _ _ _ _ _ _ us hl => match us, hl with | [_, _], _ => rfl), F.ok sc_law_direction (fun vs H Q E h => ?_) (fun cdv A outer s H vs Q E hr h => ?_)⟩
  · obtain ⟨x, y, rfl, _⟩ := h; rfl
  · obtain ⟨x, y, rfl, nz, zx, zy, q⟩ := h
    refine ⟨_, (pss_cons (ps_set (i := 2) sc_law_direction.nd rfl (.inl rfl) (pe_def G_law_gcd (hr.mono (by decide)) (by rfl) (pa_cons (pv 0) (pa_cons (pv 1) pa_nil)))) (pss_one (ps_ret (pe_tup (pa_cons (pe_op op_fdivW (pv 0) (pv 2)) (pa_cons (pe_op op_fdivW (pv 1) (pv 2)) pa_nil)))))), ?_⟩
    have gp := g2_posO nz
    have gz := sz_gg nz zx zy
    refine ⟨_, rfl, _, rfl, x, y, rfl, ?_⟩
    exact ⟨_, rfl, _, rfl, _, _, rfl, rfl, wide_div gp gz (by decide) (by decide), _, rfl, _, rfl, _, _, rfl, rfl, wide_div gp gz (by decide) (by decide), (by show 2 ≤ sizeLine; decide), fun p np => q _ _ (PB.same_new np) (dp_mkr np)⟩
abbrev s_law_by : Stmt := topS 90
theorem sc_law_by : FnScope ["_law_place_here", "_law_step_here"] ["_law_place_here", "_law_step_here"] (defScope s_law_by) := ⟨rfl, rfl, rfl, by decide +kernel, rfl, by decide +kernel, by decide +kernel⟩
theorem ok_law_by (T : Txt K mg "_law_by" s_law_by) (G_law_plus : DefOk P w K mg base CX0 "_law_plus" 3 ["_law_one", "_law_other"] (spBin K radd)) : DefOk P w K mg base CX0 "_law_by" 4 ["_law_place_here", "_law_step_here"] (spPT K byP) := by
  obtain ⟨f, fd, F, gf⟩ := T
  refine ⟨f, fd, gf, F.kp, F.binds (fun _ _ _ _ _ _ us hl => match us, hl with | [_, _], _ => rfl), F.ok sc_law_by (fun vs H Q E h => ?_) (fun cdv A outer s H vs Q E hr h => ?_)⟩
  · obtain ⟨v, u, p, s_, rfl, _⟩ := h; rfl
  · obtain ⟨v, u, p, s_, rfl, hv, hu, rp, rs, zp, zs, q⟩ := h
    refine ⟨_, (pss_one (ps_ret (pe_tup (pa_cons (pe_def G_law_plus (hr.mono (by decide)) (by rfl) (pa_cons (pe_ix ix_it (pv 0) pe_int (fun _ _ => rfl)) (pa_cons (pe_ix ix_it (pv 1) pe_int (fun _ _ => rfl)) pa_nil))) (pa_cons (pe_def G_law_plus (hr.mono (by decide)) (by rfl) (pa_cons (pe_ix ix_it (pv 0) pe_int (fun _ _ => rfl)) (pa_cons (pe_ix ix_it (pv 1) pe_int (fun _ _ => rfl)) pa_nil))) pa_nil))))), ?_⟩
    obtain ⟨x, y, cv, hx, hy⟩ := pla_t hv
    obtain ⟨x_, y_, cu, hx_, hy_⟩ := pla_t hu
    refine ⟨v, rfl, _, _, 0, _, rfl, cv, rfl, u, rfl, _, _, 0, _, rfl, cu, rfl, _, _, _, _, rfl, hx, hx_, rp.1, rs.1, zp.1, zs.1, fun H1 z1 s1 h1 => ?_⟩
    refine ⟨v, rfl, _, _, 1, _, rfl, (cv.same s1), rfl, u, rfl, _, _, 1, _, rfl, (cu.same s1), rfl, _, _, _, _, rfl, Dp_same s1 hy, Dp_same s1 hy_, rp.2, rs.2, zp.2, zs.2, fun H2 z2 s2 h2 => ⟨(by show 2 ≤ sizeLine; decide), fun r nr => q _ _ ((s1.trans s2).trans (PB.same_new nr)) (dp_mk2 nr (Dp_same s2 h1) h2)⟩⟩
abbrev s_law_step : Stmt := topS 91
theorem sc_law_step : FnScope ["_law_one", "_law_other"] ["_law_one", "_law_other"] (defScope s_law_step) := ⟨rfl, rfl, rfl, by decide +kernel, rfl, by decide +kernel, by decide +kernel⟩
theorem ok_law_step (T : Txt K mg "_law_step" s_law_step) (G_law_less : DefOk P w K mg base CX0 "_law_less" 3 ["_law_one", "_law_other"] (spBin K rsub)) : DefOk P w K mg base CX0 "_law_step" 4 ["_law_one", "_law_other"] (spPT K stepF) := by
  obtain ⟨f, fd, F, gf⟩ := T
  refine ⟨f, fd, gf, F.kp, F.binds (fun _ _ _ _ _ _ us hl => match us, hl with | [_, _], _ => rfl), F.ok sc_law_step (fun vs H Q E h => ?_) (fun cdv A outer s H vs Q E hr h => ?_)⟩
  · obtain ⟨v, u, p, s_, rfl, _⟩ := h; rfl
  · obtain ⟨v, u, p, s_, rfl, hv, hu, rp, rs, zp, zs, q⟩ := h
    refine ⟨_, (pss_one (ps_ret (pe_tup (pa_cons (pe_def G_law_less (hr.mono (by decide)) (by rfl) (pa_cons (pe_ix ix_it (pv 1) pe_int (fun _ _ => rfl)) (pa_cons (pe_ix ix_it (pv 0) pe_int (fun _ _ => rfl)) pa_nil))) (pa_cons (pe_def G_law_less (hr.mono (by decide)) (by rfl) (pa_cons (pe_ix ix_it (pv 1) pe_int (fun _ _ => rfl)) (pa_cons (pe_ix ix_it (pv 0) pe_int (fun _ _ => rfl)) pa_nil))) pa_nil))))), ?_⟩
    obtain ⟨x, y, cv, hx, hy⟩ := pla_t hv
    obtain ⟨x_, y_, cu, hx_, hy_⟩ := pla_t hu
    refine ⟨u, rfl, _, _, 0, _, rfl, cu, rfl, v, rfl, _, _, 0, _, rfl, cv, rfl, _, _, _, _, rfl, hx_, hx, rs.1, rp.1, zs.1, zp.1, fun H1 z1 s1 h1 => ?_⟩
    refine ⟨u, rfl, _, _, 1, _, rfl, (cu.same s1), rfl, v, rfl, _, _, 1, _, rfl, (cv.same s1), rfl, _, _, _, _, rfl, Dp_same s1 hy_, Dp_same s1 hy, rs.2, rp.2, zs.2, zp.2, fun H2 z2 s2 h2 => ⟨(by show 2 ≤ sizeLine; decide), fun r nr => q _ _ ((s1.trans s2).trans (PB.same_new nr)) (dp_mk2 nr (Dp_same s2 h1) h2)⟩⟩
abbrev s_law_plain : Stmt := topS 85
theorem sc_law_plain : FnScope ["_law_told", "_law_due"] ["_law_told", "_law_due"] (defScope s_law_plain) := ⟨rfl, rfl, rfl, by decide +kernel, rfl, by decide +kernel, by decide +kernel⟩
theorem ok_law_plain (T : Txt K mg "_law_plain" s_law_plain) (misinstance : mg "isinstance" = none) (mtuple : mg "tuple" = none) (mint : mg "int" = none) (mbool : mg "bool" = none) : DefOk P w K mg base CX0 "_law_plain" 1 ["_law_told", "_law_due"] (spPlain K) := by
  obtain ⟨f, fd, F, gf⟩ := T
  refine ⟨f, fd, gf, F.kp, F.binds (fun _ _ _ _ _ _ us hl => match us, hl with | [_, _], _ => rfl), F.ok sc_law_plain (fun vs H Q E h => ?_) (fun cdv A outer s H vs Q E hr h => ?_)⟩
  · obtain ⟨v, u, r, rfl, _⟩ := h; rfl
  · obtain ⟨v, u, r, rfl, hv, hu, q⟩ := h
    refine ⟨_, (pss_one (ps_ret (pe_and (pe_callB call_isi (by rfl) misinstance boot_isinstance (pa_cons (pv 0) (pa_cons (pe_bltn (v := .ty "tuple") (by rfl) mtuple (by decide +kernel) rfl) pa_nil))) (pe_and (pe_cmpR (op_eqD hr.units) (pv 0) (pv 1) (nomark _)) (pe_and (pe_callB call_isi (by rfl) misinstance boot_isinstance (pa_cons (pe_ix ix_it (pv 0) pe_int (fun _ _ => rfl)) (pa_cons (pe_bltn (v := .ty "int") (by rfl) mint (by decide +kernel) rfl) pa_nil))) (pe_and (pe_not (pe_callB call_isi (by rfl) misinstance boot_isinstance (pa_cons (pe_ix ix_it (pv 0) pe_int (fun _ _ => rfl)) (pa_cons (pe_bltn (v := .ty "bool") (by rfl) mbool (by decide +kernel) rfl) pa_nil)))) (pe_one (pe_not (pe_callB call_isi (by rfl) misinstance boot_isinstance (pa_cons (pe_ix ix_it (pv 0) pe_int (fun _ _ => rfl)) (pa_cons (pe_bltn (v := .ty "bool") (by rfl) mbool (by decide +kernel) rfl) pa_nil))))))))))), ?_⟩
    have c := cou_r hv
    refine ⟨v, rfl, v, _, _, _, _, rfl, .ty _, dp_tyx hv, kit_ty (kit_tuple (rD r)), true, rfl, itT rfl ?_⟩
    refine ⟨v, rfl, u, rfl, eq_same (shaped_r r) hv hu ⟨true, rfl, itT rfl ?_⟩⟩
    refine ⟨v, rfl, _, _, 0, _, rfl, c, rfl, _, _, _, _, _, rfl, .ty _, .base (.int _), kit_ty (kit_int (.int r.1)), true, rfl, itT rfl ?_⟩
    refine ⟨v, rfl, _, _, 0, _, rfl, c, rfl, _, _, _, _, _, rfl, .ty _, .base (.int _), kit_ty (kit_bool (.int r.1)), _, rfl, _, rfl, itT rfl ?_⟩
    exact ⟨v, rfl, _, _, 1, _, rfl, c, rfl, _, _, _, _, _, rfl, .ty _, .base (.int _), kit_ty (kit_bool (.int r.2)), _, rfl, q⟩
abbrev s_law_cross : Stmt := topS 79
theorem sc_law_cross : FnScope ["_law_first", "_law_second", "_law_third", "_law_one", "_law_other"] ["_law_first", "_law_second", "_law_third"] (defScope s_law_cross) := ⟨rfl, rfl, rfl, by decide +kernel, rfl, by decide +kernel, by decide +kernel⟩
theorem ok_law_cross (T : Txt K mg "_law_cross" s_law_cross) (G_law_less : DefOk P w K mg base CX0 "_law_less" 3 ["_law_one", "_law_other"] (spBin K rsub)) (G_law_times : DefOk P w K mg base CX0 "_law_times" 3 ["_law_one", "_law_other"] (spBin K rmul)) : DefOk P w K mg base CX0 "_law_cross" 4 ["_law_first", "_law_second", "_law_third"] (spCroL K) := by
  obtain ⟨f, fd, F, gf⟩ := T
  refine ⟨f, fd, gf, F.kp, F.binds (fun _ _ _ _ _ _ us hl => match us, hl with | [_, _, _], _ => rfl), F.ok sc_law_cross (fun vs H Q E h => ?_) (fun cdv A outer s H vs Q E hr h => ?_)⟩
  · obtain ⟨v, u, t, a, b, c, rfl, _⟩ := h; rfl
  · obtain ⟨v, u, t, a, b, c, rfl, hv, hu, ht, ra, rb, rc, za, zb, zc, q⟩ := h
    refine ⟨_, (pss_cons (ps_set (i := 3) sc_law_cross.nd rfl (.inl rfl) (pe_tup (pa_cons (pe_def G_law_less (hr.mono (by decide)) (by rfl) (pa_cons (pe_ix ix_it (pv 1) pe_int (fun _ _ => rfl)) (pa_cons (pe_ix ix_it (pv 0) pe_int (fun _ _ => rfl)) pa_nil))) (pa_cons (pe_def G_law_less (hr.mono (by decide)) (by rfl) (pa_cons (pe_ix ix_it (pv 1) pe_int (fun _ _ => rfl)) (pa_cons (pe_ix ix_it (pv 0) pe_int (fun _ _ => rfl)) pa_nil))) pa_nil)))) (pss_cons (ps_set (i := 4) sc_law_cross.nd rfl (.inl rfl) (pe_tup (pa_cons (pe_def G_law_less (hr.mono (by decide)) (by rfl) (pa_cons (pe_ix ix_it (pv 2) pe_int (fun _ _ => rfl)) (pa_cons (pe_ix ix_it (pv 0) pe_int (fun _ _ => rfl)) pa_nil))) (pa_cons (pe_def G_law_less (hr.mono (by decide)) (by rfl) (pa_cons (pe_ix ix_it (pv 2) pe_int (fun _ _ => rfl)) (pa_cons (pe_ix ix_it (pv 0) pe_int (fun _ _ => rfl)) pa_nil))) pa_nil)))) (pss_one (ps_ret (pe_def G_law_less (hr.mono (by decide)) (by rfl) (pa_cons (pe_def G_law_times (hr.mono (by decide)) (by rfl) (pa_cons (pe_ix ix_it (pv 3) pe_int (fun _ _ => rfl)) (pa_cons (pe_ix ix_it (pv 4) pe_int (fun _ _ => rfl)) pa_nil))) (pa_cons (pe_def G_law_times (hr.mono (by decide)) (by rfl) (pa_cons (pe_ix ix_it (pv 3) pe_int (fun _ _ => rfl)) (pa_cons (pe_ix ix_it (pv 4) pe_int (fun _ _ => rfl)) pa_nil))) pa_nil))))))), ?_⟩
    obtain ⟨ax, ay, ca, hax, hay⟩ := pla_t hv
    obtain ⟨bx, by_, cb, hbx, hby⟩ := pla_t hu
    obtain ⟨cx, cy, cc, hcx, hcy⟩ := pla_t ht
    have m := fun {r : Rt} (h : SzR 300 r) => (szr_mono h (by decide) : SzR 2000 r)
    refine ⟨u, rfl, _, _, 0, _, rfl, cb, rfl, v, rfl, _, _, 0, _, rfl, ca, rfl, _, _, _, _, rfl, hbx, hax, rb.1, ra.1, m zb.1, m za.1, fun H1 z1 s1 h1 => ?_⟩
    refine ⟨u, rfl, _, _, 1, _, rfl, cb.same s1, rfl, v, rfl, _, _, 1, _, rfl, ca.same s1, rfl, _, _, _, _, rfl, Dp_same s1 hby, Dp_same s1 hay, rb.2, ra.2, m zb.2, m za.2, fun H2 z2 s2 h2 => ⟨(by show 2 ≤ sizeLine; decide), fun p1 np1 => ?_⟩⟩
    have s3 := (s1.trans s2).trans (PB.same_new (o := .tup [z1, z2]) np1)
    have k1 := dp_mk2 np1 (Dp_same s2 h1) h2
    refine ⟨t, rfl, _, _, 0, _, rfl, cc.same s3, rfl, v, rfl, _, _, 0, _, rfl, ca.same s3, rfl, _, _, _, _, rfl, Dp_same s3 hcx, Dp_same s3 hax, rc.1, ra.1, m zc.1, m za.1, fun H4 z3 s4 h3 => ?_⟩
    have s34 := s3.trans s4
    refine ⟨t, rfl, _, _, 1, _, rfl, cc.same s34, rfl, v, rfl, _, _, 1, _, rfl, ca.same s34, rfl, _, _, _, _, rfl, Dp_same s34 hcy, Dp_same s34 hay, rc.2, ra.2, m zc.2, m za.2, fun H5 z4 s5 h4 => ⟨(by show 2 ≤ sizeLine; decide), fun p2 np2 => ?_⟩⟩
    have s6 := (s4.trans s5).trans (PB.same_new (o := .tup [z3, z4]) np2)
    have k2 := dp_mk2 np2 (Dp_same s5 h3) h4
    have k1' := Dp_same s6 k1
    have q1 := s3.trans s6
    generalize upd H5 p2 (.tup [z3, z4]) = H6 at k2 k1' q1 ⊢
    obtain ⟨o0, o1, co, ho0, ho1⟩ := pla_t (p := (rsub b.1 a.1, rsub b.2 a.2)) k1'
    obtain ⟨r0, r1, cr, hr0, hr1⟩ := pla_t (p := (rsub c.1 a.1, rsub c.2 a.2)) k2
    have z6 := fun {r s : Rt} (hr : IsRat r) (hs : IsRat s) (h : SzR 300 r) (k : SzR 300 s) => (szr_sub hr hs h k : SzR 601 (rsub r s))
    have i1 := rat_sub rb.1 ra.1
    have i2 := rat_sub rb.2 ra.2
    have i3 := rat_sub rc.1 ra.1
    have i4 := rat_sub rc.2 ra.2
    refine ⟨_, rfl, _, _, 0, _, rfl, co, rfl, _, rfl, _, _, 1, _, rfl, cr, rfl, _, _, _, _, rfl, ho0, hr1, i1, i4, szr_mono (z6 rb.1 ra.1 zb.1 za.1) (by decide), szr_mono (z6 rc.2 ra.2 zc.2 za.2) (by decide), fun H7 z7 s7 h7 => ?_⟩
    refine ⟨_, rfl, _, _, 1, _, rfl, co.same s7, rfl, _, rfl, _, _, 0, _, rfl, cr.same s7, rfl, _, _, _, _, rfl, Dp_same s7 ho1, Dp_same s7 hr0, i2, i3, szr_mono (z6 rb.2 ra.2 zb.2 za.2) (by decide), szr_mono (z6 rc.1 ra.1 zc.1 za.1) (by decide), fun H8 z8 s8 h8 => ?_⟩
    refine ⟨_, _, _, _, rfl, Dp_same s8 h7, h8, rat_mul i1 i4, rat_mul i2 i3, szr_mono (szr_mul i1 i4 (z6 rb.1 ra.1 zb.1 za.1) (z6 rc.2 ra.2 zc.2 za.2)) (by decide), szr_mono (szr_mul i2 i3 (z6 rb.2 ra.2 zb.2 za.2) (z6 rc.1 ra.1 zc.1 za.1)) (by decide), fun H9 z9 s9 h9 => q H9 z9 (((q1.trans s7).trans s8).trans s9) h9⟩
end
end F3
set_option Elab.async false
set_option linter.all false
set_option maxRecDepth 100000
set_option maxHeartbeats 4000000
set_option exponentiation.threshold 3000
namespace F3
open PySem PySem.Spec PyProof.Rows L2 FX RM PB
/-! the text -/
abbrev sHand : Stmt := topS 62
abbrev sMixed : Stmt := topS 63
abbrev sTake : Stmt := topS 64
theorem scHand : FnScope ["_law_script", "_law_total", "_law_cells", "_law_cell"] ["_law_script"] (defScope sHand) := ⟨rfl, rfl, rfl, by decide +kernel, rfl, by decide +kernel, by decide +kernel⟩
theorem scMixed : FnScope ["_law_number_here", "_law_turn", "_law_once", "_law_twice_here"] ["_law_number_here", "_law_turn"] (defScope sMixed) := ⟨rfl, rfl, rfl, by decide +kernel, rfl, by decide +kernel, by decide +kernel⟩
theorem scTake : FnScope ["_law_hand_here", "_law_many", "_law_cell", "_law_rest"] ["_law_hand_here", "_law_many"] (defScope sTake) := ⟨rfl, rfl, rfl, by decide +kernel, rfl, by decide +kernel, by decide +kernel⟩
/-! heaps -/
theorem same_updH {H : Hp} {p : Addr} {o : HO} (h : H p = none) : Same H (upd H p o) := fun b x e => by
  rw [upd_ne (ne_of_none e h)]; exact e
/-- all but what stands at p is as it was -/
def SameBut (p : Addr) (H H' : Hp) : Prop := (∀ b o, b ≠ p → H b = some o → H' b = some o) ∧ ∀ c l, H p = some (.lst (.ref c :: l)) → ∃ l', H' p = some (.lst (.ref c :: l'))
theorem SameBut.rfl {p : Addr} {H : Hp} : SameBut p H H := ⟨fun _ _ _ e => e, fun _ l e => ⟨l, e⟩⟩
theorem sb_upd {H : Hp} {p c : Addr} {l l' : List V} (h : H p = some (.lst (.ref c :: l))) : SameBut p H (upd H p (.lst (.ref c :: l'))) := ⟨fun b x n e => by rw [upd_ne n]; exact e, fun c2 l2 e => by rw [h] at e; cases e; exact ⟨_, upd_same⟩⟩
theorem SameBut.trans {p : Addr} {H H1 H2 : Hp} (a : SameBut p H H1) (b : SameBut p H1 H2) : SameBut p H H2 := ⟨fun c o n e => b.1 c o n (a.1 c o n e), fun c l e => by obtain ⟨l1, e1⟩ := a.2 c l e; exact b.2 c l1 e1⟩
/-- the hand that a law draws from -/
def HandIs (H : Hp) (p c : Addr) (cs : List Int) (i r t : Int) : Prop :=
  H p = some (.lst [.ref c, .int i, .int r, .int t]) ∧ H c = some (.lst (cs.map V.int)) ∧ (∀ z ∈ cs, 0 ≤ z) ∧ 0 ≤ i ∧ i ≤ cs.length ∧ cs.length ≤ 63 ∧ 0 ≤ r ∧ 0 ≤ t ∧ t < 2147483629
def HandAt (H : Hp) (p : Addr) : Prop := ∃ c cs i r t, HandIs H p c cs i r t
theorem HandIs.ne {H : Hp} {p c : Addr} {cs : List Int} {i r t : Int} (h : HandIs H p c cs i r t) : c ≠ p := fun e => by
  obtain ⟨a, b, _⟩ := h
  subst e
  rw [a] at b
  have z := HO.lst.inj (Option.some.inj b)
  cases cs with
  | nil => cases z
  | cons x l => cases z
theorem HandIs.put {H : Hp} {p c : Addr} {cs : List Int} {i r t i' r' t' : Int} (h : HandIs H p c cs i r t) (hi : 0 ≤ i') (hi2 : i' ≤ cs.length) (hr : 0 ≤ r') (ht : 0 ≤ t') (ht2 : t' < 2147483629) :
    HandIs (upd H p (.lst [.ref c, .int i', .int r', .int t'])) p c cs i' r' t' := by
  have n := h.ne
  obtain ⟨a, b, c1, _, _, c4, _⟩ := h
  exact ⟨upd_same, by rw [upd_ne n]; exact b, c1, hi, hi2, c4, hr, ht, ht2⟩
theorem HandAt.same {H H' : Hp} {p : Addr} (h : HandAt H p) (s : Same H H') : HandAt H' p := by
  obtain ⟨c, cs, i, r, t, a, b, q⟩ := h
  exact ⟨c, cs, i, r, t, s _ _ a, s _ _ b, q⟩
/-! promises -/
def spHand (K : PySem.W.Frag) : Sp := fun vs H Q _ => ∃ (a : Addr) (ns : List Int), vs = [.ref a] ∧ SqL K H a (ns.map V.int) ∧ ns.length ≤ 63 ∧ ∀ H' p, Same H H' → H p = none → HandAt H' p → Q (.ref p) H'
def spMixed : Sp := fun vs H Q _ => ∃ (n t : Int), vs = [.int n, .int t] ∧ 0 ≤ n ∧ n < 2147483647 ∧ 0 ≤ t ∧ t ≤ 1000 ∧ ∀ z, Q (.int z) H
def spTake : Sp := fun vs H Q _ => ∃ (p : Addr) (m : Int), vs = [.ref p, .int m] ∧ HandAt H p ∧ 0 < m ∧ m < 1073741824 ∧ ∀ v H', 0 ≤ v → v < m → HandAt H' p → SameBut p H H' → Q (.int v) H'
section
variable {P : Program} {w : World} {K : PySem.W.Frag} {mg : Str → Option Value} {base : Heap}
theorem ok_mixed {f : Addr} {fd : FuncData} {k : Nat} (F : Fun K "_law_mixed" "_law_mixed" sMixed f fd) (mi : mg "int" = none) : FnOk P w K mg base CX0 (k + 1) f fd ["_law_number_here", "_law_turn"] spMixed := by
  refine F.ok scMixed (fun vs H Q E h => ?_) (fun cdv A outer s H vs Q E hr h => ?_)
  · obtain ⟨n, t, rfl, _⟩ := h; rfl
  · obtain ⟨n, t, rfl, n0, n1, t0, t1, q⟩ := h
    refine ⟨_, pss_cons (ps_set (i := 2) scMixed.nd rfl (.inl rfl) (pe_op op_mod (pe_callTy call_int1 (by rfl) mi boot_int (pa_cons
          (pe_op op_add (pe_op op_add (pe_op op_mul (pv 0) pe_int) (pe_op op_mul (pv 1) pe_int)) pe_int) pa_nil)) pe_int))
      (pss_cons (ps_set (i := 3) scMixed.nd rfl (.inl rfl) (pe_op op_mod (pe_callTy call_int1 (by rfl) mi boot_int (pa_cons
          (pe_op op_add (pe_op op_add (pe_op op_mul (pv 2) (pv 2)) (pe_op op_mul (pv 1) pe_int)) (pe_op op_fdiv (pv 2) pe_int)) pa_nil)) pe_int))
      (pss_one (ps_ret (pe_op op_fdiv (pe_callTy call_int1 (by rfl) mi boot_int (pa_cons
          (pe_op op_mod (pe_callTy call_int1 (by rfl) mi boot_int (pa_cons (pe_op op_add (pe_op op_mul (pv 3) pe_int) (pe_op op_fdiv (pv 2) pe_int)) pa_nil)) pe_int) pa_nil)) pe_int)))), ?_⟩
    refine ⟨_, rfl, _, _, rfl, rfl, .inl ⟨by omega, by omega⟩, _, rfl, _, _, rfl, rfl, .inl ⟨by omega, by omega⟩, _, _, rfl, rfl, _, _, rfl, rfl, .inl ⟨_, rfl, _, _, rfl, rfl, (by show (0 : Int) < _; decide), ?_⟩⟩
    generalize hx : (n * 48271 + t * 7919 + 65537) % 2147483647 = x
    have x0 : 0 ≤ x := by omega
    have x1 : x < 2147483647 := by omega
    refine ⟨_, rfl, _, rfl, _, _, rfl, rfl, .inl ⟨by omega, by omega⟩, _, rfl, _, _, rfl, rfl, .inl ⟨by omega, by omega⟩, _, _, rfl, rfl, _, rfl, _, _, rfl, rfl, ⟨by decide, by decide⟩, _, _, rfl, rfl, .inl ⟨_, rfl, _, _, rfl, rfl, (by show (0 : Int) < _; decide), ?_⟩⟩
    generalize hy : (x * x + t * 104729 + x / 127) % 2147483629 = y
    have y0 : 0 ≤ y := by omega
    have y1 : y < 2147483629 := by omega
    refine ⟨_, rfl, _, _, rfl, rfl, .inl ⟨by omega, by omega⟩, _, rfl, _, _, rfl, rfl, ⟨by decide, by decide⟩, _, _, rfl, rfl, .inl ⟨_, rfl, _, _, rfl, rfl, (by show (0 : Int) < _; decide), .inl ⟨_, rfl, _, _, rfl, rfl, ⟨by decide, by decide⟩, q _⟩⟩⟩
theorem ok_hand {f : Addr} {fd : FuncData} {k : Nat} (F : Fun K "_law_hand" "_law_hand" sHand f fd) (mi : mg "int" = none) (ml : mg "len" = none) : FnOk P w K mg base CX0 (k + 1) f fd ["_law_script"] (spHand K) := by
  refine F.ok scHand (fun vs H Q E h => ?_) (fun cdv A outer s H vs Q E hr h => ?_)
  · obtain ⟨a, ns, rfl, _⟩ := h; rfl
  · obtain ⟨a, ns, rfl, hS, hlen, q⟩ := h
    refine ⟨_, pss_cons (ps_set (i := 1) scHand.nd rfl (.inl rfl) (pe_op op_add (pe_callB call_len_seq (by rfl) ml PySem.boot_len (pa_cons (pv 0) pa_nil)) pe_int))
      (pss_cons (ps_set (i := 2) scHand.nd rfl (.inl rfl) (pe_lst pa_nil))
      (pss_cons (ps_for PassesOwn.never rfl (pi_list (pv 0)) (pg_name (i := 3) scHand.nd rfl (.inl rfl))
        (pss_cons (ps_set (i := 1) scHand.nd rfl (.inl rfl) (pe_op op_mod (pe_callTy call_int1 (by rfl) mi boot_int (pa_cons
            (pe_op op_add (pe_op op_mul (pv 1) pe_int) (pe_callTy call_int1 (by rfl) mi boot_int (pa_cons (pv 3) pa_nil))) pa_nil)) pe_int))
        (pss_one (ps_expr (pe_bm PySem.F.plainAttrs_list PySem.F.slot_list_append PySem.F.type_list_append mt_append (pv 2) (pa_cons
          (pe_ifExp (pt_cmpR op_ge (pv 3) pe_int (nomark _)) (pe_callTy call_int1 (by rfl) mi boot_int (pa_cons (pv 3) pa_nil))
            (pe_un un_neg (pe_callTy call_int1 (by rfl) mi boot_int (pa_cons (pv 3) pa_nil)))) pa_nil))))))
      (pss_one (ps_ret (pe_lst (pa_cons (pv 2) (pa_cons pe_int (pa_cons pe_int (pa_cons (pv 1) pa_nil))))))))), ?_⟩
    refine ⟨.ref a, rfl, a, _, rfl, .inl hS, _, _, rfl, rfl, Nat.zero_le _, fun c nc => ?_⟩
    refine ⟨.ref a, rfl, a, rfl, ⟨_, (same_updH nc).seq hS⟩, for_list (K := K) (a := a) (xs := ns.map V.int)
      (fun i σ H' => ∃ (t : Int) (y : Option V) (cs : List Int), σ = [some (.ref a), some (.int t), some (.ref c), y] ∧ 0 ≤ t ∧ t < 2147483629 ∧ (∀ z ∈ cs, 0 ≤ z) ∧ cs.length = i ∧ Same H H' ∧ H' c = some (.lst (cs.map V.int)))
      ⟨_, none, [], rfl, ?_, ?_, (fun z hz => nomatch hz), rfl, same_updH nc, upd_same⟩ (fun i σ H' _ ⟨_, _, _, _, _, _, _, _, s5, _⟩ => s5.seq hS) ?_ ?_⟩
    · rw [List.length_map]; omega
    · rw [List.length_map]; omega
    · rintro i x σ H' hi ⟨t, y, cs, rfl, t0, t1, c0, cl, sm, hc⟩
      obtain ⟨z, rfl⟩ : ∃ z, x = V.int z := by
        rw [List.getElem?_map] at hi
        cases e : ns[i]? with
        | none => rw [e] at hi; cases hi
        | some z => rw [e] at hi; exact ⟨z, (Option.some.inj hi).symm⟩
      have il : i < 63 := by
        have := (List.getElem?_eq_some_iff.mp hi).1
        rw [List.length_map] at this
        omega
      refine ⟨_, rfl, _, _, rfl, rfl, .inl ⟨by omega, by omega⟩, .int z, rfl, .inl ⟨_, rfl, _, _, rfl, rfl, .inl ⟨_, rfl, _, _, rfl, rfl, (by show (0 : Int) < _; decide), ?_⟩⟩⟩
      have go : ∀ y : Int, 0 ≤ y → ∃ l xs y', V.ref c = V.ref l ∧ [V.int y] = [y'] ∧ H' l = some (.lst xs) ∧ xs.length < sizeLine ∧ (∃ (t' : Int) (v : Option V) (cs' : List Int), [some (V.ref a), some (V.int ((t * 1019 + z) % 2147483629)), some (V.ref c), some (V.int z)] = [some (.ref a), some (.int t'), some (.ref c), v] ∧ 0 ≤ t' ∧ t' < 2147483629 ∧ (∀ z ∈ cs', 0 ≤ z) ∧ cs'.length = i + 1 ∧ Same H (upd H' l (.lst (xs ++ [y']))) ∧ upd H' l (.lst (xs ++ [y'])) c = some (.lst (cs'.map V.int))) := fun y hy => by
        refine ⟨c, _, .int y, rfl, rfl, hc, by rw [List.length_map]; exact small1000 (by omega), _, _, cs ++ [y], rfl, by omega, by omega, ?_, by simp [cl], fun b o e => ?_, ?_⟩
        · intro z hz
          rcases List.mem_append.mp hz with hz | hz
          · exact c0 z hz
          · rw [List.mem_singleton.mp hz]; exact hy
        · rw [upd_ne (ne_of_none e nc)]; exact sm _ _ e
        · rw [upd_same, List.map_append]; rfl
      refine ⟨.ref c, rfl, .inl ⟨rfl, _, .inl (.inl hc)⟩, .int z, rfl, _, _, rfl, rfl, _, rfl, ite2 (fun e => ?_) (fun e => ?_)⟩
      · exact ⟨_, rfl, .inl ⟨_, rfl, go z (of_decide_eq_true e)⟩⟩
      · exact ⟨_, rfl, .inl ⟨_, rfl, _, rfl, go (-z) (by have : ¬ (0 : Int) ≤ z := fun h => e (decide_eq_true h); omega)⟩⟩
    · rintro σ H' ⟨t, y, cs, rfl, t0, t1, c0, cl, sm, hc⟩
      refine ⟨_, rfl, _, rfl, (by show 4 ≤ sizeLine; decide), fun p np => q _ p ?_ (sm.free np) ?_⟩
      · exact sm.trans (same_updH np)
      · refine ⟨c, cs, 0, 0, t, upd_same, ?_, c0, by omega, by omega, ?_, by omega, t0, t1⟩
        · rw [upd_ne (ne_of_none hc np)]; exact hc
        · rw [cl, List.length_map]; exact hlen
theorem ok_take {f fM : Addr} {fd fdM : FuncData} {k : Nat} (F : Fun K "_law_take" "_law_take" sTake f fd) (FM : Fun K "_law_mixed" "_law_mixed" sMixed fM fdM) (bM : Binds K fdM ["_law_number_here", "_law_turn"] []) (gM : mg "_law_mixed" = some (.ref fM))
    (mi : mg "int" = none) (ml : mg "len" = none) : FnOk P w K mg base CX0 (k + 2) f fd ["_law_hand_here", "_law_many"] spTake := by
  have GM : FnOk P w K mg base CX0 (k + 1) fM fdM ["_law_number_here", "_law_turn"] spMixed := ok_mixed FM mi
  refine F.ok scTake (fun vs H Q E h => ?_) (fun cdv A outer s H vs Q E hr h => ?_)
  · obtain ⟨p, m, rfl, _⟩ := h; rfl
  · obtain ⟨p, m, rfl, hH, m0, m1, q⟩ := h
    obtain ⟨c, cs, i, r, t, hh⟩ := hH
    refine ⟨_, pss_cons (ps_if (PW.pt (pw_and (pt_cmpR op_eq (pe_ix ix_list (pv 0) pe_int (fun _ _ => rfl)) pe_int (nomark _))
          (pw_and1 (pt_cmpR op_lt (pe_ix ix_list (pv 0) pe_int (fun _ _ => rfl)) (pe_callB call_len_seq (by rfl) ml PySem.boot_len (pa_cons (pe_ix ix_list (pv 0) pe_int (fun _ _ => rfl)) pa_nil)) (nomark _)))))
        (pss_cons (ps_set (i := 2) scTake.nd rfl (.inl rfl) (pe_ix ix_list (pe_ix ix_list (pv 0) pe_int (fun _ _ => rfl)) (pe_ix ix_list (pv 0) pe_int (fun _ _ => rfl)) (fun _ _ => rfl)))
        (pss_cons (ps_asg (pe_op op_add (pe_ix ix_list (pv 0) pe_int (fun _ _ => rfl)) pe_int) (pg_sub (pv 0) pe_int set_list))
        (pss_cons (ps_if (pt_cmpR op_lt (pv 2) (pe_op op_pow pe_int pe_int) (nomark _))
          (pss_one (ps_ret (pe_op op_mod (pe_callTy call_int1 (by rfl) mi boot_int (pa_cons (pe_call GM hr (by rfl) gM FM.kp bM .nil pass0
            (pa_cons (pe_op op_mod (pe_callTy call_int1 (by rfl) mi boot_int (pa_cons (pv 2) pa_nil)) pe_int) (pa_cons (pe_ix ix_list (pv 0) pe_int (fun _ _ => rfl)) pa_nil))) pa_nil)) (pv 1)))) pss_nil)
        (pss_one (ps_asg (pv 2) (pg_sub (pv 0) pe_int set_list)))))) pss_nil)
      (pss_cons (ps_if (pt_cmpR op_gt (pe_ix ix_list (pv 0) pe_int (fun _ _ => rfl)) pe_int (nomark _))
        (pss_cons (ps_set (i := 3) scTake.nd rfl (.inl rfl) (pe_ix ix_list (pv 0) pe_int (fun _ _ => rfl)))
        (pss_cons (ps_asg (pe_op op_fdiv (pe_callTy call_int1 (by rfl) mi boot_int (pa_cons (pv 3) pa_nil)) (pv 1)) (pg_sub (pv 0) pe_int set_list))
        (pss_one (ps_ret (pe_op op_mod (pe_callTy call_int1 (by rfl) mi boot_int (pa_cons (pv 3) pa_nil)) (pv 1)))))) pss_nil)
      (pss_cons (ps_asg (pe_op op_mod (pe_callTy call_int1 (by rfl) mi boot_int (pa_cons (pe_op op_add (pe_ix ix_list (pv 0) pe_int (fun _ _ => rfl)) pe_int) pa_nil)) pe_int) (pg_sub (pv 0) pe_int set_list))
      (pss_one (ps_ret (pe_op op_mod (pe_callTy call_int1 (by rfl) mi boot_int (pa_cons (pe_call GM hr (by rfl) gM FM.kp bM .nil pass0
            (pa_cons (pe_ix ix_list (pv 0) pe_int (fun _ _ => rfl)) (pa_cons (pe_ix ix_list (pv 0) pe_int (fun _ _ => rfl)) pa_nil))) pa_nil)) (pv 1)))))), ?_⟩
    have nn := hh.ne
    obtain ⟨hp, hc, c0, i0, i1, cl, r0, t0, t1⟩ := id hh
    -- what stands behind the first if
    have tail : ∀ (H1 : Hp) (i r : Int) (x2 : Option V), HandIs H1 p c cs i r t → SameBut p H H1 → tSeq
        (tIfS (tTest (tOp (rI0 fun i j => .bl (decide (j < i))) (tOp (rIxL K) (tVar 0) (tC (.int 2))) (tC (.int 0)))) (tSeq (tAsg (tOp (rIxL K) (tVar 0) (tC (.int 2))) (gName 3))
          (tSeq (tAsg (tOp (rI CDiv fun i j => .int (i / j)) (tCB (fun xs H Q => (∃ i, xs = [.int i] ∧ Q (.int i) H) ∨ ∃ k, xs = [.bl k] ∧ Q (.int (if k then 1 else 0)) H) (tCons (tVar 3) tNil)) (tVar 1)) (gSub (tVar 0) (tC (.int 2)) rSetL))
            (tRet (tOp (rI (fun _ j => 0 < j) fun i j => .int (i % j)) (tCB (fun xs H Q => (∃ i, xs = [.int i] ∧ Q (.int i) H) ∨ ∃ k, xs = [.bl k] ∧ Q (.int (if k then 1 else 0)) H) (tCons (tVar 3) tNil)) (tVar 1))))) tNext)
        (tSeq (tAsg (tOp (rI (fun _ j => 0 < j) fun i j => .int (i % j)) (tCB (fun xs H Q => (∃ i, xs = [.int i] ∧ Q (.int i) H) ∨ ∃ k, xs = [.bl k] ∧ Q (.int (if k then 1 else 0)) H)
            (tCons (tOp (rI0 fun i j => .int (i + j)) (tOp (rIxL K) (tVar 0) (tC (.int 3))) (tC (.int 1))) tNil)) (tC (.int 2147483629))) (gSub (tVar 0) (tC (.int 3)) rSetL))
          (tRet (tOp (rI (fun _ j => 0 < j) fun i j => .int (i % j)) (tCB (fun xs H Q => (∃ i, xs = [.int i] ∧ Q (.int i) H) ∨ ∃ k, xs = [.bl k] ∧ Q (.int (if k then 1 else 0)) H)
            (tCons (tCall spMixed [] E0 (tCons (tOp (rIxL K) (tVar 0) (tC (.int 3))) (tCons (tOp (rIxL K) (tVar 0) (tC (.int 1))) tNil))) tNil)) (tVar 1))))
        { nx := fun _ H' => Q .non H', rt := Q } [some (.ref p), some (.int m), x2, none] H1 := by
      intro H1 i r x2 h1 sb
      obtain ⟨hp1, hc1, _, i0', i1', _, r0', _, _⟩ := id h1
      refine ⟨.ref p, rfl, p, _, 2, _, rfl, rfl, .of hp1, rfl, _, _, rfl, rfl, _, rfl, ite2 (fun e => ?_) (fun e => ?_)⟩
      · have rp : 0 < r := of_decide_eq_true e
        refine ⟨.ref p, rfl, p, _, 2, _, rfl, rfl, .of hp1, rfl, .int r, rfl, .inl ⟨_, rfl, .int m, rfl, _, _, rfl, rfl, ⟨m0, m1⟩, .ref p, rfl, p, _, 2, 2, rfl, rfl, hp1, rfl, ?_⟩⟩
        refine ⟨.int r, rfl, .inl ⟨_, rfl, .int m, rfl, _, _, rfl, rfl, m0, q _ _ (Int.emod_nonneg _ (by omega)) (Int.emod_lt_of_pos _ m0) ⟨c, cs, i, r / m, t, ?_⟩ (sb.trans (sb_upd hp1))⟩⟩
        exact h1.put i0' i1' (Int.ediv_nonneg r0' (by omega)) t0 t1
      · refine ⟨.ref p, rfl, p, _, 3, _, rfl, rfl, .of hp1, rfl, _, _, rfl, rfl, .inl ⟨_, rfl, _, _, rfl, rfl, (by show (0 : Int) < _; decide), .ref p, rfl, p, _, 3, 3, rfl, rfl, hp1, rfl, ?_⟩⟩
        have z0 : 0 ≤ (t + 1) % 2147483629 := by omega
        have z1 : (t + 1) % 2147483629 < 2147483629 := by omega
        have h2 := h1.put (i' := i) (r' := r) i0' i1' r0' z0 z1
        refine ⟨.ref p, rfl, p, _, 3, _, rfl, rfl, .of upd_same, rfl, .ref p, rfl, p, _, 1, _, rfl, rfl, .of upd_same, rfl, _, _, rfl, z0, by omega, i0', by omega, fun z => .inl ⟨_, rfl, .int m, rfl, _, _, rfl, rfl, m0, ?_⟩⟩
        exact q _ _ (Int.emod_nonneg _ (by omega)) (Int.emod_lt_of_pos _ m0) ⟨c, cs, i, r, _, h2⟩ (sb.trans (sb_upd hp1))
    refine ⟨.ref p, rfl, p, _, 2, _, rfl, rfl, .of hp, rfl, rfl, _, rfl, ite2 (fun e => ?_) (fun e => ?_)⟩
    · have re : r = 0 := V.int.inj (of_decide_eq_true e)
      refine ⟨.ref p, rfl, p, _, 1, _, rfl, rfl, .of hp, rfl, .ref p, rfl, p, _, 0, _, rfl, rfl, .of hp, rfl, c, _, rfl, .inl (.of hc), _, _, rfl, rfl, _, rfl, ite2 (fun e => ?_) (fun e => ?_)⟩
      · have il : i < cs.length := by
          have := of_decide_eq_true e
          rw [List.length_map] at this
          exact this
        obtain ⟨n, rfl⟩ := Int.eq_ofNat_of_zero_le i0
        have nl : n < cs.length := by omega
        have g : (cs.map V.int)[n]? = some (.int cs[n]) := by rw [List.getElem?_map, List.getElem?_eq_getElem nl]; rfl
        have z0 : 0 ≤ cs[n] := c0 _ (List.getElem_mem nl)
        have h2 := hh.put (i' := n + 1) (r' := r) (t' := t) (by omega) (by omega) r0 t0 t1
        refine ⟨.ref p, rfl, p, _, 0, _, rfl, rfl, .of hp, rfl, .ref p, rfl, p, _, 1, _, rfl, rfl, .of hp, rfl, c, _, _, _, rfl, rfl, .of hc, atI_nat g, ?_⟩
        refine ⟨.ref p, rfl, p, _, 1, _, rfl, rfl, .of hp, rfl, _, _, rfl, rfl, .ref p, rfl, p, _, 1, 1, rfl, rfl, hp, rfl, ?_⟩
        refine ⟨_, rfl, _, _, rfl, rfl, ⟨by decide, by decide, by decide⟩, _, _, rfl, rfl, _, rfl, ite2 (fun e => ?_) (fun e => ?_)⟩
        · refine ⟨_, rfl, .inl ⟨_, rfl, _, _, rfl, rfl, (by show (0 : Int) < _; decide), .ref p, rfl, p, _, 1, _, rfl, rfl, .of upd_same, rfl, _, _, rfl, by omega, by omega, by omega, by omega, fun z => .inl ⟨_, rfl, .int m, rfl, _, _, rfl, rfl, m0, ?_⟩⟩⟩
          exact q _ _ (Int.emod_nonneg _ (by omega)) (Int.emod_lt_of_pos _ m0) ⟨c, cs, _, r, t, h2⟩ (sb_upd hp)
        · refine ⟨_, rfl, .ref p, rfl, p, _, 2, 2, rfl, rfl, upd_same, rfl, ?_⟩
          rw [upd_upd]
          exact tail _ (n + 1) _ _ (hh.put (by omega) (by omega) z0 t0 t1) (sb_upd hp)
      · exact tail H i r _ hh SameBut.rfl
    · exact tail H i r _ hh SameBut.rfl

theorem dkHand (T : Txt K mg "_law_hand" sHand) (mint : mg "int" = none) (mlen : mg "len" = none) : DefOk P w K mg base CX0 "_law_hand" 1 ["_law_script"] (spHand K) := by
  obtain ⟨f, fd, F, g⟩ := T
  exact ⟨f, fd, g, F.kp, F.binds (fun _ _ _ _ _ _ us hl => match us, hl with | [_], _ => rfl), ok_hand (k := 0) F mint mlen⟩
theorem dkTake (T : Txt K mg "_law_take" sTake) (TM : Txt K mg "_law_mixed" sMixed) (mint : mg "int" = none) (mlen : mg "len" = none) : DefOk P w K mg base CX0 "_law_take" 2 ["_law_hand_here", "_law_many"] spTake := by
  obtain ⟨f, fd, F, g⟩ := T
  obtain ⟨fM, fdM, FM, gM⟩ := TM
  exact ⟨f, fd, g, F.kp, F.binds (fun _ _ _ _ _ _ us hl => match us, hl with | [_, _], _ => rfl), ok_take (k := 0) F FM (FM.binds (fun _ _ _ _ _ _ us hl => match us, hl with | [_, _], _ => rfl)) gM mint mlen⟩
/-- the hand goes on; data without lists stays -/
theorem HandAt.dp {H H' : Hp} {p : Addr} {v : V} {d : PyData} (h : HandAt H p) (s : SameBut p H H') (n : noL d = true) (k : Dp K H v d) : Dp K H' v d := by
  obtain ⟨c, cs, i, r, t, a, _⟩ := h
  exact Dp_but a s.1 n k
theorem noL_r (r : Rt) : noL (rD r) = true := by simp [rD, noL, noLs]
theorem noL_p (p : Pl) : noL (pD p) = true := by simp [pD, rD, noL, noLs]
theorem Same.but {H H' : Hp} {p : Addr} (s : Same H H') : SameBut p H H' := ⟨fun b o _ e => s b o e, fun c l e => ⟨l, s _ _ e⟩⟩
/-! what is drawn -/
def spNum (n : Nat) : Sp := fun vs H Q _ => ∃ p, vs = [.ref p] ∧ HandAt H p ∧ ∀ (x : Int) H', Sz n x → HandAt H' p → SameBut p H H' → Q (.int x) H'
def spDraw (K : PySem.W.Frag) (ok : Rt → Prop) : Sp := fun vs H Q _ => ∃ p, vs = [.ref p] ∧ HandAt H p ∧ ∀ (r : Rt) v H', ok r → Dp K H' v (rD r) → HandAt H' p → SameBut p H H' → Q v H'
def spDrawP (K : PySem.W.Frag) : Sp := fun vs H Q _ => ∃ p, vs = [.ref p] ∧ HandAt H p ∧ ∀ (r : Pl) v H', RatP r → SzP 151 r → Dp K H' v (pD r) → HandAt H' p → SameBut p H H' → Q v H'
abbrev s_law_number : Stmt := topS 84
theorem sc_law_number : FnScope ["_law_hand_here", "_law_kind", "_law_total", "_law_turn"] ["_law_hand_here"] (defScope s_law_number) := ⟨rfl, rfl, rfl, by decide +kernel, rfl, by decide +kernel, by decide +kernel⟩
theorem ok_law_number (T : Txt K mg "_law_number" s_law_number) (G_law_take : DefOk P w K mg base CX0 "_law_take" 2 ["_law_hand_here", "_law_many"] spTake) (mrange : mg "range" = none) : DefOk P w K mg base CX0 "_law_number" 3 ["_law_hand_here"] (spNum 151) := by
  obtain ⟨f, fd, F, gf⟩ := T
  refine ⟨f, fd, gf, F.kp, F.binds (fun _ _ _ _ _ _ us hl => match us, hl with | [_], _ => rfl), F.ok sc_law_number (fun vs H Q E h => ?_) (fun cdv A outer s H vs Q E hr h => ?_)⟩
  · obtain ⟨p, rfl, _⟩ := h; rfl
  · obtain ⟨p, rfl, hH, q⟩ := h
    refine ⟨_, (pss_cons (ps_set (i := 1) sc_law_number.nd rfl (.inl rfl) (pe_def G_law_take (hr.mono (by decide)) (by rfl) (pa_cons (pv 0) (pa_cons pe_int pa_nil)))) (pss_cons (ps_if (pt_cmpR op_lt (pv 1) pe_int (nomark _)) (pss_one (ps_ret (pe_op op_sub (pe_def G_law_take (hr.mono (by decide)) (by rfl) (pa_cons (pv 0) (pa_cons pe_int pa_nil))) pe_int))) pss_nil) (pss_cons (ps_set (i := 2) sc_law_number.nd rfl (.inl rfl) pe_int) (pss_cons (ps_for PassesOwn.never rfl (pi_range1 (by rfl) mrange (pa_cons (pe_ifExp (pt_cmpR op_lt (pv 1) pe_int (nomark _)) pe_int pe_int) pa_nil)) (pg_name (i := 3) sc_law_number.nd rfl (.inl rfl)) (pss_one (ps_set (i := 2) sc_law_number.nd rfl (.inl rfl) (pe_op op_add (pe_op op_mulW (pv 2) (pe_op op_pow pe_int pe_int)) (pe_def G_law_take (hr.mono (by decide)) (by rfl) (pa_cons (pv 0) (pa_cons (pe_op op_pow pe_int pe_int) pa_nil))))))) (pss_one (ps_ret (pe_op op_mulW (pv 2) (pe_op op_sub pe_int (pe_op op_mulW pe_int (pe_def G_law_take (hr.mono (by decide)) (by rfl) (pa_cons (pv 0) (pa_cons pe_int pa_nil)))))))))))), ?_⟩
    have ten : CPow 10 9 := ⟨by decide, by decide, by decide⟩
    refine ⟨.ref p, rfl, p, 9, rfl, hH, by decide, by decide, fun k H1 k0 k9 h1 s1 => ?_⟩
    refine ⟨_, rfl, _, _, rfl, rfl, _, rfl, ite2 (fun e => ?_) (fun e => ?_)⟩
    · refine ⟨.ref p, rfl, p, 25, rfl, h1, by decide, by decide, fun x H2 x0 x25 h2 s2 => ⟨_, _, rfl, rfl, q _ _ ?_ h2 (s1.trans s2)⟩⟩
      exact sz_mono (n := 5) (by show (x - 12).natAbs < 2 ^ 5; omega) (by decide)
    · have run : ∀ n : Nat, n ≤ 5 → tFor (iRng1 (fun _ H Q => Q [.int (n : Int)] H)) (gName 3) (tAsg (tOp (rI0 fun i j => .int (i + j)) (tOp (rI CMulW fun i j => .int (i * j)) (tVar 2) (tOp (rI CPow fun i j => .int (i ^ j.toNat)) (tC (.int 10)) (tC (.int 9))))
          (tCall spTake [] E0 (tCons (tVar 0) (tCons (tOp (rI CPow fun i j => .int (i ^ j.toNat)) (tC (.int 10)) (tC (.int 9))) tNil)))) (gName 2))
          ⟨tRet (tOp (rI CMulW fun i j => .int (i * j)) (tVar 2) (tOp (rI0 fun i j => .int (i - j)) (tC (.int 1)) (tOp (rI CMulW fun i j => .int (i * j)) (tC (.int 2)) (tCall spTake [] E0 (tCons (tVar 0) (tCons (tC (.int 2)) tNil)))))) ⟨fun _ H' => Q .non H', Q, fun _ _ => False, fun _ _ => False⟩, Q, fun _ _ => False, fun _ _ => False⟩
          [some (.ref p), some (.int k), some (.int 0), none] H1 := fun n hn => by
        have big : ∀ i : Nat, i ≤ 5 → ((10 : Int) ^ 9) ^ i ≤ 2 ^ 150 := fun i hi => by
          match i, hi with
          | 0, _ => decide
          | 1, _ => decide
          | 2, _ => decide
          | 3, _ => decide
          | 4, _ => decide
          | 5, _ => decide
        have szb : ∀ (i : Nat) (t : Int), i ≤ 5 → 0 ≤ t → t < ((10 : Int) ^ 9) ^ i → Sz 150 t := fun i t hi t0 t1 => by
          have b := big i hi
          have c : t < 2 ^ 150 := Int.lt_of_lt_of_le t1 b
          show t.natAbs < 2 ^ 150
          have d : ((t.natAbs : Nat) : Int) = t := Int.natAbs_of_nonneg t0
          have e : ((t.natAbs : Nat) : Int) < ((2 ^ 150 : Nat) : Int) := by rw [d]; exact c
          exact Int.ofNat_lt.mp e
        refine ⟨_, rfl, by omega, by omega, for_range (n := n) (fun i σ H' => ∃ (t : Int) (y : Option V), σ = [some (.ref p), some (.int k), some (.int t), y] ∧ 0 ≤ t ∧ t < ((10 : Int) ^ 9) ^ i ∧ HandAt H' p ∧ SameBut p H1 H')
          ⟨0, none, rfl, by decide, by decide, h1, SameBut.rfl⟩ ?_ ?_⟩
        · rintro i σ H' hi ⟨t, y, rfl, t0, t1, h2, s2⟩
          refine ⟨_, rfl, _, _, rfl, rfl, ten, _, _, rfl, rfl, wide_mul (szb i t (by omega) t0 t1) (by decide : ((10 : Int) ^ (9 : Int).toNat).natAbs < 2 ^ 30) (by decide) (by decide) (by decide), ?_⟩
          refine ⟨.ref p, rfl, _, _, rfl, rfl, ten, p, _, rfl, h2, by decide, by decide, fun x H3 x0 x1 h3 s3 => ⟨_, _, rfl, rfl, _, _, rfl, ?_, ?_, h3, s2.trans s3⟩⟩
          · have : (0 : Int) ≤ t * 10 ^ (9 : Int).toNat := Int.mul_nonneg t0 (by decide)
            omega
          · show t * 10 ^ (9 : Int).toNat + x < ((10 : Int) ^ 9) ^ (i + 1)
            have e : (10 : Int) ^ (9 : Int).toNat = 1000000000 := by decide
            have e2 : ((10 : Int) ^ 9) = 1000000000 := by decide
            rw [e] at x1 ⊢
            rw [e2] at t1 ⊢
            rw [Int.pow_succ]
            generalize (1000000000 : Int) ^ i = m at t1 ⊢
            omega
        · rintro σ H' ⟨t, y, rfl, t0, t1, h2, s2⟩
          have tz := szb n t hn t0 t1
          refine ⟨_, rfl, .ref p, rfl, p, 2, rfl, h2, by decide, by decide, fun x H3 x0 x2 h3 s3 => ?_⟩
          have xz : Sz 1 (1 - 2 * x) := by show (1 - 2 * x).natAbs < 2; omega
          refine ⟨_, _, rfl, rfl, wide_mul (by decide : (2 : Int).natAbs < 2 ^ 2) (by show x.natAbs < 2 ^ 2; omega) (by decide) (by decide) (by decide), _, _, rfl, rfl, _, _, rfl, rfl, wide_mul tz xz (by decide) (by decide) (by decide), q _ _ ?_ h3 ((s1.trans s2).trans s3)⟩
          exact sz_mul tz xz
      refine ⟨_, rfl, _, _, rfl, rfl, _, rfl, ite2 (fun e => ?_) (fun e => ?_)⟩
      · exact run 1 (by decide)
      · exact run 5 (by decide)
end
end F3
set_option Elab.async false
set_option linter.all false
set_option maxRecDepth 100000
set_option maxHeartbeats 4000000
set_option exponentiation.threshold 3000
namespace F3
open PySem PySem.Spec PyProof.Rows L2 FX RM PB
def Lay (K : PySem.W.Frag) (t : TA) (rs : List Rt) : Prop := ∀ σ H (Q : List V → Hp → Prop), (∀ H' vs, Same H H' → DpAll K H' vs (rs.map rD) → Q vs H') → t σ H Q
theorem lay_nil {K : PySem.W.Frag} : Lay K tNil [] := fun _ H Q q => q H [] (fun _ _ e => e) .nil
theorem lay_cons {K : PySem.W.Frag} {a b : Int} {t2 t : TA} {rs : List Rt} (h : ∀ σ H (Q : List V → Hp → Prop), Q [.int a, .int b] H → t2 σ H Q) (k : Lay K t rs) : Lay K (tCons (tTup t2) t) ((a, b) :: rs) :=
  fun σ H Q q => h σ H _ ⟨(by show 2 ≤ sizeLine; decide), fun p np => k σ _ _ fun H' vs s hv => q H' (.ref p :: vs) ((PB.same_new np).trans s) (.cons (Dp_same s (dp_mkr np)) hv)⟩
theorem DpAll_app {K : PySem.W.Frag} {H : Hp} : ∀ {vs us : List V} {ds es : List PyData}, DpAll K H vs ds → DpAll K H us es → DpAll K H (vs ++ us) (ds ++ es)
  | _, _, _, _, .nil, h => h
  | _, _, _, _, .cons a b, h => .cons a (DpAll_app b h)
section
variable {P : Program} {w : World} {K : PySem.W.Frag} {mg : Str → Option Value} {base : Heap}
def rows1 : List Rt := [(1, 0), (0, 1), (-1, 0), (0, -1), (1, 1), (-1, 1), (-1, -1), (1, -1)]
def rows2 : List Rt := [(2, 1), (1, 2), (-1, 2), (-2, 1), (-2, -1), (-1, -2), (1, -2), (2, -1)]
theorem rows_sz : ∀ r ∈ rows1 ++ rows2, SzR 151 r := fun r hr => szr_mono (n := 2) ((by decide : ∀ r ∈ rows1 ++ rows2, r.1.natAbs < 2 ^ 2 ∧ r.2.natAbs < 2 ^ 2) r hr) (by decide)
theorem lay1 : Lay K (tCons (tTup (tCons (tC (.int 1)) (tCons (tC (.int 0)) tNil))) (tCons (tTup (tCons (tC (.int 0)) (tCons (tC (.int 1)) tNil))) (tCons (tTup (tCons (tUn (rU fun i => .int (-i)) (tC (.int 1))) (tCons (tC (.int 0)) tNil))) (tCons (tTup (tCons (tC (.int 0)) (tCons (tUn (rU fun i => .int (-i)) (tC (.int 1))) tNil))) (tCons (tTup (tCons (tC (.int 1)) (tCons (tC (.int 1)) tNil))) (tCons (tTup (tCons (tUn (rU fun i => .int (-i)) (tC (.int 1))) (tCons (tC (.int 1)) tNil))) (tCons (tTup (tCons (tUn (rU fun i => .int (-i)) (tC (.int 1))) (tCons (tUn (rU fun i => .int (-i)) (tC (.int 1))) tNil))) (tCons (tTup (tCons (tC (.int 1)) (tCons (tUn (rU fun i => .int (-i)) (tC (.int 1))) tNil))) (tNil))))))))) rows1 := (lay_cons (fun _ _ _ q => q) (lay_cons (fun _ _ _ q => q) (lay_cons (fun _ _ _ q => ⟨_, rfl, q⟩) (lay_cons (fun _ _ _ q => ⟨_, rfl, q⟩) (lay_cons (fun _ _ _ q => q) (lay_cons (fun _ _ _ q => ⟨_, rfl, q⟩) (lay_cons (fun _ _ _ q => ⟨_, rfl, _, rfl, q⟩) (lay_cons (fun _ _ _ q => ⟨_, rfl, q⟩) lay_nil))))))))
theorem lay2 : Lay K (tCons (tTup (tCons (tC (.int 2)) (tCons (tC (.int 1)) tNil))) (tCons (tTup (tCons (tC (.int 1)) (tCons (tC (.int 2)) tNil))) (tCons (tTup (tCons (tUn (rU fun i => .int (-i)) (tC (.int 1))) (tCons (tC (.int 2)) tNil))) (tCons (tTup (tCons (tUn (rU fun i => .int (-i)) (tC (.int 2))) (tCons (tC (.int 1)) tNil))) (tCons (tTup (tCons (tUn (rU fun i => .int (-i)) (tC (.int 2))) (tCons (tUn (rU fun i => .int (-i)) (tC (.int 1))) tNil))) (tCons (tTup (tCons (tUn (rU fun i => .int (-i)) (tC (.int 1))) (tCons (tUn (rU fun i => .int (-i)) (tC (.int 2))) tNil))) (tCons (tTup (tCons (tC (.int 1)) (tCons (tUn (rU fun i => .int (-i)) (tC (.int 2))) tNil))) (tCons (tTup (tCons (tC (.int 2)) (tCons (tUn (rU fun i => .int (-i)) (tC (.int 1))) tNil))) (tNil))))))))) rows2 := (lay_cons (fun _ _ _ q => q) (lay_cons (fun _ _ _ q => q) (lay_cons (fun _ _ _ q => ⟨_, rfl, q⟩) (lay_cons (fun _ _ _ q => ⟨_, rfl, q⟩) (lay_cons (fun _ _ _ q => ⟨_, rfl, _, rfl, q⟩) (lay_cons (fun _ _ _ q => ⟨_, rfl, _, rfl, q⟩) (lay_cons (fun _ _ _ q => ⟨_, rfl, q⟩) (lay_cons (fun _ _ _ q => ⟨_, rfl, q⟩) lay_nil))))))))
abbrev s_law_way : Stmt := topS 83
theorem sc_law_way : FnScope ["_law_hand_here", "_law_rows"] ["_law_hand_here"] (defScope s_law_way) := ⟨rfl, rfl, rfl, by decide +kernel, rfl, by decide +kernel, by decide +kernel⟩
theorem ok_law_way (T : Txt K mg "_law_way" s_law_way) (G_law_take : DefOk P w K mg base CX0 "_law_take" 2 ["_law_hand_here", "_law_many"] spTake) : DefOk P w K mg base CX0 "_law_way" 3 ["_law_hand_here"] (spDraw K (SzR 151)) := by
  obtain ⟨f, fd, F, gf⟩ := T
  refine ⟨f, fd, gf, F.kp, F.binds (fun _ _ _ _ _ _ us hl => match us, hl with | [_], _ => rfl), F.ok sc_law_way (fun vs H Q E h => ?_) (fun cdv A outer s H vs Q E hr h => ?_)⟩
  · obtain ⟨p, rfl, _⟩ := h; rfl
  · obtain ⟨p, rfl, hH, q⟩ := h
    refine ⟨_, (pss_cons (ps_set (i := 1) sc_law_way.nd rfl (.inl rfl) (pe_lst (pa_cons (pe_tup (pa_cons pe_int (pa_cons pe_int pa_nil))) (pa_cons (pe_tup (pa_cons pe_int (pa_cons pe_int pa_nil))) (pa_cons (pe_tup (pa_cons (pe_un un_neg pe_int) (pa_cons pe_int pa_nil))) (pa_cons (pe_tup (pa_cons pe_int (pa_cons (pe_un un_neg pe_int) pa_nil))) (pa_cons (pe_tup (pa_cons pe_int (pa_cons pe_int pa_nil))) (pa_cons (pe_tup (pa_cons (pe_un un_neg pe_int) (pa_cons pe_int pa_nil))) (pa_cons (pe_tup (pa_cons (pe_un un_neg pe_int) (pa_cons (pe_un un_neg pe_int) pa_nil))) (pa_cons (pe_tup (pa_cons pe_int (pa_cons (pe_un un_neg pe_int) pa_nil))) pa_nil)))))))))) (pss_cons (ps_set (i := 1) sc_law_way.nd rfl (.inl rfl) (pe_op op_cat (pv 1) (pe_lst (pa_cons (pe_tup (pa_cons pe_int (pa_cons pe_int pa_nil))) (pa_cons (pe_tup (pa_cons pe_int (pa_cons pe_int pa_nil))) (pa_cons (pe_tup (pa_cons (pe_un un_neg pe_int) (pa_cons pe_int pa_nil))) (pa_cons (pe_tup (pa_cons (pe_un un_neg pe_int) (pa_cons pe_int pa_nil))) (pa_cons (pe_tup (pa_cons (pe_un un_neg pe_int) (pa_cons (pe_un un_neg pe_int) pa_nil))) (pa_cons (pe_tup (pa_cons (pe_un un_neg pe_int) (pa_cons (pe_un un_neg pe_int) pa_nil))) (pa_cons (pe_tup (pa_cons pe_int (pa_cons (pe_un un_neg pe_int) pa_nil))) (pa_cons (pe_tup (pa_cons pe_int (pa_cons (pe_un un_neg pe_int) pa_nil))) pa_nil))))))))))) (pss_one (ps_ret (pe_ix ix_list (pv 1) (pe_def G_law_take (hr.mono (by decide)) (by rfl) (pa_cons (pv 0) (pa_cons pe_int pa_nil))) (fun _ _ => rfl)))))), ?_⟩
    dsimp only [tSeq, tAsg, tLst]
    refine lay1 (K := K) _ _ _ fun H1 vs s1 hv => ?_
    have lv : vs.length = 8 := DpAll_len hv
    refine ⟨by rw [lv]; decide, fun l nl => ?_⟩
    dsimp only [gName, tOp, tVar]
    refine ⟨.ref l, rfl, ?_⟩
    refine lay2 (K := K) _ _ _ fun H2 us s2 hu => ?_
    have lu : us.length = 8 := DpAll_len hu
    refine ⟨by rw [lu]; decide, fun m nm => ?_⟩
    have e1 : H2 l = some (.lst vs) := s2 _ _ upd_same
    have ne : l ≠ m := ne_of_none e1 nm
    refine ⟨l, m, vs, us, rfl, rfl, by rw [upd_ne ne]; exact e1, upd_same, by rw [lv, lu]; decide, fun n nn => ?_⟩
    have hl3 : (upd (upd H2 m (.lst us)) n (.lst (vs ++ us))) n = some (.lst (vs ++ us)) := upd_same
    have s3 : Same H (upd (upd H2 m (.lst us)) n (.lst (vs ++ us))) := ((s1.trans (PB.same_new nl)).trans (s2.trans (PB.same_new nm))).trans (PB.same_new nn)
    have hall : DpAll K (upd (upd H2 m (.lst us)) n (.lst (vs ++ us))) (vs ++ us) ((rows1 ++ rows2).map rD) := by
      rw [List.map_append]
      refine DpAll_app (DpAll_same ?_ hv) (DpAll_same ?_ hu)
      · exact ((PB.same_new nl).trans (s2.trans (PB.same_new nm))).trans (PB.same_new nn)
      · exact (PB.same_new nm).trans (PB.same_new nn)
    have hnp : n ≠ p := by
      obtain ⟨c, cs, i, r, t, a, _⟩ := hH
      intro e
      have : (upd H2 m (.lst us)) p = some (.lst _) := ((s1.trans (PB.same_new nl)).trans (s2.trans (PB.same_new nm))) _ _ a
      rw [e, this] at nn
      cases nn
    have hH3 := hH.same s3
    generalize upd (upd H2 m (.lst us)) n (.lst (vs ++ us)) = H3 at hl3 s3 hall hH3 ⊢
    refine ⟨.ref n, rfl, .ref p, rfl, p, 16, rfl, hH3, by decide, by decide, fun x H4 x0 x1 h4 s4 => ?_⟩
    have lx : x.toNat < (vs ++ us).length := by rw [List.length_append, lv, lu]; omega
    have ex : (vs ++ us)[x.toNat]? = some (vs ++ us)[x.toNat] := List.getElem?_eq_getElem lx
    obtain ⟨d, ed, hd⟩ := DpAll_at hall ex
    rw [List.getElem?_map] at ed
    cases er : (rows1 ++ rows2)[x.toNat]? with
    | none => rw [er] at ed; cases ed
    | some r =>
      rw [er] at ed
      cases ed
      refine ⟨n, _, x, _, rfl, rfl, .inl (.inl (s4.1 _ _ hnp hl3)), ?_, q r _ _ (rows_sz r (List.mem_of_getElem? er)) (hH3.dp s4 (noL_r r) hd) h4 ((Same.but s3).trans s4)⟩
      have := atI_nat ex
      rw [Int.toNat_of_nonneg x0] at this
      exact this
abbrev s_law_small : Stmt := topS 86
theorem sc_law_small : FnScope ["_law_hand_here"] ["_law_hand_here"] (defScope s_law_small) := ⟨rfl, rfl, rfl, by decide +kernel, rfl, by decide +kernel, by decide +kernel⟩
theorem ok_law_small (T : Txt K mg "_law_small" s_law_small) (G_law_take : DefOk P w K mg base CX0 "_law_take" 2 ["_law_hand_here", "_law_many"] spTake) (G_law_ratio : DefOk P w K mg base CX0 "_law_ratio" 2 ["_law_top_here", "_law_bottom_here"] (spLow K)) : DefOk P w K mg base CX0 "_law_small" 3 ["_law_hand_here"] (spDraw K fun r => IsRat r ∧ SzR 5 r) := by
  obtain ⟨f, fd, F, gf⟩ := T
  refine ⟨f, fd, gf, F.kp, F.binds (fun _ _ _ _ _ _ us hl => match us, hl with | [_], _ => rfl), F.ok sc_law_small (fun vs H Q E h => ?_) (fun cdv A outer s H vs Q E hr h => ?_)⟩
  · obtain ⟨p, rfl, _⟩ := h; rfl
  · obtain ⟨p, rfl, hH, q⟩ := h
    refine ⟨_, (pss_one (ps_ret (pe_def G_law_ratio (hr.mono (by decide)) (by rfl) (pa_cons (pe_op op_sub (pe_def G_law_take (hr.mono (by decide)) (by rfl) (pa_cons (pv 0) (pa_cons pe_int pa_nil))) pe_int) (pa_cons (pe_op op_add pe_int (pe_def G_law_take (hr.mono (by decide)) (by rfl) (pa_cons (pv 0) (pa_cons pe_int pa_nil)))) pa_nil))))), ?_⟩
    refine ⟨.ref p, rfl, p, 13, rfl, hH, by decide, by decide, fun x H1 x0 x13 h1 s1 => ⟨_, _, rfl, rfl, ?_⟩⟩
    refine ⟨.ref p, rfl, p, 4, rfl, h1, by decide, by decide, fun y H2 y0 y4 h2 s2 => ⟨_, _, rfl, rfl, ?_⟩⟩
    have z1 : Sz 5 (x - 6) := by show (x - 6).natAbs < 2 ^ 5; omega
    have z2 : Sz 5 (1 + y) := by show (1 + y).natAbs < 2 ^ 5; omega
    have b0 : 0 < 1 + y := by omega
    exact ⟨_, _, rfl, b0, sz_mono z1 (by decide), sz_mono z2 (by decide), fun H3 v s3 hv => q _ _ _ ⟨norm_rat b0, szr_norm b0 z1 z2⟩ hv (h2.same s3) ((s1.trans s2).trans (Same.but s3))⟩
abbrev s_law_place : Stmt := topS 87
theorem sc_law_place : FnScope ["_law_hand_here"] ["_law_hand_here"] (defScope s_law_place) := ⟨rfl, rfl, rfl, by decide +kernel, rfl, by decide +kernel, by decide +kernel⟩
theorem ok_law_place (T : Txt K mg "_law_place" s_law_place) (G_law_take : DefOk P w K mg base CX0 "_law_take" 2 ["_law_hand_here", "_law_many"] spTake) (G_law_small : DefOk P w K mg base CX0 "_law_small" 3 ["_law_hand_here"] (spDraw K fun r => IsRat r ∧ SzR 5 r)) (G_law_number : DefOk P w K mg base CX0 "_law_number" 3 ["_law_hand_here"] (spNum 151)) (G_law_ratio : DefOk P w K mg base CX0 "_law_ratio" 2 ["_law_top_here", "_law_bottom_here"] (spLow K)) : DefOk P w K mg base CX0 "_law_place" 4 ["_law_hand_here"] (spDrawP K) := by
  obtain ⟨f, fd, F, gf⟩ := T
  refine ⟨f, fd, gf, F.kp, F.binds (fun _ _ _ _ _ _ us hl => match us, hl with | [_], _ => rfl), F.ok sc_law_place (fun vs H Q E h => ?_) (fun cdv A outer s H vs Q E hr h => ?_)⟩
  · obtain ⟨p, rfl, _⟩ := h; rfl
  · obtain ⟨p, rfl, hH, q⟩ := h
    refine ⟨_, (pss_cons (ps_if (pt_truth (pe_def G_law_take (hr.mono (by decide)) (by rfl) (pa_cons (pv 0) (pa_cons pe_int pa_nil))) (fun _ => rfl)) (pss_one (ps_ret (pe_tup (pa_cons (pe_def G_law_small (hr.mono (by decide)) (by rfl) (pa_cons (pv 0) pa_nil)) (pa_cons (pe_def G_law_small (hr.mono (by decide)) (by rfl) (pa_cons (pv 0) pa_nil)) pa_nil))))) pss_nil) (pss_one (ps_ret (pe_tup (pa_cons (pe_def G_law_ratio (hr.mono (by decide)) (by rfl) (pa_cons (pe_def G_law_number (hr.mono (by decide)) (by rfl) (pa_cons (pv 0) pa_nil)) (pa_cons (pe_op op_add pe_int (pe_def G_law_take (hr.mono (by decide)) (by rfl) (pa_cons (pv 0) (pa_cons pe_int pa_nil)))) pa_nil))) (pa_cons (pe_def G_law_ratio (hr.mono (by decide)) (by rfl) (pa_cons (pe_def G_law_number (hr.mono (by decide)) (by rfl) (pa_cons (pv 0) pa_nil)) (pa_cons (pe_op op_add pe_int (pe_def G_law_take (hr.mono (by decide)) (by rfl) (pa_cons (pv 0) (pa_cons pe_int pa_nil)))) pa_nil))) pa_nil)))))), ?_⟩
    refine ⟨.ref p, rfl, p, 4, rfl, hH, by decide, by decide, fun k H1 k0 k4 h1 s1 => ?_⟩
    refine ⟨_, rfl, ite2 (fun e => ?_) (fun e => ?_)⟩
    · refine ⟨.ref p, rfl, p, rfl, h1, fun r1 v1 H2 o1 hv1 h2 s2 => ?_⟩
      refine ⟨.ref p, rfl, p, rfl, h2, fun r2 v2 H3 o2 hv2 h3 s3 => ?_⟩
      refine ⟨(by show 2 ≤ sizeLine; decide), fun a na => ?_⟩
      have sn := PB.same_new (o := .tup [v1, v2]) na
      exact q (r1, r2) _ _ ⟨o1.1, o2.1⟩ ⟨szr_mono o1.2 (by decide), szr_mono o2.2 (by decide)⟩ (dp_mk2 na (h2.dp s3 (noL_r _) hv1) hv2) (h3.same sn) (((s1.trans s2).trans s3).trans (Same.but sn))
    · refine ⟨.ref p, rfl, p, rfl, h1, fun xa H2 za h2 s2 => ?_⟩
      refine ⟨.ref p, rfl, p, 7, rfl, h2, by decide, by decide, fun ya H3 y0a y7a h3 s3 => ⟨_, _, rfl, rfl, ?_⟩⟩
      have zza : Sz 151 (1 + ya) := sz_mono (n := 4) (by show (1 + ya).natAbs < 2 ^ 4; omega) (by decide)
      have b0a : 0 < 1 + ya := by omega
      refine ⟨_, _, rfl, b0a, sz_mono za (by decide), sz_mono zza (by decide), fun H4 va s4 hva => ?_⟩
      have h4 := h3.same s4
      refine ⟨.ref p, rfl, p, rfl, h4, fun xb H5 zb h5 s5 => ?_⟩
      refine ⟨.ref p, rfl, p, 7, rfl, h5, by decide, by decide, fun yb H6 y0b y7b h6 s6 => ⟨_, _, rfl, rfl, ?_⟩⟩
      have zzb : Sz 151 (1 + yb) := sz_mono (n := 4) (by show (1 + yb).natAbs < 2 ^ 4; omega) (by decide)
      have b0b : 0 < 1 + yb := by omega
      refine ⟨_, _, rfl, b0b, sz_mono zb (by decide), sz_mono zzb (by decide), fun H7 vb s7 hvb => ?_⟩
      have h7 := h6.same s7
      refine ⟨(by show 2 ≤ sizeLine; decide), fun a na => ?_⟩
      have sn := PB.same_new (o := .tup [va, vb]) na
      refine q (_, _) _ _ ⟨norm_rat b0a, norm_rat b0b⟩ ⟨szr_norm b0a za zza, szr_norm b0b zb zzb⟩ (dp_mk2 na (Dp_same s7 (h5.dp s6 (noL_r _) (h4.dp s5 (noL_r _) hva))) hvb) (h7.same sn) ?_
      exact ((((((s1.trans s2).trans s3).trans (Same.but s4)).trans s5).trans s6).trans (Same.but s7)).trans (Same.but sn)
abbrev s_law_any_way : Stmt := topS 89
theorem sc_law_any_way : FnScope ["_law_hand_here", "_law_x", "_law_y"] ["_law_hand_here"] (defScope s_law_any_way) := ⟨rfl, rfl, rfl, by decide +kernel, rfl, by decide +kernel, by decide +kernel⟩
theorem ok_law_any_way (T : Txt K mg "_law_any_way" s_law_any_way) (G_law_take : DefOk P w K mg base CX0 "_law_take" 2 ["_law_hand_here", "_law_many"] spTake) (G_law_way : DefOk P w K mg base CX0 "_law_way" 3 ["_law_hand_here"] (spDraw K (SzR 151))) (G_law_number : DefOk P w K mg base CX0 "_law_number" 3 ["_law_hand_here"] (spNum 151)) (G_law_direction : DefOk P w K mg base CX0 "_law_direction" 2 ["_law_x", "_law_y"] (spWd K)) : DefOk P w K mg base CX0 "_law_any_way" 4 ["_law_hand_here"] (spDraw K (SzR 151)) := by
  obtain ⟨f, fd, F, gf⟩ := T
  refine ⟨f, fd, gf, F.kp, F.binds (fun _ _ _ _ _ _ us hl => match us, hl with | [_], _ => rfl), F.ok sc_law_any_way (fun vs H Q E h => ?_) (fun cdv A outer s H vs Q E hr h => ?_)⟩
  · obtain ⟨p, rfl, _⟩ := h; rfl
  · obtain ⟨p, rfl, hH, q⟩ := h
    refine ⟨_, (pss_cons (ps_if (pt_truth (pe_def G_law_take (hr.mono (by decide)) (by rfl) (pa_cons (pv 0) (pa_cons pe_int pa_nil))) (fun _ => rfl)) (pss_one (ps_ret (pe_def G_law_way (hr.mono (by decide)) (by rfl) (pa_cons (pv 0) pa_nil)))) pss_nil) (pss_cons (ps_par (i := 1) (j := 2) rfl sc_law_any_way.nd rfl rfl (by decide) rfl rfl (pa_cons (pe_def G_law_number (hr.mono (by decide)) (by rfl) (pa_cons (pv 0) pa_nil)) (pa_cons (pe_def G_law_number (hr.mono (by decide)) (by rfl) (pa_cons (pv 0) pa_nil)) pa_nil)) rfl) (pss_one (ps_ret (pe_ifExp (PW.pt (pw_and (pt_cmpR op_eq (pv 1) pe_int (nomark _)) (pw_and1 (pt_cmpR op_eq (pv 2) pe_int (nomark _))))) (pe_tup (pa_cons pe_int (pa_cons (pe_un un_neg pe_int) pa_nil))) (pe_def G_law_direction (hr.mono (by decide)) (by rfl) (pa_cons (pv 1) (pa_cons (pv 2) pa_nil)))))))), ?_⟩
    refine ⟨.ref p, rfl, p, 3, rfl, hH, by decide, by decide, fun k H1 k0 k4 h1 s1 => ?_⟩
    refine ⟨_, rfl, ite2 (fun e => ?_) (fun e => ?_)⟩
    · exact ⟨.ref p, rfl, p, rfl, h1, fun r v H2 o hv h2 s2 => q r v H2 o hv h2 (s1.trans s2)⟩
    · refine ⟨.ref p, rfl, p, rfl, h1, fun x H2 zx h2 s2 => ?_⟩
      refine ⟨.ref p, rfl, p, rfl, h2, fun y H3 zy h3 s3 => ?_⟩
      have s13 := (s1.trans s2).trans s3
      refine ⟨_, _, rfl, ?_⟩
      refine ⟨_, rfl, rfl, _, rfl, ?_⟩
      by_cases x0 : x = 0
      · refine itT (decide_eq_true (by rw [x0])) ⟨_, rfl, rfl, _, rfl, ?_⟩
        by_cases y0 : y = 0
        · refine itT (decide_eq_true (by rw [y0])) ⟨_, rfl, (by show 2 ≤ sizeLine; decide), fun a na => ?_⟩
          have sn := PB.same_new (o := .tup [.int 0, .int (-1)]) na
          exact q (0, -1) _ _ (szr_mono (n := 2) ⟨by show (0 : Int).natAbs < 4; decide, by show (-1 : Int).natAbs < 4; decide⟩ (by decide)) (dp_mkr na) (h3.same sn) (s13.trans (Same.but sn))
        · refine itF (decide_eq_false fun z => y0 (V.int.inj z)) ?_
          exact ⟨_, rfl, _, rfl, x, y, rfl, .inr y0, sz_mono zx (by decide), sz_mono zy (by decide), fun H4 z s4 hz => q _ _ _ ⟨sz_div (.inr y0) zx, sz_div' (.inr y0) zy⟩ hz (h3.same s4) (s13.trans (Same.but s4))⟩
      · refine itF (decide_eq_false fun z => x0 (V.int.inj z)) (itF rfl ?_)
        exact ⟨_, rfl, _, rfl, x, y, rfl, .inl x0, sz_mono zx (by decide), sz_mono zy (by decide), fun H4 z s4 hz => q _ _ _ ⟨sz_div (.inl x0) zx, sz_div' (.inl x0) zy⟩ hz (h3.same s4) (s13.trans (Same.but s4))⟩
end
end F3
set_option Elab.async false
set_option linter.all false
set_option maxRecDepth 100000
set_option maxHeartbeats 4000000
set_option exponentiation.threshold 3000
namespace F3
open PySem PySem.Spec PyProof.Rows L2 FX RM PB
def sgn (i : Int) : Int := if i < 0 then -1 else if 0 < i then 1 else 0
def isDir : PyData → Bool
  | .tuple [.int a, .int b] => decide (g2 a b = 1)
  | .list [.int a, .int b] => decide (g2 a b = 1)
  | _ => false
def quart (d : Int × Int) : Int × Int × Int := if 0 < d.1 ∧ 0 ≤ d.2 then (0, d.1, d.2) else if 0 < d.2 then (1, d.2, -d.1) else if d.1 < 0 then (2, -d.1, -d.2) else (3, -d.2, d.1)
def spSign : Sp := fun vs H Q _ => ∃ i : Int, vs = [.int i] ∧ Q (.int (sgn i)) H
def spD1 (K : PySem.W.Frag) (o : Int × Int → Int × Int) : Sp := fun vs H Q _ => ∃ v d, vs = [v] ∧ Dir K H v d ∧ ∀ H' z, Same H H' → Dp K H' z (rD (o d)) → Q z H'
def spTurn (K : PySem.W.Frag) : Sp := fun vs H Q _ => ∃ v u d e, vs = [v, u] ∧ Dir K H v d ∧ Dir K H u e ∧ SzR 600 d ∧ SzR 600 e ∧ Q (.int (sgn (d.1 * e.2 - d.2 * e.1))) H
def spBet (K : PySem.W.Frag) : Sp := fun vs H Q E => ∃ v u d e, vs = [v, u] ∧ Dir K H v d ∧ Dir K H u e ∧ SzR 600 d ∧ SzR 600 e ∧ ((d.1 + e.1 ≠ 0 ∨ d.2 + e.2 ≠ 0) → ∀ H' z, Same H H' → Dp K H' z (rD (norm (d.1 + e.1) (d.2 + e.2))) → Q z H') ∧ ((d.1 + e.1 = 0 ∧ d.2 + e.2 = 0) → E (.ref (He.ga K "BadDirection")) none H)
def spQuart (K : PySem.W.Frag) : Sp := fun vs H Q _ => ∃ v d, vs = [v] ∧ Dir K H v d ∧ ∀ H' z, Same H H' → Dp K H' z (tD (quart d)) → Q z H'
def spFloor : Sp := fun vs H Q _ => ∃ t b s : Int, vs = [.int t, .int b, .int s] ∧ 0 < b ∧ Sz 2000 t ∧ Sz 2000 b ∧ Sz 4000 s ∧ Q (.int (t * s / b)) H
def spCkD (K : PySem.W.Frag) : Sp := fun vs H Q E => ∃ v d, vs = [v] ∧ Dp K H v d ∧ (∀ a b, (d = .tuple [a, b] ∨ d = .list [a, b]) → isDir d = true → ∀ H' z, Same H H' → Dp K H' z (.tuple [a, b]) → Q z H') ∧ (isDir d = false → ∀ H', Same H H' → E (.ref (He.ga K "BadDirection")) none H')
section
variable {P : Program} {w : World} {K : PySem.W.Frag} {mg : Str → Option Value} {base : Heap}
abbrev ssign_of : Stmt := topS 16
theorem scsign_of : FnScope ["number"] ["number"] (defScope ssign_of) := ⟨rfl, rfl, rfl, by decide +kernel, rfl, by decide +kernel, by decide +kernel⟩
theorem oksign_of (T : Txt K mg "sign_of" ssign_of)  : DefOk P w K mg base CX0 "sign_of" 1 ["number"] spSign := by
  obtain ⟨f, fd, F, gf⟩ := T
  refine ⟨f, fd, gf, F.kp, F.binds (fun _ _ _ _ _ _ us hl => match us, hl with | [_], _ => rfl), F.ok scsign_of (fun vs H Q E h => ?_) (fun cdv A outer s H vs Q E hr h => ?_)⟩
  · obtain ⟨i, rfl, _⟩ := h; rfl
  · obtain ⟨i, rfl, q⟩ := h
    refine ⟨_, (pss_cons (ps_if (pt_cmpR op_lt (pv 0) pe_int (nomark _)) (pss_one (ps_ret (pe_un un_neg pe_int))) pss_nil) (pss_cons (ps_if (pt_cmpR op_gt (pv 0) pe_int (nomark _)) (pss_one (ps_ret pe_int)) pss_nil) (pss_one (ps_ret pe_int)))), ?_⟩
    refine ⟨_, rfl, _, _, rfl, rfl, _, rfl, ite2 (fun e => ?_) (fun e => ?_)⟩
    · have h : i < 0 := of_decide_eq_true e
      have z : sgn i = -1 := if_pos h
      rw [z] at q
      exact ⟨_, rfl, q⟩
    · have h : ¬ i < 0 := fun z => e (decide_eq_true z)
      refine ⟨_, rfl, _, _, rfl, rfl, _, rfl, ite2 (fun e2 => ?_) (fun e2 => ?_)⟩
      · have h2 : 0 < i := of_decide_eq_true e2
        have z : sgn i = 1 := by unfold sgn; rw [if_neg h, if_pos h2]
        rw [z] at q
        exact q
      · have h2 : ¬ 0 < i := fun z => e2 (decide_eq_true z)
        have z : sgn i = 0 := by unfold sgn; rw [if_neg h, if_neg h2]
        rw [z] at q
        exact q
abbrev sopposite : Stmt := topS 26
theorem scopposite : FnScope ["direction", "x", "y"] ["direction"] (defScope sopposite) := ⟨rfl, rfl, rfl, by decide +kernel, rfl, by decide +kernel, by decide +kernel⟩
theorem okopposite (T : Txt K mg "opposite" sopposite)  : DefOk P w K mg base CX0 "opposite" 1 ["direction"] (spD1 K (fun d => (-d.1, -d.2))) := by
  obtain ⟨f, fd, F, gf⟩ := T
  refine ⟨f, fd, gf, F.kp, F.binds (fun _ _ _ _ _ _ us hl => match us, hl with | [_], _ => rfl), F.ok scopposite (fun vs H Q E h => ?_) (fun cdv A outer s H vs Q E hr h => ?_)⟩
  · obtain ⟨v, d, rfl, _⟩ := h; rfl
  · obtain ⟨v, d, rfl, c, q⟩ := h
    refine ⟨_, (pss_cons (ps_asg (pv 0) (pg_cou rfl (pgs_cons (pg_name (i := 1) scopposite.nd rfl (.inl rfl)) (pgs_cons (pg_name (i := 2) scopposite.nd rfl (.inl rfl)) pgs_nil)))) (pss_one (ps_ret (pe_tup (pa_cons (pe_un un_neg (pv 1)) (pa_cons (pe_un un_neg (pv 2)) pa_nil)))))), ?_⟩
    exact ⟨v, rfl, _, _, c, _, _, rfl, _, _, rfl, rfl, _, rfl, _, rfl, _, rfl, _, rfl, (by show 2 ≤ sizeLine; decide), fun p np => q _ _ (PB.same_new np) (dp_mkr np)⟩
abbrev sscaled_floor : Stmt := topS 27
theorem scscaled_floor : FnScope ["top", "bottom", "scale"] ["top", "bottom", "scale"] (defScope sscaled_floor) := ⟨rfl, rfl, rfl, by decide +kernel, rfl, by decide +kernel, by decide +kernel⟩
theorem okscaled_floor (T : Txt K mg "scaled_floor" sscaled_floor)  : DefOk P w K mg base CX0 "scaled_floor" 1 ["top", "bottom", "scale"] spFloor := by
  obtain ⟨f, fd, F, gf⟩ := T
  refine ⟨f, fd, gf, F.kp, F.binds (fun _ _ _ _ _ _ us hl => match us, hl with | [_, _, _], _ => rfl), F.ok scscaled_floor (fun vs H Q E h => ?_) (fun cdv A outer s H vs Q E hr h => ?_)⟩
  · obtain ⟨t, b, s_, rfl, _⟩ := h; rfl
  · obtain ⟨t, b, s_, rfl, b0, zt, zb, zs, q⟩ := h
    refine ⟨_, (pss_one (ps_ret (pe_op op_fdivW (pe_op op_mulW (pv 0) (pv 2)) (pv 1)))), ?_⟩
    exact ⟨_, rfl, _, rfl, _, _, rfl, rfl, wide_mul zt zs (by decide) (by decide) (by decide), _, rfl, _, _, rfl, rfl, wide_div b0 zb (by decide) (by decide), q⟩
end
end F3
set_option Elab.async false
set_option linter.all false
set_option maxRecDepth 100000
set_option maxHeartbeats 4000000
/-! zip(a, b) of lists and tuples in any mix: laid out as a list, as a tuple; walked over -/
namespace ZP
open PySem
open PySem.Sem (wp)
theorem zip_no_len : typeLookup (.type "zip") "__len__" = pure none := by rw [typeLookup_type, builtinLookup_eq_fast]; kernel_rfl
theorem zip_no_hint : typeLookup (.type "zip") "__length_hint__" = pure none := by rw [typeLookup_type, builtinLookup_eq_fast]; kernel_rfl
section
variable {prog : Program} {w : World} {A : Around} {E : Value → Shared → Prop} {s : Shared} {z TI TO T i1 i2 : Addr} {f : Bool} {oT : Obj} {fp1 fp2 : List Addr} {n1 n2 i : Nat} {P1 P2 : Nat → Value → Prop} {St1 St2 : Nat → Heap → Prop}
theorem held_item {Q : Value → Shared → Prop} (S : ZipSep2 z TI TO i1 i2 fp1 fp2) (D1 : Draws prog w A i1 fp1 n1 P1 St1) (D2 : Draws prog w A i2 fp2 n2 P2 St2)
    (hz : IsZipHeld s.heap z TI TO T f) (hT : s.heap.get? T = some oT) (hTI : IsTupOf2 s.heap TI (.ref i1) (.ref i2)) (st1 : St1 i s.heap) (st2 : St2 i s.heap) (hlt1 : i < n1) (hlt2 : i < n2)
    (hQ : ∀ x1 x2 h' tk, P1 i x1 → P2 i x2 → IsZipHeld h' z TI TO T true → St1 (i + 1) h' → St2 (i + 1) h' → IsTupOf2 h' s.heap.objs.size x1 x2 → h'.objs.size = s.heap.objs.size + 1 →
      (∀ c o, c ≠ z → c ≠ i1 → c ≠ i2 → s.heap.get? c = some o → h'.get? c = some o) → Q (.ref s.heap.objs.size) { s with heap := h', toks := tk }) :
    wpAny (model prog w) A (Builtin.«zip.__next__» ⟨[.ref z], []⟩) (fun fin s' => ∃ v, fin = .done (.ret v) ∧ Q v s') E s := by
  obtain ⟨hp, g, d, tk0, os⟩ := s
  show wpAny _ _ (field (.ref z) 2 >>= _) _ _ _
  refine wpAny_bind (wpAny_field hz rfl (x := .bool false) rfl ?_)
  show wpAny _ _ (field (.ref z) 3 >>= _) _ _ _
  refine wpAny_bind (wpAny_field hz rfl (x := .ref TI) rfl ?_)
  refine wpAny_bind (wpAny_seqItems hTI rfl ?_)
  show wpAny _ _ (Builtin.SmallTypes.ownedTupleIsFree (.ref z) >>= _) _ _ _
  refine wpAny_bind (wpAny_tupleHeld_zip hz hT fun h₁ hz₁ hs₁ => ?_)
  replace hs₁ : Heap.SameBut z hp h₁ := hs₁
  simp only [Bool.false_eq_true, if_false]
  refine wpAny_bind ?_
  rw [← Array.forIn_toList]
  simp only [List.forIn_cons, List.forIn_nil]
  refine wpAny_bind (wpAny_bind (wpAny_holding ?_))
  show wpAny _ _ (Builtin.SmallTypes.nextOf (.ref i1) >>= _) _ _ ⟨h₁, g, d, tk0, os⟩
  refine wpAny_bind (D1.item i _ _ _ hlt1 (D1.over st1 hs₁ S.zf1) fun x1 h₂ tk1 hx1 sn1 hs₂ => wpAny_pure ?_)
  replace hs₂ : Heap.SameBut i1 h₁ h₂ := hs₂
  refine wpAny_pure ?_
  refine wpAny_bind (wpAny_bind (wpAny_holding ?_))
  show wpAny _ _ (Builtin.SmallTypes.nextOf (.ref i2) >>= _) _ _ ⟨h₂, g, d, tk1, os⟩
  refine wpAny_bind (D2.item i _ _ _ hlt2 (D2.over (D2.over st2 hs₁ S.zf2) hs₂ S.sep1_2) fun x2 h₃ tk2 hx2 sn2 hs₃ => wpAny_pure ?_)
  replace hs₃ : Heap.SameBut i2 h₂ h₃ := hs₃
  refine wpAny_pure (wpAny_pure ?_)
  show wpAny _ _ (newTuple [x1, x2] >>= _) _ _ _
  refine wpAny_bind (wpAny_newTuple ?_)
  have hsz : h₃.objs.size = hp.objs.size := by rw [hs₃.1, hs₂.1, hs₁.1]
  have hz₃ : IsZipHeld h₃ z TI TO T true := hs₃.extBut _ _ S.zi2 (hs₂.extBut _ _ S.zi1 hz₁)
  have hk : ∀ c o, c ≠ z → c ≠ i1 → c ≠ i2 → hp.get? c = some o → h₃.get? c = some o := fun c o c1 c2 c3 e => hs₃.extBut _ _ c3 (hs₂.extBut _ _ c2 (hs₁.extBut _ _ c1 e))
  have h1₃ : St1 (i + 1) h₃ := D1.over sn1 hs₃ S.sep2_1
  refine wpAny_pure ⟨_, rfl, ?_⟩
  show Q (.ref h₃.objs.size) ⟨h₃.push { cls := .type "tuple", data := .seq #[x1, x2] }, g, d, tk2, os⟩
  have hpp : IsTupOf2 (h₃.push { cls := .type "tuple", data := .seq #[x1, x2] }) h₃.objs.size x1 x2 := Heap.get?_push_size _ rfl
  have hz4 : (h₃.push { cls := .type "tuple", data := .seq #[x1, x2] }).objs.size = h₃.objs.size + 1 := Heap.size_push ..
  rw [hsz] at hpp hz4 ⊢
  exact hQ _ _ _ _ hx1 hx2 (Heap.get?_push_of_some _ hz₃) (D1.frame _ _ _ h1₃ fun b _ o e => Heap.get?_push_of_some _ e) (D2.frame _ _ _ sn2 fun b _ o e => Heap.get?_push_of_some _ e) hpp hz4 fun c o c1 c2 c3 e => Heap.get?_push_of_some _ (hk c o c1 c2 c3 e)
theorem held_end {Q : Fin → Shared → Prop} (S : ZipSep2 z TI TO i1 i2 fp1 fp2) (D1 : Draws prog w A i1 fp1 n1 P1 St1) (D2 : Draws prog w A i2 fp2 n2 P2 St2)
    (hz : IsZipHeld s.heap z TI TO T f) (hT : s.heap.get? T = some oT) (hTI : IsTupOf2 s.heap TI (.ref i1) (.ref i2)) (st1 : St1 i s.heap) (st2 : St2 i s.heap) (hle1 : i ≤ n1) (hle2 : i ≤ n2) (hend : i = n1 ∨ i = n2)
    (hE : ∀ h' tk e, (∀ c o, c ≠ z → c ≠ i1 → c ≠ i2 → s.heap.get? c = some o → h'.get? c = some o) → (∃ o, h'.get? e = some o ∧ o.cls = .type "StopIteration") → E (.ref e) { s with heap := h', toks := tk }) :
    wpAny (model prog w) A (Builtin.«zip.__next__» ⟨[.ref z], []⟩) Q E s := by
  obtain ⟨hp, g, d, tk0, os⟩ := s
  show wpAny _ _ (field (.ref z) 2 >>= _) _ _ _
  refine wpAny_bind (wpAny_field hz rfl (x := .bool false) rfl ?_)
  show wpAny _ _ (field (.ref z) 3 >>= _) _ _ _
  refine wpAny_bind (wpAny_field hz rfl (x := .ref TI) rfl ?_)
  refine wpAny_bind (wpAny_seqItems hTI rfl ?_)
  show wpAny _ _ (Builtin.SmallTypes.ownedTupleIsFree (.ref z) >>= _) _ _ _
  refine wpAny_bind (wpAny_tupleHeld_zip hz hT fun h₁ hz₁ hs₁ => ?_)
  replace hs₁ : Heap.SameBut z hp h₁ := hs₁
  simp only [Bool.false_eq_true, if_false]
  refine wpAny_bind ?_
  rw [← Array.forIn_toList]
  simp only [List.forIn_cons, List.forIn_nil]
  refine wpAny_bind (wpAny_bind (wpAny_holding ?_))
  show wpAny _ _ (Builtin.SmallTypes.nextOf (.ref i1) >>= _) _ _ ⟨h₁, g, d, tk0, os⟩
  by_cases hlt1 : i < n1
  · refine wpAny_bind (D1.item i _ _ _ hlt1 (D1.over st1 hs₁ S.zf1) fun x1 h₂ tk1 hx1 sn1 hs₂ => wpAny_pure ?_)
    replace hs₂ : Heap.SameBut i1 h₁ h₂ := hs₂
    refine wpAny_pure ?_
    have hi2 : i = n2 := by omega
    refine wpAny_bind (wpAny_bind (wpAny_holding ?_))
    show wpAny _ _ (Builtin.SmallTypes.nextOf (.ref i2) >>= _) _ _ ⟨h₂, g, d, tk1, os⟩
    refine wpAny_bind (D2.done ⟨h₂, g, d, tk1, os⟩ _ _ (by rw [← hi2]; exact D2.over (D2.over st2 hs₁ S.zf2) hs₂ S.sep1_2) fun q e hq he => ?_)
    replace hq : Heap.ExtBut i2 h₂ q := hq
    exact hE q tk1 e (fun c o c1 c2 c3 x => hq _ _ c3 (hs₂.extBut _ _ c2 (hs₁.extBut _ _ c1 x))) he
  · have hi1 : i = n1 := by omega
    refine wpAny_bind (D1.done ⟨h₁, g, d, tk0, os⟩ _ _ (by rw [← hi1]; exact D1.over st1 hs₁ S.zf1) fun q e hq he => ?_)
    replace hq : Heap.ExtBut i1 h₁ q := hq
    exact hE q tk0 e (fun c o c1 c2 c3 x => hq _ _ c2 (hs₁.extBut _ _ c1 x)) he
end
/-- a zip at any moment: its tuple is its own, or handed out and alive -/
def ZAt (h : Heap) (z TI TO : Addr) : Prop := IsZip h z TI TO .none ∨ ∃ T f oT, IsZipHeld h z TI TO T f ∧ h.get? T = some oT
section
variable {prog : Program} {w : World} {A : Around} {E : Value → Shared → Prop} {s : Shared} {z TI TO i1 i2 : Addr} {fp1 fp2 : List Addr} {n1 n2 i : Nat} {P1 P2 : Nat → Value → Prop} {St1 St2 : Nat → Heap → Prop}
theorem ZAt.typeIs (h : ZAt s.heap z TI TO) : s.TypeIs (.ref z) "zip" := by
  rcases h with h | ⟨T, f, oT, h, _⟩
  · exact ⟨_, h, rfl⟩
  · exact ⟨_, h, rfl⟩
theorem ZAt.lt {h : Heap} (x : ZAt h z TI TO) : z < h.objs.size := by
  rcases x with h | ⟨T, f, oT, h, _⟩
  · exact Heap.lt_size h
  · exact Heap.lt_size h
theorem z_item {Q : Option Value → Shared → Prop} (S : ZipSep2 z TI TO i1 i2 fp1 fp2) (D1 : Draws prog w A.in1 i1 fp1 n1 P1 St1) (D2 : Draws prog w A.in1 i2 fp2 n2 P2 St2)
    (hz : ZAt s.heap z TI TO) (hTI : IsTupOf2 s.heap TI (.ref i1) (.ref i2)) (hTO : ∃ a b, IsTupOf2 s.heap TO a b) (st1 : St1 i s.heap) (st2 : St2 i s.heap) (hlt1 : i < n1) (hlt2 : i < n2)
    (hQ : ∀ x1 x2 h' tk, P1 i x1 → P2 i x2 → ZAt h' z TI TO → (∃ a b, IsTupOf2 h' TO a b) → St1 (i + 1) h' → St2 (i + 1) h' → IsTupOf2 h' s.heap.objs.size x1 x2 → h'.objs.size = s.heap.objs.size + 1 →
      (∀ c o, c ≠ z → c ≠ TO → c ≠ i1 → c ≠ i2 → s.heap.get? c = some o → h'.get? c = some o) → Q (some (.ref s.heap.objs.size)) { s with heap := h', toks := tk }) :
    wpAny (model prog w) A (pyNext (.ref z)) Q E s := by
  obtain ⟨a, b, hTO⟩ := hTO
  have hty := hz.typeIs
  rcases hz with hz | ⟨T, f, oT, hz, hT⟩
  · exact wpAny_pyNext_zipD2_item S D1 D2 hz hTI hTO st1 st2 hlt1 hlt2 fun x1 x2 h' tk p1 p2 z' to' s1 s2 t' sz k => hQ x1 x2 h' tk p1 p2 (.inr ⟨_, _, _, z', t'⟩) ⟨_, _, to'⟩ s1 s2 t' sz k
  · unfold pyNext
    refine wpAny_bind (wpAny_attempt (wpAny_callSpecial?_slot (name := Str.ofString "__next__") hty F.slot_zip_next
      (wpAny_call_entry F.slot_zip_next hty F.entry_zip_next
        (held_item S D1 D2 hz hT hTI st1 st2 hlt1 hlt2 fun x1 x2 h' tk p1 p2 z' s1 s2 t' sz k => wpAny_pure (hQ x1 x2 h' tk p1 p2 (.inr ⟨T, true, ?_⟩) ⟨a, b, ?_⟩ s1 s2 t' sz fun c o c1 _ c3 c4 e => k c o c1 c3 c4 e)) (F.args_zip_next_1 _))))
    · by_cases e1 : T = z
      · subst e1; exact ⟨_, z', z'⟩
      · by_cases e2 : T = i1
        · subst e2
          obtain ⟨o, e⟩ := D1.live _ _ s1
          exact ⟨o, z', e⟩
        · by_cases e3 : T = i2
          · subst e3
            obtain ⟨o, e⟩ := D2.live _ _ s2
            exact ⟨o, z', e⟩
          · exact ⟨oT, z', k T oT e1 e2 e3 hT⟩
    · exact k _ _ S.TOz S.Ti1 S.Ti2 hTO
theorem z_end {Q : Option Value → Shared → Prop} (S : ZipSep2 z TI TO i1 i2 fp1 fp2) (D1 : Draws prog w A.in1 i1 fp1 n1 P1 St1) (D2 : Draws prog w A.in1 i2 fp2 n2 P2 St2)
    (hz : ZAt s.heap z TI TO) (hTI : IsTupOf2 s.heap TI (.ref i1) (.ref i2)) (hTO : ∃ a b, IsTupOf2 s.heap TO a b) (st1 : St1 i s.heap) (st2 : St2 i s.heap) (hle1 : i ≤ n1) (hle2 : i ≤ n2) (hend : i = n1 ∨ i = n2)
    (hQ : ∀ h' tk, (∀ c o, c ≠ z → c ≠ TO → c ≠ i1 → c ≠ i2 → s.heap.get? c = some o → h'.get? c = some o) → Q none { s with heap := h', toks := tk }) : wpAny (model prog w) A (pyNext (.ref z)) Q E s := by
  obtain ⟨a, b, hTO⟩ := hTO
  have hty := hz.typeIs
  rcases hz with hz | ⟨T, f, oT, hz, hT⟩
  · exact wpAny_pyNext_zipD2_end S D1 D2 hz hTI hTO st1 st2 hle1 hle2 hend hQ
  · unfold pyNext
    refine wpAny_bind (wpAny_attempt (wpAny_callSpecial?_slot (name := Str.ofString "__next__") hty F.slot_zip_next
      (wpAny_call_entry F.slot_zip_next hty F.entry_zip_next (held_end S D1 D2 hz hT hTI st1 st2 hle1 hle2 hend fun h' tk e hk he => ?_) (F.args_zip_next_1 _))))
    obtain ⟨o, ho, hc⟩ := he
    refine wpAny_bind (wpAny_isInstance (T := "StopIteration") (b := true) ⟨o, ho, hc⟩ isSubtype_stop ?_)
    exact wpAny_pure (hQ _ _ fun c o c1 _ c3 c4 e => hk c o c1 c3 c4 e)
theorem z_iter {Q : Value → Shared → Prop} (hz : ZAt s.heap z TI TO) (h : Q (.ref z) s) : wpAny (model prog w) A (pyIter (.ref z)) Q E s := by
  rcases hz with hz | ⟨T, f, oT, hz, _⟩
  · exact wpAny_pyIter_zip hz h
  · have hT : s.TypeIs (.ref z) "zip" := ⟨_, hz, rfl⟩
    refine wpAny_pyIter_slot hT F.slot_zip_iter (wpAny_call_entry F.slot_zip_iter hT F.entry_zip_iter ?_ (F.args_zip_iter_1 _))
    show wpAny _ _ (ret (.ref z)) _ _ s
    exact wpAny_pure ⟨_, rfl, "zip", _, hT, F.slot_zip_next.lookup, h⟩
end
end ZP
set_option Elab.async false
set_option linter.all false
set_option maxRecDepth 100000
set_option maxHeartbeats 4000000
namespace ZP
open PySem PySem.Spec PyProof.Rows L2 FX RM PB
open PySem.Sem (wp)
/-- couples in new tuples, in order -/
def Pairs (H : Hp) (xs ys : List V) (acc : List V) : Prop := ∀ (j : Nat) (v : V), acc[j]? = some v → ∃ T x y, v = .ref T ∧ xs[j]? = some x ∧ ys[j]? = some y ∧ H T = some (.tup [x, y])
theorem Pairs.mono {H H' : Hp} {xs ys acc : List V} (h : Pairs H xs ys acc) (k : ∀ T u, H T = some (.tup u) → H' T = some (.tup u)) : Pairs H' xs ys acc := fun j v e => by
  obtain ⟨T, x, y, e1, e2, e3, e4⟩ := h j v e
  exact ⟨T, x, y, e1, e2, e3, k _ _ e4⟩
theorem ZAt.over {h h' : Heap} {z TI TO L : Addr} (x : ZAt h z TI TO) (hL : L ≠ z) (k : ∀ b o, b ≠ L → h.get? b = some o → h'.get? b = some o) (hl : ∃ o, h'.get? L = some o) : ZAt h' z TI TO := by
  rcases x with x | ⟨T, f, oT, x, e⟩
  · exact .inl (k _ _ hL.symm x)
  · by_cases q : T = L
    · subst q; obtain ⟨o, ho⟩ := hl; exact .inr ⟨_, f, o, k _ _ hL.symm x, ho⟩
    · exact .inr ⟨T, f, oT, k _ _ hL.symm x, k _ _ q e⟩
section
variable {X : Cx} {pins : List (Addr × Obj)} {σ : L2.St} {z TI TO i1 i2 : Addr} {fp1 fp2 : List Addr} {xs ys : List V} {its its2 : List Value} {St1 St2 : Nat → Heap → Prop}
theorem z_loop {A : Around} {R : Result → Shared → Prop} {L : Addr} (S : ZipSep2 z TI TO i1 i2 fp1 fp2) (D1 : Draws X.prog X.w A.in1.in1 i1 fp1 its.length (fun i v => its[i]? = some v) St1) (D2 : Draws X.prog X.w A.in1.in1 i2 fp2 its2.length (fun i v => its2[i]? = some v) St2)
    (rv : Vals xs its) (rv2 : Vals ys its2) (hn : its.length ≤ sizeLine) (hL1 : L ∉ fp1) (hL2 : L ∉ fp2) (hLz : L ≠ z) (hLT : L ≠ TI) (hLO : L ≠ TO) (res : Value) :
    ∀ (k i : Nat) (s : Shared) (H : Hp) (acc : List V), min its.length its2.length - i = k → i ≤ min its.length its2.length → Inv X pins σ H s → ZAt s.heap z TI TO → IsTupOf2 s.heap TI (.ref i1) (.ref i2) → (∃ a b, IsTupOf2 s.heap TO a b) → St1 i s.heap → St2 i s.heap →
    (∀ c ∈ [z, TO, i1, i2], FpOk X pins H c) → H L = some (.lst acc) → acc.length = i → Pairs H xs ys acc →
    (∀ s' H' acc', (∃ h tk, s' = { s with heap := h, toks := tk }) → Inv X pins σ H' s' → (∀ b o, b ≠ L → H b = some o → H' b = some o) → H' L = some (.lst acc') → acc'.length = min its.length its2.length → Pairs H' xs ys acc' → R (.ok (.ret res)) s') →
    codeAny (model X.prog X.w) A (.builtin "list.extend.loop" ⟨[.ref L, .ref z, res], []⟩) R s := by
  intro k
  induction k with
  | zero =>
    intro i s H acc hk hi I hz hTI hTO st1 st2 hf hL hl hp hR
    refine codeAny_builtin F.entry_extend_loop ?_
    rw [Around.under_plainId F.plain_extend_loop _]
    show wpAny _ A.in1 (pyNext (.ref z) >>= _) _ _ s
    refine wpAny_bind (z_end S D1 D2 hz hTI hTO st1 st2 (by omega) (by omega) (by omega) fun h' tk hk' => ?_)
    have I1 : Inv X pins σ H { s with heap := h', toks := tk } := I.turnedL (t' := tk) (ch := [z, TO, i1, i2]) (fun c o hc e => hk' c o (fun q => hc (by simp [q])) (fun q => hc (by simp [q])) (fun q => hc (by simp [q])) (fun q => hc (by simp [q])) e) hf
    exact wpAny_pure (hR _ H acc ⟨h', tk, rfl⟩ I1 (fun _ _ _ e => e) hL (by omega) hp)
  | succ k ih =>
    intro i s H acc hk hi I hz hTI hTO st1 st2 hf hL hl hp hR
    refine codeAny_builtin F.entry_extend_loop ?_
    rw [Around.under_plainId F.plain_extend_loop _]
    show wpAny _ A.in1 (pyNext (.ref z) >>= _) _ _ s
    have hzl := hz.lt
    have l1 : i1 < s.heap.objs.size := by obtain ⟨_, e⟩ := D1.live _ _ st1; exact Heap.lt_size e
    have l2 : i2 < s.heap.objs.size := by obtain ⟨_, e⟩ := D2.live _ _ st2; exact Heap.lt_size e
    have lO : TO < s.heap.objs.size := by obtain ⟨_, _, e⟩ := hTO; exact Heap.lt_size e
    refine wpAny_bind (z_item S D1 D2 hz hTI hTO st1 st2 (by omega) (by omega) fun x1 x2 h' tk p1 p2 z' to' s1 s2 t' hsz hk' => ?_)
    have hfr : H s.heap.objs.size = none := I.hok.fresh (Nat.le_refl _)
    have hil : i < xs.length := by rw [rv.length]; exact (List.getElem?_eq_some_iff.mp p1).1
    have hil2 : i < ys.length := by rw [rv2.length]; exact (List.getElem?_eq_some_iff.mp p2).1
    obtain ⟨u1, e1, r1⟩ := rv.get (List.getElem?_eq_getElem hil)
    obtain ⟨u2, e2, r2⟩ := rv2.get (List.getElem?_eq_getElem hil2)
    rw [p1] at e1; cases e1
    rw [p2] at e2; cases e2
    have I1 : Inv X pins σ (upd H s.heap.objs.size (.tup [xs[i], ys[i]])) { s with heap := h', toks := tk } :=
      I.turnedNew (t' := tk) (ch := [z, TO, i1, i2]) (fun c o hc e => hk' c o (fun q => hc (by simp [q])) (fun q => hc (by simp [q])) (fun q => hc (by simp [q])) (fun q => hc (by simp [q])) e) hf (Nat.le_refl _) ⟨by show 2 ≤ sizeLine; decide, [x1, x2], .cons r1 (.cons r2 .nil), ⟨_, t', rfl, _, rfl⟩⟩
    have hLs : L ≠ s.heap.objs.size := ne_of_none hL hfr
    have hL' : (upd H s.heap.objs.size (.tup [xs[i], ys[i]])) L = some (.lst acc) := by rw [upd_ne hLs]; exact hL
    obtain ⟨_, us, c, rA, eL⟩ := I1.hok _ _ hL'
    replace eL : h'.get? L = some { cls := .type "list", data := .seq us.toArray c } := eL
    have ul : us.length = i := by rw [← rA.length]; exact hl
    refine wpAny_bind ?_
    show wpAny _ A.in1 (updateSeq L (·.push (.ref s.heap.objs.size))) _ _ _
    refine wpAny_updateSeq (s := { s with heap := h', toks := tk }) eL rfl ?_ (by simp only [List.size_toArray]; omega) (by show (us.toArray.push _).size ≤ sizeLine + 1; rw [Array.size_push]; simp only [List.size_toArray]; omega)
    have oth : ∀ b o, b ≠ L → h'.get? b = some o → (h'.update L (Obj.mapSeq (·.push (.ref s.heap.objs.size)))).get? b = some o := fun b o hb e => (Heap.get?_update_other _ _ (Ne.symm hb)).trans e
    have self : ∃ c2, (h'.update L (Obj.mapSeq (·.push (.ref s.heap.objs.size)))).get? L = some { cls := .type "list", data := .seq (us.toArray.push (.ref s.heap.objs.size)) c2 } := ⟨_, Heap.get?_update_self _ eL rfl⟩
    generalize h'.update L (Obj.mapSeq (·.push (.ref s.heap.objs.size))) = h'' at oth self
    obtain ⟨c2, self⟩ := self
    have I2 : Inv X pins σ (upd (upd H s.heap.objs.size (.tup [xs[i], ys[i]])) L (.lst (acc ++ [.ref s.heap.objs.size]))) { s with heap := h'', toks := tk } :=
      I1.write (t' := tk) (x := L) (e := L) (by rw [hL']; trivial) (.inl rfl) (fun b u hb e => oth b u hb e) ⟨_, self⟩
        ⟨by rw [List.length_append, hl]; show i + 1 ≤ sizeLine; omega, us ++ [.ref s.heap.objs.size], c2, rA.append (show Vals [V.ref s.heap.objs.size] [Value.ref s.heap.objs.size] from .cons rfl .nil), by rw [self]; simp⟩
    refine wpAny_pure ⟨plainId_quiet F.plain_extend_loop _, ih (i + 1) { s with heap := h'', toks := tk } _ _ (by omega) (by omega) I2 (ZAt.over z' hLz oth ⟨_, self⟩)
      (oth _ _ hLT.symm (hk' _ _ S.TIz S.TITO S.TIi1 S.TIi2 hTI)) (by obtain ⟨a, b, e⟩ := to'; exact ⟨a, b, oth _ _ hLO.symm e⟩) (D1.frame _ _ _ s1 fun b hb o e => oth b o (fun q => hL1 (q ▸ hb)) e) (D2.frame _ _ _ s2 fun b hb o e => oth b o (fun q => hL2 (q ▸ hb)) e)
      (fun c hc => ?_) upd_same (by rw [List.length_append, hl]; rfl) ?_ fun s' H' acc' he I' kp hl' al pp => ?_⟩
    · have q := hf c hc
      have lt : c < s.heap.objs.size := by
        have : c = z ∨ c = TO ∨ c = i1 ∨ c = i2 := by simpa using hc
        rcases this with q | q | q | q <;> rw [q] <;> assumption
      have nL : c ≠ L := by
        have : c = z ∨ c = TO ∨ c = i1 ∨ c = i2 := by simpa using hc
        rcases this with q | q | q | q
        · rw [q]; exact hLz.symm
        · rw [q]; exact hLO.symm
        · rw [q]; exact fun e => hL1 (e ▸ S.mem1)
        · rw [q]; exact fun e => hL2 (e ▸ S.mem2)
      exact ⟨by rw [upd_ne nL, upd_ne (Nat.ne_of_lt lt)]; exact q.1, q.2⟩
    · intro j v e
      by_cases hj : j < acc.length
      · rw [List.getElem?_append_left hj] at e
        obtain ⟨T, x, y, e1, e2, e3, e4⟩ := hp j v e
        refine ⟨T, x, y, e1, e2, e3, ?_⟩
        rw [upd_ne (fun q => by rw [q, hL] at e4; cases e4), upd_ne (ne_of_none e4 hfr)]; exact e4
      · rw [List.getElem?_append_right (by omega)] at e
        have j0 : j - acc.length = 0 := by
          have := (List.getElem?_eq_some_iff.mp e).1
          simp at this; omega
        have ji : j = i := by omega
        subst ji
        rw [j0] at e; cases e
        exact ⟨_, _, _, rfl, List.getElem?_eq_getElem hil, List.getElem?_eq_getElem hil2, by rw [upd_ne hLs.symm]; exact upd_same⟩
    · obtain ⟨h3, t3, rfl⟩ := he
      refine hR _ H' acc' ⟨h3, t3, rfl⟩ I' (fun b o hb e => kp b o hb ?_) hl' al pp
      rw [upd_ne hb, upd_ne (ne_of_none e hfr)]; exact e
end
end ZP
set_option Elab.async false
set_option linter.all false
set_option maxRecDepth 100000
set_option maxHeartbeats 4000000
namespace ZP
open PySem PySem.Spec PyProof.Rows L2 FX RM PB
open PySem.Sem (wp)
/-- what is left behind the loop -/
def ZPost (X : Cx) (pins : List (Addr × Obj)) (σ : L2.St) (H : Hp) (xs ys : List V) (m : Nat) (s s' : Shared) (us : List Value) (L : Addr) : Prop :=
  ∃ H' acc, (∃ h tk, s' = { s with heap := h, toks := tk }) ∧ Inv X pins σ H' s' ∧ (∀ b o, H b = some o → H' b = some o) ∧ Vals acc us ∧ acc.length = m ∧ Pairs H' xs ys acc ∧ H L = none ∧ H' L = some (.lst acc)
/-- a zip that stands ready -/
structure ZRdy (X : Cx) (pins : List (Addr × Obj)) (H : Hp) (s : Shared) (z TI TO i1 i2 : Addr) (fp1 fp2 : List Addr) (xs ys : List V) (its its2 : List Value) (St1 St2 : Nat → Heap → Prop) : Prop where
  S : ZipSep2 z TI TO i1 i2 fp1 fp2
  D1 : ∀ A : Around, A.handled = none → Draws X.prog X.w A i1 fp1 its.length (fun i v => its[i]? = some v) St1
  D2 : ∀ A : Around, A.handled = none → Draws X.prog X.w A i2 fp2 its2.length (fun i v => its2[i]? = some v) St2
  rv : Vals xs its
  rv2 : Vals ys its2
  hn : its.length ≤ sizeLine
  hz : ZAt s.heap z TI TO
  hTI : IsTupOf2 s.heap TI (.ref i1) (.ref i2)
  hTO : ∃ a b, IsTupOf2 s.heap TO a b
  st1 : St1 0 s.heap
  st2 : St2 0 s.heap
  hf : ∀ c ∈ [z, TO, i1, i2], FpOk X pins H c
  lf1 : ∀ c ∈ fp1, c < s.heap.objs.size
  lf2 : ∀ c ∈ fp2, c < s.heap.objs.size
section
variable {X : Cx} {pins : List (Addr × Obj)} {σ : L2.St} {z TI TO i1 i2 : Addr} {fp1 fp2 : List Addr} {xs ys : List V} {its its2 : List Value} {St1 St2 : Nat → Heap → Prop} {H : Hp} {s : Shared}
/-- list.extend of a fresh list L, from where it is empty -/
theorem z_extend {A : Around} {R : Result → Shared → Prop} {L : Addr} {c₀ : Nat} (hA : A.handled = none) (I : Inv X pins σ H s) (Z : ZRdy X pins H s z TI TO i1 i2 fp1 fp2 xs ys its its2 St1 St2) (hLs : s.heap.objs.size ≤ L) (res : Value) {h0 : Heap} (k0 : ∀ b o, s.heap.get? b = some o → h0.get? b = some o)
    (hS : h0.get? L = some { cls := .type "list", data := .seq #[] c₀ })
    (hR : ∀ s' us, ZPost X pins σ H xs ys (min its.length its2.length) s s' us L → (∃ c', s'.heap.get? L = some { cls := .type "list", data := .seq us.toArray c' }) → R (.ok (.ret res)) s') :
    wpAny (model X.prog X.w) A.in1 (Builtin.List.listExtendWith (.ref L) (.ref z) res)
      (fun fin s' => match fin with | .done f => R (.ok f) s' | .again c' => c'.quiet = true ∧ codeAny (model X.prog X.w) A c' R s') (fun e s' => R (.error e) s') { s with heap := h0 } := by
  have hzl := Z.hz.lt
  have ne : ∀ {b : Addr}, b < s.heap.objs.size → L ≠ b := fun h => (Nat.ne_of_lt (Nat.lt_of_lt_of_le h hLs)).symm
  have hLz : L ≠ z := ne hzl
  have hLT : L ≠ TI := ne (Heap.lt_size Z.hTI)
  have hLO : L ≠ TO := by obtain ⟨_, _, q⟩ := Z.hTO; exact ne (Heap.lt_size q)
  have hL1 : L ∉ fp1 := fun q => ne (Z.lf1 _ q) rfl
  have hL2 : L ∉ fp2 := fun q => ne (Z.lf2 _ q) rfl
  have kz : ∀ {h : Heap}, (∀ b o, s.heap.get? b = some o → h.get? b = some o) → ZAt h z TI TO := fun {h} k => by
    rcases Z.hz with x | ⟨T, f, oT, x, e⟩
    · exact .inl (k _ _ x)
    · exact .inr ⟨T, f, oT, k _ _ x, k _ _ e⟩
  have ty : ∀ {h : Heap}, (∀ b o, s.heap.get? b = some o → h.get? b = some o) → Shared.TypeIs { s with heap := h } (.ref z) "zip" := fun k => ZAt.typeIs (s := { s with heap := _ }) (kz k)
  unfold Builtin.List.listExtendWith
  refine wpAny_bind (wpAny_typeOf (ty k0) ?_)
  have h1 : Builtin.List.listSameRef (.ref L) (.ref z) = false := by simp [Builtin.List.listSameRef, hLz]
  have h2 : (Value.type "zip" == Value.type "list") = false := by decide
  have h3 : (Value.type "zip" == Value.type "tuple") = false := by decide
  simp only [h1, h2, h3, Bool.or_false, Bool.false_eq_true, if_false]
  refine wpAny_bind (z_iter (s := { s with heap := h0 }) (kz k0) ?_)
  refine wpAny_bind (wpAny_holding ?_)
  unfold Builtin.List.listLengthHint
  refine wpAny_bind (wpAny_specialOf (ty k0) zip_no_len ?_)
  show wpAny _ A.in1 (specialOf (Value.ref z) (Str.ofString "__length_hint__") >>= _) _ _ _
  refine wpAny_bind (wpAny_specialOf (ty k0) zip_no_hint ?_)
  refine wpAny_pure ?_
  show wpAny _ A.in1 (rule "list.extend.makes-room" >>= fun _ => Builtin.List.listTouch (.ref L) >>= fun _ =>
    again (.builtin "list.extend.loop" ⟨[.ref L, .ref z, res], []⟩)) _ _ _
  refine wpAny_bind (wpAny_rule ?_)
  refine wpAny_bind ?_
  show wpAny _ A.in1 (updateSeq L (·.push .none) >>= fun _ => updateSeq L (·.pop)) _ _ _
  refine wpAny_bind (wpAny_updateSeq (s := { s with heap := h0 }) hS rfl ?_)
  have hS₂ := Heap.get?_update_self (Obj.mapSeq (·.push Value.none)) hS rfl
  refine wpAny_updateSeq (s := { s with heap := _ }) (hz := by seq_fits) hS₂ rfl ?_
  have hS₃ := Heap.get?_update_self (Obj.mapSeq (·.pop)) hS₂ rfl
  have oth : ∀ b o, s.heap.get? b = some o → ((h0.update L (Obj.mapSeq (·.push Value.none))).update L (Obj.mapSeq (·.pop))).get? b = some o :=
    fun b o e => by
      have hb : L ≠ b := ne (Heap.lt_size e)
      exact (Heap.get?_update_other _ _ hb).trans ((Heap.get?_update_other _ _ hb).trans (k0 _ _ e))
  have self : ∃ c1, ((h0.update L (Obj.mapSeq (·.push Value.none))).update L (Obj.mapSeq (·.pop))).get? L = some { cls := .type "list", data := .seq #[] c1 } := ⟨_, hS₃⟩
  clear hS₂ hS₃
  show wpAny _ A.in1 (again (.builtin "list.extend.loop" ⟨[.ref L, .ref z, res], []⟩)) _ _ { s with heap := (h0.update L (Obj.mapSeq (·.push Value.none))).update L (Obj.mapSeq (·.pop)) }
  generalize (h0.update L (Obj.mapSeq (·.push Value.none))).update L (Obj.mapSeq (·.pop)) = h1 at oth self
  obtain ⟨c1, self⟩ := self
  have I1 : Inv X pins σ (upd H L (.lst [])) { s with heap := h1 } := I.laid (t' := s.toks) oth hLs ⟨Nat.zero_le _, [], c1, .nil, self⟩
  have hn0 : H L = none := I.hok.fresh hLs
  refine wpAny_pure ⟨plainId_quiet F.plain_extend_loop _, z_loop Z.S (Z.D1 _ hA) (Z.D2 _ hA) Z.rv Z.rv2 Z.hn hL1 hL2 hLz hLT hLO res _ 0 { s with heap := h1 } _ [] rfl (Nat.zero_le _) I1 (kz oth) (oth _ _ Z.hTI) (by obtain ⟨a, b, e⟩ := Z.hTO; exact ⟨a, b, oth _ _ e⟩)
    ((Z.D1 A hA).frame _ _ _ Z.st1 fun b _ o e => oth b o e) ((Z.D2 A hA).frame _ _ _ Z.st2 fun b _ o e => oth b o e) (fun c hc => ⟨?_, (Z.hf c hc).2⟩) upd_same rfl (fun j v e => by simp at e) fun s' H' acc' he I' kp hl' al pp => ?_⟩
  · rw [upd_ne (fun q => ?_)]; exact (Z.hf c hc).1
    have : c = z ∨ c = TO ∨ c = i1 ∨ c = i2 := by simpa using hc
    rcases this with e | e | e | e
    · exact hLz (by rw [← q, e])
    · exact hLO (by rw [← q, e])
    · exact hL1 (by rw [← q, e]; exact Z.S.mem1)
    · exact hL2 (by rw [← q, e]; exact Z.S.mem2)
  · obtain ⟨h3, t3, rfl⟩ := he
    obtain ⟨_, us, c, rA, eL⟩ := I'.hok _ _ hl'
    refine hR _ us ⟨H', acc', ⟨h3, t3, rfl⟩, I', fun b o e => kp b o (ne_of_none e hn0) (by rw [upd_ne (ne_of_none e hn0)]; exact e), rA, al, pp, hn0, hl'⟩ ⟨c, eL⟩
/-- list(zip) -/
theorem call_listZ {A : Around} {E : Value → Shared → Prop} {Q : Value → Shared → Prop} (hA : A.handled = none) (I : Inv X pins σ H s) (Z : ZRdy X pins H s z TI TO i1 i2 fp1 fp2 xs ys its its2 St1 St2)
    (hQ : ∀ s' us p, ZPost X pins σ H xs ys (min its.length its2.length) s s' us p → Q (.ref p) s') :
    wpAny (model X.prog X.w) A (call (.type "list") [.ref z]) Q E s := by
  refine callType_codes (Q₁ := fun obj s₁ => obj = .ref s.heap.objs.size ∧ s₁ = { s with heap := s.heap.push { cls := .type "list", data := .seq #[] } }) F.called_list (F.typeCall_list_1 _) F.entry_list_init
    (code_list_new _ ⟨rfl, rfl⟩) fun obj s₁ h₁ => ?_
  obtain ⟨rfl, rfl⟩ := h₁
  have hS : (s.heap.push { cls := .type "list", data := .seq #[] }).get? s.heap.objs.size = some { cls := .type "list", data := .seq #[] } := Heap.get?_push_size _ rfl
  refine ⟨⟨_, hS, rfl⟩, F.args_list_init_2 _ _, ?_⟩
  show wpAny _ A.in1.in1 (do let old ← Builtin.List.listItems (.ref s.heap.objs.size); Builtin.List.listUpdate (.ref s.heap.objs.size) (fun _ => #[]); letGo old.toList.reverse; Builtin.List.listExtendWith (.ref s.heap.objs.size) (.ref z) .none) _ _ _
  refine wpAny_bind ?_
  unfold Builtin.List.listItems
  refine wpAny_bind (wpAny_seqItems (s := { s with heap := _ }) hS rfl (wpAny_pure ?_))
  show wpAny _ A.in1.in1 (updateSeq s.heap.objs.size (fun _ => #[]) >>= fun _ => letGo (#[] : Array Value).toList.reverse >>= fun _ => Builtin.List.listExtendWith (.ref s.heap.objs.size) (.ref z) .none) _ _ _
  refine wpAny_bind (wpAny_updateSeq (s := { s with heap := _ }) hS rfl ?_)
  have hS₂ := Heap.get?_update_self (Obj.mapSeq (fun _ => (#[] : Array Value))) hS rfl
  have k0 : ∀ b o, s.heap.get? b = some o → ((s.heap.push { cls := .type "list", data := .seq #[] }).update s.heap.objs.size (Obj.mapSeq (fun _ => (#[] : Array Value)))).get? b = some o :=
    fun b o e => (Heap.get?_update_other _ _ (Nat.ne_of_gt (Heap.lt_size e))).trans (Heap.get?_push_of_some _ e)
  refine wpAny_bind (wpAny_letGo ?_)
  exact z_extend (A := A.in1) (R := wants (fun r s₂ => r = .none ∧ Q (.ref s.heap.objs.size) s₂) E) hA I Z (Nat.le_refl _) .none k0 hS₂ fun s' us hp hl => ⟨rfl, hQ s' us _ hp⟩
theorem z_collect {A : Around} {E : Value → Shared → Prop} {Q : List Value → Shared → Prop} (hA : A.handled = none) (I : Inv X pins σ H s) (Z : ZRdy X pins H s z TI TO i1 i2 fp1 fp2 xs ys its its2 St1 St2)
    (hQ : ∀ s' us L, ZPost X pins σ H xs ys (min its.length its2.length) s s' us L → Q us s') :
    wpAny (model X.prog X.w) A (collect (.ref z)) Q E s := by
  unfold collect
  refine wpAny_bind (wpAny_runValue (codeAny_builtin F.entry_proto_collect ?_))
  rw [Around.under_plainId F.plain_proto_collect _]
  show wpAny _ A.in1 (newList [] >>= fun l => again (.builtin "list.__iadd__" ⟨[l, .ref z], []⟩)) _ _ s
  refine wpAny_bind (wpAny_newObj_type ?_)
  refine wpAny_pure ⟨plainId_quiet F.plain_list_iadd _, codeAny_builtin F.entry_list_iadd ?_⟩
  rw [Around.under_plainId F.plain_list_iadd _]
  show wpAny _ A.in1 (Builtin.List.listExtendWith (.ref s.heap.objs.size) (.ref z) (.ref s.heap.objs.size)) _ _ _
  have hS₁ : (s.heap.push { cls := .type "list", data := .seq ([] : List Value).toArray }).get? s.heap.objs.size = some { cls := .type "list", data := .seq ([] : List Value).toArray } := Heap.get?_push_size _ rfl
  refine z_extend (A := A) (R := fun r s' => match r with | .ok (.ret v) => wpAny (model X.prog X.w) A (match v with | .ref a => do { let o ← load a; match o.data with | .seq xs _ => pure xs.toList | _ => unsupported "internal:collect" } | _ => unsupported "internal:collect") Q E s' | .ok _ => False | .error e => E e s') hA I Z (Nat.le_refl _) _ (fun b o e => Heap.get?_push_of_some _ e) hS₁ fun s' us hp hl => ?_
  obtain ⟨c', hl⟩ := hl
  show wpAny _ A (load s.heap.objs.size >>= _) _ _ s'
  refine wpAny_bind (wpAny_load hl ?_)
  exact wpAny_pure (hQ s' us _ hp)
end
end ZP
set_option Elab.async false
set_option linter.all false
set_option maxRecDepth 100000
set_option maxHeartbeats 4000000
namespace ZP
open PySem PySem.Spec PyProof.Rows L2 FX RM PB
open PySem.Sem (wp)
section
variable {X : Cx} {pins : List (Addr × Obj)} {σ : L2.St} {z TI TO i1 i2 : Addr} {fp1 fp2 : List Addr} {xs ys : List V} {its its2 : List Value} {St1 St2 : Nat → Heap → Prop} {H : Hp} {s : Shared}
theorem code_tupleZ {A : Around} {E : Value → Shared → Prop} {Q₁ : Value → Shared → Prop} (hA : A.handled = none) (I : Inv X pins σ H s) (Z : ZRdy X pins H s z TI TO i1 i2 fp1 fp2 xs ys its its2 St1 St2)
    (h : ∀ s' us L, ZPost X pins σ H xs ys (min its.length its2.length) s s' us L → Q₁ (.ref s'.heap.objs.size) { s' with heap := s'.heap.push { cls := .type "tuple", data := .seq us.toArray } }) :
    codeAny (model X.prog X.w) A (.call (.builtin "tuple.__new__") ⟨[.type "tuple", .ref z], []⟩) (wants Q₁ E) s := by
  refine codeAny_of_tree ?_
  show wpAny _ A.in1 (do checkBuiltinCall "tuple.__new__" ⟨[.type "tuple", .ref z], []⟩; again (.builtin "tuple.__new__" ⟨[.type "tuple", .ref z], []⟩)) _ _ s
  refine wpAny_bind (wpAny_of_eq (F.newCall_tuple_1 _) (wpAny_pure ⟨plainId_quiet F.plain_tuple_new _, codeAny_builtin F.entry_tuple_new ?_⟩))
  rw [Around.under_plainId F.plain_tuple_new _]
  have hsub := sub_tuple_self
  have hinit := init_tuple_lookup
  have hmh := madeHere_tuple
  have hTI := Z.hz.typeIs
  have hcol : ∀ {A' : Around} {E : Value → Shared → Prop} {Q : List Value → Shared → Prop}, A'.handled = none → (∀ s' us L, ZPost X pins σ H xs ys (min its.length its2.length) s s' us L → Q us s') → wpAny (model X.prog X.w) A' (collect (.ref z)) Q E s := fun a b => z_collect a I Z b
  wp_walk using wpAny_typeOf hTI, hcol (show A.in1.handled = none from hA)
  intro s' us L hp
  show wpAny _ _ (Builtin.Tuple.tupleExact us.toArray >>= fun v => ret v) _ _ _
  unfold Builtin.Tuple.tupleExact
  have hm : us.length ≤ sizeLine := by
    obtain ⟨H', acc, _, _, _, rA, al, _⟩ := hp
    have := rA.length
    have := Z.hn
    omega
  refine wpAny_bind (wpAny_newObj_type ?_ (by show us.toArray.size ≤ sizeLine; simpa using hm))
  refine wpAny_pure ?_
  exact h s' us L hp
theorem call_tupleZ {A : Around} {E : Value → Shared → Prop} {Q : Value → Shared → Prop} (hA : A.handled = none) (I : Inv X pins σ H s) (Z : ZRdy X pins H s z TI TO i1 i2 fp1 fp2 xs ys its its2 St1 St2)
    (hQ : ∀ s' us L, ZPost X pins σ H xs ys (min its.length its2.length) s s' us L → Q (.ref s'.heap.objs.size) { s' with heap := s'.heap.push { cls := .type "tuple", data := .seq us.toArray } }) :
    wpAny (model X.prog X.w) A (call (.type "tuple") [.ref z]) Q E s := by
  refine callType_codes (Q₁ := fun obj s₁ => s₁.TypeIs obj "tuple" ∧ Q obj s₁) F.called_tuple (F.typeCall_tuple_1 _) F.entry_object_init
    (code_tupleZ (A := A.in1) hA I Z fun s' us L hp => ⟨⟨_, Heap.get?_push_size _ rfl, rfl⟩, hQ s' us L hp⟩) fun obj s₁ h₁ => ?_
  exact ⟨h₁.1, F.args_object_init_2 obj _, object_init_meets F.called_tuple.init.lookup F.called_tuple.made (by decide) X.prog X.w A.in1 _ s₁ ⟨h₁.1, rfl, h₁.2⟩⟩
theorem side {a : Addr} (I : Inv X pins σ H s) (h : SqL X.K H a xs ∨ SqT X.K H a xs) : ∃ (its : List Value) (o : Obj) (Hq : Heap → Prop) (St : Addr → Nat → Heap → Prop), Vals xs its ∧ its.length ≤ sizeLine ∧ Begins (.ref a) o Hq ∧ Hq s.heap ∧ a < s.heap.objs.size ∧
    (∀ it, a ≠ it → ∀ A : Around, A.handled = none → Draws X.prog X.w A it [it, a] its.length (fun i v => its[i]? = some v) (St it)) ∧ (∀ it h', h'.get? it = some o → Hq h' → St it 0 h') := by
  rcases h with h | h
  · obtain ⟨its, rv, p, hz⟩ := I.list h
    refine ⟨its, _, _, fun it i h => h.IsListIter it a i ∧ h.IsList a its.toArray, rv, by rw [← rv.length]; exact hz, begins_list a its.toArray, p.isList, p.lt, fun it ne A hA => ?_, fun it h' e q => ⟨⟨_, e, rfl, rfl⟩, q⟩⟩
    have D := Draws.list (prog := X.prog) (w := X.w) (A := A) hA it a ne its.toArray
    simpa using D
  · obtain ⟨its, rv, p, hz⟩ := I.tuple h
    obtain ⟨o1, ho1, _⟩ := id p
    refine ⟨its, _, _, fun it i h => h.IsTupleIter it a i ∧ h.IsTuple a its.toArray, rv, by rw [← rv.length]; exact hz, begins_tuple a its.toArray, p, Heap.lt_size ho1, fun it ne A hA => ?_, fun it h' e q => ⟨⟨_, e, rfl, rfl⟩, q⟩⟩
    have D := Draws.tuple (prog := X.prog) (w := X.w) (A := A) hA it a ne its.toArray
    simpa using D
/-- the call of zip: what stands ready then -/
theorem call_zipZ {A : Around} {E : Value → Shared → Prop} {Q : Value → Shared → Prop} {a b : Addr} (I : Inv X pins σ H s) (ha : SqL X.K H a xs ∨ SqT X.K H a xs) (hb : SqL X.K H b ys ∨ SqT X.K H b ys)
    (h : ∀ h' z TI TO i1 i2 fp1 fp2 its its2 St1 St2, Inv X pins σ H { s with heap := h' } → ZRdy X pins H { s with heap := h' } z TI TO i1 i2 fp1 fp2 xs ys its its2 St1 St2 → IsZip h' z TI TO .none → Q (.ref z) { s with heap := h' }) :
    wpAny (model X.prog X.w) A (call (.type "zip") [.ref a, .ref b]) Q E s := by
  obtain ⟨its, o1, H1, S1, rv, z1, B1, h1, l1, D1, g1⟩ := side I ha
  obtain ⟨its2, o2, H2, S2, rv2, z2, B2, h2, l2, D2, g2⟩ := side I hb
  refine zip_begins2 B1 B2 h1 h2 fun h' hz hTI hTO e1 e2 hsz hk => ?_
  have I2 : Inv X pins σ H { s with heap := h' } := I.kept (t' := s.toks) hk
  have fr : ∀ c, s.heap.objs.size ≤ c → FpOk X pins H c := fun c hc => I.fpOk hc (I.hok.fresh hc)
  have na : a ≠ s.heap.objs.size := Nat.ne_of_lt l1
  have nb : b ≠ s.heap.objs.size + 1 := Nat.ne_of_lt (Nat.lt_of_lt_of_le l2 (Nat.le_add_right _ _))
  have q : ∀ {c : Addr} {k : Nat}, c < s.heap.objs.size → s.heap.objs.size + k ≠ c := fun h => (Nat.ne_of_lt (Nat.lt_of_lt_of_le h (Nat.le_add_right _ _))).symm
  have qn : ∀ {i j : Nat}, i ≠ j → s.heap.objs.size + i ≠ s.heap.objs.size + j := fun h e => h (Nat.add_left_cancel e)
  have q0 : ∀ {i : Nat}, i ≠ 0 → s.heap.objs.size + i ≠ s.heap.objs.size := fun h e => h (Nat.add_left_cancel (e.trans (Nat.add_zero _).symm))
  refine h h' (s.heap.objs.size + 4) (s.heap.objs.size + 2) (s.heap.objs.size + 3) s.heap.objs.size (s.heap.objs.size + 1) [s.heap.objs.size, a] [s.heap.objs.size + 1, b] its its2 _ _ I2
    ⟨⟨qn (by decide), qn (by decide), qn (by decide), q0 (by decide), by simp, ?_, ?_, qn (by decide), by simp, ?_, ?_, ?_, ?_⟩, fun A hA => D1 _ na A hA, fun A hA => D2 _ nb A hA, rv, rv2, z1, .inl hz, hTI, ⟨_, _, hTO⟩, g1 _ _ e1 (B1.keeps _ _ h1 hk), g2 _ _ e2 (B2.keeps _ _ h2 hk), ?_, ?_, ?_⟩ hz
  · intro m
    rcases List.mem_cons.mp m with e | e
    · exact q0 (by decide) e
    · exact q l1 (List.mem_singleton.mp e)
  · intro m
    rcases List.mem_cons.mp m with e | e
    · exact q0 (by decide) e
    · exact q l1 (List.mem_singleton.mp e)
  · intro m
    rcases List.mem_cons.mp m with e | e
    · exact qn (by decide) e
    · exact q l2 (List.mem_singleton.mp e)
  · intro m
    rcases List.mem_cons.mp m with e | e
    · exact qn (by decide) e
    · exact q l2 (List.mem_singleton.mp e)
  · intro m
    rcases List.mem_cons.mp m with e | e
    · exact q0 (by decide) e.symm
    · exact Nat.ne_of_gt l2 (List.mem_singleton.mp e)
  · intro m
    rcases List.mem_cons.mp m with e | e
    · exact q0 (by decide) e
    · exact q l1 (List.mem_singleton.mp e)
  · intro c hc
    refine fr c ?_
    have : c = s.heap.objs.size + 4 ∨ c = s.heap.objs.size + 3 ∨ c = s.heap.objs.size ∨ c = s.heap.objs.size + 1 := by simpa using hc
    rcases this with e | e | e | e <;> rw [e]
    · exact Nat.le_add_right _ _
    · exact Nat.le_add_right _ _
    · exact Nat.le_refl _
    · exact Nat.le_add_right _ _
  · intro c hc
    show c < h'.objs.size
    rw [hsz]
    rcases List.mem_cons.mp hc with e | e
    · rw [e]; exact Nat.lt_add_of_pos_right (by decide)
    · rw [List.mem_singleton.mp e]; exact Nat.lt_of_lt_of_le l1 (Nat.le_add_right _ _)
  · intro c hc
    show c < h'.objs.size
    rw [hsz]
    rcases List.mem_cons.mp hc with e | e
    · rw [e]; exact Nat.add_lt_add_left (by decide) _
    · rw [List.mem_singleton.mp e]; exact Nat.lt_of_lt_of_le l2 (Nat.le_add_right _ _)
end
/-- list(zip(a, b)), tuple(zip(a, b)) -/
def tZip (K : PySem.W.Frag) (mk : List V → HO) (ta : TA) : TE := fun σ H Q => ta σ H fun vs H1 => ∃ a b xs ys, vs = [.ref a, .ref b] ∧ (SqL K H1 a xs ∨ SqT K H1 a xs) ∧ (SqL K H1 b ys ∨ SqT K H1 b ys) ∧
  ∀ H2 p acc, Same H1 H2 → H1 p = none → H2 p = some (mk acc) → acc.length = min xs.length ys.length → Pairs H2 xs ys acc → Q (.ref p) H2
section
variable {X : Cx} {e e2 : Expr} {ta : TA} {p p2 q pos : Pos}
theorem pe_listZip (hg : Gl X "list") (hm : X.mg "list" = none) (hg2 : Gl X "zip") (hm2 : X.mg "zip" = none) (ha : PA X [e, e2] ta) (hc : X.calm = true := by rfl)
    (na : starEach [.Call (.Name "zip" p2) [e, e2] [] q] X.env = (false, eval (.Call (.Name "zip" p2) [e, e2] [] q) X.env) :: starEach [] X.env := by rfl)
    (hs : starEach [e, e2] X.env = (false, eval e X.env) :: starEach [e2] X.env := by rfl) (hpl : (backTo q (starEach [e2] X.env)).any (·.1) = false := by rfl) :
    PE X (.Call (.Name "list" p) [.Call (.Name "zip" p2) [e, e2] [] q] [] pos) (tZip X.K .lst ta) := by
  refine ⟨fun pins s σ H Q I h => ?_⟩
  refine Call_ (ld_blt I hg hm boot_list (PyProof.Rows.callWith_type1 (PyProof.Rows.args_cons ?_ na) na rfl))
  refine Call_ (ld_blt I hg2 hm2 PyProof.Rows.boot_zip (PyProof.Rows.callWith_type1 (thn (ha.run q pins s σ H _ I h) fun us s1 ⟨vs, H1, I1, r1, q1⟩ => ?_) hs hpl))
  obtain ⟨a, b, xs, ys, ex, sa, sb, q1⟩ := q1
  subst ex
  cases r1 with
  | cons r rr =>
    cases rr with
    | cons r' rr =>
      cases rr
      cases r
      cases r'
      refine call_zipZ I1 sa sb fun h' z TI TO i1 i2 fp1 fp2 its its2 St1 St2 I2 Z _ => ?_
      refine PyProof.Rows.args_nil ?_
      refine call_listZ (I2.ok.hd hc) I2 Z fun s' us p ⟨H', acc, he, I', kp, rA, al, pp, n0, hl⟩ => ?_
      obtain ⟨h3, t3, rfl⟩ := he
      exact ⟨.ref p, H', I', rfl, q1 H' p acc kp n0 hl (by rw [al, Z.rv.length, Z.rv2.length]) pp⟩
theorem pe_tupleZip (hg : Gl X "tuple") (hm : X.mg "tuple" = none) (hg2 : Gl X "zip") (hm2 : X.mg "zip" = none) (ha : PA X [e, e2] ta) (hc : X.calm = true := by rfl)
    (na : starEach [.Call (.Name "zip" p2) [e, e2] [] q] X.env = (false, eval (.Call (.Name "zip" p2) [e, e2] [] q) X.env) :: starEach [] X.env := by rfl)
    (hs : starEach [e, e2] X.env = (false, eval e X.env) :: starEach [e2] X.env := by rfl) (hpl : (backTo q (starEach [e2] X.env)).any (·.1) = false := by rfl) :
    PE X (.Call (.Name "tuple" p) [.Call (.Name "zip" p2) [e, e2] [] q] [] pos) (tZip X.K .tup ta) := by
  refine ⟨fun pins s σ H Q I h => ?_⟩
  refine Call_ (ld_blt I hg hm (show bootBuiltins "tuple" = some (.type "tuple") by decide +kernel) (PyProof.Rows.callWith_type1 (PyProof.Rows.args_cons ?_ na) na rfl))
  refine Call_ (ld_blt I hg2 hm2 PyProof.Rows.boot_zip (PyProof.Rows.callWith_type1 (thn (ha.run q pins s σ H _ I h) fun us s1 ⟨vs, H1, I1, r1, q1⟩ => ?_) hs hpl))
  obtain ⟨a, b, xs, ys, ex, sa, sb, q1⟩ := q1
  subst ex
  cases r1 with
  | cons r rr =>
    cases rr with
    | cons r' rr =>
      cases rr
      cases r
      cases r'
      refine call_zipZ I1 sa sb fun h' z TI TO i1 i2 fp1 fp2 its its2 St1 St2 I2 Z _ => ?_
      refine PyProof.Rows.args_nil ?_
      refine call_tupleZ (I2.ok.hd hc) I2 Z fun s' us L ⟨H', acc, he, I', kp, rA, al, pp, n0, hl⟩ => ?_
      obtain ⟨h3, t3, rfl⟩ := he
      have nf : H' h3.objs.size = none := I'.hok.fresh (Nat.le_refl _)
      have n1 : H1 h3.objs.size = none := by
        cases e : H1 h3.objs.size with
        | none => rfl
        | some o => rw [kp _ _ e] at nf; cases nf
      have I3 : Inv X pins σ (upd H' h3.objs.size (.tup acc)) { s1 with heap := h3.push { cls := .type "tuple", data := .seq us.toArray }, toks := t3 } :=
        I'.laid (t' := t3) (fun b o e => Heap.get?_push_of_some _ e) (Nat.le_refl _) ⟨by have := Z.hn; have := rA.length; omega, us, rA, IsTup.new _ _⟩
      exact ⟨.ref h3.objs.size, _, I3, rfl, q1 _ _ acc (fun b o e => by rw [upd_ne (ne_of_none (kp b o e) nf)]; exact kp b o e) n1 upd_same (by rw [al, Z.rv.length, Z.rv2.length])
        (pp.mono fun T u e => by rw [upd_ne (ne_of_none e nf)]; exact e)⟩
end
end ZP
set_option Elab.async false
set_option linter.all false
set_option maxRecDepth 100000
set_option maxHeartbeats 4000000
/-! a walk over zip(a, b), a list or tuple each, the couples unpacked -/
namespace ZP
open PySem PySem.Spec PyProof.Rows L2 FX RM PB
open PySem.Sem (wp)
def SqE (K : PySem.W.Frag) (k : Bool) (H : Hp) (a : Addr) (xs : List V) : Prop := match k with | true => SqT K H a xs | false => SqL K H a xs
def IterE (k : Bool) (h : Heap) (it a : Addr) (i : Nat) : Prop := match k with | true => h.IsTupleIter it a i | false => h.IsListIter it a i
def SeqE (k : Bool) (h : Heap) (a : Addr) (its : List Value) : Prop := match k with | true => h.IsTuple a its.toArray | false => h.IsList a its.toArray
def oE (k : Bool) (a : Addr) : Obj := match k with | true => { cls := .type "tuple_iterator", data := .fields #[.ref a, .int 0 0] } | false => { cls := .type "list_iterator", data := .fields #[.ref a, .int 0 0] }
section
variable {X : Cx} {pins : List (Addr × Obj)} {σ : L2.St} {H : Hp} {s : Shared} {xs ys : List V} {a : Addr} {k : Bool}
theorem sideE (I : Inv X pins σ H s) (h : SqE X.K k H a xs) : ∃ its : List Value, Vals xs its ∧ Begins (.ref a) (oE k a) (fun h => SeqE k h a its) ∧ SeqE k s.heap a its ∧ a < s.heap.objs.size ∧
    (∀ it, a ≠ it → ∀ A : Around, A.handled = none → Draws X.prog X.w A it [it, a] its.length (fun i v => its[i]? = some v) (fun i h => IterE k h it a i ∧ SeqE k h a its)) := by
  cases k with
  | false =>
    obtain ⟨its, rv, p, hz⟩ := I.list h
    refine ⟨its, rv, begins_list a its.toArray, p.isList, p.lt, fun it ne A hA => ?_⟩
    have D := Draws.list (prog := X.prog) (w := X.w) (A := A) hA it a ne its.toArray
    refine ⟨D.live, D.frame, fun i s Q E hi st hQ => D.item i s Q E (by simpa using hi) st fun x h' tk e => hQ x h' tk (by simpa using e), fun s Q E st hE => D.done s Q E (by rw [List.size_toArray]; exact st) hE⟩
  | true =>
    obtain ⟨its, rv, p, hz⟩ := I.tuple h
    obtain ⟨o1, ho1, _⟩ := id p
    refine ⟨its, rv, begins_tuple a its.toArray, p, Heap.lt_size ho1, fun it ne A hA => ?_⟩
    have D := Draws.tuple (prog := X.prog) (w := X.w) (A := A) hA it a ne its.toArray
    refine ⟨D.live, D.frame, fun i s Q E hi st hQ => D.item i s Q E (by simpa using hi) st fun x h' tk e => hQ x h' tk (by simpa using e), fun s Q E st hE => D.done s Q E (by rw [List.size_toArray]; exact st) hE⟩
theorem inj_E (I : Inv X pins σ H s) (h : SqE X.K k H a xs) (h' : SqE X.K k H a ys) : xs = ys := by
  cases k with
  | false => exact I.list_inj h h'
  | true => exact I.tuple_inj h h'
end
theorem IterE.at {k : Bool} {h h' : Heap} {it a : Addr} {i : Nat} (x : IterE k h it a i) (e : ∀ o, h.get? it = some o → h'.get? it = some o) : IterE k h' it a i := by
  cases k with
  | false => exact Heap.IsListIter.at x e
  | true => exact Heap.IsTupleIter.at x e
theorem IterE.ex {k : Bool} {h : Heap} {it a : Addr} {i : Nat} (x : IterE k h it a i) : ∃ o, h.get? it = some o ∧ ∀ v, o.data ≠ .cell v := by
  cases k with
  | false => obtain ⟨o, e, _, d⟩ := x; exact ⟨o, e, fun v q => by rw [d] at q; cases q⟩
  | true => obtain ⟨o, e, _, d⟩ := x; exact ⟨o, e, fun v q => by rw [d] at q; cases q⟩
theorem IterE.new {k : Bool} {h : Heap} {it a : Addr} (e : h.get? it = .some (oE k a)) : IterE k h it a 0 := by
  cases k with
  | false => exact ⟨_, e, rfl, rfl⟩
  | true => exact ⟨_, e, rfl, rfl⟩
/-- the sequences at a and b as they stand at each turn, the items in new pairs -/
def ItzG (K : PySem.W.Frag) (ka kb : Bool) (a b : Addr) : It :=
  ⟨fun i H => ∃ (xs ys : List V) (x y : V), SqE K ka H a xs ∧ SqE K kb H b ys ∧ xs[i]? = some x ∧ ys[i]? = some y,
    fun i H v H' => ∃ T x y, v = .ref T ∧ H T = none ∧ H' = upd H T (.tup [x, y]) ∧ (∀ xs, SqE K ka H a xs → xs[i]? = some x) ∧ ∀ ys, SqE K kb H b ys → ys[i]? = some y,
    fun i H => ∃ xs ys : List V, SqE K ka H a xs ∧ SqE K kb H b ys ∧ i = min xs.length ys.length⟩
theorem turn_zipG {P : Program} {w : World} {K : PySem.W.Frag} {elts : List Expr} {kk : Nat} {tpos : Pos} {ka kb : Bool} {a b z TI TO i1 i2 : Addr} (S : ZipSep2 z TI TO i1 i2 [i1, a] [i2, b]) (na : a ≠ i1) (nb : b ≠ i2) :
    Turn P w K (.Tuple elts kk tpos) (ItzG K ka kb a b) [z, TI, TO, i1, i2] z (fun i h => IsZip h z TI TO .none ∧ IsPair h TI (.ref i1) (.ref i2) ∧ (∃ x y, IsPair h TO x y) ∧ IterE ka h i1 a i ∧ IterE kb h i2 b i) where
  mem := by simp
  obj := fun i h st c hc => by
    obtain ⟨hz, hTI, ⟨x, y, hTO⟩, d1, d2⟩ := st
    have e' : c = z ∨ c = TI ∨ c = TO ∨ c = i1 ∨ c = i2 := by simpa using hc
    rcases e' with q | q | q | q | q
    · rw [q]; exact ⟨_, hz, fun v q => nomatch q⟩
    · rw [q]; exact ⟨_, hTI, fun v q => nomatch q⟩
    · rw [q]; exact ⟨_, hTO, fun v q => nomatch q⟩
    · rw [q]; exact d1.ex
    · rw [q]; exact d2.ex
  keep := fun i h h' st k => by
    obtain ⟨hz, hTI, ⟨x, y, hTO⟩, h1, h2⟩ := st
    exact ⟨k z (by simp) _ hz, k TI (by simp) _ hTI, ⟨x, y, k TO (by simp) _ hTO⟩, h1.at fun o q => k i1 (by simp) o q, h2.at fun o q => k i2 (by simp) o q⟩
  item := by
    intro X hP hw hK hc i pins s σ H E I hf st hg
    subst hP hw hK
    obtain ⟨hz, hTI, ⟨x0, y0, hTO⟩, h1, h2⟩ := st
    obtain ⟨xs, ys, x, y, hqx, hqy, hx, hy⟩ := hg
    obtain ⟨its, rv, _, p, _, D1⟩ := sideE I hqx
    obtain ⟨its2, rv2, _, p2, _, D2⟩ := sideE I hqy
    obtain ⟨u, hu, ru⟩ := rv.get hx
    obtain ⟨u2, hu2, ru2⟩ := rv2.get hy
    have e1 : its[i]? = some u := hu
    have e2 : its2[i]? = some u2 := hu2
    have hzl : z < s.heap.objs.size := Heap.lt_size hz
    have h0 : X.A.in1.handled = none := I.ok.hd hc
    refine wpAny_pyNext_zipD2_item S (D1 i1 na _ h0) (D2 i2 nb _ h0) hz hTI hTO ⟨h1, p⟩ ⟨h2, p2⟩ (List.getElem?_eq_some_iff.mp hu).1 (List.getElem?_eq_some_iff.mp hu2).1 fun x1 x2 h' tk q1 q2 z' TO' g1 g2 hT hsz hk => ?_
    rw [e1] at q1; cases q1
    rw [e2] at q2; cases q2
    refine ⟨_, rfl, wpAny_letOwnedTupleGo_zip (s := { s with heap := h', toks := tk }) z' fun h'' z'' sb => ?_⟩
    replace sb : Heap.SameBut z h' h'' := sb
    have hT2 : h''.get? s.heap.objs.size = some { cls := .type "tuple", data := .seq #[u, u2] } := (sb.2 _ (Nat.ne_of_gt hzl)).trans hT
    have new : ObjOk X.prog X.w (upd H s.heap.objs.size (.tup [x, y])) h'' s.heap.objs.size (.tup [x, y]) :=
      ⟨by show 2 ≤ sizeLine; decide, [u, u2], .cons ru (.cons ru2 .nil), ⟨_, hT2, rfl, _, rfl⟩⟩
    have I1 : Inv X pins σ (upd H s.heap.objs.size (.tup [x, y])) { s with heap := h'', toks := tk } :=
      I.turnedNew (t' := tk) (ch := [z, TI, TO, i1, i2]) (fun c o hb q => (sb.2 c (fun q' => hb (by simp [q']))).trans (hk c o (fun q' => hb (by simp [q'])) (fun q' => hb (by simp [q'])) (fun q' => hb (by simp [q'])) (fun q' => hb (by simp [q'])) q)) hf (Nat.le_refl _) new
    refine ⟨.ref s.heap.objs.size, _, I1, rfl, ⟨_, x, y, rfl, I.hok.fresh (Nat.le_refl _), rfl, fun l hl => by rw [inj_E I hl hqx]; exact hx, fun l hl => by rw [inj_E I hl hqy]; exact hy⟩, ⟨z'', ?_, ⟨u, u2, ?_⟩, ?_, ?_⟩, fun c hcm => ?_⟩
    · exact (sb.2 _ S.TIz).trans (hk _ _ S.TIz S.TITO S.TIi1 S.TIi2 hTI)
    · exact (sb.2 _ S.TOz).trans TO'
    · exact g1.1.at fun o q => (sb.2 _ S.zi1.symm).trans q
    · exact g2.1.at fun o q => (sb.2 _ S.zi2.symm).trans q
    · have hlt : c < s.heap.objs.size := by
        have e' : c = z ∨ c = TI ∨ c = TO ∨ c = i1 ∨ c = i2 := by simpa using hcm
        rcases e' with q | q | q | q | q
        · rw [q]; exact hzl
        · rw [q]; exact Heap.lt_size hTI
        · rw [q]; exact Heap.lt_size hTO
        · rw [q]; obtain ⟨_, e1, _⟩ := h1.ex; exact Heap.lt_size e1
        · rw [q]; obtain ⟨_, e2, _⟩ := h2.ex; exact Heap.lt_size e2
      rw [upd_ne (Nat.ne_of_lt hlt)]
      exact (hf c hcm).1
  done := by
    intro X hP hw hK hc i pins s σ H E I hf st hg
    subst hP hw hK
    obtain ⟨hz, hTI, ⟨x0, y0, hTO⟩, h1, h2⟩ := st
    obtain ⟨xs, ys, hqx, hqy, hend⟩ := hg
    obtain ⟨its, rv, _, p, _, D1⟩ := sideE I hqx
    obtain ⟨its2, rv2, _, p2, _, D2⟩ := sideE I hqy
    have l1 := rv.length
    have l2 := rv2.length
    have h0 : X.A.in1.handled = none := I.ok.hd hc
    exact wpAny_pyNext_zipD2_end S (D1 i1 na _ h0) (D2 i2 nb _ h0) hz hTI hTO ⟨h1, p⟩ ⟨h2, p2⟩ (by omega) (by omega) (by omega) fun h' tk hk => ⟨rfl, I.turnedL (t' := tk) (ch := [z, TI, TO, i1, i2]) (fun c o hb q =>
      hk c o (fun q' => hb (by simp [q'])) (fun q' => hb (by simp [q'])) (fun q' => hb (by simp [q'])) (fun q' => hb (by simp [q'])) q) hf⟩
  self := fun A i s Q E st h => wpAny_pyIter_zip st.1 h
def iZipG (K : PySem.W.Frag) (ta : TA) : TI := fun σ H R => ta σ H fun vs H1 => ∃ a b ka kb xs ys, vs = [.ref a, .ref b] ∧ SqE K ka H1 a xs ∧ SqE K kb H1 b ys ∧ R (ItzG K ka kb a b) H1
theorem pi_zipG {X : Cx} {e e2 : Expr} {ta : TA} {p pos tpos : Pos} {elts : List Expr} {kk : Nat} (hg : Gl X "zip") (hm : X.mg "zip" = none) (ha : PA X [e, e2] ta)
    (hs : starEach [e, e2] X.env = (false, eval e X.env) :: starEach [e2] X.env := by rfl) (hpl : (backTo pos (starEach [e2] X.env)).any (·.1) = false := by rfl) :
    PI X (.Tuple elts kk tpos) (.Call (.Name "zip" p) [e, e2] [] pos) (iZipG X.K ta) := by
  refine ⟨fun pins s σ H R I h => ?_⟩
  refine Call_ (ld_blt I hg hm PyProof.Rows.boot_zip (PyProof.Rows.callWith_type1 (thn (ha.run pos pins s σ H _ I h) fun us s1 ⟨vs, H1, I1, r1, q1⟩ => ?_) hs hpl))
  obtain ⟨a, b, ka, kb, xs, ys, ex, hqx, hqy, q⟩ := q1
  subst ex
  cases r1 with
  | cons r rr =>
    cases rr with
    | cons r' rr =>
      cases rr
      cases r
      cases r'
      obtain ⟨its, rv, B1, p1, l1, _⟩ := sideE I1 hqx
      obtain ⟨its2, rv2, B2, p2, l2, _⟩ := sideE I1 hqy
      refine zip_begins2 B1 B2 p1 p2 fun h' hz hTI hTO e1 e2 hsz hk => wpAny_pyIter_zip hz ?_
      have I2 : Inv X pins σ H1 { s1 with heap := h' } := I1.kept (t' := s1.toks) hk
      have fresh5 : ∀ c, c ∈ [s1.heap.objs.size + 4, s1.heap.objs.size + 2, s1.heap.objs.size + 3, s1.heap.objs.size, s1.heap.objs.size + 1] → FpOk X pins H1 c := fun c hcm => by
        have e' : c = s1.heap.objs.size + 4 ∨ c = s1.heap.objs.size + 2 ∨ c = s1.heap.objs.size + 3 ∨ c = s1.heap.objs.size ∨ c = s1.heap.objs.size + 1 := by simpa using hcm
        have hle : s1.heap.objs.size ≤ c := by
          rcases e' with z | z | z | z | z
          · rw [z]; exact Nat.le_add_right _ _
          · rw [z]; exact Nat.le_add_right _ _
          · rw [z]; exact Nat.le_add_right _ _
          · rw [z]; exact Nat.le_refl _
          · rw [z]; exact Nat.le_add_right _ _
        exact I1.fpOk hle (I1.hok.fresh hle)
      have na : a ≠ s1.heap.objs.size := Nat.ne_of_lt l1
      have nb : b ≠ s1.heap.objs.size + 1 := Nat.ne_of_lt (Nat.lt_of_lt_of_le l2 (Nat.le_add_right _ _))
      have q' : ∀ {c : Addr} {k : Nat}, c < s1.heap.objs.size → s1.heap.objs.size + k ≠ c := fun h => (Nat.ne_of_lt (Nat.lt_of_lt_of_le h (Nat.le_add_right _ _))).symm
      have qn : ∀ {i j : Nat}, i ≠ j → s1.heap.objs.size + i ≠ s1.heap.objs.size + j := fun h e => h (Nat.add_left_cancel e)
      have q0 : ∀ {i : Nat}, i ≠ 0 → s1.heap.objs.size + i ≠ s1.heap.objs.size := fun h e => h (Nat.add_left_cancel (e.trans (Nat.add_zero _).symm))
      have m1 : ∀ {c d1 d2 : Addr}, c ≠ d1 → c ≠ d2 → c ∉ [d1, d2] := fun h1 h2 m => by
        rcases List.mem_cons.mp m with e | e
        · exact h1 e
        · exact h2 (List.mem_singleton.mp e)
      have S : ZipSep2 (s1.heap.objs.size + 4) (s1.heap.objs.size + 2) (s1.heap.objs.size + 3) s1.heap.objs.size (s1.heap.objs.size + 1) [s1.heap.objs.size, a] [s1.heap.objs.size + 1, b] :=
        ⟨qn (by decide), qn (by decide), qn (by decide), q0 (by decide), by simp, m1 (q0 (by decide)) (q' l1), m1 (q0 (by decide)) (q' l1), qn (by decide), by simp, m1 (qn (by decide)) (q' l2), m1 (qn (by decide)) (q' l2), m1 (q0 (by decide)).symm (Nat.ne_of_gt l2), m1 (q0 (by decide)) (q' l1)⟩
      exact ⟨s1.heap.objs.size + 4, [s1.heap.objs.size + 4, s1.heap.objs.size + 2, s1.heap.objs.size + 3, s1.heap.objs.size, s1.heap.objs.size + 1], _, _, H1, rfl, I2, turn_zipG S na nb, ⟨hz, hTI, ⟨_, _, hTO⟩, IterE.new e1, IterE.new e2⟩, fresh5, q⟩
end ZP
set_option Elab.async false
set_option linter.all false
set_option maxRecDepth 100000
set_option maxHeartbeats 4000000
/-! a comprehension with a test, over any walk -/
namespace ZP
open PySem PySem.Spec PyProof.Rows L2 FX RM PB
theorem walk_zipG {K : PySem.W.Frag} {ka kb : Bool} {a b : Addr} {xs ys : List V} {n : Nat} (hn : n = min xs.length ys.length) : Walk (ItzG K ka kb a b) n (fun H => SqE K ka H a xs ∧ SqE K kb H b ys) (YPair (fun i => xs[i]?) (fun i => ys[i]?)) := by
  subst hn
  refine ⟨fun i _ hi q => ?_, fun _ q => ⟨xs, ys, q.1, q.2, rfl⟩, fun i H v H' _ q y => ?_⟩
  · have h1 : i < xs.length := by omega
    have h2 : i < ys.length := by omega
    exact ⟨xs, ys, xs[i], ys[i], q.1, q.2, by simp [h1], by simp [h2]⟩
  · obtain ⟨T, x, z, h1, h2, h3, h4, h5⟩ := y
    exact ⟨T, x, z, h1, h2, h3, h4 xs q.1, h5 ys q.2⟩
theorem SqE.same {K : PySem.W.Frag} {k : Bool} {H H' : Hp} {a : Addr} {xs : List V} (h : SqE K k H a xs) (s : Same H H') : SqE K k H' a xs := by
  cases k with
  | false => exact s.seq h
  | true => exact same_t s h
theorem filt_snoc {α : Type} (p : Nat → Bool) (f : Nat → α) (i : Nat) : ((List.range (i + 1)).filter p).map f = if p i = true then ((List.range i).filter p).map f ++ [f i] else ((List.range i).filter p).map f := by
  rw [List.range_succ, List.filter_append, List.map_append]
  cases e : p i with
  | true => rw [if_pos rfl]; simp [e]
  | false => rw [if_neg (by decide)]; simp [e]
/-- [e for x in walk if test], each e some data that holds no list -/
theorem lc_filter {K : PySem.W.Frag} {J : It} {n : Nat} {G : Hp → Prop} {Y : Nat → Hp → V → Hp → Prop} (w : Walk J n G Y) {g : TG} {tt : TT} {te : TE} {vs : List Nat} {σ : L2.St} {H : Hp} {Q : VK} (p : Nat → Bool) (f : Nat → PyData) (hn : ∀ i, noL (f i) = true) (hz : n < sizeLine)
    (hG : ∀ H', Same H H' → G H') (hY : ∀ i H0 x H', Y i H0 x H' → Same H0 H')
    (hs : ∀ i x H0 H' (R : V → Hp → Prop) (R0 : Hp → Prop), i < n → Same H H0 → Y i H0 x H' → (p i = true → ∀ y H4, Same H' H4 → Dp K H4 y (f i) → R y H4) → (p i = false → ∀ H4, Same H' H4 → R0 H4) →
      g x (wipe σ vs) H' fun σ2 H2 => wipe σ2 vs = wipe σ vs ∧ tt σ2 H2 fun b H3 => if b = true then te σ2 H3 R else R0 H3)
    (hd : ∀ D H' ys, Same H H' → H D = none → H' D = some (.lst ys) → DpAll K H' ys (((List.range n).filter p).map f) → Q (.ref D) H') :
    ∀ D, H D = none → ∃ W : Nat → Nat → Hp → Prop, (∃ m, W 0 m (upd H D (.lst []))) ∧ ∀ i m H, W i m H →
      (J.stop i H ∧ Q (.ref D) H) ∨ (J.go i H ∧ ∃ Nx : Hp → Prop, (∀ H', Nx H' → ∃ m', m' < m ∧ W (i + 1) m' H') ∧ ∀ x H', J.yld i H x H' → g x (wipe σ vs) H' fun σ2 H2 => wipe σ2 vs = wipe σ vs ∧ tt σ2 H2 fun b H3 =>
        if b = true then te σ2 H3 fun y H4 => ∃ acc, H4 D = some (.lst acc) ∧ acc.length < sizeLine ∧ Nx (upd H4 D (.lst (acc ++ [y]))) else Nx H3) := by
  intro D nD
  refine lc_it w (fun i H' => Same H H' ∧ ∃ ys, H' D = some (.lst ys) ∧ ys.length ≤ i ∧ DpAll K H' ys (((List.range i).filter p).map f)) ⟨PB.same_new nD, [], upd_same, Nat.le_refl _, .nil⟩ (fun i H' _ h => hG H' h.1) ?_ ?_
  · rintro i x H0 H' hi ⟨s1, ys, hD, yl, hy⟩ hy1
    have s2 : Same H0 H' := hY i H0 x H' hy1
    refine hs i x H0 H' _ _ hi s1 hy1 (fun e y H4 s4 h4 => ⟨ys, s4 _ _ (s2 _ _ hD), by omega, ?_, ys ++ [y], upd_same, by rw [List.length_append]; exact Nat.succ_le_succ yl, ?_⟩) (fun e H4 s4 => ⟨(s1.trans s2).trans s4, ys, s4 _ _ (s2 _ _ hD), Nat.le_succ_of_le yl, ?_⟩)
    · intro b o e
      rw [upd_ne (ne_of_none e nD)]; exact s4 _ _ (s2 _ _ (s1 _ _ e))
    · have sb : ∀ b o, b ≠ D → H4 b = some o → (upd H4 D (.lst (ys ++ [y]))) b = some o := fun b o n e => by rw [upd_ne n]; exact e
      rw [filt_snoc, if_pos e]
      refine DpAll_but (s4 _ _ (s2 _ _ hD)) sb ?_ (DpAll_snoc h4 (DpAll_same (s2.trans s4) hy))
      refine noLs_all fun d hd => ?_
      rcases List.mem_append.mp hd with hd | hd
      · obtain ⟨k, _, rfl⟩ := List.mem_map.mp hd; exact hn k
      · rw [List.mem_singleton.mp hd]; exact hn i
    · rw [filt_snoc, if_neg (by rw [e]; decide)]
      exact DpAll_same (s2.trans s4) hy
  · rintro H' ⟨s1, ys, hD, yl, hy⟩
    exact hd D H' ys s1 nD hD hy
theorem ypair_same {xs ys : Nat → Option V} (i : Nat) (H0 : Hp) (x : V) (H' : Hp) (h : YPair xs ys i H0 x H') : Same H0 H' := by
  obtain ⟨T, x, y, _, n, rfl, _, _⟩ := h
  exact PB.same_new n
theorem yat_same {xs : List V} (i : Nat) (H0 : Hp) (x : V) (H' : Hp) (h : YAt xs i H0 x H') : Same H0 H' := by
  rw [h.1]; exact fun _ _ e => e
end ZP
set_option Elab.async false
set_option linter.all false
set_option maxHeartbeats 4000000
/-! convex chains of points with whole numbers -/
namespace G4
abbrev Pt := Int × Int
def X (u v : Pt) : Int := u.1 * v.2 - u.2 * v.1
def sb (a b : Pt) : Pt := (b.1 - a.1, b.2 - a.2)
/-- above 0 if a, b, c turn left -/
def cr (a b c : Pt) : Int := (b.1 - a.1) * (c.2 - a.2) - (b.2 - a.2) * (c.1 - a.1)
def Pos (u : Pt) : Prop := 0 < u.1 ∨ (u.1 = 0 ∧ 0 < u.2)
/-- by the first number, then by the second -/
def lx (a b : Pt) : Prop := a.1 < b.1 ∨ (a.1 = b.1 ∧ a.2 < b.2)
theorem lx_pos {a b : Pt} (h : lx a b) : Pos (sb a b) := by
  rcases h with h | ⟨h, k⟩
  · exact .inl (by show 0 < b.1 - a.1; omega)
  · exact .inr ⟨by show b.1 - a.1 = 0; omega, by show 0 < b.2 - a.2; omega⟩
theorem lx_irrefl (a : Pt) : ¬ lx a a := by intro h; rcases h with h | ⟨_, h⟩ <;> omega
theorem lx_trans {a b c : Pt} (h : lx a b) (k : lx b c) : lx a c := by
  unfold lx at *
  omega
theorem lx_asymm {a b : Pt} (h : lx a b) : ¬ lx b a := by unfold lx at *; omega
theorem lx_tri (a b : Pt) : lx a b ∨ a = b ∨ lx b a := by
  unfold lx
  by_cases h : a.1 = b.1
  · by_cases k : a.2 = b.2
    · exact .inr (.inl (Prod.ext h k))
    · omega
  · omega
/-- directions of one half plane: to the left of, carried on -/
theorem T {a b c : Pt} (ha : Pos a) (hb : Pos b) (hc : Pos c) (h : 0 ≤ X a b) (k : 0 ≤ X b c) : 0 ≤ X a c ∧ (0 < X a b ∨ 0 < X b c → 0 < X a c) := by
  obtain ⟨a1, a2⟩ := a
  obtain ⟨b1, b2⟩ := b
  obtain ⟨c1, c2⟩ := c
  unfold Pos X at *
  dsimp only at *
  rcases hb with hb | ⟨hb, hb2⟩
  · -- b1 > 0
    have e : b1 * (a1 * c2 - a2 * c1) = a1 * (b1 * c2 - b2 * c1) + c1 * (a1 * b2 - a2 * b1) := by grind
    have a0 : 0 ≤ a1 := by rcases ha with ha | ⟨ha, _⟩ <;> omega
    have c0 : 0 ≤ c1 := by rcases hc with hc | ⟨hc, _⟩ <;> omega
    have p1 := Int.mul_nonneg a0 k
    have p2 := Int.mul_nonneg c0 h
    have nn : 0 ≤ b1 * (a1 * c2 - a2 * c1) := by omega
    refine ⟨?_, fun hs => ?_⟩
    · rcases Int.lt_or_le (a1 * c2 - a2 * c1) 0 with z | z
      · have := Int.mul_neg_of_pos_of_neg hb z
        omega
      · exact z
    · -- strict
      have st : 0 < b1 * (a1 * c2 - a2 * c1) := by
        rcases hs with hs | hs
        · rcases hc with hc | ⟨hc, hc2⟩
          · have := Int.mul_pos hc hs; omega
          · -- c1 = 0, c2 > 0: a1 > 0 or else contradiction
            rcases ha with ha | ⟨ha, ha2⟩
            · have q : b1 * c2 - b2 * c1 = b1 * c2 := by rw [hc]; omega
              have r := Int.mul_pos hb hc2
              have := Int.mul_pos ha (by omega : 0 < b1 * c2 - b2 * c1)
              omega
            · rw [ha] at hs
              have := Int.mul_pos ha2 hb
              omega
        · rcases ha with ha | ⟨ha, ha2⟩
          · have := Int.mul_pos ha hs; omega
          · rw [ha] at h
            have := Int.mul_pos ha2 hb
            omega
      rcases Int.lt_or_le 0 (a1 * c2 - a2 * c1) with z | z
      · exact z
      · have := Int.mul_nonneg (by omega : 0 ≤ b1) (by omega : 0 ≤ -(a1 * c2 - a2 * c1))
        rw [Int.mul_neg] at this
        omega
  · -- b1 = 0, b2 > 0: then c1 = 0
    subst hb
    have c1z : c1 = 0 := by
      rcases hc with hc | ⟨hc, _⟩
      · have := Int.mul_pos hb2 hc
        omega
      · exact hc
    subst c1z
    have c2p : 0 < c2 := by
      rcases hc with hc | ⟨_, hc⟩
      · omega
      · exact hc
    have a0 : 0 ≤ a1 := by rcases ha with ha | ⟨ha, _⟩ <;> omega
    have p := Int.mul_nonneg a0 (by omega : 0 ≤ c2)
    refine ⟨by omega, fun hs => ?_⟩
    rcases hs with hs | hs
    · have a1p : 0 < a1 := by
        rcases ha with ha | ⟨ha, _⟩
        · exact ha
        · rw [ha] at hs; omega
      have := Int.mul_pos a1p c2p
      omega
    · omega
theorem cr_X (a b c : Pt) : cr a b c = X (sb a b) (sb a c) := rfl
theorem cr_X2 (a b c : Pt) : cr a b c = X (sb a b) (sb b c) := by unfold cr X sb; dsimp only; grind
theorem cr_cyc (a b c : Pt) : cr a b c = cr b c a := by unfold cr; grind
theorem cr_swap (a b c : Pt) : cr a b c = - cr a c b := by unfold cr; grind
theorem cr_self1 (a b : Pt) : cr a b a = 0 := by unfold cr; grind
theorem cr_self2 (a b : Pt) : cr a b b = 0 := by unfold cr; grind
theorem X_neg (u v : Pt) : X u v = - X v u := by unfold X; grind
/-- a, b, c ascending, d behind c: carried on -/
theorem cr_on {a b c d : Pt} (h1 : lx a b) (h2 : lx b c) (h3 : lx b d) (k1 : 0 < cr a b c) (k2 : 0 ≤ cr b c d) : 0 < cr a b d := by
  rw [cr_X2] at k1 ⊢
  rw [cr_X] at k2
  exact (T (lx_pos h1) (lx_pos h2) (lx_pos h3) (by omega) k2).2 (.inl k1)
/-! chains -/
def Conv : List Pt → Prop
  | x :: y :: z :: r => 0 < cr x y z ∧ Conv (y :: z :: r)
  | _ => True
def Abv (S : Pt → Prop) : List Pt → Prop
  | x :: y :: r => (∀ p, S p → 0 ≤ cr x y p) ∧ Abv S (y :: r)
  | _ => True
/-- any three in their order turn left -/
def Tri : List Pt → Prop
  | [] => True
  | a :: r => r.Pairwise (fun p z => 0 < cr a p z) ∧ Tri r
theorem first_left : ∀ (x y : Pt) (r : List Pt), (x :: y :: r).Pairwise lx → Conv (x :: y :: r) → ∀ z ∈ r, 0 < cr x y z
  | _, _, [], _, _ => fun _ h => nomatch h
  | x, y, w :: r, ha, hc => fun z hz => by
    obtain ⟨h1, h2⟩ := List.pairwise_cons.mp ha
    obtain ⟨h3, h4⟩ := List.pairwise_cons.mp h2
    rcases List.mem_cons.mp hz with rfl | hz
    · exact hc.1
    · exact cr_on (h1 y (List.mem_cons_self ..)) (h3 w (List.mem_cons_self ..)) (h3 z (List.mem_cons_of_mem _ hz)) hc.1 (Int.le_of_lt (first_left y w r h2 hc.2 z hz))
theorem conv_tail {x : Pt} {r : List Pt} (h : Conv (x :: r)) : Conv r := by
  cases r with
  | nil => trivial
  | cons y r => cases r with
    | nil => trivial
    | cons z r => exact h.2
theorem tri_of : ∀ (c : List Pt), c.Pairwise lx → Conv c → Tri c
  | [], _, _ => trivial
  | [a], _, _ => ⟨.nil, trivial⟩
  | a :: b :: r, ha, hc => by
    have ha2 := (List.pairwise_cons.mp ha).2
    have ih := tri_of (b :: r) ha2 (conv_tail hc)
    refine ⟨?_, ih⟩
    rw [List.pairwise_cons]
    refine ⟨first_left a b r ha hc, ?_⟩
    have h1 := first_left a b r ha hc
    have p := ih.1
    have ab : lx a b := (List.pairwise_cons.mp ha).1 b (List.mem_cons_self ..)
    have br := (List.pairwise_cons.mp ha2).1
    have rr := (List.pairwise_cons.mp ha2).2
    clear ih hc
    -- each p before z in r
    have : ∀ (r : List Pt), r.Pairwise (fun p z => 0 < cr b p z) → r.Pairwise lx → (∀ z ∈ r, 0 < cr a b z) → (∀ z ∈ r, lx b z) → r.Pairwise (fun p z => 0 < cr a p z) := by
      intro r
      induction r with
      | nil => intros; exact .nil
      | cons p r ih =>
        intro h2 h3 h4 h5
        rw [List.pairwise_cons] at h2 h3 ⊢
        refine ⟨fun z hz => ?_, ih h2.2 h3.2 (fun z hz => h4 z (List.mem_cons_of_mem _ hz)) fun z hz => h5 z (List.mem_cons_of_mem _ hz)⟩
        have k1 := h4 p (List.mem_cons_self ..)
        have k2 := h2.1 z hz
        have bp := h5 p (List.mem_cons_self ..)
        have pz := h3.1 z hz
        rw [cr_X2] at k1 k2
        have t := (T (lx_pos ab) (lx_pos bp) (lx_pos pz) (by omega) (by omega)).2 (.inl k1)
        have e : cr a p z = X (sb a b) (sb p z) + X (sb b p) (sb p z) := by unfold cr X sb; dsimp only; grind
        omega
    exact this r p rr h1 br
theorem tri_conv : ∀ {c : List Pt}, Tri c → Conv c
  | [], _ => trivial
  | [_], _ => trivial
  | [_, _], _ => trivial
  | x :: y :: z :: r, h => ⟨(List.pairwise_cons.mp h.1).1 z (List.mem_cons_self ..), tri_conv h.2⟩
theorem tri_sub : ∀ {c d : List Pt}, d.Sublist c → Tri c → Tri d
  | _, _, .slnil, _ => trivial
  | _, _, .cons _ s, h => tri_sub s h.2
  | _, _, .cons₂ _ s, h => ⟨h.1.sublist s, tri_sub s h.2⟩
/-- points of such a list lie at the left of each side -/
theorem abv_tri : ∀ (pre : List Pt) (x y : Pt) (r : List Pt), Tri (pre ++ x :: y :: r) → ∀ p ∈ pre ++ x :: y :: r, p ≠ x → p ≠ y → 0 < cr x y p
  | [], x, y, r, h => fun p hp nx ny => by
    rcases List.mem_cons.mp hp with e | hp
    · exact absurd e nx
    · rcases List.mem_cons.mp hp with e | hp
      · exact absurd e ny
      · exact (List.pairwise_cons.mp h.1).1 p hp
  | a :: pre, x, y, r, h => fun p hp nx ny => by
    rcases List.mem_cons.mp hp with rfl | hp
    · have q : (pre ++ x :: y :: r).Pairwise (fun p_1 z => 0 < cr p p_1 z) := h.1
      rw [List.pairwise_append] at q
      have q := (List.pairwise_cons.mp q.2.1).1 y (List.mem_cons_self ..)
      rw [← cr_cyc]
      exact q
    · exact abv_tri pre x y r h.2 p hp nx ny
/-- a chain below a lot of points -/
structure Ch (S : Pt → Prop) (c : List Pt) : Prop where
  asc : c.Pairwise lx
  sub : ∀ p ∈ c, S p
  conv : Conv c
  abv : Abv S c
/-- the same first and the same last point: the same chain -/
theorem key {a x z y : Pt} (ax : lx a x) (xz : lx x z) (c0 : cr a x z = 0) (k : 0 < cr a x y) : cr x y z < 0 := by
  have hu := lx_pos ax
  have hw := lx_pos xz
  rw [cr_X2] at c0 k
  have e : cr x y z = X (sb x y) (sb x z) := rfl
  rw [e]
  generalize sb a x = u at *
  generalize sb x z = w at *
  generalize sb x y = v at *
  obtain ⟨u1, u2⟩ := u
  obtain ⟨w1, w2⟩ := w
  obtain ⟨v1, v2⟩ := v
  unfold Pos X at *
  dsimp only at *
  rcases hu with u | ⟨u, u'⟩
  · have w1p : 0 < w1 := by
      rcases hw with w | ⟨w, w'⟩
      · exact w
      · rw [w, Int.mul_zero] at c0
        have := Int.mul_pos u w'
        omega
    have e : u1 * (v1 * w2 - v2 * w1) = -(w1 * (u1 * v2 - u2 * v1)) + v1 * (u1 * w2 - u2 * w1) := by grind
    rw [c0, Int.mul_zero] at e
    have := Int.mul_pos w1p k
    rcases Int.lt_or_le (v1 * w2 - v2 * w1) 0 with z | z
    · exact z
    · have := Int.mul_nonneg (by omega : 0 ≤ u1) z
      omega
  · subst u
    have w1z : w1 = 0 := by
      rcases Int.lt_trichotomy w1 0 with z | z | z
      · rcases hw with w | ⟨w, _⟩ <;> omega
      · exact z
      · have := Int.mul_pos u' z
        omega
    subst w1z
    have w2p : 0 < w2 := by rcases hw with w | ⟨_, w⟩ <;> omega
    have v1n : v1 < 0 := by
      rcases Int.lt_or_le v1 0 with z | z
      · exact z
      · have := Int.mul_nonneg (by omega : 0 ≤ u2) z
        omega
    have := Int.mul_neg_of_neg_of_pos v1n w2p
    omega
theorem ch_unique {S : Pt → Prop} : ∀ (n : Nat) (a : Pt) (t t' : List Pt), t.length + t'.length ≤ n → Ch S (a :: t) → Ch S (a :: t') → (a :: t).getLast (List.cons_ne_nil _ _) = (a :: t').getLast (List.cons_ne_nil _ _) → t = t'
  | _, a, [], [], _, _, _, _ => rfl
  | _, a, [], x :: r, _, _, h, e => by
    exfalso
    rw [List.getLast_cons (List.cons_ne_nil _ _)] at e
    have m : (x :: r).getLast (List.cons_ne_nil _ _) ∈ x :: r := List.getLast_mem _
    have := (List.pairwise_cons.mp h.asc).1 _ m
    rw [← e] at this
    exact lx_irrefl _ this
  | _, a, x :: r, [], _, h, _, e => by
    exfalso
    rw [List.getLast_cons (List.cons_ne_nil _ _)] at e
    have m : (x :: r).getLast (List.cons_ne_nil _ _) ∈ x :: r := List.getLast_mem _
    have := (List.pairwise_cons.mp h.asc).1 _ m
    rw [e] at this
    exact lx_irrefl _ this
  | 0, a, x :: r, x' :: r', hn, _, _, _ => by simp at hn
  | n + 1, a, x :: r, x' :: r', hn, h, h', e => by
    have half : ∀ {x x' : Pt} {r r' : List Pt}, Ch S (a :: x :: r) → Ch S (a :: x' :: r') → (x :: r).getLast (List.cons_ne_nil _ _) = (x' :: r').getLast (List.cons_ne_nil _ _) → lx x x' → cr a x x' = 0 → False := by
      intro x x' r r' h h' e l z
      have ax : lx a x := (List.pairwise_cons.mp h.asc).1 x (List.mem_cons_self ..)
      cases r with
      | nil =>
        have asc' := (List.pairwise_cons.mp h'.asc).2
        have ex : x = (x' :: r').getLast (List.cons_ne_nil _ _) := e
        cases r' with
        | nil => rw [ex] at l; exact lx_irrefl _ l
        | cons w r' =>
          rw [List.getLast_cons (List.cons_ne_nil _ _)] at ex
          have := (List.pairwise_cons.mp asc').1 _ (List.getLast_mem (List.cons_ne_nil w r'))
          rw [← ex] at this
          exact lx_asymm this l
      | cons y r =>
        have k := key ax l z h.conv.1
        have := h.abv.2.1 x' (h'.sub x' (List.mem_cons_of_mem _ (List.mem_cons_self ..)))
        omega
    have e2 : (x :: r).getLast (List.cons_ne_nil _ _) = (x' :: r').getLast (List.cons_ne_nil _ _) := by
      rw [List.getLast_cons (List.cons_ne_nil _ _), List.getLast_cons (List.cons_ne_nil _ _)] at e
      exact e
    have z1 := h.abv.1 x' (h'.sub x' (List.mem_cons_of_mem _ (List.mem_cons_self ..)))
    have z2 := h'.abv.1 x (h.sub x (List.mem_cons_of_mem _ (List.mem_cons_self ..)))
    have z3 : cr a x x' = 0 := by rw [cr_swap] at z2; omega
    have ex : x = x' := by
      rcases lx_tri x x' with l | l | l
      · exact (half h h' e2 l z3).elim
      · exact l
      · exact (half h' h e2.symm l (by rw [cr_swap]; omega)).elim
    subst ex
    have t1 : Ch S (x :: r) := ⟨(List.pairwise_cons.mp h.asc).2, fun p hp => h.sub p (List.mem_cons_of_mem _ hp), conv_tail h.conv, h.abv.2⟩
    have t2 : Ch S (x :: r') := ⟨(List.pairwise_cons.mp h'.asc).2, fun p hp => h'.sub p (List.mem_cons_of_mem _ hp), conv_tail h'.conv, h'.abv.2⟩
    rw [ch_unique n x r r' (by simp at hn; omega) t1 t2 e2]
/-! the chain's making: a stack, its top first -/
def push (p : Pt) : List Pt → List Pt
  | y :: x :: r => if cr x y p ≤ 0 then push p (x :: r) else p :: y :: x :: r
  | st => p :: st
def SConv : List Pt → Prop
  | z :: y :: x :: r => 0 < cr x y z ∧ SConv (y :: x :: r)
  | _ => True
def SAbv (S : Pt → Prop) : List Pt → Prop
  | y :: x :: r => (∀ p, S p → 0 ≤ cr x y p) ∧ SAbv S (x :: r)
  | _ => True
def SAsc (st : List Pt) : Prop := st.Pairwise fun y x => lx x y
theorem sconv_tail {x : Pt} {r : List Pt} (h : SConv (x :: r)) : SConv r := by
  cases r with
  | nil => trivial
  | cons y r => cases r with
    | nil => trivial
    | cons z r => exact h.2
/-- a new last point lies at the left of all sides below -/
theorem sabv_new {P : Pt → Prop} {p : Pt} : ∀ {y : Pt} {st : List Pt}, (∀ q ∈ y :: st, lx q p) → SAsc (y :: st) → SConv (y :: st) → SAbv P (y :: st) → (∀ x r, st = x :: r → 0 < cr x y p) → SAbv (fun q => P q ∨ q = p) (y :: st)
  | _, [], _, _, _, _, _ => trivial
  | y, x :: r, hl, ha, hc, hb, ht => by
    refine ⟨fun q hq => ?_, ?_⟩
    · rcases hq with hq | rfl
      · exact hb.1 q hq
      · exact Int.le_of_lt (ht x r rfl)
    · obtain ⟨a1, a2⟩ := List.pairwise_cons.mp ha
      refine sabv_new (fun q hq => hl q (List.mem_cons_of_mem _ hq)) a2 (sconv_tail hc) hb.2 fun w r' e => ?_
      subst e
      have wx : lx w x := (List.pairwise_cons.mp a2).1 w (List.mem_cons_self ..)
      have xy : lx x y := a1 x (List.mem_cons_self ..)
      exact cr_on wx xy (hl x (List.mem_cons_of_mem _ (List.mem_cons_self ..))) hc.1 (Int.le_of_lt (ht x _ rfl))
/-- what a stack is for the points P -/
structure St (P : Pt → Prop) (b : Pt) (st : List Pt) : Prop where
  asc : SAsc st
  sub : ∀ q ∈ st, P q
  conv : SConv st
  abv : SAbv P st
  last : st.getLast? = some b
theorem push_ok {P : Pt → Prop} {p b : Pt} (hp : ∀ q, P q → lx q p) (hb : ∀ q, P q → q = b ∨ lx b q) : ∀ (y : Pt) (st : List Pt), St P b (y :: st) → (∀ q, P q → (q = y ∨ lx q y) ∨ 0 ≤ cr y p q) →
    ∃ r, push p (y :: st) = p :: r ∧ St (fun q => P q ∨ q = p) b (p :: r)
  | y, [], h, inv => by
    refine ⟨[y], rfl, ?_, ?_, trivial, ⟨fun q hq => ?_, trivial⟩, ?_⟩
    · exact List.pairwise_cons.mpr ⟨fun q hq => by rw [List.mem_singleton.mp hq]; exact hp y (h.sub y (List.mem_cons_self ..)), List.pairwise_singleton _ _⟩
    · intro q hq
      rcases List.mem_cons.mp hq with rfl | hq
      · exact .inr rfl
      · rw [List.mem_singleton.mp hq]; exact .inl (h.sub y (List.mem_cons_self ..))
    · rcases hq with hq | rfl
      · have yb : y = b := by have := h.last; simpa using this
        rcases inv q hq with (k | k) | k
        · subst k; rw [cr_self1]; exact Int.le_refl _
        · rcases hb q hq with e | e
          · rw [e, ← yb, cr_self1]; exact Int.le_refl _
          · rw [← yb] at e; exact absurd k (lx_asymm e)
        · exact k
      · rw [cr_self2]; exact Int.le_refl _
    · have := h.last
      simpa using this
  | y, x :: r, h, inv => by
    have py : P y := h.sub y (List.mem_cons_self ..)
    have px : P x := h.sub x (List.mem_cons_of_mem _ (List.mem_cons_self ..))
    obtain ⟨a1, a2⟩ := List.pairwise_cons.mp h.asc
    have xy : lx x y := a1 x (List.mem_cons_self ..)
    have xp := hp x px
    have yp := hp y py
    by_cases c : cr x y p ≤ 0
    · have e : push p (y :: x :: r) = push p (x :: r) := if_pos c
      rw [e]
      refine push_ok hp hb x r ⟨a2, fun q hq => h.sub q (List.mem_cons_of_mem _ hq), sconv_tail h.conv, h.abv.2, ?_⟩ fun q hq => ?_
      · have := h.last
        rw [List.getLast?_cons_cons] at this
        exact this
      · rcases lx_tri q x with l | l | l
        · exact .inl (.inr l)
        · exact .inl (.inl l)
        · refine .inr ?_
          have k1 : 0 ≤ X (sb x p) (sb x y) := by rw [X_neg]; have := cr_X x y p; omega
          have k2 : 0 ≤ X (sb x y) (sb x q) := h.abv.1 q hq
          exact (T (lx_pos xp) (lx_pos xy) (lx_pos l) k1 k2).1
    · have e : push p (y :: x :: r) = p :: y :: x :: r := if_neg c
      have c' : 0 < cr x y p := by omega
      refine ⟨y :: x :: r, e, ?_, ?_, ⟨c', h.conv⟩, ⟨fun q hq => ?_, ?_⟩, ?_⟩
      · exact List.pairwise_cons.mpr ⟨fun q hq => hp q (h.sub q hq), h.asc⟩
      · intro q hq
        rcases List.mem_cons.mp hq with rfl | hq
        · exact .inr rfl
        · exact .inl (h.sub q hq)
      · rcases hq with hq | rfl
        · rcases inv q hq with (k | k) | k
          · subst k; rw [cr_self1]; exact Int.le_refl _
          · -- q before y
            have k1 : 0 ≤ cr x y q := h.abv.1 q hq
            have qy := lx_pos k
            -- v' = y - q, u = y - x, w = p - y
            have e1 : cr x y q = X (sb q y) (sb x y) := by unfold cr X sb; dsimp only; grind
            have e2 : cr y p q = X (sb q y) (sb y p) := by unfold cr X sb; dsimp only; grind
            rw [e1] at k1
            rw [cr_X2] at c'
            rw [e2]
            exact (T qy (lx_pos xy) (lx_pos yp) k1 (by omega)).1
          · exact k
        · rw [cr_self2]; exact Int.le_refl _
      · exact sabv_new (fun q hq => hp q (h.sub q hq)) h.asc h.conv h.abv fun x' r' e => by cases e; exact c'
      · have := h.last
        rw [List.getLast?_cons_cons]
        exact this
/-- the stack behind rows in ascending order -/
theorem run_ok : ∀ (rows : List Pt) (b : Pt) (P : Pt → Prop) (y : Pt) (st : List Pt), (y :: rows).Pairwise lx → (∀ q, P q → q = y ∨ lx q y) → (∀ q, P q → q = b ∨ lx b q) → St P b (y :: st) →
    ∃ z r, rows.foldl (fun s p => push p s) (y :: st) = z :: r ∧ St (fun q => P q ∨ q ∈ rows) b (z :: r) ∧ z = (y :: rows).getLast (List.cons_ne_nil _ _)
  | [], b, P, y, st, _, _, _, h => ⟨y, st, rfl, by
      have e : (fun q => P q ∨ q ∈ ([] : List Pt)) = P := by funext q; simp
      rw [e]; exact h, rfl⟩
  | p :: rows, b, P, y, st, ha, hm, hb, h => by
    obtain ⟨a1, a2⟩ := List.pairwise_cons.mp ha
    have yp := a1 p (List.mem_cons_self ..)
    have hp : ∀ q, P q → lx q p := fun q hq => (hm q hq).elim (fun e => e ▸ yp) fun l => lx_trans l yp
    obtain ⟨r, e, h2⟩ := push_ok hp hb y st h fun q hq => .inl (hm q hq)
    have py : P y := h.sub y (List.mem_cons_self ..)
    obtain ⟨z, r2, e2, h3, h4⟩ := run_ok rows b (fun q => P q ∨ q = p) p r a2 (fun q hq => hq.elim (fun z => .inr (hp q z)) .inl) (fun q hq => hq.elim (hb q) fun z => by
      subst z
      rcases hb y py with e | e
      · exact .inr (e ▸ yp)
      · exact .inr (lx_trans e yp)) h2
    refine ⟨z, r2, ?_, ?_, ?_⟩
    · rw [List.foldl_cons, e, e2]
    · have e : (fun q => P q ∨ q ∈ p :: rows) = fun q => (P q ∨ q = p) ∨ q ∈ rows := by
        funext q; rw [List.mem_cons, or_assoc]
      rw [e]; exact h3
    · rw [h4]; rfl
/-- by splitting, the same from both ends -/
theorem conv_iff : ∀ (c : List Pt), Conv c ↔ ∀ pre x y z r, c = pre ++ x :: y :: z :: r → 0 < cr x y z
  | [] => ⟨fun _ pre x y z r e => by simp at e, fun _ => trivial⟩
  | [a] => ⟨fun _ pre x y z r e => by have := congrArg List.length e; simp at this; omega, fun _ => trivial⟩
  | [a, b] => ⟨fun _ pre x y z r e => by have := congrArg List.length e; simp at this; omega, fun _ => trivial⟩
  | a :: b :: d :: r => by
    have ih := conv_iff (b :: d :: r)
    refine ⟨fun h pre x y z r' e => ?_, fun h => ⟨h [] a b d r rfl, ih.mpr fun pre x y z r' e => h (a :: pre) x y z r' (by rw [e]; rfl)⟩⟩
    cases pre with
    | nil => cases e; exact h.1
    | cons w pre => exact ih.mp h.2 pre x y z r' (List.cons.inj e).2
theorem sconv_iff : ∀ (c : List Pt), SConv c ↔ ∀ pre z y x r, c = pre ++ z :: y :: x :: r → 0 < cr x y z
  | [] => ⟨fun _ pre x y z r e => by simp at e, fun _ => trivial⟩
  | [a] => ⟨fun _ pre x y z r e => by have := congrArg List.length e; simp at this; omega, fun _ => trivial⟩
  | [a, b] => ⟨fun _ pre x y z r e => by have := congrArg List.length e; simp at this; omega, fun _ => trivial⟩
  | a :: b :: d :: r => by
    have ih := sconv_iff (b :: d :: r)
    refine ⟨fun h pre x y z r' e => ?_, fun h => ⟨h [] a b d r rfl, ih.mpr fun pre x y z r' e => h (a :: pre) x y z r' (by rw [e]; rfl)⟩⟩
    cases pre with
    | nil => cases e; exact h.1
    | cons w pre => exact ih.mp h.2 pre x y z r' (List.cons.inj e).2
theorem abv_iff (S : Pt → Prop) : ∀ (c : List Pt), Abv S c ↔ ∀ pre x y r, c = pre ++ x :: y :: r → ∀ p, S p → 0 ≤ cr x y p
  | [] => ⟨fun _ pre x y r e => by simp at e, fun _ => trivial⟩
  | [a] => ⟨fun _ pre x y r e => by have := congrArg List.length e; simp at this; omega, fun _ => trivial⟩
  | a :: b :: r => by
    have ih := abv_iff S (b :: r)
    refine ⟨fun h pre x y r' e => ?_, fun h => ⟨h [] a b r rfl, ih.mpr fun pre x y r' e => h (a :: pre) x y r' (by rw [e]; rfl)⟩⟩
    cases pre with
    | nil => cases e; exact h.1
    | cons w pre => exact ih.mp h.2 pre x y r' (List.cons.inj e).2
theorem sabv_iff (S : Pt → Prop) : ∀ (c : List Pt), SAbv S c ↔ ∀ pre y x r, c = pre ++ y :: x :: r → ∀ p, S p → 0 ≤ cr x y p
  | [] => ⟨fun _ pre x y r e => by simp at e, fun _ => trivial⟩
  | [a] => ⟨fun _ pre x y r e => by have := congrArg List.length e; simp at this; omega, fun _ => trivial⟩
  | a :: b :: r => by
    have ih := sabv_iff S (b :: r)
    refine ⟨fun h pre x y r' e => ?_, fun h => ⟨h [] a b r rfl, ih.mpr fun pre x y r' e => h (a :: pre) x y r' (by rw [e]; rfl)⟩⟩
    cases pre with
    | nil => cases e; exact h.1
    | cons w pre => exact ih.mp h.2 pre x y r' (List.cons.inj e).2
theorem conv_rev {st : List Pt} (h : SConv st) : Conv st.reverse := (conv_iff _).mpr fun pre x y z r e => by
  have e2 : st = r.reverse ++ z :: y :: x :: pre.reverse := by
    have := congrArg List.reverse e
    simpa using this
  exact (sconv_iff st).mp h _ _ _ _ _ e2
theorem abv_rev {S : Pt → Prop} {st : List Pt} (h : SAbv S st) : Abv S st.reverse := (abv_iff S _).mpr fun pre x y r e => by
  have e2 : st = r.reverse ++ y :: x :: pre.reverse := by
    have := congrArg List.reverse e
    simpa using this
  exact (sabv_iff S st).mp h _ _ _ _ e2
def chain (rows : List Pt) : List Pt := (rows.foldl (fun s p => push p s) []).reverse
/-- the chain of ascending rows -/
theorem chain_ok {a : Pt} {rows : List Pt} (h : (a :: rows).Pairwise lx) : ∃ t, chain (a :: rows) = a :: t ∧ Ch (fun q => q ∈ a :: rows) (a :: t) ∧ (a :: t).getLast (List.cons_ne_nil _ _) = (a :: rows).getLast (List.cons_ne_nil _ _) := by
  obtain ⟨z, r, e, hs, hz⟩ := run_ok rows a (fun q => q = a) a [] h (fun q hq => .inl hq) (fun q hq => .inl hq) ⟨List.pairwise_singleton _ _, fun q hq => List.mem_singleton.mp hq, trivial, trivial, rfl⟩
  have e1 : chain (a :: rows) = (z :: r).reverse := by
    unfold chain
    rw [List.foldl_cons]
    show (rows.foldl (fun s p => push p s) [a]).reverse = _
    rw [e]
  have hd : (z :: r).reverse.head? = some a := by rw [List.head?_reverse]; exact hs.last
  obtain ⟨t, et⟩ : ∃ t, (z :: r).reverse = a :: t := by
    cases k : (z :: r).reverse with
    | nil => rw [k] at hd; cases hd
    | cons b t => rw [k] at hd; cases hd; exact ⟨t, rfl⟩
  have eP : (fun q => q = a ∨ q ∈ rows) = fun q => q ∈ a :: rows := by funext q; rw [List.mem_cons]
  rw [eP] at hs
  refine ⟨t, e1.trans et, ?_, ?_⟩
  · rw [← et]
    exact ⟨by rw [List.pairwise_reverse]; exact hs.asc, fun p hp => hs.sub p (List.mem_reverse.mp hp), conv_rev hs.conv, abv_rev hs.abv⟩
  · have : (a :: t).getLast? = some z := by rw [← et, List.getLast?_reverse]; rfl
    rw [List.getLast?_eq_some_getLast (List.cons_ne_nil _ _)] at this
    rw [← hz]
    exact Option.some.inj this
/-! both chains: the hull -/
def ng (p : Pt) : Pt := (-p.1, -p.2)
theorem ng_ng (p : Pt) : ng (ng p) = p := Prod.ext (Int.neg_neg _) (Int.neg_neg _)
theorem cr_ng (a b c : Pt) : cr (ng a) (ng b) (ng c) = cr a b c := by unfold cr ng; dsimp only; grind
theorem lx_ng {a b : Pt} : lx (ng a) (ng b) ↔ lx b a := by unfold lx ng; dsimp only; omega
theorem push_ng (p : Pt) : ∀ st : List Pt, push (ng p) (st.map ng) = (push p st).map ng
  | [] => rfl
  | [a] => rfl
  | y :: x :: r => by
    show (if cr (ng x) (ng y) (ng p) ≤ 0 then push (ng p) ((x :: r).map ng) else ng p :: ng y :: ng x :: r.map ng) = List.map ng (if cr x y p ≤ 0 then push p (x :: r) else p :: y :: x :: r)
    rw [cr_ng]
    split
    · exact push_ng p (x :: r)
    · rfl
theorem fold_ng : ∀ (l st : List Pt), (l.map ng).foldl (fun s p => push p s) (st.map ng) = (l.foldl (fun s p => push p s) st).map ng
  | [], _ => rfl
  | p :: l, st => by rw [List.map_cons, List.foldl_cons, List.foldl_cons, push_ng, fold_ng l]
theorem chain_ng (l : List Pt) : chain (l.map ng) = (chain l).map ng := by
  unfold chain
  rw [List.map_reverse, ← fold_ng l []]
  rfl
theorem map_ng_ng (l : List Pt) : (l.map ng).map ng = l := by
  rw [List.map_map]
  exact (List.map_congr_left fun x _ => ng_ng x).trans (List.map_id _)
/-- the two chains round the points S, from a to b and back -/
structure HL (S : Pt → Prop) (a b : Pt) (l u : List Pt) : Prop where
  hL : Ch S (a :: (l ++ [b]))
  hU : Ch (fun q => S (ng q)) ((b :: (u ++ [a])).map ng)
  mn : ∀ q, S q → q = a ∨ lx a q
  mx : ∀ q, S q → q = b ∨ lx q b
  ab : lx a b
theorem HL.swap {S : Pt → Prop} {a b : Pt} {l u : List Pt} (h : HL S a b l u) : HL (fun q => S (ng q)) (ng b) (ng a) (u.map ng) (l.map ng) where
  hL := by
    have := h.hU
    rw [List.map_cons, List.map_append] at this
    exact this
  hU := by
    have e : (ng a :: (l.map ng ++ [ng b])).map ng = a :: (l ++ [b]) := by
      rw [List.map_cons, List.map_append, map_ng_ng, ng_ng]
      show a :: (l ++ [ng (ng b)]) = _
      rw [ng_ng]
    rw [e]
    have e2 : (fun q => S (ng (ng q))) = S := by funext q; rw [ng_ng]
    show Ch (fun q => S (ng (ng q))) _
    rw [e2]
    exact h.hL
  mn := fun q hq => by
    rcases h.mx (ng q) hq with e | e
    · exact .inl (by rw [← e, ng_ng])
    · exact .inr (by rw [← ng_ng q]; exact lx_ng.mpr e)
  mx := fun q hq => by
    rcases h.mn (ng q) hq with e | e
    · exact .inl (by rw [← e, ng_ng])
    · exact .inr (by rw [← ng_ng q]; exact lx_ng.mpr e)
  ab := lx_ng.mpr h.ab
theorem tail_last {a b : Pt} : ∀ {t : List Pt}, (a :: t).getLast (List.cons_ne_nil _ _) = b → a ≠ b → ∃ l, t = l ++ [b]
  | [], e, n => absurd e n
  | x :: r, e, _ => ⟨(x :: r).dropLast, by
      rw [List.getLast_cons (List.cons_ne_nil _ _)] at e
      rw [← e, List.dropLast_concat_getLast]⟩
theorem asc_max : ∀ {rows : List Pt} (h : rows.Pairwise lx) (ne : rows ≠ []) (q : Pt), q ∈ rows → q = rows.getLast ne ∨ lx q (rows.getLast ne)
  | [a], _, _, q, hq => .inl (List.mem_singleton.mp hq)
  | a :: x :: r, h, _, q, hq => by
    rw [List.getLast_cons (List.cons_ne_nil _ _)]
    obtain ⟨h1, h2⟩ := List.pairwise_cons.mp h
    rcases List.mem_cons.mp hq with rfl | hq
    · exact .inr (h1 _ (List.getLast_mem _))
    · exact asc_max h2 _ q hq
/-- a hull's corners of rows in ascending order -/
def hullR (rows : List Pt) : List Pt := if rows.length = 1 then rows else (chain rows).dropLast ++ (chain rows.reverse).dropLast
theorem hull_HL {a x : Pt} {r : List Pt} (h : (a :: x :: r).Pairwise lx) : ∃ b l u, HL (fun q => q ∈ a :: x :: r) a b l u ∧ hullR (a :: x :: r) = a :: (l ++ b :: u) := by
  obtain ⟨t, e1, c1, g1⟩ := chain_ok h
  have ab : lx a ((a :: x :: r).getLast (List.cons_ne_nil _ _)) := by
    rw [List.getLast_cons (List.cons_ne_nil _ _)]
    exact (List.pairwise_cons.mp h).1 _ (List.getLast_mem _)
  have mx := asc_max h (List.cons_ne_nil _ _)
  have hr : ((a :: x :: r).reverse.map ng).Pairwise lx := by
    rw [List.pairwise_map, List.pairwise_reverse]
    exact h.imp fun k => lx_ng.mpr k
  generalize eb : (a :: x :: r).getLast (List.cons_ne_nil _ _) = b at ab mx g1
  obtain ⟨l, rfl⟩ := tail_last g1 fun e => by rw [e] at ab; exact lx_irrefl _ ab
  obtain ⟨s, es⟩ : ∃ s, (a :: x :: r).reverse = b :: s := by
    have hd : (a :: x :: r).reverse.head? = some b := by
      rw [List.head?_reverse, List.getLast?_eq_some_getLast (List.cons_ne_nil _ _), eb]
    cases k : (a :: x :: r).reverse with
    | nil => rw [k] at hd; cases hd
    | cons c s => rw [k] at hd; cases hd; exact ⟨s, rfl⟩
  rw [es, List.map_cons] at hr
  obtain ⟨t2, e2, c2, g2⟩ := chain_ok hr
  have gl : (ng b :: s.map ng).getLast (List.cons_ne_nil _ _) = ng a := by
    have : (ng b :: s.map ng).getLast? = some (ng a) := by
      rw [← List.map_cons (f := ng) (a := b), ← es, List.map_reverse, List.getLast?_reverse]
      rfl
    rw [List.getLast?_eq_some_getLast (List.cons_ne_nil _ _)] at this
    exact Option.some.inj this
  rw [gl] at g2
  obtain ⟨u', rfl⟩ := tail_last g2 fun e => by
    have : a = b := by rw [← ng_ng a, ← e, ng_ng]
    rw [this] at ab
    exact lx_irrefl _ ab
  have e3 : chain (a :: x :: r).reverse = b :: (u'.map ng ++ [a]) := by
    have k : chain ((b :: s).map ng) = ng b :: (u' ++ [ng a]) := e2
    rw [chain_ng] at k
    rw [es, ← map_ng_ng (chain (b :: s)), k, List.map_cons, List.map_append, ng_ng]
    show b :: (u'.map ng ++ [ng (ng a)]) = _
    rw [ng_ng]
  refine ⟨b, l, u'.map ng, ⟨c1, ?_, fun q hq => ?_, mx, ab⟩, ?_⟩
  · have e4 : (b :: (u'.map ng ++ [a])).map ng = ng b :: (u' ++ [ng a]) := by
      rw [List.map_cons, List.map_append, map_ng_ng]; rfl
    rw [e4]
    have e5 : (fun q => q ∈ ng b :: s.map ng) = fun q => ng q ∈ a :: x :: r := by
      funext q
      rw [← List.map_cons (f := ng) (a := b), ← es]
      apply propext
      constructor
      · intro m
        obtain ⟨z, hz, rfl⟩ := List.mem_map.mp m
        rw [ng_ng]
        exact List.mem_reverse.mp hz
      · intro m
        exact List.mem_map.mpr ⟨ng q, List.mem_reverse.mpr m, ng_ng q⟩
    rw [e5] at c2
    exact c2
  · rcases List.mem_cons.mp hq with e | hq
    · exact .inl e
    · exact .inr ((List.pairwise_cons.mp h).1 q hq)
  · unfold hullR
    rw [if_neg (by simp), e1, e3]
    rw [← List.cons_append, List.dropLast_concat, ← List.cons_append, List.dropLast_concat]
    rfl
theorem HL.unique {S : Pt → Prop} {a b a' b' : Pt} {l u l' u' : List Pt} (h : HL S a b l u) (h' : HL S a' b' l' u') : a = a' ∧ b = b' ∧ l = l' ∧ u = u' := by
  have Sa := h.hL.sub a (List.mem_cons_self ..)
  have Sb := h.hL.sub b (by simp)
  have Sa' := h'.hL.sub a' (List.mem_cons_self ..)
  have Sb' := h'.hL.sub b' (by simp)
  have ea : a = a' := by
    rcases h'.mn a Sa with e | e
    · exact e
    · rcases h.mn a' Sa' with k | k
      · exact k.symm
      · exact (lx_asymm e k).elim
  have eb : b = b' := by
    rcases h'.mx b Sb with e | e
    · exact e
    · rcases h.mx b' Sb' with k | k
      · exact k.symm
      · exact (lx_asymm e k).elim
  subst ea eb
  have lst : ∀ (c d : Pt) (m : List Pt), (c :: (m ++ [d])).getLast (List.cons_ne_nil _ _) = d := fun c d m => by
    rw [List.getLast_cons (by simp)]; simp
  have k1 := ch_unique _ a (l ++ [b]) (l' ++ [b]) (Nat.le_refl _) h.hL h'.hL (by rw [lst, lst])
  have s1 := h.swap.hL
  have s2 := h'.swap.hL
  have k2 := ch_unique _ (ng b) (u.map ng ++ [ng a]) (u'.map ng ++ [ng a]) (Nat.le_refl _) s1 s2 (by rw [lst, lst])
  refine ⟨rfl, rfl, List.append_cancel_right k1, ?_⟩
  have k3 := List.append_cancel_right k2
  rw [← map_ng_ng u, k3, map_ng_ng]
/-- the hull of ascending rows with given chains -/
theorem hull_eq {rows : List Pt} {a b : Pt} {l u : List Pt} (h : rows.Pairwise lx) (k : HL (fun q => q ∈ rows) a b l u) : hullR rows = a :: (l ++ b :: u) := by
  match rows, h, k with
  | [], _, k => exact nomatch k.hL.sub a (List.mem_cons_self ..)
  | [x], _, k =>
    have e1 := List.mem_singleton.mp (k.hL.sub a (List.mem_cons_self ..))
    have e2 := List.mem_singleton.mp (k.hL.sub b (by simp))
    have := k.ab
    rw [e1, e2] at this
    exact (lx_irrefl _ this).elim
  | x :: y :: r, h, k =>
    obtain ⟨b', l', u', k', e⟩ := hull_HL h
    obtain ⟨rfl, rfl, rfl, rfl⟩ := k.unique k'
    exact e
section
variable {S : Pt → Prop} {a b : Pt} {l u : List Pt}
theorem HL.triL (h : HL S a b l u) : Tri (a :: (l ++ [b])) := tri_of _ h.hL.asc h.hL.conv
theorem HL.low (h : HL S a b l u) : ∀ p ∈ l, lx a p ∧ lx p b ∧ 0 < cr a p b := fun p hp => by
  have asc := h.hL.asc
  obtain ⟨h1, h2⟩ := List.pairwise_cons.mp asc
  have h3 := (List.pairwise_append.mp h2).2.2 p hp b (by simp)
  have t := (List.pairwise_append.mp h.triL.1).2.2 p hp b (by simp)
  exact ⟨h1 p (by simp [hp]), h3, t⟩
theorem HL.up (h : HL S a b l u) : ∀ p ∈ u, lx a p ∧ lx p b ∧ 0 < cr a b p := fun p hp => by
  obtain ⟨h1, h2, h3⟩ := h.swap.low (ng p) (List.mem_map.mpr ⟨p, hp, rfl⟩)
  rw [cr_ng] at h3
  refine ⟨lx_ng.mp h2, lx_ng.mp h1, ?_⟩
  rw [← cr_cyc] at h3
  have e : cr a b p = cr b p a := cr_cyc a b p
  rw [e]
  rw [cr_cyc] at h3
  exact h3
/-- a point above the chord lies strictly at the left of each side below -/
theorem above {x y a b w : Pt} (dxy : lx x y) (h1 : 0 ≤ cr x y a) (h2 : 0 ≤ cr x y b) (ab : lx a b) (aw : lx a w) (wb : lx w b) (k : 0 < cr a b w) : 0 < cr x y w := by
  have d := lx_pos dxy
  have e := lx_pos ab
  have c := lx_pos aw
  have v := lx_pos wb
  have k1 : 0 < X (sb a b) (sb a w) := k
  rcases Int.lt_or_le (X (sb x y) (sb a b)) 0 with z | z
  · have q : 0 < X (sb a b) (sb x y) := by rw [X_neg]; omega
    have q2 : 0 < X (sb w b) (sb a b) := by
      have : X (sb w b) (sb a b) = X (sb a b) (sb a w) := by unfold X sb; dsimp only; grind
      omega
    have t := (T v e d (by omega) (by omega)).2 (.inl q2)
    have : cr x y w = cr x y b + X (sb w b) (sb x y) := by unfold cr X sb; dsimp only; grind
    omega
  · have t := (T d e c z (by omega)).2 (.inr k1)
    have : cr x y w = cr x y a + X (sb x y) (sb a w) := by unfold cr X sb; dsimp only; grind
    omega
theorem HL.mem (h : HL S a b l u) : ∀ p ∈ a :: (l ++ b :: u), S p := fun p hp => by
  rcases List.mem_cons.mp hp with rfl | hp
  · exact h.hL.sub _ (List.mem_cons_self ..)
  · rcases List.mem_append.mp hp with hp | hp
    · exact h.hL.sub _ (by simp [hp])
    · rcases List.mem_cons.mp hp with rfl | hp
      · exact h.hL.sub _ (by simp)
      · have := h.hU.sub (ng p) (List.mem_map.mpr ⟨p, by simp [hp], rfl⟩)
        rw [ng_ng] at this
        exact this
theorem HL.nodup (h : HL S a b l u) : (a :: (l ++ b :: u)).Nodup := by
  have asc := h.hL.asc
  obtain ⟨h1, h2⟩ := List.pairwise_cons.mp asc
  have ascU := h.swap.hL.asc
  obtain ⟨k1, k2⟩ := List.pairwise_cons.mp ascU
  have ln : l.Nodup := (List.pairwise_append.mp h2).1.imp fun k e => by rw [e] at k; exact lx_irrefl _ k
  have un : u.Nodup := by
    have := (List.pairwise_append.mp k2).1
    rw [List.pairwise_map] at this
    exact this.imp fun k e => by rw [e] at k; exact lx_irrefl _ k
  rw [List.nodup_cons]
  refine ⟨fun m => ?_, List.nodup_append.mpr ⟨ln, List.nodup_cons.mpr ⟨fun m => ?_, un⟩, fun p hp q hq => ?_⟩⟩
  · rcases List.mem_append.mp m with m | m
    · exact lx_irrefl _ (h.low a m).1
    · rcases List.mem_cons.mp m with e | m
      · have := h.ab; rw [← e] at this; exact lx_irrefl _ this
      · exact lx_irrefl _ (h.up a m).1
  · exact lx_irrefl _ (h.up b m).2.1
  · intro e
    subst e
    rcases List.mem_cons.mp hq with e | hq
    · have := (h.low p hp).2.1; rw [e] at this; exact lx_irrefl _ this
    · have q1 := (h.low p hp).2.2
      have q2 := (h.up p hq).2.2
      rw [cr_swap] at q2
      omega
/-- sides of the chain below: all points at the left, other corners strictly -/
theorem HL.sideL (h : HL S a b l u) {pre : List Pt} {x y : Pt} {r : List Pt} (e : a :: (l ++ [b]) = pre ++ x :: y :: r) : (∀ q, S q → 0 ≤ cr x y q) ∧ ∀ q ∈ a :: (l ++ b :: u), q ≠ x → q ≠ y → 0 < cr x y q := by
  have ab := (abv_iff S _).mp h.hL.abv pre x y r e
  refine ⟨ab, fun q hq nx ny => ?_⟩
  have inL : q ∈ a :: (l ++ [b]) → 0 < cr x y q := fun m => by
    have t := h.triL
    rw [e] at t m
    exact abv_tri pre x y r t q m nx ny
  rcases List.mem_cons.mp hq with rfl | hq
  · exact inL (List.mem_cons_self ..)
  · rcases List.mem_append.mp hq with hq | hq
    · exact inL (by simp [hq])
    · rcases List.mem_cons.mp hq with rfl | hq
      · exact inL (by simp)
      · obtain ⟨k1, k2, k3⟩ := h.up q hq
        have dxy : lx x y := by
          have asc := h.hL.asc
          rw [e] at asc
          exact (List.pairwise_cons.mp (List.pairwise_append.mp asc).2.1).1 y (List.mem_cons_self ..)
        exact above dxy (ab a (h.hL.sub a (List.mem_cons_self ..))) (ab b (h.hL.sub b (by simp))) h.ab k1 k2 k3
theorem HL.sideU (h : HL S a b l u) {pre : List Pt} {x y : Pt} {r : List Pt} (e : b :: (u ++ [a]) = pre ++ x :: y :: r) : (∀ q, S q → 0 ≤ cr x y q) ∧ ∀ q ∈ a :: (l ++ b :: u), q ≠ x → q ≠ y → 0 < cr x y q := by
  have e2 : ng b :: (u.map ng ++ [ng a]) = pre.map ng ++ ng x :: ng y :: r.map ng := by
    have := congrArg (List.map ng) e
    simpa using this
  obtain ⟨k1, k2⟩ := h.swap.sideL e2
  refine ⟨fun q hq => ?_, fun q hq nx ny => ?_⟩
  · have := k1 (ng q) (by show S (ng (ng q)); rw [ng_ng]; exact hq)
    rw [cr_ng] at this
    exact this
  · have m : ng q ∈ ng b :: (u.map ng ++ ng a :: l.map ng) := by
      have : q ∈ b :: (u ++ a :: l) := by
        simp only [List.mem_cons, List.mem_append] at hq ⊢
        rcases hq with h | h | h | h
        · exact .inr (.inr (.inl h))
        · exact .inr (.inr (.inr h))
        · exact .inl h
        · exact .inr (.inl h)
      have := List.mem_map_of_mem (f := ng) this
      simpa using this
    have := k2 (ng q) m (fun z => nx (by rw [← ng_ng q, z, ng_ng])) (fun z => ny (by rw [← ng_ng q, z, ng_ng]))
    rw [cr_ng] at this
    exact this
theorem inL {a b q : Pt} {l u : List Pt} (hp : q ∈ a :: (l ++ [b])) : q ∈ a :: (l ++ b :: u) := by
  simp only [List.mem_cons, List.mem_append, List.not_mem_nil, or_false] at hp ⊢
  rcases hp with h | h | h
  · exact .inl h
  · exact .inr (.inl h)
  · exact .inr (.inr (.inl h))
theorem inU {a b q : Pt} {l u : List Pt} (hp : q ∈ b :: (u ++ [a])) : q ∈ a :: (l ++ b :: u) := by
  simp only [List.mem_cons, List.mem_append, List.not_mem_nil, or_false] at hp ⊢
  rcases hp with h | h | h
  · exact .inr (.inr (.inl h))
  · exact .inr (.inr (.inr h))
  · exact .inl h
/-- the corners again have these chains -/
theorem HL.again (h : HL S a b l u) (S' : Pt → Prop) (h1 : ∀ q, S' q → S q) (h2 : ∀ q ∈ a :: (l ++ b :: u), S' q) : HL S' a b l u where
  hL := ⟨h.hL.asc, fun p hp => h2 p (inL hp), h.hL.conv, (abv_iff S' _).mpr fun pre x y r e p hp => (abv_iff S _).mp h.hL.abv pre x y r e p (h1 p hp)⟩
  hU := by
    refine ⟨h.hU.asc, fun p hp => ?_, h.hU.conv, (abv_iff _ _).mpr fun pre x y r e p hp => (abv_iff _ _).mp h.hU.abv pre x y r e p (h1 _ hp)⟩
    obtain ⟨q, hq, rfl⟩ := List.mem_map.mp hp
    show S' (ng (ng q))
    rw [ng_ng]
    exact h2 q (inU hq)
  mn := fun q hq => h.mn q (h1 q hq)
  mx := fun q hq => h.mx q (h1 q hq)
  ab := h.ab
end
/-- a list in which any three turn left is a chain for its points and those above its chord -/
theorem ch_of_tri {S : Pt → Prop} {a b : Pt} {t : List Pt} (asc : (a :: (t ++ [b])).Pairwise lx) (tri : Tri (a :: (t ++ [b]))) (sub : ∀ p ∈ a :: (t ++ [b]), S p)
    (all : ∀ p, S p → p ∈ a :: (t ++ [b]) ∨ (lx a p ∧ lx p b ∧ 0 < cr a b p)) : Ch S (a :: (t ++ [b])) := by
  refine ⟨asc, sub, tri_conv tri, (abv_iff S _).mpr fun pre x y r e p hp => ?_⟩
  have inn : ∀ q ∈ a :: (t ++ [b]), 0 ≤ cr x y q := fun q hq => by
    by_cases h1 : q = x
    · rw [h1, cr_self1]; exact Int.le_refl _
    · by_cases h2 : q = y
      · rw [h2, cr_self2]; exact Int.le_refl _
      · rw [e] at tri hq
        exact Int.le_of_lt (abv_tri pre x y r tri q hq h1 h2)
  rcases all p hp with m | ⟨k1, k2, k3⟩
  · exact inn p m
  · have dxy : lx x y := by
      rw [e] at asc
      exact (List.pairwise_cons.mp (List.pairwise_append.mp asc).2.1).1 y (List.mem_cons_self ..)
    exact Int.le_of_lt (above dxy (inn a (List.mem_cons_self ..)) (inn b (by simp)) ((List.pairwise_cons.mp asc).1 b (by simp)) k1 k2 k3)
theorem HL.triU {S : Pt → Prop} {a b : Pt} {l u : List Pt} (h : HL S a b l u) : Tri (ng b :: (u.map ng ++ [ng a])) := h.swap.triL
/-- without the last corner of the way back -/
theorem HL.shorter_up {S : Pt → Prop} {a b c : Pt} {l u : List Pt} (h : HL S a b l (u ++ [c])) : HL (fun q => q ∈ a :: (l ++ b :: u)) a b l u := by
  have sub : ∀ q, q ∈ a :: (l ++ b :: u) → S q := fun q hq => h.mem q (by
    simp only [List.mem_cons, List.mem_append] at hq ⊢
    rcases hq with h | h | h | h
    · exact .inl h
    · exact .inr (.inl h)
    · exact .inr (.inr (.inl h))
    · exact .inr (.inr (.inr (.inl h))))
  have sl : (u.map ng ++ [ng a]).Sublist ((u ++ [c]).map ng ++ [ng a]) := by
    rw [List.map_append]
    exact (List.sublist_append_left _ _).append (List.Sublist.refl _)
  refine ⟨⟨h.hL.asc, fun p hp => inL hp, h.hL.conv, (abv_iff _ _).mpr fun pre x y r e p hp => (abv_iff S _).mp h.hL.abv pre x y r e p (sub p hp)⟩, ?_, fun q hq => h.mn q (sub q hq), fun q hq => h.mx q (sub q hq), h.ab⟩
  have e : (b :: (u ++ [a])).map ng = ng b :: (u.map ng ++ [ng a]) := by rw [List.map_cons, List.map_append]; rfl
  rw [e]
  refine ch_of_tri (h.swap.hL.asc.sublist (sl.cons₂ _)) (tri_sub (sl.cons₂ _) h.triU) (fun p hp => ?_) fun p hp => ?_
  · rw [← e] at hp
    obtain ⟨q, hq, rfl⟩ := List.mem_map.mp hp
    show ng (ng q) ∈ _
    rw [ng_ng]
    exact inU hq
  · have hp : ng p ∈ a :: (l ++ b :: u) := hp
    by_cases w : ng p ∈ l
    · obtain ⟨k1, k2, k3⟩ := h.low _ w
      refine .inr ⟨by rw [← ng_ng p]; exact lx_ng.mpr k2, by rw [← ng_ng p]; exact lx_ng.mpr k1, ?_⟩
      rw [← ng_ng p, cr_ng, cr_cyc]
      exact k3
    · refine .inl ?_
      rw [← e, ← ng_ng p]
      refine List.mem_map_of_mem ?_
      simp only [List.mem_cons, List.mem_append] at hp ⊢
      rcases hp with h | h | h | h
      · exact .inr (.inr (.inl h))
      · exact absurd h w
      · exact .inl h
      · exact .inr (.inl h)
/-- without the last point, where there is no way back -/
theorem HL.shorter_low {S : Pt → Prop} {a b c : Pt} {l : List Pt} (h : HL S a b (l ++ [c]) []) : HL (fun q => q ∈ a :: (l ++ [c])) a c l [] := by
  have asc : (a :: (l ++ [c])).Pairwise lx := h.hL.asc.sublist ((List.sublist_append_left (l ++ [c]) [b]).cons₂ a)
  have tri : Tri (a :: (l ++ [c])) := tri_sub ((List.sublist_append_left (l ++ [c]) [b]).cons₂ a) h.triL
  have ac : lx a c := (List.pairwise_cons.mp asc).1 c (by simp)
  refine ⟨ch_of_tri asc tri (fun p hp => hp) fun p hp => .inl hp, ?_, fun q hq => ?_, fun q hq => ?_, ac⟩
  · have e : (c :: ([] ++ [a])).map ng = ng c :: ([] ++ [ng a]) := rfl
    rw [e]
    refine ch_of_tri ?_ ⟨by simp, ⟨.nil, trivial⟩⟩ (fun p hp => ?_) fun p hp => ?_
    · refine List.pairwise_cons.mpr ⟨fun q hq => ?_, List.pairwise_singleton _ _⟩
      rw [List.mem_singleton.mp hq]
      exact lx_ng.mpr ac
    · show ng p ∈ _
      rcases List.mem_cons.mp hp with rfl | hp
      · rw [ng_ng]; simp
      · rw [List.mem_singleton.mp hp, ng_ng]; simp
    · have hp : ng p ∈ a :: (l ++ [c]) := hp
      rcases List.mem_cons.mp hp with e1 | hp
      · exact .inl (by rw [← ng_ng p, e1]; simp)
      · rcases List.mem_append.mp hp with hp | hp
        · have k1 := (List.pairwise_cons.mp asc).1 (ng p) (by simp [hp])
          have k2 := (List.pairwise_append.mp (List.pairwise_cons.mp asc).2).2.2 (ng p) hp c (by simp)
          have k3 := (List.pairwise_append.mp tri.1).2.2 (ng p) hp c (by simp)
          refine .inr ⟨by rw [← ng_ng p]; exact lx_ng.mpr k2, by rw [← ng_ng p]; exact lx_ng.mpr k1, ?_⟩
          rw [← ng_ng p, cr_ng, cr_cyc]
          exact k3
        · exact .inl (by rw [← ng_ng p, List.mem_singleton.mp hp]; simp)
  · rcases List.mem_cons.mp hq with e | hq
    · exact .inl e
    · exact .inr ((List.pairwise_cons.mp asc).1 q hq)
  · rcases List.mem_cons.mp hq with e | hq
    · exact .inr (e ▸ ac)
    · rcases List.mem_append.mp hq with hq | hq
      · exact .inr ((List.pairwise_append.mp (List.pairwise_cons.mp asc).2).2.2 q hq c (by simp))
      · exact .inl (List.mem_singleton.mp hq)
theorem split_at (c : List Pt) (k : Nat) (h : k + 1 < c.length) : c = c.take k ++ c[k] :: c[k + 1] :: c.drop (k + 2) := by
  rw [List.getElem_cons_drop, List.getElem_cons_drop, List.take_append_drop]
/-- each side of the corners, the last one to the first -/
theorem HL.side {S : Pt → Prop} {a b : Pt} {l u : List Pt} (h : HL S a b l u) (k : Nat) (x y : Pt) (hx : (a :: (l ++ b :: u))[k]? = some x) (hy : (a :: (l ++ b :: u))[(k + 1) % (a :: (l ++ b :: u)).length]? = some y) :
    (∀ q, S q → 0 ≤ cr x y q) ∧ ∀ q ∈ a :: (l ++ b :: u), q ≠ x → q ≠ y → 0 < cr x y q := by
  have n : (a :: (l ++ b :: u)).length = l.length + u.length + 2 := by simp; omega
  have kl : k < l.length + u.length + 2 := by have := (List.getElem?_eq_some_iff.mp hx).1; omega
  rw [n] at hy
  by_cases c : k ≤ l.length
  · have m : (k + 1) % (l.length + u.length + 2) = k + 1 := Nat.mod_eq_of_lt (by omega)
    rw [m] at hy
    have e1 : (a :: (l ++ [b]))[k]? = some x := by
      rw [← hx]
      cases k with
      | zero => rfl
      | succ k =>
        rw [List.getElem?_cons_succ, List.getElem?_cons_succ, List.getElem?_append_left (by omega), List.getElem?_append_left (by omega)]
    have e2 : (a :: (l ++ [b]))[k + 1]? = some y := by
      rw [← hy, List.getElem?_cons_succ, List.getElem?_cons_succ]
      by_cases d : k < l.length
      · rw [List.getElem?_append_left d, List.getElem?_append_left d]
      · rw [List.getElem?_append_right (by omega), List.getElem?_append_right (by omega)]
        have : k - l.length = 0 := by omega
        rw [this]; rfl
    obtain ⟨i1, e1⟩ := List.getElem?_eq_some_iff.mp e1
    obtain ⟨i2, e2⟩ := List.getElem?_eq_some_iff.mp e2
    have s := split_at _ k i2
    rw [e1, e2] at s
    exact h.sideL s
  · obtain ⟨j, rfl⟩ : ∃ j, k = l.length + 1 + j := ⟨k - (l.length + 1), by omega⟩
    have e1 : (b :: (u ++ [a]))[j]? = some x := by
      rw [← hx]
      have : (a :: (l ++ b :: u))[l.length + 1 + j]? = (b :: u)[j]? := by
        rw [show l.length + 1 + j = (l.length + j) + 1 by omega, List.getElem?_cons_succ, List.getElem?_append_right (by omega)]
        congr 1; omega
      rw [this]
      cases j with
      | zero => rfl
      | succ j => rw [List.getElem?_cons_succ, List.getElem?_cons_succ, List.getElem?_append_left (by omega)]
    have e2 : (b :: (u ++ [a]))[j + 1]? = some y := by
      rw [← hy, List.getElem?_cons_succ]
      by_cases d : j < u.length
      · have m : (l.length + 1 + j + 1) % (l.length + u.length + 2) = l.length + 1 + j + 1 := Nat.mod_eq_of_lt (by omega)
        rw [m, List.getElem?_append_left d, show l.length + 1 + j + 1 = (l.length + (j + 1)) + 1 by omega, List.getElem?_cons_succ, List.getElem?_append_right (by omega)]
        rw [show l.length + (j + 1) - l.length = j + 1 by omega, List.getElem?_cons_succ]
      · have : l.length + 1 + j + 1 = l.length + u.length + 2 := by omega
        rw [this, Nat.mod_self, List.getElem?_append_right (by omega), show j - u.length = 0 by omega]
        rfl
    obtain ⟨i1, e1⟩ := List.getElem?_eq_some_iff.mp e1
    obtain ⟨i2, e2⟩ := List.getElem?_eq_some_iff.mp e2
    have s := split_at _ j i2
    rw [e1, e2] at s
    exact h.sideU s
end G4
set_option Elab.async false
set_option linter.all false
set_option maxRecDepth 100000
set_option maxHeartbeats 4000000
set_option exponentiation.threshold 3000
namespace F3
open PySem PySem.Spec PyProof.Rows L2 FX RM PB KD KS
open PySem.W (dataLe keyToks keyToksAll)
theorem floor_lt {x1 y1 x2 y2 s : Int} (h1 : 0 < x1) (h2 : 0 < x2) (hs : x1 * x2 ≤ s) (c : y1 * x2 < y2 * x1) : y1 * s / x1 < y2 * s / x2 := by
  have s0 : 0 < s := Int.lt_of_lt_of_le (Int.mul_pos h1 h2) hs
  refine Int.lt_of_lt_of_le (Int.lt_succ _) ((Int.le_ediv_iff_mul_le h2).mpr ?_)
  have a : y1 * s / x1 * x1 ≤ y1 * s := Int.ediv_mul_le _ (by omega)
  refine Int.le_of_mul_le_mul_right (a := x1) ?_ h1
  have b : y1 * s / x1 * x1 * x2 ≤ y1 * s * x2 := Int.mul_le_mul_of_nonneg_right a (by omega)
  have k : s * 1 ≤ s * (y2 * x1 - y1 * x2) := Int.mul_le_mul_of_nonneg_left (by omega) (by omega)
  have e1 : (y1 * s / x1 + 1) * x2 * x1 = y1 * s / x1 * x1 * x2 + x1 * x2 := by generalize y1 * s / x1 = m; grind
  have e2 : y2 * s * x1 = s * (y2 * x1 - y1 * x2) + y1 * s * x2 := by grind
  rw [e1, e2]
  omega
theorem lex1 (a b : Int) (h : a < b) (l m : List (Int ⊕ List Nat)) : PyProof.Rows.lexLt itemOrd (.inl a :: l) (.inl b :: m) = true := by
  rw [PyProof.Rows.lex_cons]
  have : itemOrd.blt (.inl a : Int ⊕ List Nat) (.inl b) = true := decide_eq_true h
  rw [this]; rfl
theorem ix_tupK {X : Cx} (K : PySem.W.Frag) (e : X.K = K := by rfl) : IxR X (rIxT K) := e ▸ ix_tup
theorem pg_couK {X : Cx} (K : PySem.W.Frag) {a b : Expr} {k : Nat} {t : TGs} {pos : Pos} (hc : X.calm = true) (h : PGs X [a, b] t) (e : X.K = K := by rfl) (hn : (assignEach [a, b] X.env).length = 2 := by rfl) (hst : (assignEach [a, b] X.env).findIdx? (·.1) = none := by rfl) : PG X (.Tuple [a, b] k pos) (gCou K t) := e ▸ pg_cou hc h hn hst
theorem pg_tupK {X : Cx} (K : PySem.W.Frag) {es : List Expr} {k : Nat} {t : TGs} {n : Nat} {pos : Pos} (hc : X.calm = true) (h : PGs X es t) (e : X.K = K := by rfl) (hn : (assignEach es X.env).length = n := by rfl) (hst : (assignEach es X.env).findIdx? (·.1) = none := by rfl) : PG X (.Tuple es k pos) (gTup K n t) := e ▸ pg_tup hc h hn hst
theorem Room.u65 {k : Nat} {A : Around} (r : Room (k + 1) A) : A.units + 65 < cLine := by have := r.un; omega
theorem ix_listK {X : Cx} (K : PySem.W.Frag) (e : X.K = K := by rfl) : IxR X (rIxL K) := e ▸ ix_list
theorem dpa_ints {K : PySem.W.Frag} {H : Hp} : ∀ {vs : List V} {ns : List Int}, DpAll K H vs (ns.map PyData.int) → vs = ns.map V.int
  | [], [], _ => rfl
  | _ :: _, _ :: _, .cons a b => by rw [dp_int a, dpa_ints b]; rfl
theorem dpall_of {K : PySem.W.Frag} {H : Hp} : ∀ {ps : List (V × PyData)}, (∀ z ∈ ps, Dp K H z.1 z.2) → DpAll K H (ps.map Prod.fst) (ps.map Prod.snd)
  | [], _ => .nil
  | z :: ps, h => .cons (h z (List.mem_cons_self ..)) (dpall_of fun y hy => h y (List.mem_cons_of_mem _ hy))
theorem zip_dp {K : PySem.W.Frag} {H : Hp} : ∀ {xs : List V} {ds : List PyData}, DpAll K H xs ds → ∀ z ∈ xs.zip ds, Dp K H z.1 z.2
  | _, _, .nil, _, h => nomatch h
  | _, _, .cons a b, z, h => by
    rw [List.zip_cons_cons] at h
    rcases List.mem_cons.mp h with rfl | h
    · exact a
    · exact zip_dp b z h
theorem call_tuple_ofK {X : Cx} (K : PySem.W.Frag) (e : X.K = K := by rfl) : CallR X (.type "tuple") (fun xs H Q => ∃ p ys, xs = [.ref p] ∧ ((SqL K H p ys ∧ ∀ l, H l = none → Q (.ref l) (upd H l (.tup ys))) ∨ (SqT K H p ys ∧ Q (.ref p) H))) := e ▸ call_tuple_of
theorem call_list_ofK {X : Cx} (K : PySem.W.Frag) (e : X.K = K := by rfl) : CallR X (.type "list") (fun xs H Q => ∃ p ys, xs = [.ref p] ∧ (SqL K H p ys ∨ SqT K H p ys) ∧ ∀ l, H l = none → Q (.ref l) (upd H l (.lst ys))) := e ▸ call_list_of
theorem op_notInTK {X : Cx} (K : PySem.W.Frag) (hu : X.A.units + 65 < cLine) (e : X.K = K := by rfl) : OpR X (compareOp .NotIn) (rNotInT K) := e ▸ op_notInT hu
theorem op_notInDK {X : Cx} (K : PySem.W.Frag) (hu : X.A.units + 65 < cLine) (e : X.K = K := by rfl) : OpR X (compareOp .NotIn) (rNotInD K) := e ▸ op_notInD hu
theorem Room.u8 {k : Nat} {A : Around} (r : Room k A) : A.units + 8 < cLine := by have := r.un; omega
theorem range_get {α β : Type} (us : List β) (z : β) {g : β → α} : (List.range us.length).map (fun i => g (us.getD i z)) = us.map g := by
  apply List.ext_getElem
  · simp
  · intro i h1 h2
    simp at h1 h2
    simp [List.getD_eq_getElem?_getD, h2]
/-! places by their order -/
def ltP (a b : Pl) : Prop := a.1.1 * b.1.2 < b.1.1 * a.1.2 ∨ (a.1 = b.1 ∧ a.2.1 * b.2.2 < b.2.1 * a.2.2)
def zP : Pl := ((0, 1), (0, 1))
def rowP (s : Int) (p : Pl) : PyData := .tuple [.int (p.1.1 * s / p.1.2), .int (p.2.1 * s / p.2.2), pD p]
theorem toks_rowP (s : Int) (p : Pl) : ∃ l, keyToks (rowP s p) = .inl 1 :: .inl (p.1.1 * s / p.1.2) :: .inl 1 :: .inl (p.2.1 * s / p.2.2) :: l := by
  simp [rowP, keyToks, keyToksAll]
theorem row_leP {s : Int} {a b : Pl} (ha : RatP a) (hb : RatP b) (ne : a ≠ b) (s1 : a.1.2 * b.1.2 ≤ s) (s2 : a.2.2 * b.2.2 ≤ s) (h : (!PyProof.Rows.lexLt PyProof.Rows.itemOrd (keyToks (rowP s b)) (keyToks (rowP s a))) = true) : ltP a b := by
  obtain ⟨la, ea⟩ := toks_rowP s a
  obtain ⟨lb, eb⟩ := toks_rowP s b
  rw [ea, eb, PyProof.Rows.lex_self] at h
  have q1 : ¬ b.1.1 * s / b.1.2 < a.1.1 * s / a.1.2 := fun z => by rw [lex1 _ _ z] at h; cases h
  rcases Int.lt_trichotomy (a.1.1 * b.1.2) (b.1.1 * a.1.2) with c | c | c
  · exact .inl c
  · have e1 : a.1 = b.1 := rat_eq ha.1 hb.1 c
    refine .inr ⟨e1, ?_⟩
    rw [e1, PyProof.Rows.lex_self, PyProof.Rows.lex_self] at h
    have q2 : ¬ b.2.1 * s / b.2.2 < a.2.1 * s / a.2.2 := fun z => by rw [lex1 _ _ z] at h; cases h
    rcases Int.lt_trichotomy (a.2.1 * b.2.2) (b.2.1 * a.2.2) with c | c | c
    · exact c
    · exact absurd (Prod.ext e1 (rat_eq ha.2 hb.2 c)) ne
    · exact absurd (floor_lt hb.2.1 ha.2.1 (by rw [Int.mul_comm]; exact s2) c) q2
  · exact absurd (floor_lt hb.1.1 ha.1.1 (by rw [Int.mul_comm]; exact s1) c) q1
def getP' : PyData → Pl
  | .tuple [_, _, .tuple [.tuple [.int a, .int b], .tuple [.int c, .int d]]] => ((a, b), (c, d))
  | _ => zP
theorem alike_rowsP (s : Int) (us : List Pl) : PySem.W.AllAlike (us.map (rowP s)) := fun x hx y hy => by
  obtain ⟨a, _, rfl⟩ := List.mem_map.mp hx
  obtain ⟨b, _, rfl⟩ := List.mem_map.mp hy
  simp [rowP, pD, rD, PySem.W.alike, PySem.W.alikeAll]
theorem sortable_rowsP (s : Int) (us : List Pl) : PySem.W.Sortable (us.map (rowP s)) := .inl fun x hx => by
  obtain ⟨a, _, rfl⟩ := List.mem_map.mp hx
  exact ⟨_, _, rfl⟩
theorem depth_rowsP (s : Int) (us : List Pl) : ∀ d ∈ us.map (rowP s), d.depth ≤ 60 := fun x hx => by
  obtain ⟨a, _, rfl⟩ := List.mem_map.mp hx
  simp [rowP, pD, rD, PyData.depth, PyData.depthAll]
theorem sorted_ltP {s : Int} {us : List Pl} {ps : List (V × PyData)} {xs : List V} (hl : xs.length = us.length) (hp : ∀ d ∈ us, RatP d) (nd : us.Nodup) (hs : ∀ d ∈ us, ∀ e ∈ us, d.1.2 * e.1.2 ≤ s ∧ d.2.2 * e.2.2 ≤ s)
    (pm : ps.Perm (xs.zip (us.map (rowP s)))) (pw : ps.Pairwise fun x y => dataLe false Prod.snd x y = true) :
    ∃ os : List Pl, os.Pairwise ltP ∧ (∀ d, d ∈ os ↔ d ∈ us) ∧ os.length = us.length ∧ ps.map Prod.snd = os.map (rowP s) := by
  have p2 : (ps.map Prod.snd).Perm (us.map (rowP s)) := by
    have := pm.map Prod.snd
    rwa [List.map_snd_zip (by rw [List.length_map]; omega)] at this
  have p3 : ((ps.map Prod.snd).map getP').Perm us := by
    have := p2.map getP'
    rw [List.map_map (f := rowP s)] at this
    rwa [show getP' ∘ rowP s = id from rfl, List.map_id] at this
  have e4 : ps.map Prod.snd = ((ps.map Prod.snd).map getP').map (rowP s) := by
    rw [List.map_map]
    refine (List.map_id _).symm.trans (List.map_congr_left fun x hx => ?_)
    obtain ⟨d, _, rfl⟩ := List.mem_map.mp (p2.mem_iff.mp hx)
    rfl
  refine ⟨(ps.map Prod.snd).map getP', ?_, fun d => p3.mem_iff, p3.length_eq, e4⟩
  have nd2 : ((ps.map Prod.snd).map getP').Nodup := p3.nodup_iff.mpr nd
  have pw2 : (ps.map Prod.snd).Pairwise fun x y => (!PyProof.Rows.lexLt PyProof.Rows.itemOrd (keyToks y) (keyToks x)) = true := by
    rw [List.pairwise_map]
    exact pw.imp fun h => h
  rw [e4, List.pairwise_map] at pw2
  have all : ∀ d ∈ (ps.map Prod.snd).map getP', d ∈ us := fun d hd => p3.mem_iff.mp hd
  generalize (ps.map Prod.snd).map getP' = os at nd2 pw2 all
  clear e4 p3 p2 pw pm
  induction os with
  | nil => exact .nil
  | cons d os ih =>
    rw [List.pairwise_cons] at pw2 ⊢
    rw [List.nodup_cons] at nd2
    refine ⟨fun e he => ?_, ih nd2.2 pw2.2 fun x hx => all x (List.mem_cons_of_mem _ hx)⟩
    have m1 := all d (List.mem_cons_self ..)
    have m2 := all e (List.mem_cons_of_mem _ he)
    exact row_leP (hp d m1) (hp e m2) (fun z => nd2.1 (z ▸ he)) (hs _ m1 _ m2).1 (hs _ m1 _ m2).2 (pw2.1 e he)
theorem dp_rowP {K : PySem.W.Frag} {H : Hp} {v : V} {s : Int} {p : Pl} (h : Dp K H v (rowP s p)) : ∃ q a b c, v = .ref q ∧ SqT K H q [a, b, c] ∧ Dp K H c (pD p) := by
  cases h with
  | tup h g =>
    cases g with
    | cons h1 g => cases g with
      | cons h2 g => cases g with
        | cons h3 g => cases g with
          | nil => exact ⟨_, _, _, _, rfl, h, h3⟩
def mxb (q : Pl) : Int := if q.2.2 > q.1.2 then q.2.2 else q.1.2
theorem mxb_le (q : Pl) : q.1.2 ≤ mxb q ∧ q.2.2 ≤ mxb q := by unfold mxb; split <;> omega
theorem mxb_sz {n : Nat} {q : Pl} (h : SzP n q) : Sz n (mxb q) := by
  unfold mxb
  split
  · exact h.2.2
  · exact h.1.2
/-- a sequence of places -/
structure Pls (K : PySem.W.Frag) (H : Hp) (p : Addr) (xs : List V) (ps : List Pl) : Prop where
  s : SqL K H p xs ∨ SqT K H p xs
  l : ps.length = xs.length
  d : ∀ (i : Nat) (x : V) (q : Pl), xs[i]? = some x → ps[i]? = some q → Pla K H x q
theorem Pls.same {K : PySem.W.Frag} {H H' : Hp} {p : Addr} {xs : List V} {ps : List Pl} (h : Pls K H p xs ps) (s : Same H H') : Pls K H' p xs ps := ⟨h.s.elim (fun z => .inl (s.seq z)) fun z => .inr (same_t s z), h.l, fun i x q ex eq => (h.d i x q ex eq).same s⟩
def GoodP (n : Nat) (p : Pl) : Prop := RatP p ∧ SzP n p
/-! rough places -/
def rgP (p : Pl) : Int × Int := (p.1.1 * 2 ^ 64 / p.1.2, p.2.1 * 2 ^ 64 / p.2.2)
def rwP (p : Pl) : PyData := .tuple [rD (rgP p), pD p]
theorem noL_rw (p : Pl) : noL (rwP p) = true := by simp [rwP, pD, rD, noL, noLs]
def apartB (a b : Pl) : Bool := if (rgP a).1 = (rgP b).1 then decide (a.1 = b.1) && !decide ((rgP a).2 = (rgP b).2) else true
def spRough (K : PySem.W.Frag) : Sp := fun vs H Q _ => ∃ v p, vs = [v] ∧ Pla K H v p ∧ GoodP 400 p ∧ ∀ H' z, Same H H' → Dp K H' z (rD (rgP p)) → Q z H'
def spApart (K : PySem.W.Frag) : Sp := fun vs H Q _ => ∃ v u a b, vs = [v, u] ∧ Dp K H v (rwP a) ∧ Dp K H u (rwP b) ∧ ∀ H', Same H H' → Q (.bl (apartB a b)) H'
theorem eqv_rr (a b : Rt) : PyData.eqv (rD a) (rD b) = decide (a = b) := by
  obtain ⟨a1, a2⟩ := a; obtain ⟨b1, b2⟩ := b
  simp [rD, PyData.eqv, PyData.eqvAll]
  rw [Bool.eq_iff_iff]; simp
theorem toks_rw (p : Pl) : ∃ l, keyToks (rwP p) = .inl 1 :: .inl 1 :: .inl (rgP p).1 :: .inl 1 :: .inl (rgP p).2 :: l := by
  simp [rwP, rD, keyToks, keyToksAll]
def rwLe (a b : Pl) : Prop := (rgP a).1 < (rgP b).1 ∨ ((rgP a).1 = (rgP b).1 ∧ (rgP a).2 ≤ (rgP b).2)
theorem rw_le {a b : Pl} (h : (!PyProof.Rows.lexLt PyProof.Rows.itemOrd (keyToks (rwP b)) (keyToks (rwP a))) = true) : rwLe a b := by
  obtain ⟨la, ea⟩ := toks_rw a
  obtain ⟨lb, eb⟩ := toks_rw b
  rw [ea, eb, PyProof.Rows.lex_self, PyProof.Rows.lex_self] at h
  have q1 : ¬ (rgP b).1 < (rgP a).1 := fun z => by rw [lex1 _ _ z] at h; cases h
  by_cases c : (rgP a).1 < (rgP b).1
  · exact .inl c
  · have e : (rgP a).1 = (rgP b).1 := by omega
    refine .inr ⟨e, ?_⟩
    rw [e, PyProof.Rows.lex_self, PyProof.Rows.lex_self] at h
    have q2 : ¬ (rgP b).2 < (rgP a).2 := fun z => by rw [lex1 _ _ z] at h; cases h
    omega
theorem floor_lt' {x1 y1 x2 y2 s : Int} (h1 : 0 < x1) (h2 : 0 < x2) (s0 : 0 < s) (c : y1 * s / x1 < y2 * s / x2) : y1 * x2 < y2 * x1 := by
  by_cases k0 : y1 * x2 < y2 * x1
  · exact k0
  have k : y2 * x1 ≤ y1 * x2 := by omega
  refine absurd c (Int.not_lt.mpr ((Int.le_ediv_iff_mul_le h1).mpr ?_))
  have a : y2 * s / x2 * x2 ≤ y2 * s := Int.ediv_mul_le _ (by omega)
  refine Int.le_of_mul_le_mul_right (a := x2) ?_ h2
  generalize y2 * s / x2 = q at a ⊢
  have b : q * x2 * x1 ≤ y2 * s * x1 := Int.mul_le_mul_of_nonneg_right a (by omega)
  have d : y2 * x1 * s ≤ y1 * x2 * s := Int.mul_le_mul_of_nonneg_right k (by omega)
  have e1 : q * x1 * x2 = q * x2 * x1 := by grind
  have e2 : y2 * s * x1 = y2 * x1 * s := by grind
  have e3 : y1 * s * x2 = y1 * x2 * s := by grind
  rw [e1, e3]
  omega
theorem apart_lt {a b : Pl} (ha : RatP a) (hb : RatP b) (h : rwLe a b) (k : apartB a b = true) : ltP a b := by
  unfold apartB at k
  have s0 : (0 : Int) < 2 ^ 64 := by decide
  rcases h with h | ⟨h, h2⟩
  · exact .inl (floor_lt' ha.1.1 hb.1.1 s0 h)
  · rw [if_pos h] at k
    simp only [Bool.and_eq_true, decide_eq_true_eq, Bool.not_eq_true', decide_eq_false_iff_not] at k
    refine .inr ⟨k.1, floor_lt' ha.2.1 hb.2.1 s0 ?_⟩
    show (rgP a).2 < (rgP b).2
    omega
theorem lt_cross {a1 a2 b1 b2 c1 c2 : Int} (hb : 0 < b2) (ha : 0 < a2) (hc : 0 < c2) (h : a1 * b2 < b1 * a2) (k : b1 * c2 ≤ c1 * b2) : a1 * c2 < c1 * a2 := by
  refine Int.lt_of_mul_lt_mul_right (a := b2) ?_ (Int.le_of_lt hb)
  have u : a1 * b2 * c2 < b1 * a2 * c2 := Int.mul_lt_mul_of_pos_right h hc
  have v : b1 * c2 * a2 ≤ c1 * b2 * a2 := Int.mul_le_mul_of_nonneg_right k (by omega)
  have e1 : a1 * c2 * b2 = a1 * b2 * c2 := by grind
  have e2 : b1 * a2 * c2 = b1 * c2 * a2 := by grind
  have e3 : c1 * a2 * b2 = c1 * b2 * a2 := by grind
  rw [e1, e3]
  omega
theorem ltP_trans {a b c : Pl} (ha : RatP a) (hb : RatP b) (hc : RatP c) (h : ltP a b) (k : ltP b c) : ltP a c := by
  rcases h with h | ⟨h1, h2⟩
  · rcases k with k | ⟨k1, k2⟩
    · exact .inl (lt_cross hb.1.1 ha.1.1 hc.1.1 h (Int.le_of_lt k))
    · exact .inl (by rw [← k1]; exact h)
  · rcases k with k | ⟨k1, k2⟩
    · exact .inl (by rw [h1]; exact k)
    · exact .inr ⟨h1.trans k1, lt_cross hb.2.1 ha.2.1 hc.2.1 h2 (Int.le_of_lt k2)⟩
theorem chain_lt : ∀ {os : List Pl}, (∀ p ∈ os, RatP p) → os.Pairwise rwLe → (∀ i, i + 1 < os.length → apartB (os.getD i zP) (os.getD (i + 1) zP) = true) → os.Pairwise ltP
  | [], _, _, _ => .nil
  | [a], _, _, _ => by simp
  | a :: b :: r, hr, hp, hk => by
    have ab := apart_lt (hr a (by simp)) (hr b (by simp)) ((List.pairwise_cons.mp hp).1 b (by simp)) (hk 0 (by simp))
    have ih := chain_lt (os := b :: r) (fun p h => hr p (List.mem_cons_of_mem _ h)) (List.pairwise_cons.mp hp).2 fun i hi => hk (i + 1) (by simp at hi ⊢; omega)
    refine List.pairwise_cons.mpr ⟨fun x hx => ?_, ih⟩
    rcases List.mem_cons.mp hx with rfl | hx
    · exact ab
    · exact ltP_trans (hr a (by simp)) (hr b (by simp)) (hr x (by simp [hx])) ab ((List.pairwise_cons.mp ih).1 x hx)
def getRW : PyData → Pl
  | .tuple [_, .tuple [.tuple [.int a, .int b], .tuple [.int c, .int d]]] => ((a, b), (c, d))
  | _ => zP
theorem alike_rw (us : List Pl) : PySem.W.AllAlike (us.map rwP) := fun x hx y hy => by
  obtain ⟨a, _, rfl⟩ := List.mem_map.mp hx
  obtain ⟨b, _, rfl⟩ := List.mem_map.mp hy
  simp [rwP, pD, rD, PySem.W.alike, PySem.W.alikeAll]
theorem sortable_rw (us : List Pl) : PySem.W.Sortable (us.map rwP) := .inl fun x hx => by
  obtain ⟨a, _, rfl⟩ := List.mem_map.mp hx
  exact ⟨_, _, rfl⟩
theorem depth_rw (us : List Pl) : ∀ d ∈ us.map rwP, d.depth ≤ 60 := fun x hx => by
  obtain ⟨a, _, rfl⟩ := List.mem_map.mp hx
  simp [rwP, pD, rD, PyData.depth, PyData.depthAll]
theorem sorted_rw {us : List Pl} {ps : List (V × PyData)} {xs : List V} (hl : xs.length = us.length) (pm : ps.Perm (xs.zip (us.map rwP))) (pw : ps.Pairwise fun x y => dataLe false Prod.snd x y = true) :
    ∃ os : List Pl, os.Pairwise rwLe ∧ (∀ d, d ∈ os ↔ d ∈ us) ∧ os.length = us.length ∧ ps.map Prod.snd = os.map rwP := by
  have p2 : (ps.map Prod.snd).Perm (us.map rwP) := by
    have := pm.map Prod.snd
    rwa [List.map_snd_zip (by rw [List.length_map]; omega)] at this
  have p3 : ((ps.map Prod.snd).map getRW).Perm us := by
    have := p2.map getRW
    rw [List.map_map (f := rwP)] at this
    rwa [show getRW ∘ rwP = id from rfl, List.map_id] at this
  have e4 : ps.map Prod.snd = ((ps.map Prod.snd).map getRW).map rwP := by
    rw [List.map_map]
    refine (List.map_id _).symm.trans (List.map_congr_left fun x hx => ?_)
    obtain ⟨d, _, rfl⟩ := List.mem_map.mp (p2.mem_iff.mp hx)
    rfl
  refine ⟨(ps.map Prod.snd).map getRW, ?_, fun d => p3.mem_iff, p3.length_eq, e4⟩
  have pw2 : (ps.map Prod.snd).Pairwise fun x y => (!PyProof.Rows.lexLt PyProof.Rows.itemOrd (keyToks y) (keyToks x)) = true := by
    rw [List.pairwise_map]
    exact pw.imp fun h => h
  rw [e4, List.pairwise_map] at pw2
  exact pw2.imp fun h => rw_le h
theorem cut_drop1 (xs : List V) : cutV xs (some 1) none = xs.drop 1 := by
  cases xs with
  | nil => rfl
  | cons x xs =>
    unfold cutV
    have e1 : HT.sIx (x :: xs).length 0 (some 1) = 1 := by
      show (if (1 : Int) < 0 then (1 + ((x :: xs).length : Int)).toNat else min (1 : Int).toNat (x :: xs).length) = _
      rw [if_neg (by omega)]
      simp
    have e2 : HT.sIx (x :: xs).length (x :: xs).length none = (x :: xs).length := rfl
    rw [e1, e2]
    simp
theorem dpa_bls {K : PySem.W.Frag} {H : Hp} : ∀ {vs : List V} {bs : List Bool}, DpAll K H vs (bs.map PyData.bool) → vs = bs.map V.bl
  | [], [], _ => rfl
  | _ :: _, _ :: _, .cons a b => by rw [dpa_bls b]; cases a; rfl
theorem range_all' (n : Nat) (f : Nat → Bool) : ((List.range n).map f).all id = true ↔ ∀ i, i < n → f i = true := by
  simp [List.all_eq_true]
theorem tlc_allG {K : PySem.W.Frag} {J : Addr → It} {n : Nat} {G : Addr → Hp → Prop} {Y : Addr → Nat → Hp → V → Hp → Prop} {wi : TI} {g : TG} {te : TE} {vs : List Nat} {σ : L2.St} {H : Hp} {Q : VK} (Gd : Addr → Hp → Prop) (hw : ∀ R : It → Hp → Prop, (∀ a H1, Gd a H1 → R (J a) H1) → wi σ H R)
    (w : ∀ a, Walk (J a) n (G a) (Y a)) (f : Nat → PyData) (hn : ∀ i, noL (f i) = true) (hz : n < sizeLine) (hG : ∀ a H1 H', Gd a H1 → Same H1 H' → G a H') (hY : ∀ a i H0 x H', Y a i H0 x H' → Same H0 H')
    (hs : ∀ a H1, Gd a H1 → ∀ i x H0 H' (R : V → Hp → Prop), i < n → Same H1 H0 → Y a i H0 x H' → (∀ y H4, Same H' H4 → Dp K H4 y (f i) → R y H4) → g x (wipe σ vs) H' fun σ2 H2 => wipe σ2 vs = wipe σ vs ∧ te σ2 H2 R)
    (hd : ∀ a H1, Gd a H1 → ∀ D H' ys, Same H1 H' → H1 D = none → H' D = some (.lst ys) → DpAll K H' ys ((List.range n).map f) → Q (.ref D) H') : tLc wi g tYes te vs σ H Q :=
  hw _ fun a H1 d => ZP.lc_filter (tt := tYes) (w a) (fun _ => true) f hn hz (fun H' s => hG a H1 H' d s) (hY a) (fun i x H0 H' R R0 il s y yes no => hs a H1 d i x H0 H' R il s y (yes rfl)) (fun D H' ys s n e h => hd a H1 d D H' ys s n e (by rw [List.filter_eq_self.mpr (fun _ _ => rfl)] at h; exact h))
def spOrdP (K : PySem.W.Frag) : Sp := fun vs H Q _ => ∃ (p : Addr) (xs : List V) (ps : List Pl), vs = [.ref p] ∧ Pls K H p xs ps ∧ ps.length ≤ 60 ∧ (∀ q ∈ ps, GoodP 400 q) ∧
  ∀ (H' : Hp) (q : Addr) (ys : List V) (os : List Pl), Same H H' → H q = none → os.Pairwise ltP → (∀ r, r ∈ os ↔ r ∈ ps) → os.length ≤ ps.length → H' q = some (.lst ys) → DpAll K H' ys (os.map pD) → Q (.ref q) H'
section
variable {P : Program} {w : World} {K : PySem.W.Frag} {mg : Str → Option Value} {base : Heap}
abbrev srough_place : Stmt := topS 39
theorem scrough_place : FnScope ["place", "x", "bottom", "y", "other_bottom"] ["place"] (defScope srough_place) := ⟨rfl, rfl, rfl, by decide +kernel, rfl, by decide +kernel, by decide +kernel⟩
theorem okrough_place (T : Txt K mg "rough_place" srough_place)  : DefOk P w K mg base CX0 "rough_place" 1 ["place"] (spRough K) := by
  obtain ⟨f, fd, F, gf⟩ := T
  refine ⟨f, fd, gf, F.kp, F.binds (fun _ _ _ _ _ _ us hl => match us, hl with | [_], _ => rfl), F.ok scrough_place (fun vs H Q E h => ?_) (fun cdv A outer s H vs Q E hr h => ?_)⟩
  · obtain ⟨v, p, rfl, _⟩ := h; rfl
  · obtain ⟨v, p, rfl, hv, gp, q⟩ := h
    refine ⟨_, (pss_cons (ps_asg (pv 0) (pg_cou rfl (pgs_cons (pg_cou rfl (pgs_cons (pg_name (i := 1) scrough_place.nd rfl (.inl rfl)) (pgs_cons (pg_name (i := 2) scrough_place.nd rfl (.inl rfl)) pgs_nil))) (pgs_cons (pg_cou rfl (pgs_cons (pg_name (i := 3) scrough_place.nd rfl (.inl rfl)) (pgs_cons (pg_name (i := 4) scrough_place.nd rfl (.inl rfl)) pgs_nil))) pgs_nil)))) (pss_one (ps_ret (pe_tup (pa_cons (pe_op op_fdivW (pe_op op_mulW (pv 1) (pe_op op_powW pe_int pe_int)) (pv 2)) (pa_cons (pe_op op_fdivW (pe_op op_mulW (pv 3) (pe_op op_powW pe_int pe_int)) (pv 4)) pa_nil)))))), ?_⟩
    obtain ⟨x, y, c, hx, hy⟩ := hv
    have cx := cou_r hx
    have cy := cou_r hy
    obtain ⟨⟨i1, i2⟩, z1, z2⟩ := gp
    have z64 : Sz 65 ((2 : Int) ^ (64 : Int).toNat) := by show (18446744073709551616 : Nat) < 2 ^ 65; decide
    have pw : 0 ≤ (64 : Int) ∧ (Builtin.Int.intBits 2 : Int) * 64 ≤ 2 ^ 27 := by decide
    refine ⟨_, rfl, x, y, c, _, _, rfl, _, _, cx, _, _, rfl, _, _, rfl, rfl, _, _, rfl, _, _, cy, _, _, rfl, _, _, rfl, rfl, rfl, ?_⟩
    dsimp only [tRet]
    refine ⟨_, rfl, _, _, rfl, rfl, pw, _, _, rfl, rfl, wide_mul z1.1 z64 (by decide) (by decide) (by decide), _, rfl, _, _, rfl, rfl, wide_div i1.1 z1.2 (by decide) (by decide), ?_⟩
    refine ⟨_, rfl, _, _, rfl, rfl, pw, _, _, rfl, rfl, wide_mul z2.1 z64 (by decide) (by decide) (by decide), _, rfl, _, _, rfl, rfl, wide_div i2.1 z2.2 (by decide) (by decide), ?_⟩
    exact ⟨(by show 2 ≤ sizeLine; decide), fun b nb => q _ _ (PB.same_new nb) (dp_mkr nb)⟩
abbrev sare_told_apart : Stmt := topS 40
theorem scare_told_apart : FnScope ["row", "following", "rough", "place", "next_rough", "next_place"] ["row", "following"] (defScope sare_told_apart) := ⟨rfl, rfl, rfl, by decide +kernel, rfl, by decide +kernel, by decide +kernel⟩
theorem okare_told_apart (T : Txt K mg "are_told_apart" sare_told_apart)  : DefOk P w K mg base CX0 "are_told_apart" 1 ["row", "following"] (spApart K) := by
  obtain ⟨f, fd, F, gf⟩ := T
  refine ⟨f, fd, gf, F.kp, F.binds (fun _ _ _ _ _ _ us hl => match us, hl with | [_, _], _ => rfl), F.ok scare_told_apart (fun vs H Q E h => ?_) (fun cdv A outer s H vs Q E hr h => ?_)⟩
  · obtain ⟨v, u, a, b, rfl, _⟩ := h; rfl
  · obtain ⟨v, u, a, b, rfl, hv, hu, q⟩ := h
    refine ⟨_, (pss_cons (ps_asg (pe_tup (pa_cons (pv 0) (pa_cons (pv 1) pa_nil))) (pg_cou rfl (pgs_cons (pg_cou rfl (pgs_cons (pg_name (i := 2) scare_told_apart.nd rfl (.inl rfl)) (pgs_cons (pg_name (i := 3) scare_told_apart.nd rfl (.inl rfl)) pgs_nil))) (pgs_cons (pg_cou rfl (pgs_cons (pg_name (i := 4) scare_told_apart.nd rfl (.inl rfl)) (pgs_cons (pg_name (i := 5) scare_told_apart.nd rfl (.inl rfl)) pgs_nil))) pgs_nil)))) (pss_cons (ps_if (pt_cmpR op_ne (pe_ix ix_it (pv 2) pe_int (fun _ _ => rfl)) (pe_ix ix_it (pv 4) pe_int (fun _ _ => rfl)) (nomark _)) (pss_one (ps_ret pe_bl)) pss_nil) (pss_one (ps_ret (pe_and (pe_cmpR (op_eqD hr.units) (pe_ix ix_it (pv 3) pe_int (fun _ _ => rfl)) (pe_ix ix_it (pv 5) pe_int (fun _ _ => rfl)) (nomark _)) (pe_one (pe_cmpR op_ne (pe_ix ix_it (pv 2) pe_int (fun _ _ => rfl)) (pe_ix ix_it (pv 4) pe_int (fun _ _ => rfl)) (nomark _)))))))), ?_⟩
    obtain ⟨p1, r1, l1, rfl, c1, hr1, hl1⟩ := dp_t2 hv
    obtain ⟨p2, r2, l2, rfl, c2, hr2, hl2⟩ := dp_t2 hu
    refine ⟨_, rfl, _, rfl, (by show 2 ≤ sizeLine; decide), fun b_ nb => ?_⟩
    have sn := PB.same_new (o := .tup [.ref p1, .ref p2]) nb
    refine ⟨_, _, ⟨b_, rfl, .inl (.inl (.inl upd_same))⟩, _, _, rfl, _, _, ⟨p1, rfl, .inl (same_t sn c1)⟩, _, _, rfl, _, _, rfl, rfl, _, _, rfl, _, _, ⟨p2, rfl, .inl (same_t sn c2)⟩, _, _, rfl, _, _, rfl, rfl, rfl, ?_⟩
    have cr1 := cou_r (Dp_same sn hr1)
    have cr2 := cou_r (Dp_same sn hr2)
    obtain ⟨x1, y1, k1, hx1, hy1⟩ := pla_t (Dp_same sn hl1)
    obtain ⟨x2, y2, k2, hx2, hy2⟩ := pla_t (Dp_same sn hl2)
    dsimp only
    refine ⟨_, rfl, _, _, 0, _, rfl, cr1, rfl, _, rfl, _, _, 0, _, rfl, cr2, rfl, rfl, _, rfl, ?_⟩
    have un : apartB a b = if (rgP a).1 = (rgP b).1 then decide (a.1 = b.1) && !decide ((rgP a).2 = (rgP b).2) else true := rfl
    by_cases e1 : (rgP a).1 = (rgP b).1
    · refine itF (by simp [e1]) ?_
      rw [if_pos e1] at un
      refine ⟨_, rfl, _, _, 0, _, rfl, k1, rfl, _, rfl, _, _, 0, _, rfl, k2, rfl, _, _, hx1, hx2, (shaped_r _).1, (shaped_r _).1, _, rfl, ?_⟩
      have e2 := eqv_rr a.1 b.1
      by_cases e3 : a.1 = b.1
      · refine itT (e2.trans (decide_eq_true e3)) ?_
        refine ⟨_, rfl, _, _, 1, _, rfl, cr1, rfl, _, rfl, _, _, 1, _, rfl, cr2, rfl, rfl, ?_⟩
        rw [decide_eq_true e3, Bool.true_and] at un
        have := q _ sn
        rw [un] at this
        simpa using this
      · refine itF (e2.trans (decide_eq_false e3)) ?_
        rw [decide_eq_false e3, Bool.false_and] at un
        have := q _ sn
        rw [un] at this
        exact this
    · refine itT (by simp [e1]) ?_
      rw [if_neg e1] at un
      have := q _ sn
      rw [un] at this
      exact this
abbrev sorder_places : Stmt := topS 41
theorem scorder_places : FnScope ["places", "unlike", "rows", "scale", "keyed", "place", "row", "following", "_", "x", "y"] ["places"] (defScope sorder_places) := ⟨rfl, rfl, rfl, by decide +kernel, rfl, by decide +kernel, by decide +kernel⟩
theorem okorder_places (T : Txt K mg "order_places" sorder_places) (Gscaled_floor : DefOk P w K mg base CX0 "scaled_floor" 1 ["top", "bottom", "scale"] spFloor) (Grough_place : DefOk P w K mg base CX0 "rough_place" 1 ["place"] (spRough K)) (Gare_told_apart : DefOk P w K mg base CX0 "are_told_apart" 1 ["row", "following"] (spApart K)) (mlist : mg "list" = none) (mmax : mg "max" = none) (msorted : mg "sorted" = none) (mzip : mg "zip" = none) (mall : mg "all" = none) : DefOk P w K mg base CX0 "order_places" 2 ["places"] (spOrdP K) := by
  obtain ⟨f, fd, F, gf⟩ := T
  refine ⟨f, fd, gf, F.kp, F.binds (fun _ _ _ _ _ _ us hl => match us, hl with | [_], _ => rfl), F.ok scorder_places (fun vs H Q E h => ?_) (fun cdv A outer s H vs Q E hr h => ?_)⟩
  · obtain ⟨p, xs, ps, rfl, _⟩ := h; rfl
  · obtain ⟨p, xs, ps, rfl, hP, l6, hG, q⟩ := h
    refine ⟨_, (pss_cons (ps_set (i := 1) scorder_places.nd rfl (.inl rfl) (pe_callTy (KN.cr_listN rfl) (by rfl) mlist (by decide +kernel) (pa_cons (KN.pe_dcN (o0 := fun D => KN.ND P w D []) (Put := KN.PutN K P w) (own := [("x", 9), ("y", 10)]) (hnew := fun h H hb => KN.hnewN P w h H hb) (hput := KN.hputN rfl (Room.u8 hr) rfl rfl) rfl scorder_places.nd (pi_seq (pv 0)) (blkOk_by (N := ["places", "unlike", "rows", "scale", "keyed", "place", "row", "following", "_", "x", "y"]) (sc := defScope sorder_places) (by decide +kernel)) (fun _ _ _ _ _ => (pg_couK K rfl (pgs_cons (pg_name (i := 9) scorder_places.nd rfl (.inl rfl)) (pgs_cons (pg_name (i := 10) scorder_places.nd rfl (.inl rfl)) pgs_nil)))) (fun _ _ _ _ _ => (pe_tup (pa_cons (pv 9) (pa_cons (pv 10) pa_nil)))) (fun _ _ _ _ _ => pe_bl)) pa_nil))) (pss_cons (ps_set (i := 2) scorder_places.nd rfl (.inl rfl) (pe_callB (cr_sortDat (Room.u65 hr)) (by rfl) msorted (by decide +kernel) (pa_cons (pe_lc (own := [("place", 5)]) rfl scorder_places.nd (pi_seq (pv 1)) (blkOk_by (N := ["places", "unlike", "rows", "scale", "keyed", "place", "row", "following", "_", "x", "y"]) (sc := defScope sorder_places) (by decide +kernel)) (fun _ _ _ _ _ => (pg_name (i := 5) scorder_places.nd rfl (.inl rfl))) (fun _ _ _ _ _ => pts_nil) (fun _ _ _ _ _ => (pe_tup (pa_cons (pe_def Grough_place (hr.mono (by decide)) (by rfl) (pa_cons (pv 5) pa_nil)) (pa_cons (pv 5) pa_nil))))) pa_nil))) (pss_cons (ps_if (pt_val (pe_callB (cr_all rfl) (by rfl) mall (by decide +kernel) (pa_cons (pe_lc (own := [("row", 6), ("following", 7)]) rfl scorder_places.nd (ZP.pi_zipG (by rfl) mzip (pa_cons (pv 2) (pa_cons (pe_slice sl_list (pv 2) (po_some pe_int) po_none) pa_nil))) (blkOk_by (N := ["places", "unlike", "rows", "scale", "keyed", "place", "row", "following", "_", "x", "y"]) (sc := defScope sorder_places) (by decide +kernel)) (fun _ _ _ _ _ => (pg_couK K rfl (pgs_cons (pg_name (i := 6) scorder_places.nd rfl (.inl rfl)) (pgs_cons (pg_name (i := 7) scorder_places.nd rfl (.inl rfl)) pgs_nil)))) (fun _ _ _ _ _ => pts_nil) (fun _ _ _ _ _ => (pe_def Gare_told_apart (hr.mono (by decide)) (by rfl) (pa_cons (pv 6) (pa_cons (pv 7) pa_nil))))) pa_nil))) (pss_one (ps_ret (pe_lc (own := [("_", 8), ("place", 5)]) rfl scorder_places.nd (pi_seq (pv 2)) (blkOk_by (N := ["places", "unlike", "rows", "scale", "keyed", "place", "row", "following", "_", "x", "y"]) (sc := defScope sorder_places) (by decide +kernel)) (fun _ _ _ _ _ => (pg_couK K rfl (pgs_cons (pg_name (i := 8) scorder_places.nd rfl (.inl rfl)) (pgs_cons (pg_name (i := 5) scorder_places.nd rfl (.inl rfl)) pgs_nil)))) (fun _ _ _ _ _ => pts_nil) (fun _ _ _ _ _ => (pv 5))))) pss_nil) (pss_cons (ps_set (i := 3) scorder_places.nd rfl (.inr rfl) (pe_op op_powW (pe_callB (cr_max rfl) (by rfl) mmax (by decide +kernel) (pa_cons (pe_lc (own := [("x", 9), ("y", 10)]) rfl scorder_places.nd (pi_seq (pv 1)) (blkOk_by (N := ["places", "unlike", "rows", "scale", "keyed", "place", "row", "following", "_", "x", "y"]) (sc := defScope sorder_places) (by decide +kernel)) (fun _ _ _ _ _ => (pg_couK K rfl (pgs_cons (pg_name (i := 9) scorder_places.nd rfl (.inl rfl)) (pgs_cons (pg_name (i := 10) scorder_places.nd rfl (.inl rfl)) pgs_nil)))) (fun _ _ _ _ _ => pts_nil) (fun _ _ _ _ _ => (pe_callB (call_max2 rfl) (by rfl) mmax (by decide +kernel) (pa_cons (pe_ix (ix_itK K) (pv 9) pe_int (fun _ _ => rfl)) (pa_cons (pe_ix (ix_itK K) (pv 10) pe_int (fun _ _ => rfl)) pa_nil))))) pa_nil)) pe_int)) (pss_cons (ps_setLc (i := 4) (own := [("x", 9), ("y", 10)]) rfl scorder_places.nd rfl rfl (sw_true rfl rfl rfl (by decide +kernel)) (pi_seq (pv 1)) (blkOk_by (N := ["places", "unlike", "rows", "scale", "keyed", "place", "row", "following", "_", "x", "y"]) (sc := defScope sorder_places) (by decide +kernel)) (fun _ _ _ _ _ => (pg_couK K rfl (pgs_cons (pg_name (i := 9) scorder_places.nd rfl (.inl rfl)) (pgs_cons (pg_name (i := 10) scorder_places.nd rfl (.inl rfl)) pgs_nil)))) (fun _ _ _ _ _ => pts_nil) (fun _ _ _ _ _ => (pe_tup (pa_cons (pe_def Gscaled_floor (hr.mono (by decide)) (by rfl) (pa_cons (pe_ix (ix_itK K) (pv 9) pe_int (fun _ _ => rfl)) (pa_cons (pe_ix (ix_itK K) (pv 9) pe_int (fun _ _ => rfl)) (pa_cons (pv 3) pa_nil)))) (pa_cons (pe_def Gscaled_floor (hr.mono (by decide)) (by rfl) (pa_cons (pe_ix (ix_itK K) (pv 10) pe_int (fun _ _ => rfl)) (pa_cons (pe_ix (ix_itK K) (pv 10) pe_int (fun _ _ => rfl)) (pa_cons (pv 3) pa_nil)))) (pa_cons (pe_tup (pa_cons (pv 9) (pa_cons (pv 10) pa_nil))) pa_nil)))))) (pss_one (ps_ret (pe_lc (own := [("row", 6)]) rfl scorder_places.nd (pi_seq (pe_callB (cr_sortDat (Room.u65 hr)) (by rfl) msorted (by decide +kernel) (pa_cons (pv 4) pa_nil))) (blkOk_by (N := ["places", "unlike", "rows", "scale", "keyed", "place", "row", "following", "_", "x", "y"]) (sc := defScope sorder_places) (by decide +kernel)) (fun _ _ _ _ _ => (pg_name (i := 6) scorder_places.nd rfl (.inl rfl))) (fun _ _ _ _ _ => pts_nil) (fun _ _ _ _ _ => (pe_ix (ix_tupK K) (pv 6) pe_int (fun _ _ => rfl))))))))))), ?_⟩
    have lx : xs.length < sizeLine := small1000 (by have := hP.l; omega)
    dsimp only [tSeq, tAsg, tCB, tCons, tNil]
    refine KN.dc_places (K := K) (P := P) (w := w) (a := p) (xs := xs) (j := 0) ps (by rfl) hP.s hP.l lx (fun i x F R r ex er sF hR => ?_) fun D F1 es s1 eD lp => ?_
    · obtain ⟨vx, vy, c, hx, hy⟩ := (hP.d i x r ex er).same sF
      exact ⟨_, _, c, _, _, rfl, _, _, rfl, rfl, rfl, _, rfl, _, rfl, (by show 2 ≤ sizeLine; decide), fun b nb => hR b _ (PB.same_new nb) (dp_mk2 nb hx hy)⟩
    have hu := KN.uqP_len ps
    have nd := KN.uqP_nodup ps
    have um : ∀ e, e ∈ KN.uqP ps ↔ e ∈ ps := fun e => KN.uqP_mem
    generalize KN.uqP ps = us at lp hu nd um
    have hp : ∀ d ∈ us, GoodP 400 d := fun d hd => hG d ((um d).mp hd)
    refine ⟨D, es, us, rfl, eD, lp, fun l ys nl hys => ?_⟩
    have sF := PB.same_new (o := .lst ys) nl
    have hL : SqL K (upd F1 l (.lst ys)) l ys := .inl (.inl upd_same)
    have hA := DpAll_same sF hys
    generalize upd F1 l (.lst ys) = F at sF hL hA ⊢
    have yl : ys.length = us.length := by rw [DpAll_len hA, List.length_map]
    have yz : ys.length < sizeLine := small1000 (by omega)
    have at_ : ∀ {i : Nat} {x : V} {G : Hp}, Same F G → ys[i]? = some x → ∃ d, us[i]? = some d ∧ us.getD i zP = d ∧ d ∈ us ∧ Dp K G x (pD d) := fun {i x G} s e => by
      obtain ⟨d, ed, hd⟩ := DpAll_at hA e
      rw [List.getElem?_map] at ed
      cases eu : us[i]? with
      | none => rw [eu] at ed; cases ed
      | some u => rw [eu] at ed; cases ed; exact ⟨u, rfl, by rw [List.getD_eq_getElem?_getD, eu]; rfl, List.mem_of_getElem? eu, Dp_same s hd⟩
    dsimp only [tSeq, tAsg, gName, tOp, tCKw, tCons, tNil, tC, tCB]
    refine lc_map (K := K) (a := l) (xs := ys) (j := 1) (fun i => rwP (us.getD i zP)) (fun i => noL_rw _) (by rfl) (.inl hL) yz (fun i x G R ex sx hR => ?_) fun D3 F3 ws s3 n3 e3 h3 => ?_
    · obtain ⟨d, ed, e, dm, hx⟩ := at_ sx ex
      (try dsimp only at hR)
      rw [e] at hR
      refine ⟨rfl, x, rfl, _, _, rfl, pla_t (Dp_same (fun _ _ z => z) hx), hp d dm, fun H' z s' hz => ⟨x, rfl, (by show 2 ≤ sizeLine; decide), fun b nb => ?_⟩⟩
      exact hR _ _ (s'.trans (PB.same_new nb)) (dp_mk2 nb hz (Dp_same s' hx))
    have h3' : DpAll K F3 ws (us.map rwP) := by rw [← range_get us zP, ← yl]; exact h3
    have wl : ws.length = us.length := by rw [DpAll_len h3', List.length_map]
    refine ⟨D3, ws, us.map rwP, rfl, .inl (.inl e3), h3', alike_rw us, sortable_rw us, depth_rw us, fun pz b pm pw nb => ?_⟩
    obtain ⟨os, o1, o2, o3, o4⟩ := sorted_rw wl pm pw
    have sb := PB.same_new (o := .lst (pz.map Prod.fst)) nb
    have hZ : DpAll K (upd F3 b (.lst (pz.map Prod.fst))) (pz.map Prod.fst) (os.map rwP) := by
      rw [← o4]
      exact dpall_of fun z hz => Dp_same sb (zip_dp h3' z (pm.mem_iff.mp hz))
    have eb : (upd F3 b (.lst (pz.map Prod.fst))) b = some (.lst (pz.map Prod.fst)) := upd_same
    generalize upd F3 b (.lst (pz.map Prod.fst)) = F4 at sb hZ eb ⊢
    generalize pz.map Prod.fst = zs at hZ eb
    clear o4 pm pw nb
    have zl : zs.length = os.length := by rw [DpAll_len hZ, List.length_map]
    have go : ∀ d ∈ os, GoodP 400 d := fun d hd => hp d ((o2 d).mp hd)
    have hZat : ∀ {i : Nat} {x : V} {G : Hp}, Same F4 G → zs[i]? = some x → i < os.length ∧ Dp K G x (rwP (os.getD i zP)) := fun {i x G} s e => by
      obtain ⟨d, ed, hd⟩ := DpAll_at hZ e
      rw [List.getElem?_map] at ed
      cases eo : os[i]? with
      | none => rw [eo] at ed; cases ed
      | some o => rw [eo] at ed; cases ed; exact ⟨(List.getElem?_eq_some_iff.mp eo).1, by rw [show os.getD i zP = o by rw [List.getD_eq_getElem?_getD, eo]; rfl]; exact Dp_same s hd⟩
    dsimp only [tIfS, tB, tCB, tCons, tNil]
    refine tlc_allG (K := K) (J := fun c => ZP.ItzG K false false b c) (n := os.length - 1) (G := fun c H' => ZP.SqE K false H' b zs ∧ ZP.SqE K false H' c (zs.drop 1)) (fun c F5 => Same F4 F5 ∧ F5 c = some (.lst (zs.drop 1)))
      (fun R hR => ⟨_, rfl, _, rfl, _, rfl, b, zs, rfl, .inl (.inl eb), fun c nc => ?_⟩) (fun c => ZP.walk_zipG (by rw [List.length_drop]; omega)) (fun i => .bool (apartB (os.getD i zP) (os.getD (i + 1) zP))) (fun i => by simp [noL]) (small1000 (by omega)) (fun c F5 H' ⟨s5, ec⟩ s' => ⟨s'.seq (.inl (.inl (s5 _ _ eb))), s'.seq (.inl (.inl ec))⟩) (fun c => ZP.ypair_same) ?_ ?_
    · have sc' := PB.same_new (o := .lst (zs.drop 1)) nc
      rw [cut_drop1]
      exact ⟨b, c, false, false, zs, zs.drop 1, rfl, .inl (.inl (sc' _ _ eb)), .inl (.inl upd_same), hR c _ ⟨sc', upd_same⟩⟩
    · rintro c F5 ⟨s5, ec⟩ i x H0 H2 R il s2 ⟨T, vx, vy, rfl, nT, rfl, ex, ey⟩ yes
      have sT := PB.same_new (o := .tup [vx, vy]) nT
      have s3_ := (s5.trans s2).trans sT
      obtain ⟨i1, hx⟩ := hZat s3_ ex
      have ey : (List.drop 1 zs)[i]? = some vy := ey
      rw [List.getElem?_drop] at ey
      obtain ⟨i2, hy⟩ := hZat s3_ ey
      rw [Nat.add_comm 1 i] at hy
      exact ⟨vx, vy, ⟨T, rfl, .inl (.inl (.inl upd_same))⟩, _, _, rfl, _, _, rfl, rfl, rfl, vx, rfl, vy, rfl, vx, vy, _, _, rfl, hx, hy, fun H' s' => yes _ _ s' (.bl _)⟩
    rintro c F5 ⟨s5, ec⟩ D6 F6 bs s6 n6 e6 h6
    have eB := dpa_bls (bs := (List.range (os.length - 1)).map fun i => apartB (os.getD i zP) (os.getD (i + 1) zP)) (by rw [List.map_map]; exact h6)
    have s46 := s5.trans s6
    have sF6 : Same F F6 := (s3.trans sb).trans s46
    have sH6 : Same H F6 := (s1.trans sF).trans sF6
    have hA6 : SqL K F6 l ys := sF6.seq hL
    refine ⟨D6, _, rfl, by rw [← eB]; exact .inl (.inl e6), _, rfl, ?_⟩
    split
    · rename_i all_
      have ord := chain_lt (fun d hd => (go d hd).1) o1 fun i hi => (range_all' _ _).mp all_ i (by omega)
      dsimp only [tRet]
      refine lc_map (K := K) (a := b) (xs := zs) (j := 2) (fun i => pD (os.getD i zP)) (fun i => by simp [pD, rD, noL, noLs]) (by rfl) (.inl (.inl (.inl (s46 _ _ eb)))) (small1000 (by omega)) (fun i x G R ex sx hR => ?_) fun D8 F8 ts s8 n8 e8 h8 => ?_
      · obtain ⟨i1, hx⟩ := hZat (s46.trans sx) ex
        obtain ⟨pr, r1, l1, rfl, c1, hr1, hl1⟩ := dp_t2 hx
        exact ⟨_, _, ⟨pr, rfl, .inl c1⟩, _, _, rfl, _, _, rfl, rfl, rfl, l1, rfl, hR _ _ (fun _ _ z => z) hl1⟩
      have h8' : DpAll K F8 ts (os.map pD) := by rw [← range_get os zP, ← zl]; exact h8
      exact q F8 D8 ts os (sH6.trans s8) (sH6.free n8) ord (fun d => (o2 d).trans (um d)) (by omega) e8 h8'
    rename_i none_
    have pos : 0 < us.length := by
      rcases Nat.eq_zero_or_pos us.length with z | z
      · exact absurd (by rw [o3, z]; rfl) none_
      · exact z
    dsimp only [tNext, tSeq, tAsg, gName, tOp, tCB, tCons, tNil, tC]
    have at6 : ∀ {i : Nat} {x : V} {G : Hp}, Same F6 G → ys[i]? = some x → ∃ d, us[i]? = some d ∧ us.getD i zP = d ∧ d ∈ us ∧ Pla K G x d := fun s' e => by
      obtain ⟨d, a1, a2, a3, a4⟩ := at_ (sF6.trans s') e
      exact ⟨d, a1, a2, a3, pla_t a4⟩
    refine lc_map (K := K) (a := l) (xs := ys) (j := 1) (fun i => .int (mxb (us.getD i zP))) (fun i => by simp [noL]) (by rfl) (.inl hA6) yz (fun i x G R ex sx hR => ?_) fun D7 F7 vs s7 n7 e7 h7 => ?_
    · obtain ⟨d, ed, e, _, vx, vy, c, hx, hy⟩ := at6 sx ex
      (try dsimp only at hR)
      rw [e] at hR
      exact ⟨_, _, c, _, _, rfl, _, _, rfl, rfl, rfl, vx, rfl, _, _, 1, _, rfl, cou_r hx, rfl, vy, rfl, _, _, 1, _, rfl, cou_r hy, rfl, _, _, rfl, hR _ _ (fun _ _ z => z) (.int _)⟩
    have h7' : DpAll K F7 vs ((us.map mxb).map PyData.int) := by
      rw [List.map_map, ← range_get us zP, ← yl]; exact h7
    have ew := dpa_ints h7'
    refine ⟨D7, us.map mxb, rfl, by rw [← ew]; exact .inl (.inl e7), by rw [List.length_map]; exact pos, fun m m0 m1 => ?_⟩
    have mz : Sz 400 m ∧ ∀ d ∈ us, d.1.2 ≤ m ∧ d.2.2 ≤ m := by
      refine ⟨?_, fun d hd => ?_⟩
      · obtain ⟨d, hd, rfl⟩ := List.mem_map.mp m0
        exact mxb_sz (hp d hd).2
      · have := m1 _ (List.mem_map.mpr ⟨d, hd, rfl⟩)
        have := mxb_le d
        omega
    refine ⟨_, _, rfl, rfl, ⟨by decide, ?_⟩, ?_⟩
    · have := intBits_le mz.1
      omega
    have e2 : m ^ (2 : Int).toNat = m * m := by show m ^ 2 = m * m; rw [Int.pow_succ, Int.pow_succ, Int.pow_zero, Int.one_mul]
    have hs : ∀ d ∈ us, ∀ e ∈ us, d.1.2 * e.1.2 ≤ m ^ (2 : Int).toNat ∧ d.2.2 * e.2.2 ≤ m ^ (2 : Int).toNat := fun d hd e he => by
      rw [e2]
      have a1 := (hp d hd).1
      have a2 := (hp e he).1
      have b1 := mz.2 d hd
      have b2 := mz.2 e he
      have c1 := a1.1.1
      have c2 := a2.1.1
      have c3 := a1.2.1
      have c4 := a2.2.1
      exact ⟨Int.mul_le_mul b1.1 b2.1 (by omega) (by omega), Int.mul_le_mul b1.2 b2.2 (by omega) (by omega)⟩
    have sz : Sz 4000 (m ^ (2 : Int).toNat) := by
      rw [e2]
      exact sz_mono (sz_mul mz.1 mz.1) (by decide)
    clear e2
    dsimp only [tSeq, tAsg, gName]
    revert hs sz
    generalize m ^ (2 : Int).toNat = sc
    intro hs sz
    refine lc_map (K := K) (a := l) (xs := ys) (j := 1) (fun i => rowP sc (us.getD i zP)) (fun i => by simp [rowP, pD, rD, noL, noLs]) (by rfl) (.inl (s7.seq hA6)) yz (fun i x F8a R ex sx hR => ?_) fun D8 F8 ks s8 n8 e8 h8 => ?_
    · obtain ⟨d, ed, e, dm, vx, vy, c, hx, hy⟩ := at6 (s7.trans sx) ex
      (try dsimp only at hR)
      rw [e] at hR
      obtain ⟨⟨i1, i2⟩, z1, z2⟩ := hp d dm
      have cx := cou_r hx
      have cy := cou_r hy
      refine ⟨_, _, c, _, _, rfl, _, _, rfl, rfl, rfl, vx, rfl, _, _, 0, _, rfl, cx, rfl, vx, rfl, _, _, 1, _, rfl, cx, rfl, _, rfl, _, _, _, rfl, i1.1, sz_mono z1.1 (by decide), sz_mono z1.2 (by decide), sz, ?_⟩
      refine ⟨vy, rfl, _, _, 0, _, rfl, cy, rfl, vy, rfl, _, _, 1, _, rfl, cy, rfl, _, rfl, _, _, _, rfl, i2.1, sz_mono z2.1 (by decide), sz_mono z2.2 (by decide), sz, ?_⟩
      refine ⟨vx, rfl, vy, rfl, (by show 2 ≤ sizeLine; decide), fun b nb => ⟨(by show 3 ≤ sizeLine; decide), fun e ne => ?_⟩⟩
      exact hR _ _ ((PB.same_new nb).trans (PB.same_new ne)) (.tup (.inl (.inl upd_same)) (.cons (.int _) (.cons (.int _) (.cons (Dp_same (PB.same_new ne) (dp_mk2 nb hx hy)) .nil))))
    have h8' : DpAll K F8 ks (us.map (rowP sc)) := by rw [← range_get us zP, ← yl]; exact h8
    have kl : ks.length = us.length := by rw [DpAll_len h8', List.length_map]
    dsimp only [tRet]
    refine lc_mapG (K := K) (fun a rs F9 => ∃ os : List Pl, Same F8 F9 ∧ SqL K F9 a rs ∧ DpAll K F9 rs (os.map (rowP sc)) ∧ os.Pairwise ltP ∧ (∀ d, d ∈ os ↔ d ∈ us) ∧ os.length = us.length)
      (fun R hR => ⟨_, rfl, D8, ks, us.map (rowP sc), rfl, .inl (.inl e8), h8', alike_rowsP sc us, sortable_rowsP sc us, depth_rowsP sc us, fun ps b pm pw nb => ?_⟩) (fun a rs F9 ⟨os, s9, hL9, h9, ob, om, ol⟩ => ?_)
    · obtain ⟨os, o1, o2, o3, o4⟩ := sorted_ltP kl (fun d hd => (hp d hd).1) nd hs pm pw
      refine hR b (ps.map Prod.fst) _ ⟨os, PB.same_new nb, .inl (.inl upd_same), ?_, o1, o2, o3⟩
      rw [← o4]
      exact dpall_of fun z hz => Dp_same (PB.same_new nb) (zip_dp h8' z (pm.mem_iff.mp hz))
    have rl : rs.length = os.length := by rw [DpAll_len h9, List.length_map]
    have s16 := ((sH6.trans s7).trans s8).trans s9
    refine ⟨hL9, small1000 (by omega), fun i => pD (os.getD i zP), fun i => by simp [pD, rD, noL, noLs], fun i x F9a R ex sx hR => ?_, fun D10 F10 ts s10 n10 e10 h10 => ?_⟩
    · obtain ⟨d', ed, hd⟩ := DpAll_at h9 ex
      rw [List.getElem?_map] at ed
      cases eo : os[i]? with
      | none => rw [eo] at ed; cases ed
      | some d =>
        rw [eo] at ed
        cases ed
        have e : os.getD i zP = d := by rw [List.getD_eq_getElem?_getD, eo]; rfl
        (try dsimp only at hR)
        rw [e] at hR
        obtain ⟨pr, c1, c2, c3, rfl, hT, hc⟩ := dp_rowP (Dp_same sx hd)
        exact ⟨rfl, _, rfl, pr, _, 2, _, rfl, rfl, hT, rfl, hR _ _ (fun _ _ z => z) hc⟩
    have h10' : DpAll K F10 ts (os.map pD) := by rw [← range_get os zP, ← rl]; exact h10
    exact q _ D10 ts os (s16.trans s10) (s16.free n10) ob (fun d => (om d).trans (um d)) (by omega) e10 h10'
end
end F3
set_option Elab.async false
set_option linter.all false
set_option maxRecDepth 100000
set_option maxHeartbeats 4000000
set_option exponentiation.threshold 3000
namespace F3
open PySem PySem.Spec PyProof.Rows L2 FX RM PB KD KS
/-- above 0 if three places turn left -/
def sgP (a b c : Pl) : Int := (rawC (wrow a) (wrow b) (wrow c)).1
def pushP (p : Pl) : List Pl → List Pl
  | y :: x :: r => if sgP x y p ≤ 0 then pushP p (x :: r) else p :: y :: x :: r
  | st => p :: st
def stP (l : List Pl) : List Pl := l.foldl (fun s p => pushP p s) []
def chP (l : List Pl) : List Pl := (stP l).reverse
def hullP (os : List Pl) : List Pl := if os.length = 1 then os else (chP os).dropLast ++ (chP os.reverse).dropLast
theorem sgn_le (i : Int) : sgn i ≤ 0 ↔ i ≤ 0 := by
  unfold sgn
  by_cases a : i < 0
  · rw [if_pos a]; omega
  · rw [if_neg a]
    by_cases b : 0 < i
    · rw [if_pos b]; omega
    · rw [if_neg b]; omega
theorem push_mem {p q : Pl} : ∀ {st : List Pl}, q ∈ pushP p st → q = p ∨ q ∈ st
  | [], h => .inl (List.mem_singleton.mp h)
  | [y], h => by
    rcases List.mem_cons.mp h with h | h
    · exact .inl h
    · exact .inr h
  | y :: x :: r, h => by
    unfold pushP at h
    split at h
    · rcases push_mem h with h | h
      · exact .inl h
      · exact .inr (List.mem_cons_of_mem _ h)
    · rcases List.mem_cons.mp h with h | h
      · exact .inl h
      · exact .inr h
theorem st_mem {q : Pl} : ∀ {l s : List Pl}, q ∈ l.foldl (fun s p => pushP p s) s → q ∈ l ∨ q ∈ s
  | [], _, h => .inr h
  | p :: l, s, h => by
    have h : q ∈ l.foldl (fun s p => pushP p s) (pushP p s) := h
    rcases st_mem h with h | h
    · exact .inl (List.mem_cons_of_mem _ h)
    · rcases push_mem h with h | h
      · exact .inl (h ▸ List.mem_cons_self ..)
      · exact .inr h
theorem push_len (p : Pl) : ∀ st : List Pl, (pushP p st).length ≤ st.length + 1
  | [] => Nat.le_refl _
  | [y] => Nat.le_refl _
  | y :: x :: r => by
    unfold pushP
    split
    · have := push_len p (x :: r)
      simp at this ⊢
      omega
    · simp
theorem st_len : ∀ (l s : List Pl), (l.foldl (fun s p => pushP p s) s).length ≤ l.length + s.length
  | [], s => by simp
  | p :: l, s => by
    have := st_len l (pushP p s)
    have := push_len p s
    rw [List.foldl_cons, List.length_cons]
    omega
theorem dp_snoc2 {K : PySem.W.Frag} {H : Hp} {a b : PyData} : ∀ {ds : List PyData} {ys : List V}, DpAll K H ys (ds ++ [a, b]) → ∃ zs v w, ys = zs ++ [v, w] ∧ DpAll K H zs ds ∧ Dp K H v a ∧ Dp K H w b
  | [], _, .cons h1 (.cons h2 .nil) => ⟨[], _, _, rfl, .nil, h1, h2⟩
  | _ :: _, _, .cons h t => by
    obtain ⟨zs, v, w, rfl, k1, k2, k3⟩ := dp_snoc2 t
    exact ⟨_ :: zs, v, w, rfl, .cons h k1, k2, k3⟩
theorem atI_2 {α : Type} (zs : List α) (v w : α) : atI (zs ++ [v, w]) (-2) = some v ∧ atI (zs ++ [v, w]) (-1) = some w := by
  have hl : (zs ++ [v, w]).length = zs.length + 2 := by simp
  have e2 : ixN (zs ++ [v, w]).length (-2) = some zs.length := by
    unfold ixN
    rw [if_neg (by omega), hl, if_pos (by omega)]
    congr 1; omega
  have e1 : ixN (zs ++ [v, w]).length (-1) = some (zs.length + 1) := by
    unfold ixN
    rw [if_neg (by omega), hl, if_pos (by omega)]
    congr 1; omega
  unfold atI
  rw [e1, e2]
  constructor
  · show (zs ++ [v, w])[zs.length]? = some v
    rw [List.getElem?_append_right (Nat.le_refl _), Nat.sub_self]; rfl
  · show (zs ++ [v, w])[zs.length + 1]? = some w
    rw [List.getElem?_append_right (by omega), show zs.length + 1 - zs.length = 1 by omega]; rfl
theorem noLs_p (ds : List Pl) : noLs (ds.map pD) = true := noLs_all fun d hd => by
  obtain ⟨x, _, rfl⟩ := List.mem_map.mp hd
  simp [pD, rD, noL, noLs]
theorem noL_pp (p : Pl) : noL (pD p) = true := by simp [pD, rD, noL, noLs]
theorem cut_last (xs : List V) : cutV xs none (some (-1)) = xs.dropLast := by
  unfold cutV
  rw [List.dropLast_eq_take]
  cases xs with
  | nil => rfl
  | cons x xs =>
    have e1 : HT.sIx (x :: xs).length 0 none = 0 := rfl
    have e2 : HT.sIx (x :: xs).length (x :: xs).length (some (-1)) = (x :: xs).length - 1 := by
      show (if (-1 : Int) < 0 then (-1 + ((x :: xs).length : Int)).toNat else min (-1 : Int).toNat (x :: xs).length) = _
      rw [if_pos (by omega)]
      simp only [List.length_cons]
      omega
    rw [e1, e2]; rfl
theorem dp_dropLast {K : PySem.W.Frag} {H : Hp} : ∀ {ys : List V} {ds : List PyData}, DpAll K H ys ds → DpAll K H ys.dropLast ds.dropLast
  | _, _, .nil => .nil
  | _, _, .cons _ .nil => .nil
  | _, _, .cons h (.cons h2 t) => .cons h (dp_dropLast (.cons h2 t))
theorem dp_rev {K : PySem.W.Frag} {H : Hp} : ∀ {ys : List V} {ds : List PyData}, DpAll K H ys ds → DpAll K H ys.reverse ds.reverse
  | _, _, .nil => .nil
  | _, _, .cons h t => by rw [List.reverse_cons, List.reverse_cons]; exact DpAll_snoc h (dp_rev t)
theorem dp_app {K : PySem.W.Frag} {H : Hp} : ∀ {vs us : List V} {ds es : List PyData}, DpAll K H vs ds → DpAll K H us es → DpAll K H (vs ++ us) (ds ++ es)
  | _, _, _, _, .nil, h => h
  | _, _, _, _, .cons a b, h => .cons a (dp_app b h)
def sc (N : Int) (p : Pl) : G4.Pt := (p.1.1 * (N / p.1.2), p.2.1 * (N / p.2.2))
/-- N is a bottom of a place -/
def Bot (N : Int) (p : Pl) : Prop := RatP p ∧ p.1.2 ∣ N ∧ p.2.2 ∣ N
theorem sc_1 {N : Int} {p : Pl} (h : Bot N p) : (sc N p).1 * p.1.2 = p.1.1 * N ∧ (sc N p).2 * p.2.2 = p.2.1 * N := by
  obtain ⟨_, d1, d2⟩ := h
  constructor
  · show p.1.1 * (N / p.1.2) * p.1.2 = _
    rw [Int.mul_assoc, Int.ediv_mul_cancel d1]
  · show p.2.1 * (N / p.2.2) * p.2.2 = _
    rw [Int.mul_assoc, Int.ediv_mul_cancel d2]
theorem sc_w {N : Int} {p : Pl} (h : Bot N p) : 0 < (wrow p).2.2 ∧ (sc N p).1 * (wrow p).2.2 = N * (wrow p).1 ∧ (sc N p).2 * (wrow p).2.2 = N * (wrow p).2.1 := by
  obtain ⟨w0, w1, w2⟩ := wrow_spec h.1
  obtain ⟨s1, s2⟩ := sc_1 h
  have b1 := h.1.1.1
  have b2 := h.1.2.1
  refine ⟨w0, ?_, ?_⟩
  · refine Int.eq_of_mul_eq_mul_right (a := p.1.2) (by omega) ?_
    generalize (sc N p).1 = x at *
    generalize (wrow p).2.2 = W at *
    generalize (wrow p).1 = Y at *
    calc x * W * p.1.2 = x * p.1.2 * W := by grind
      _ = N * (p.1.1 * W) := by rw [s1]; grind
      _ = N * Y * p.1.2 := by rw [← w1]; grind
  · refine Int.eq_of_mul_eq_mul_right (a := p.2.2) (by omega) ?_
    generalize (sc N p).2 = x at *
    generalize (wrow p).2.2 = W at *
    generalize (wrow p).2.1 = Y at *
    calc x * W * p.2.2 = x * p.2.2 * W := by grind
      _ = N * (p.2.1 * W) := by rw [s2]; grind
      _ = N * Y * p.2.2 := by rw [← w2]; grind
theorem sc_cr {N : Int} {a b c : Pl} (ha : Bot N a) (hb : Bot N b) (hc : Bot N c) : sgP a b c * (N * N) = G4.cr (sc N a) (sc N b) (sc N c) * ((wrow a).2.2 * (wrow b).2.2 * (wrow c).2.2) := by
  obtain ⟨_, a1, a2⟩ := sc_w ha
  obtain ⟨_, b1, b2⟩ := sc_w hb
  obtain ⟨_, c1, c2⟩ := sc_w hc
  unfold sgP rawC G4.cr
  dsimp only
  generalize sc N a = A at *
  generalize sc N b = B at *
  generalize sc N c = C at *
  generalize wrow a = U at *
  generalize wrow b = V at *
  generalize wrow c = W at *
  have e : (U.2.2 * (V.1 * W.2.1 - V.2.1 * W.1) + V.2.2 * (W.1 * U.2.1 - W.2.1 * U.1) + W.2.2 * (U.1 * V.2.1 - U.2.1 * V.1)) * (N * N) =
    U.2.2 * ((N * V.1) * (N * W.2.1) - (N * V.2.1) * (N * W.1)) + V.2.2 * ((N * W.1) * (N * U.2.1) - (N * W.2.1) * (N * U.1)) + W.2.2 * ((N * U.1) * (N * V.2.1) - (N * U.2.1) * (N * V.1)) := by grind
  rw [e, ← a1, ← a2, ← b1, ← b2, ← c1, ← c2]
  grind
theorem sc_pos {N : Int} (n0 : 0 < N) {a b c : Pl} (ha : Bot N a) (hb : Bot N b) (hc : Bot N c) : (sgP a b c ≤ 0 ↔ G4.cr (sc N a) (sc N b) (sc N c) ≤ 0) ∧ (sgP a b c < 0 ↔ G4.cr (sc N a) (sc N b) (sc N c) < 0) := by
  have e := sc_cr ha hb hc
  have w := Int.mul_pos (Int.mul_pos (sc_w ha).1 (sc_w hb).1) (sc_w hc).1
  have n2 := Int.mul_pos n0 n0
  generalize (wrow a).2.2 * (wrow b).2.2 * (wrow c).2.2 = W at *
  generalize N * N = M at *
  generalize sgP a b c = s at *
  generalize G4.cr (sc N a) (sc N b) (sc N c) = t at *
  have k1 : s < 0 ↔ s * M < 0 := ⟨fun h => Int.mul_neg_of_neg_of_pos h n2, fun h => by
    rcases Int.lt_or_le s 0 with z | z
    · exact z
    · have := Int.mul_nonneg z (Int.le_of_lt n2); omega⟩
  have k2 : t < 0 ↔ t * W < 0 := ⟨fun h => Int.mul_neg_of_neg_of_pos h w, fun h => by
    rcases Int.lt_or_le t 0 with z | z
    · exact z
    · have := Int.mul_nonneg z (Int.le_of_lt w); omega⟩
  have k3 : 0 < s ↔ 0 < s * M := ⟨fun h => Int.mul_pos h n2, fun h => by
    rcases Int.lt_or_le 0 s with z | z
    · exact z
    · have := Int.mul_nonneg (by omega : 0 ≤ -s) (Int.le_of_lt n2); rw [Int.neg_mul] at this; omega⟩
  have k4 : 0 < t ↔ 0 < t * W := ⟨fun h => Int.mul_pos h w, fun h => by
    rcases Int.lt_or_le 0 t with z | z
    · exact z
    · have := Int.mul_nonneg (by omega : 0 ≤ -t) (Int.le_of_lt w); rw [Int.neg_mul] at this; omega⟩
  rw [e] at k1 k3
  omega
/-- a bottom of all places of a list -/
def bots : List Pl → Int
  | [] => 1
  | p :: l => p.1.2 * p.2.2 * bots l
theorem bots_pos : ∀ {l : List Pl}, (∀ p ∈ l, RatP p) → 0 < bots l
  | [], _ => by decide
  | p :: l, h => by
    have := h p (List.mem_cons_self ..)
    exact Int.mul_pos (Int.mul_pos this.1.1 this.2.1) (bots_pos fun q hq => h q (List.mem_cons_of_mem _ hq))
theorem bots_dvd : ∀ {l : List Pl} {p : Pl}, p ∈ l → p.1.2 ∣ bots l ∧ p.2.2 ∣ bots l
  | q :: l, p, h => by
    rcases List.mem_cons.mp h with rfl | h
    · exact ⟨⟨p.2.2 * bots l, by show p.1.2 * p.2.2 * bots l = _; generalize bots l = z; grind⟩, ⟨p.1.2 * bots l, by show p.1.2 * p.2.2 * bots l = _; generalize bots l = z; grind⟩⟩
    · obtain ⟨⟨x, hx⟩, ⟨y, hy⟩⟩ := bots_dvd h
      exact ⟨⟨q.1.2 * q.2.2 * x, by show q.1.2 * q.2.2 * bots l = _; rw [hx]; grind⟩, ⟨q.1.2 * q.2.2 * y, by show q.1.2 * q.2.2 * bots l = _; rw [hy]; grind⟩⟩
theorem bots_ok {l : List Pl} (h : ∀ p ∈ l, RatP p) : ∀ p ∈ l, Bot (bots l) p := fun p hp => ⟨h p hp, bots_dvd hp⟩
/-! rough turns -/
def qrP (p : Pl) : PyData := .tuple [pD p, rD (rgP p)]
theorem noL_qr (p : Pl) : noL (qrP p) = true := by simp [qrP, pD, rD, noL, noLs]
theorem noLs_qr (ds : List Pl) : noLs (ds.map qrP) = true := noLs_all fun d hd => by
  obtain ⟨x, _, rfl⟩ := List.mem_map.mp hd
  exact noL_qr x
def crI (a b c : Int × Int) : Int := (b.1 - a.1) * (c.2 - a.2) - (b.2 - a.2) * (c.1 - a.1)
def offI (a b c : Int × Int) : Int := ((b.1 - a.1).natAbs : Int) + ((b.2 - a.2).natAbs : Int) + ((c.1 - a.1).natAbs : Int) + ((c.2 - a.2).natAbs : Int) + 2
def rtF (a b c : Int × Int) : Int := if ((crI a b c).natAbs : Int) < offI a b c then 0 else sgn (crI a b c)
def spRTurn (K : PySem.W.Frag) : Sp := fun vs H Q _ => ∃ v u t a b c, vs = [v, u, t] ∧ Dp K H v (rD a) ∧ Dp K H u (rD b) ∧ Dp K H t (rD c) ∧ SzR 3000 a ∧ SzR 3000 b ∧ SzR 3000 c ∧ ∀ H', Same H H' → Q (.int (rtF a b c)) H'
def spTurnsL (K : PySem.W.Frag) : Sp := fun vs H Q _ => ∃ v u t a b c, vs = [v, u, t] ∧ Dp K H v (qrP a) ∧ Dp K H u (qrP b) ∧ Dp K H t (qrP c) ∧ GoodP 400 a ∧ GoodP 400 b ∧ GoodP 400 c ∧ ∀ H', Same H H' → Q (.bl (decide (0 < sgP a b c))) H'
theorem floor_mul {t b S X N : Int} (b0 : 0 < b) (n0 : 0 < N) (s0 : 0 < S) (e : X * b = t * N) : (t * S / b) * N ≤ X * S ∧ X * S < (t * S / b) * N + N := by
  have h1 : t * S / b * b ≤ t * S := Int.ediv_mul_le _ (by omega)
  have h2 : t * S < (t * S / b + 1) * b := Int.lt_ediv_add_one_mul_self _ b0
  generalize t * S / b = q at h1 h2 ⊢
  constructor
  · refine Int.le_of_mul_le_mul_right (a := b) ?_ b0
    have k : q * b * N ≤ t * S * N := Int.mul_le_mul_of_nonneg_right h1 (by omega)
    have e1 : q * N * b = q * b * N := by grind
    have e2 : X * S * b = t * S * N := by
      have : X * S * b = X * b * S := by grind
      rw [this, e]; grind
    rw [e1, e2]; exact k
  · refine Int.lt_of_mul_lt_mul_right (a := b) ?_ (Int.le_of_lt b0)
    have k : t * S * N < (q + 1) * b * N := Int.mul_lt_mul_of_pos_right h2 n0
    have e1 : (q * N + N) * b = (q + 1) * b * N := by grind
    have e2 : X * S * b = t * S * N := by
      have : X * S * b = X * b * S := by grind
      rw [this, e]; grind
    rw [e1, e2]; exact k
theorem off_mul {p q N : Int} (h1 : -N < q) (h2 : q < N) : -((p.natAbs : Int) * N) ≤ p * q ∧ p * q ≤ (p.natAbs : Int) * N := by
  rcases Int.le_total 0 p with k | k
  · have e : (p.natAbs : Int) = p := by omega
    rw [e]
    have a := Int.mul_le_mul_of_nonneg_left (by omega : q ≤ N) k
    have b := Int.mul_le_mul_of_nonneg_left (by omega : -N ≤ q) k
    rw [Int.mul_neg] at b
    exact ⟨b, a⟩
  · have e : (p.natAbs : Int) = -p := by omega
    rw [e]
    have a := Int.mul_le_mul_of_nonneg_left (by omega : q ≤ N) (by omega : 0 ≤ -p)
    have b := Int.mul_le_mul_of_nonneg_left (by omega : -N ≤ q) (by omega : 0 ≤ -p)
    simp only [Int.mul_neg, Int.neg_mul] at a b ⊢
    omega
theorem off_lt {p q N : Int} (n0 : 0 < N) (p1 : -N < p) (p2 : p < N) (h1 : -N < q) (h2 : q < N) : -(N * N) < p * q ∧ p * q < N * N := by
  obtain ⟨a, b⟩ := off_mul (p := p) h1 h2
  have k : (p.natAbs : Int) * N < N * N := Int.mul_lt_mul_of_pos_right (by omega) n0
  omega
theorem cross_off {N dx dy ex ey a b c d : Int} (n0 : 0 < N) (a1 : -N < a) (a2 : a < N) (b1 : -N < b) (b2 : b < N) (c1 : -N < c) (c2 : c < N) (d1 : -N < d) (d2 : d < N) :
    ((dx.natAbs : Int) + (dy.natAbs : Int) + (ex.natAbs : Int) + (ey.natAbs : Int) + 2 ≤ dx * ey - dy * ex → 0 < (N * dx + a) * (N * ey + d) - (N * dy + b) * (N * ex + c)) ∧
    ((dx.natAbs : Int) + (dy.natAbs : Int) + (ex.natAbs : Int) + (ey.natAbs : Int) + 2 ≤ -(dx * ey - dy * ex) → (N * dx + a) * (N * ey + d) - (N * dy + b) * (N * ex + c) < 0) := by
  have e : (N * dx + a) * (N * ey + d) - (N * dy + b) * (N * ex + c) = N * (N * (dx * ey - dy * ex) + (dx * d + ey * a - dy * c - ex * b)) + (a * d - b * c) := by grind
  rw [e]
  generalize dx * ey - dy * ex = Z
  obtain ⟨x1, x2⟩ := off_mul (p := dx) d1 d2
  obtain ⟨y1, y2⟩ := off_mul (p := ey) a1 a2
  obtain ⟨z1, z2⟩ := off_mul (p := dy) c1 c2
  obtain ⟨w1, w2⟩ := off_mul (p := ex) b1 b2
  obtain ⟨u1, u2⟩ := off_lt n0 a1 a2 d1 d2
  obtain ⟨v1, v2⟩ := off_lt n0 b1 b2 c1 c2
  generalize (dx.natAbs : Int) = A at *
  generalize (dy.natAbs : Int) = B at *
  generalize (ex.natAbs : Int) = C at *
  generalize (ey.natAbs : Int) = D at *
  generalize a * d = ad at *
  generalize b * c = bc at *
  generalize dx * d = p1 at *
  generalize ey * a = p2 at *
  generalize dy * c = p3 at *
  generalize ex * b = p4 at *
  have s : A * N + B * N + C * N + D * N = N * (A + B + C + D) := by grind
  constructor
  · intro h
    have k : N * (A + B + C + D + 2) ≤ N * Z := Int.mul_le_mul_of_nonneg_left h (by omega)
    have k2 : N * (N * 2) ≤ N * (N * Z + (p1 + p2 - p3 - p4)) := by
      refine Int.mul_le_mul_of_nonneg_left ?_ (by omega)
      have : N * (A + B + C + D + 2) = N * (A + B + C + D) + N * 2 := by grind
      omega
    have : N * (N * 2) = 2 * (N * N) := by grind
    omega
  · intro h
    have k : N * (A + B + C + D + 2) ≤ N * (-Z) := Int.mul_le_mul_of_nonneg_left h (by omega)
    have k2 : N * (N * 2) ≤ N * (-(N * Z + (p1 + p2 - p3 - p4))) := by
      refine Int.mul_le_mul_of_nonneg_left ?_ (by omega)
      have : N * (A + B + C + D + 2) = N * (A + B + C + D) + N * 2 := by grind
      have e2 : N * (-Z) = -(N * Z) := by grind
      omega
    have e3 : N * (-(N * Z + (p1 + p2 - p3 - p4))) = -(N * (N * Z + (p1 + p2 - p3 - p4))) := by grind
    have : N * (N * 2) = 2 * (N * N) := by grind
    omega
theorem rough_sc {N : Int} (n0 : 0 < N) {p : Pl} (h : Bot N p) : ∃ r s : Int, (sc N p).1 * 2 ^ 64 = N * (rgP p).1 + r ∧ 0 ≤ r ∧ r < N ∧ (sc N p).2 * 2 ^ 64 = N * (rgP p).2 + s ∧ 0 ≤ s ∧ s < N := by
  obtain ⟨s1, s2⟩ := sc_1 h
  have s0 : (0 : Int) < 2 ^ 64 := by decide
  obtain ⟨a1, a2⟩ := floor_mul h.1.1.1 n0 s0 s1
  obtain ⟨b1, b2⟩ := floor_mul h.1.2.1 n0 s0 s2
  have u1 : (rgP p).1 = p.1.1 * 2 ^ 64 / p.1.2 := rfl
  have u2 : (rgP p).2 = p.2.1 * 2 ^ 64 / p.2.2 := rfl
  rw [← u1] at a1 a2
  rw [← u2] at b1 b2
  generalize (sc N p).1 * 2 ^ 64 = X at *
  generalize (sc N p).2 * 2 ^ 64 = Y at *
  rw [Int.mul_comm] at a1 a2 b1 b2
  exact ⟨X - N * (rgP p).1, Y - N * (rgP p).2, by omega, by omega, by omega, by omega, by omega, by omega⟩
theorem rt_sign {a b c : Pl} (ha : RatP a) (hb : RatP b) (hc : RatP c) (h : rtF (rgP a) (rgP b) (rgP c) ≠ 0) : 0 < rtF (rgP a) (rgP b) (rgP c) ↔ 0 < sgP a b c := by
  have hr : ∀ p ∈ [a, b, c], RatP p := fun p hp => by
    rcases List.mem_cons.mp hp with rfl | hp
    · exact ha
    rcases List.mem_cons.mp hp with rfl | hp
    · exact hb
    · rw [List.mem_singleton.mp hp]; exact hc
  have n0 := bots_pos hr
  have ba := bots_ok hr a (by simp)
  have bb := bots_ok hr b (by simp)
  have bc := bots_ok hr c (by simp)
  generalize bots [a, b, c] = N at n0 ba bb bc
  have sg := (sc_pos n0 ba bb bc).1
  obtain ⟨r1, s1, e1, f1, g1, h1, i1, j1⟩ := rough_sc n0 ba
  obtain ⟨r2, s2, e2, f2, g2, h2, i2, j2⟩ := rough_sc n0 bb
  obtain ⟨r3, s3, e3, f3, g3, h3, i3, j3⟩ := rough_sc n0 bc
  have key : G4.cr (sc N a) (sc N b) (sc N c) * (2 ^ 64 * 2 ^ 64) = (N * ((rgP b).1 - (rgP a).1) + (r2 - r1)) * (N * ((rgP c).2 - (rgP a).2) + (s3 - s1)) - (N * ((rgP b).2 - (rgP a).2) + (s2 - s1)) * (N * ((rgP c).1 - (rgP a).1) + (r3 - r1)) := by
    have t1 : N * ((rgP b).1 - (rgP a).1) + (r2 - r1) = (sc N b).1 * 2 ^ 64 - (sc N a).1 * 2 ^ 64 := by rw [e1, e2]; grind
    have t2 : N * ((rgP c).2 - (rgP a).2) + (s3 - s1) = (sc N c).2 * 2 ^ 64 - (sc N a).2 * 2 ^ 64 := by rw [h1, h3]; grind
    have t3 : N * ((rgP b).2 - (rgP a).2) + (s2 - s1) = (sc N b).2 * 2 ^ 64 - (sc N a).2 * 2 ^ 64 := by rw [h1, h2]; grind
    have t4 : N * ((rgP c).1 - (rgP a).1) + (r3 - r1) = (sc N c).1 * 2 ^ 64 - (sc N a).1 * 2 ^ 64 := by rw [e1, e3]; grind
    rw [t1, t2, t3, t4]
    unfold G4.cr
    generalize (2 : Int) ^ 64 = S
    grind
  obtain ⟨k1, k2⟩ := cross_off (N := N) (dx := (rgP b).1 - (rgP a).1) (dy := (rgP b).2 - (rgP a).2) (ex := (rgP c).1 - (rgP a).1) (ey := (rgP c).2 - (rgP a).2) (a := r2 - r1) (b := s2 - s1) (c := r3 - r1) (d := s3 - s1) n0 (by omega) (by omega) (by omega) (by omega) (by omega) (by omega) (by omega) (by omega)
  rw [← key] at k1 k2
  have S0 : (0 : Int) < 2 ^ 64 * 2 ^ 64 := by decide
  generalize (2 : Int) ^ 64 * 2 ^ 64 = S at k1 k2 S0
  clear key e1 e2 e3 h1 h2 h3
  have off_ : offI (rgP a) (rgP b) (rgP c) = (((rgP b).1 - (rgP a).1).natAbs : Int) + (((rgP b).2 - (rgP a).2).natAbs : Int) + (((rgP c).1 - (rgP a).1).natAbs : Int) + (((rgP c).2 - (rgP a).2).natAbs : Int) + 2 := rfl
  have cr_ : crI (rgP a) (rgP b) (rgP c) = ((rgP b).1 - (rgP a).1) * ((rgP c).2 - (rgP a).2) - ((rgP b).2 - (rgP a).2) * ((rgP c).1 - (rgP a).1) := rfl
  rw [← off_, ← cr_] at k1 k2
  unfold rtF at h ⊢
  generalize crI (rgP a) (rgP b) (rgP c) = z at *
  generalize offI (rgP a) (rgP b) (rgP c) = o at *
  generalize G4.cr (sc N a) (sc N b) (sc N c) = t at *
  by_cases small : (z.natAbs : Int) < o
  · rw [if_pos small] at h; exact absurd rfl h
  rw [if_neg small] at h ⊢
  have p : 0 < sgn z ↔ 0 < z := by unfold sgn; split <;> (try split) <;> omega
  rw [p]
  have q : 0 < sgP a b c ↔ 0 < t := by omega
  rw [q]
  constructor
  · intro hz
    have := k1 (by omega)
    rcases Int.lt_or_le 0 t with y | y
    · exact y
    · have := Int.mul_nonneg (by omega : 0 ≤ -t) (Int.le_of_lt S0)
      rw [Int.neg_mul] at this
      omega
  · intro hz
    rcases Int.lt_or_le 0 z with y | y
    · exact y
    · have := k2 (by omega)
      have := Int.mul_pos hz S0
      omega
theorem sz_ediv {n : Nat} {a b : Int} (b0 : 0 < b) (h : Sz n a) : Sz n (a / b) := by
  unfold Sz at *
  have k : (a / b).natAbs ≤ a.natAbs := by
    rcases Int.le_total 0 a with z | z
    · have h1 : a / b ≤ a := Int.ediv_le_self _ z
      have h2 : 0 ≤ a / b := Int.ediv_nonneg z (by omega)
      omega
    · have h2 : a / b ≤ 0 := by
        have := Int.ediv_le_ediv b0 z
        rwa [Int.zero_ediv] at this
      have h1 : a ≤ a / b := (Int.le_ediv_iff_mul_le b0).mpr (by
        have := Int.mul_le_mul_of_nonneg_left (by omega : 1 ≤ b) (by omega : 0 ≤ -a)
        simp only [Int.neg_mul] at this
        omega)
      omega
  omega
theorem rg_sz {p : Pl} (g : GoodP 400 p) : SzR 3000 (rgP p) := by
  have z64 : Sz 65 ((2 : Int) ^ 64) := by show (18446744073709551616 : Nat) < 2 ^ 65; decide
  exact ⟨sz_ediv g.1.1.1 (sz_mono (sz_mul g.2.1.1 z64) (by decide)), sz_ediv g.1.2.1 (sz_mono (sz_mul g.2.2.1 z64) (by decide))⟩
theorem abs_if (i : Int) : (if i < 0 then -i else i) = (i.natAbs : Int) := by split <;> omega
def spTurnA (K : PySem.W.Frag) : Sp := fun vs H Q _ => ∃ v u t a b c, vs = [v, u, t] ∧ Pla K H v a ∧ Pla K H u b ∧ Pla K H t c ∧ GoodP 400 a ∧ GoodP 400 b ∧ GoodP 400 c ∧ ∀ H', Same H H' → Q (.int (sgn (sgP a b c))) H'
def spChain (K : PySem.W.Frag) : Sp := fun vs H Q _ => ∃ (p : Addr) (xs : List V) (os : List Pl), vs = [.ref p] ∧ SqL K H p xs ∧ DpAll K H xs (os.map qrP) ∧ os.length ≤ 60 ∧ (∀ q ∈ os, GoodP 400 q) ∧ ∀ (H' : Hp) (c : Addr) (ys : List V), Same H H' → H c = none → H' c = some (.lst ys) → DpAll K H' ys ((chP os).map pD) → Q (.ref c) H'
def spHullC (K : PySem.W.Frag) : Sp := fun vs H Q _ => ∃ (p : Addr) (xs : List V) (ps : List Pl), vs = [.ref p] ∧ Pls K H p xs ps ∧ ps.length ≤ 60 ∧ (∀ q ∈ ps, GoodP 400 q) ∧
  ∀ (H' : Hp) (z : V) (os : List Pl), Same H H' → os.Pairwise ltP → (∀ r, r ∈ os ↔ r ∈ ps) → os.length ≤ ps.length → Dp K H' z (.tuple ((hullP os).map pD)) → Q z H'
section
variable {P : Program} {w : World} {K : PySem.W.Frag} {mg : Str → Option Value} {base : Heap}
abbrev sturn_at : Stmt := topS 36
theorem scturn_at : FnScope ["first", "second", "third"] ["first", "second", "third"] (defScope sturn_at) := ⟨rfl, rfl, rfl, by decide +kernel, rfl, by decide +kernel, by decide +kernel⟩
theorem okturn_at (T : Txt K mg "turn_at" sturn_at) (Graw_cross : DefOk P w K mg base CX0 "raw_cross" 2 ["first", "second", "third"] (spRawC K)) (Gsign_of : DefOk P w K mg base CX0 "sign_of" 1 ["number"] spSign) : DefOk P w K mg base CX0 "turn_at" 3 ["first", "second", "third"] (spTurnA K) := by
  obtain ⟨f, fd, F, gf⟩ := T
  refine ⟨f, fd, gf, F.kp, F.binds (fun _ _ _ _ _ _ us hl => match us, hl with | [_, _, _], _ => rfl), F.ok scturn_at (fun vs H Q E h => ?_) (fun cdv A outer s H vs Q E hr h => ?_)⟩
  · obtain ⟨v, u, t, a, b, c, rfl, _⟩ := h; rfl
  · obtain ⟨v, u, t, a, b, c, rfl, hv, hu, ht, ga, gb, gc, q⟩ := h
    refine ⟨_, (pss_one (ps_ret (pe_def Gsign_of (hr.mono (by decide)) (by rfl) (pa_cons (pe_ix ix_it (pe_def Graw_cross (hr.mono (by decide)) (by rfl) (pa_cons (pv 0) (pa_cons (pv 1) (pa_cons (pv 2) pa_nil)))) pe_int (fun _ _ => rfl)) pa_nil)))), ?_⟩
    have m := fun {p : Pl} (h : SzP 400 p) => (⟨szr_mono h.1 (by decide), szr_mono h.2 (by decide)⟩ : SzP 600 p)
    exact ⟨v, rfl, u, rfl, t, rfl, v, u, t, a, b, c, rfl, hv, hu, ht, ga.1, gb.1, gc.1, m ga.2, m gb.2, m gc.2, fun H1 z1 s1 h1 => ⟨_, _, 0, _, rfl, cou_r h1, rfl, _, rfl, q H1 s1⟩⟩
abbrev srough_turn : Stmt := topS 43
theorem scrough_turn : FnScope ["first", "second", "third", "ax", "ay", "bx", "by", "cx", "cy", "dx", "dy", "ex", "ey", "cross", "off"] ["first", "second", "third"] (defScope srough_turn) := ⟨rfl, rfl, rfl, by decide +kernel, rfl, by decide +kernel, by decide +kernel⟩
theorem okrough_turn (T : Txt K mg "rough_turn" srough_turn) (Gsign_of : DefOk P w K mg base CX0 "sign_of" 1 ["number"] spSign) (mabs : mg "abs" = none) : DefOk P w K mg base CX0 "rough_turn" 2 ["first", "second", "third"] (spRTurn K) := by
  obtain ⟨f, fd, F, gf⟩ := T
  refine ⟨f, fd, gf, F.kp, F.binds (fun _ _ _ _ _ _ us hl => match us, hl with | [_, _, _], _ => rfl), F.ok scrough_turn (fun vs H Q E h => ?_) (fun cdv A outer s H vs Q E hr h => ?_)⟩
  · obtain ⟨v, u, t, a, b, c, rfl, _⟩ := h; rfl
  · obtain ⟨v, u, t, a, b, c, rfl, hv, hu, ht, za, zb, zc, q⟩ := h
    refine ⟨_, (pss_cons (ps_asg (pe_tup (pa_cons (pv 0) (pa_cons (pv 1) (pa_cons (pv 2) pa_nil)))) (pg_tup rfl (pgs_cons (pg_cou rfl (pgs_cons (pg_name (i := 3) scrough_turn.nd rfl (.inl rfl)) (pgs_cons (pg_name (i := 4) scrough_turn.nd rfl (.inl rfl)) pgs_nil))) (pgs_cons (pg_cou rfl (pgs_cons (pg_name (i := 5) scrough_turn.nd rfl (.inl rfl)) (pgs_cons (pg_name (i := 6) scrough_turn.nd rfl (.inl rfl)) pgs_nil))) (pgs_cons (pg_cou rfl (pgs_cons (pg_name (i := 7) scrough_turn.nd rfl (.inl rfl)) (pgs_cons (pg_name (i := 8) scrough_turn.nd rfl (.inl rfl)) pgs_nil))) pgs_nil))))) (pss_cons (ps_asg (pe_tup (pa_cons (pe_op op_sub (pv 5) (pv 3)) (pa_cons (pe_op op_sub (pv 6) (pv 4)) (pa_cons (pe_op op_sub (pv 7) (pv 3)) (pa_cons (pe_op op_sub (pv 8) (pv 4)) pa_nil))))) (pg_tup rfl (pgs_cons (pg_name (i := 9) scrough_turn.nd rfl (.inl rfl)) (pgs_cons (pg_name (i := 10) scrough_turn.nd rfl (.inl rfl)) (pgs_cons (pg_name (i := 11) scrough_turn.nd rfl (.inl rfl)) (pgs_cons (pg_name (i := 12) scrough_turn.nd rfl (.inl rfl)) pgs_nil)))))) (pss_cons (ps_set (i := 13) scrough_turn.nd rfl (.inl rfl) (pe_op op_sub (pe_op op_mulW (pv 9) (pv 12)) (pe_op op_mulW (pv 10) (pv 11)))) (pss_cons (ps_set (i := 14) scrough_turn.nd rfl (.inl rfl) (pe_op op_add (pe_op op_add (pe_op op_add (pe_op op_add (pe_callB call_abs (by rfl) mabs (by decide +kernel) (pa_cons (pv 9) pa_nil)) (pe_callB call_abs (by rfl) mabs (by decide +kernel) (pa_cons (pv 10) pa_nil))) (pe_callB call_abs (by rfl) mabs (by decide +kernel) (pa_cons (pv 11) pa_nil))) (pe_callB call_abs (by rfl) mabs (by decide +kernel) (pa_cons (pv 12) pa_nil))) pe_int)) (pss_one (ps_ret (pe_ifExp (pt_cmpR op_lt (pe_callB call_abs (by rfl) mabs (by decide +kernel) (pa_cons (pv 13) pa_nil)) (pv 14) (nomark _)) pe_int (pe_def Gsign_of (hr.mono (by decide)) (by rfl) (pa_cons (pv 13) pa_nil))))))))), ?_⟩
    refine ⟨_, rfl, _, rfl, _, rfl, (by show 3 ≤ sizeLine; decide), fun b_ nb => ?_⟩
    have sn := PB.same_new (o := .tup [v, u, t]) nb
    have ca := cou_r (Dp_same sn hv)
    have cb := cou_r (Dp_same sn hu)
    have cc := cou_r (Dp_same sn ht)
    refine ⟨b_, _, rfl, .inl (.inl upd_same), rfl, _, _, rfl, _, _, ca, _, _, rfl, _, _, rfl, rfl, _, _, rfl, _, _, cb, _, _, rfl, _, _, rfl, rfl, _, _, rfl, _, _, cc, _, _, rfl, _, _, rfl, rfl, rfl, ?_⟩
    dsimp only
    refine ⟨_, rfl, _, rfl, _, _, rfl, rfl, _, rfl, _, rfl, _, _, rfl, rfl, _, rfl, _, rfl, _, _, rfl, rfl, _, rfl, _, rfl, _, _, rfl, rfl, (by show 4 ≤ sizeLine; decide), fun e_ ne => ?_⟩
    have sm := PB.same_new (o := .tup [.int (b.1 - a.1), .int (b.2 - a.2), .int (c.1 - a.1), .int (c.2 - a.2)]) ne
    refine ⟨e_, _, rfl, .inl (.inl upd_same), rfl, _, _, rfl, _, _, rfl, _, _, rfl, _, _, rfl, rfl, ?_⟩
    have d1 := sz_sub zb.1 za.1
    have d2 := sz_sub zb.2 za.2
    have d3 := sz_sub zc.1 za.1
    have d4 := sz_sub zc.2 za.2
    show tSeq _ _ _ [some v, some u, some t, some (.int a.1), some (.int a.2), some (.int b.1), some (.int b.2), some (.int c.1), some (.int c.2), some (.int (b.1 - a.1)), some (.int (b.2 - a.2)), some (.int (c.1 - a.1)), some (.int (c.2 - a.2)), none, none] _
    have eo : offI a b c = ((b.1 - a.1).natAbs : Int) + ((b.2 - a.2).natAbs : Int) + ((c.1 - a.1).natAbs : Int) + ((c.2 - a.2).natAbs : Int) + 2 := rfl
    have ec : crI a b c = (b.1 - a.1) * (c.2 - a.2) - (b.2 - a.2) * (c.1 - a.1) := rfl
    have er : rtF a b c = if ((crI a b c).natAbs : Int) < offI a b c then 0 else sgn (crI a b c) := rfl
    rw [eo, ec] at er
    have q' := q _ (sn.trans sm)
    rw [er] at q'
    clear er eo ec q
    generalize upd (upd H b_ (.tup [v, u, t])) e_ (.tup [.int (b.1 - a.1), .int (b.2 - a.2), .int (c.1 - a.1), .int (c.2 - a.2)]) = G at q' ⊢
    clear sm
    generalize b.1 - a.1 = dx at *
    generalize b.2 - a.2 = dy at *
    generalize c.1 - a.1 = ex at *
    generalize c.2 - a.2 = ey at *
    refine ⟨_, rfl, _, rfl, _, _, rfl, rfl, wide_mul d1 d4 (by decide) (by decide) (by decide), _, rfl, _, rfl, _, _, rfl, rfl, wide_mul d2 d3 (by decide) (by decide) (by decide), _, _, rfl, rfl, ?_⟩
    show tSeq _ _ _ [some v, some u, some t, some (.int a.1), some (.int a.2), some (.int b.1), some (.int b.2), some (.int c.1), some (.int c.2), some (.int dx), some (.int dy), some (.int ex), some (.int ey), some (.int (dx * ey - dy * ex)), none] _
    generalize dx * ey - dy * ex = z at *
    refine ⟨_, rfl, _, rfl, _, rfl, _, rfl, _, _, rfl, rfl, _, rfl, _, rfl, _, _, rfl, rfl, _, rfl, _, rfl, _, _, rfl, rfl, _, _, rfl, rfl, ?_⟩
    rw [abs_if, abs_if, abs_if, abs_if]
    dsimp only [gName]
    show tRet _ _ [some v, some u, some t, some (.int a.1), some (.int a.2), some (.int b.1), some (.int b.2), some (.int c.1), some (.int c.2), some (.int dx), some (.int dy), some (.int ex), some (.int ey), some (.int z), some (.int ((dx.natAbs : Int) + (dy.natAbs : Int) + (ex.natAbs : Int) + (ey.natAbs : Int) + 2))] _
    generalize (dx.natAbs : Int) + (dy.natAbs : Int) + (ex.natAbs : Int) + (ey.natAbs : Int) + 2 = o at *
    refine ⟨_, rfl, _, rfl, _, rfl, _, _, rfl, rfl, _, rfl, ?_⟩
    rw [abs_if]
    by_cases k : (z.natAbs : Int) < o
    · rw [if_pos k] at q'
      exact itT (decide_eq_true k) q'
    · rw [if_neg k] at q'
      exact itF (decide_eq_false k) ⟨_, rfl, _, rfl, q'⟩
abbrev sturns_left : Stmt := topS 44
theorem scturns_left : FnScope ["first", "second", "third", "turn"] ["first", "second", "third"] (defScope sturns_left) := ⟨rfl, rfl, rfl, by decide +kernel, rfl, by decide +kernel, by decide +kernel⟩
theorem okturns_left (T : Txt K mg "turns_left" sturns_left) (Grough_turn : DefOk P w K mg base CX0 "rough_turn" 2 ["first", "second", "third"] (spRTurn K)) (Gturn_at : DefOk P w K mg base CX0 "turn_at" 3 ["first", "second", "third"] (spTurnA K)) : DefOk P w K mg base CX0 "turns_left" 4 ["first", "second", "third"] (spTurnsL K) := by
  obtain ⟨f, fd, F, gf⟩ := T
  refine ⟨f, fd, gf, F.kp, F.binds (fun _ _ _ _ _ _ us hl => match us, hl with | [_, _, _], _ => rfl), F.ok scturns_left (fun vs H Q E h => ?_) (fun cdv A outer s H vs Q E hr h => ?_)⟩
  · obtain ⟨v, u, t, a, b, c, rfl, _⟩ := h; rfl
  · obtain ⟨v, u, t, a, b, c, rfl, hv, hu, ht, ga, gb, gc, q⟩ := h
    refine ⟨_, (pss_cons (ps_set (i := 3) scturns_left.nd rfl (.inl rfl) (pe_orT (pe_def Grough_turn (hr.mono (by decide)) (by rfl) (pa_cons (pe_ix ix_it (pv 0) pe_int (fun _ _ => rfl)) (pa_cons (pe_ix ix_it (pv 1) pe_int (fun _ _ => rfl)) (pa_cons (pe_ix ix_it (pv 2) pe_int (fun _ _ => rfl)) pa_nil)))) (pe_one (pe_def Gturn_at (hr.mono (by decide)) (by rfl) (pa_cons (pe_ix ix_it (pv 0) pe_int (fun _ _ => rfl)) (pa_cons (pe_ix ix_it (pv 1) pe_int (fun _ _ => rfl)) (pa_cons (pe_ix ix_it (pv 2) pe_int (fun _ _ => rfl)) pa_nil))))))) (pss_one (ps_ret (pe_cmpR op_gt (pv 3) pe_int (nomark _))))), ?_⟩
    obtain ⟨p1, l1, r1, rfl, c1, hl1, hr1⟩ := dp_t2 hv
    obtain ⟨p2, l2, r2, rfl, c2, hl2, hr2⟩ := dp_t2 hu
    obtain ⟨p3, l3, r3, rfl, c3, hl3, hr3⟩ := dp_t2 ht
    have k1 : Cou K H (.ref p1) l1 r1 := ⟨p1, rfl, .inl c1⟩
    have k2 : Cou K H (.ref p2) l2 r2 := ⟨p2, rfl, .inl c2⟩
    have k3 : Cou K H (.ref p3) l3 r3 := ⟨p3, rfl, .inl c3⟩
    refine ⟨_, rfl, _, _, 1, _, rfl, k1, rfl, _, rfl, _, _, 1, _, rfl, k2, rfl, _, rfl, _, _, 1, _, rfl, k3, rfl, _, _, _, _, _, _, rfl, hr1, hr2, hr3, rg_sz ga, rg_sz gb, rg_sz gc, fun H1 s1 => ⟨_, rfl, ?_⟩⟩
    by_cases z : rtF (rgP a) (rgP b) (rgP c) = 0
    · refine itF (by rw [z]; rfl) ?_
      refine ⟨_, rfl, _, _, 0, _, rfl, k1.same s1, rfl, _, rfl, _, _, 0, _, rfl, k2.same s1, rfl, _, rfl, _, _, 0, _, rfl, k3.same s1, rfl, _, _, _, _, _, _, rfl, pla_t (Dp_same s1 hl1), pla_t (Dp_same s1 hl2), pla_t (Dp_same s1 hl3), ga, gb, gc, fun H2 s2 => ?_⟩
      refine ⟨_, rfl, _, _, rfl, rfl, ?_⟩
      have e : decide (0 < sgn (sgP a b c)) = decide (0 < sgP a b c) := by
        have : 0 < sgn (sgP a b c) ↔ 0 < sgP a b c := by unfold sgn; split <;> (try split) <;> omega
        by_cases k : 0 < sgP a b c
        · rw [decide_eq_true k, decide_eq_true (this.mpr k)]
        · rw [decide_eq_false k, decide_eq_false (fun y => k (this.mp y))]
      have := q H2 (s1.trans s2)
      rw [← e] at this
      exact this
    · refine itT (by simp [z]) ?_
      refine ⟨_, rfl, _, _, rfl, rfl, ?_⟩
      have e : decide (0 < rtF (rgP a) (rgP b) (rgP c)) = decide (0 < sgP a b c) := by
        have := rt_sign ga.1 gb.1 gc.1 z
        by_cases k : 0 < sgP a b c
        · rw [decide_eq_true k, decide_eq_true (this.mpr k)]
        · rw [decide_eq_false k, decide_eq_false (fun y => k (this.mp y))]
      have := q H1 s1
      rw [← e] at this
      exact this
abbrev sleft_chain : Stmt := topS 45
theorem scleft_chain : FnScope ["rows", "chain", "row", "place", "_"] ["rows"] (defScope sleft_chain) := ⟨rfl, rfl, rfl, by decide +kernel, rfl, by decide +kernel, by decide +kernel⟩
theorem okleft_chain (T : Txt K mg "left_chain" sleft_chain) (Gturns_left : DefOk P w K mg base CX0 "turns_left" 4 ["first", "second", "third"] (spTurnsL K)) (mlen : mg "len" = none) : DefOk P w K mg base CX0 "left_chain" 5 ["rows"] (spChain K) := by
  obtain ⟨f, fd, F, gf⟩ := T
  refine ⟨f, fd, gf, F.kp, F.binds (fun _ _ _ _ _ _ us hl => match us, hl with | [_], _ => rfl), F.ok scleft_chain (fun vs H Q E h => ?_) (fun cdv A outer s H vs Q E hr h => ?_)⟩
  · obtain ⟨p, xs, os, rfl, _⟩ := h; rfl
  · obtain ⟨p, xs, os, rfl, hS, hD, l6, hG, q⟩ := h
    refine ⟨_, (pss_cons (ps_set (i := 1) scleft_chain.nd rfl (.inl rfl) (pe_lst pa_nil)) (pss_cons (ps_for PassesOwn.never rfl (pi_list (pv 0)) (pg_name (i := 2) scleft_chain.nd rfl (.inl rfl)) (pss_cons (ps_while PassesOwn.never (PW.pt (pw_and (pt_cmpR op_gt (pe_callB call_len_seq (by rfl) mlen PySem.boot_len (pa_cons (pv 1) pa_nil)) pe_int (nomark _)) (pw_and1 (pt_not (pt_val (pe_def Gturns_left (hr.mono (by decide)) (by rfl) (pa_cons (pe_ix ix_list (pv 1) (pe_un un_neg pe_int) (fun _ _ => rfl)) (pa_cons (pe_ix ix_list (pv 1) (pe_un un_neg pe_int) (fun _ _ => rfl)) (pa_cons (pv 2) pa_nil))))))))) (pss_one (ps_expr (pe_bm0 PySem.F.plainAttrs_list PySem.F.slot_list_pop PySem.F.type_list_pop mt_pop (pv 1))))) (pss_one (ps_expr (pe_bm PySem.F.plainAttrs_list PySem.F.slot_list_append PySem.F.type_list_append mt_append (pv 1) (pa_cons (pv 2) pa_nil)))))) (pss_one (ps_ret (pe_lc (own := [("place", 3), ("_", 4)]) rfl scleft_chain.nd (pi_seq (pv 1)) (blkOk_by (N := ["rows", "chain", "row", "place", "_"]) (sc := defScope sleft_chain) (by decide +kernel)) (fun _ _ _ _ _ => (pg_couK K rfl (pgs_cons (pg_name (i := 3) scleft_chain.nd rfl (.inl rfl)) (pgs_cons (pg_name (i := 4) scleft_chain.nd rfl (.inl rfl)) pgs_nil)))) (fun _ _ _ _ _ => pts_nil) (fun _ _ _ _ _ => (pv 3))))))), ?_⟩
    refine ⟨(by show 0 ≤ sizeLine; decide), fun c nc => ?_⟩
    have s0 := PB.same_new (o := .lst []) nc
    have lx : xs.length = os.length := by rw [DpAll_len hD, List.length_map]
    refine ⟨.ref p, rfl, p, rfl, ⟨_, s0.seq hS⟩, for_list (K := K) (a := p) (xs := xs) (fun i σ H' => ∃ (y : Option V) (ys : List V), σ = [some (.ref p), some (.ref c), y, none, none] ∧ Same H H' ∧ H' c = some (.lst ys) ∧ DpAll K H' ys ((stP (os.take i)).reverse.map qrP))
      ⟨none, [], rfl, s0, upd_same, .nil⟩ (fun i σ H' _ ⟨_, _, _, s1, _⟩ => s1.seq hS) ?_ ?_⟩
    · rintro i x σ H1 hi ⟨y, ys, rfl, s1, eD, hY⟩
      have il : i < os.length := by rw [← lx]; exact (List.getElem?_eq_some_iff.mp hi).1
      have gi := hG os[i] (List.getElem_mem il)
      obtain ⟨d, ed, hx⟩ := DpAll_at hD hi
      rw [List.getElem?_map, List.getElem?_eq_getElem il] at ed
      cases ed
      have ges : ∀ q ∈ stP (os.take i), GoodP 400 q := fun q hq => by
        rcases st_mem hq with h | h
        · exact hG q (List.mem_of_mem_take h)
        · exact nomatch h
      have les : (stP (os.take i)).length ≤ i := by
        have := st_len (os.take i) []
        rw [List.length_take] at this
        have e : (stP (os.take i)).length = ((os.take i).foldl (fun s p => pushP p s) []).length := rfl
        simp at this
        omega
      have enx : stP (os.take (i + 1)) = pushP os[i] (stP (os.take i)) := by
        rw [List.take_succ_eq_append_getElem il]
        unfold stP
        rw [List.foldl_append]
        rfl
      rw [enx]
      generalize os[i] = o at gi hx enx ⊢
      generalize stP (os.take i) = st0 at hY ges les enx ⊢
      clear enx
      refine ⟨fun m σ H2 => ∃ (st : List Pl) (zs : List V), m = st.length ∧ σ = [some (.ref p), some (.ref c), some x, none, none] ∧ Same H H2 ∧ H2 c = some (.lst zs) ∧ DpAll K H2 zs (st.reverse.map qrP) ∧ pushP o st = pushP o st0 ∧ (∀ q ∈ st, GoodP 400 q) ∧ st.length ≤ 60, ⟨_, st0, ys, rfl, rfl, s1, eD, hY, rfl, ges, by omega⟩, ?_⟩
      rintro m σ H2 ⟨st, zs, rfl, rfl, s2, eZ, hZ, ep, gs, l6s⟩
      have zl : zs.length = st.length := by rw [DpAll_len hZ, List.length_map, List.length_reverse]
      have fin : ∀ H3, Same H H3 → H3 c = some (.lst zs) → DpAll K H3 zs (st.reverse.map qrP) → pushP o st = o :: st → tDrop (tBM K "list" rAppend (tVar 1) (tCons (tVar 2) tNil)) { nx := fun σ H' => ∃ (y : Option V) (ys : List V), σ = [some (.ref p), some (.ref c), y, none, none] ∧ Same H H' ∧ H' c = some (.lst ys) ∧ DpAll K H' ys ((pushP o st0).reverse.map qrP), rt := Q } [some (.ref p), some (.ref c), some x, none, none] H3 := fun H3 s3 e3 h3 eo => by
        refine ⟨_, rfl, .inl ⟨rfl, _, .inl (.inl e3)⟩, _, rfl, c, zs, x, rfl, rfl, e3, small1000 (by omega), some x, _, rfl, fun b u e => ?_, upd_same, ?_⟩
        · rw [upd_ne (ne_of_none e nc)]; exact s3 b u e
        · rw [← ep, eo, List.reverse_cons, List.map_append]
          exact DpAll_but e3 (fun b u n e => by rw [upd_ne n]; exact e) (by rw [← List.map_append]; exact noLs_qr _) (DpAll_snoc (Dp_same s3 hx) h3)
      refine ⟨_, rfl, c, zs, rfl, .inl (.inl (.inl eZ)), _, _, rfl, rfl, _, rfl, ?_⟩
      match st, zl, hZ, ep, gs, l6s, fin with
      | [], zl, hZ, ep, gs, l6s, fin =>
        have e0 : decide ((1 : Int) < (zs.length : Int)) = false := decide_eq_false (by rw [zl]; simp)
        exact itF e0 (itF rfl (fin H2 s2 eZ hZ rfl))
      | [y1], zl, hZ, ep, gs, l6s, fin =>
        have e0 : decide ((1 : Int) < (zs.length : Int)) = false := decide_eq_false (by rw [zl]; simp)
        exact itF e0 (itF rfl (fin H2 s2 eZ hZ rfl))
      | y1 :: x1 :: r, zl, hZ, ep, gs, l6s, fin =>
        have e0 : decide ((1 : Int) < (zs.length : Int)) = true := decide_eq_true (by rw [zl]; simp; omega)
        have hZ0 := hZ
        rw [List.reverse_cons, List.reverse_cons, List.append_assoc, List.map_append] at hZ
        obtain ⟨ws, v2, v1, ez, hW, hv2, hv1⟩ := dp_snoc2 (a := qrP x1) (b := qrP y1) hZ
        obtain ⟨a2, a1⟩ := atI_2 ws v2 v1
        rw [← ez] at a1 a2
        have gx1 := gs x1 (by simp)
        have gy1 := gs y1 (by simp)
        refine itT e0 ⟨_, rfl, _, rfl, c, zs, -2, v2, rfl, rfl, .inl (.inl eZ), a2, _, rfl, _, rfl, c, zs, -1, v1, rfl, rfl, .inl (.inl eZ), a1, _, rfl, v2, v1, x, x1, y1, o, rfl, hv2, hv1, Dp_same s2 hx, gx1, gy1, gi, fun H3 s3 => ⟨_, rfl, ?_⟩⟩
        by_cases cc : sgP x1 y1 o ≤ 0
        · have e1 : pushP o (y1 :: x1 :: r) = pushP o (x1 :: r) := if_pos cc
          refine itT (by rw [decide_eq_false (by omega : ¬ 0 < sgP x1 y1 o)]; rfl) ⟨fun σ' H' => ∃ (st : List Pl) (zs : List V), st.length < (y1 :: x1 :: r).length ∧ σ' = [some (.ref p), some (.ref c), some x, none, none] ∧ Same H H' ∧ H' c = some (.lst zs) ∧ DpAll K H' zs (st.reverse.map qrP) ∧ pushP o st = pushP o st0 ∧ (∀ q ∈ st, GoodP 400 q) ∧ st.length ≤ 60, fun σ' H' ⟨st, zs, lt, k⟩ => ⟨_, lt, st, zs, rfl, k⟩, ?_⟩
          have eZ3 := s3 _ _ eZ
          refine ⟨_, rfl, .inl ⟨rfl, _, .inl (.inl eZ3)⟩, c, zs, v1, rfl, rfl, eZ3, ?_, x1 :: r, zs.dropLast, by simp, rfl, fun b u e => ?_, upd_same, ?_, by rw [← e1]; exact ep, fun q hq => gs q (List.mem_cons_of_mem _ hq), by simp at l6s ⊢; omega⟩
          · rw [ez]; simp
          · rw [upd_ne (ne_of_none e nc)]; exact s3 _ _ (s2 b u e)
          · have e5 : ((x1 :: r).reverse.map qrP) = ((y1 :: x1 :: r).reverse.map qrP).dropLast := by
              rw [List.reverse_cons (a := y1), List.map_append]; simp
            rw [e5]
            have := dp_dropLast (DpAll_same s3 hZ0)
            exact DpAll_but eZ3 (fun b u n e => by rw [upd_ne n]; exact e) (by rw [← e5]; exact noLs_qr _) this
        · have e1 : pushP o (y1 :: x1 :: r) = o :: y1 :: x1 :: r := if_neg cc
          exact itF (by rw [decide_eq_true (by omega : 0 < sgP x1 y1 o)]; rfl) (fin H3 (s2.trans s3) (s3 _ _ eZ) (DpAll_same s3 hZ0) e1)
    rintro σ H' ⟨y, ys, rfl, s1, eD, hY⟩
    rw [lx, List.take_length] at hY
    have hY : DpAll K H' ys ((chP os).map qrP) := hY
    have yl : ys.length = (chP os).length := by rw [DpAll_len hY, List.length_map]
    have cl : (chP os).length ≤ 60 := by
      have := st_len os []
      have e : (chP os).length = (os.foldl (fun s p => pushP p s) []).length := List.length_reverse
      simp at this
      omega
    dsimp only [tRet]
    refine lc_map (K := K) (a := c) (xs := ys) (j := 1) (fun i => pD ((chP os).getD i zP)) (fun i => by simp [pD, rD, noL, noLs]) (by rfl) (.inl (.inl (.inl eD))) (small1000 (by omega)) (fun i x G R ex sx hR => ?_) fun D8 F8 ts s8 n8 e8 h8 => ?_
    · obtain ⟨d, ed, hd⟩ := DpAll_at hY ex
      rw [List.getElem?_map] at ed
      cases eo : (chP os)[i]? with
      | none => rw [eo] at ed; cases ed
      | some o =>
        rw [eo] at ed; cases ed
        have e : (chP os).getD i zP = o := by rw [List.getD_eq_getElem?_getD, eo]; rfl
        (try dsimp only at hR)
        rw [e] at hR
        obtain ⟨pr, l1, r1, rfl, c1, hl1, hr1⟩ := dp_t2 (Dp_same sx hd)
        exact ⟨_, _, ⟨pr, rfl, .inl c1⟩, _, _, rfl, _, _, rfl, rfl, rfl, l1, rfl, hR _ _ (fun _ _ z => z) hl1⟩
    have h8' : DpAll K F8 ts ((chP os).map pD) := by rw [← range_get (chP os) zP, ← yl]; exact h8
    exact q F8 D8 ts (s1.trans s8) (s1.free n8) e8 h8'
abbrev shull_corners : Stmt := topS 46
theorem schull_corners : FnScope ["places", "rows", "there", "back", "place"] ["places"] (defScope shull_corners) := ⟨rfl, rfl, rfl, by decide +kernel, rfl, by decide +kernel, by decide +kernel⟩
theorem okhull_corners (T : Txt K mg "hull_corners" shull_corners) (Gorder_places : DefOk P w K mg base CX0 "order_places" 2 ["places"] (spOrdP K)) (Grough_place : DefOk P w K mg base CX0 "rough_place" 1 ["place"] (spRough K)) (Gleft_chain : DefOk P w K mg base CX0 "left_chain" 5 ["rows"] (spChain K)) (mlen : mg "len" = none) (mtuple : mg "tuple" = none) : DefOk P w K mg base CX0 "hull_corners" 6 ["places"] (spHullC K) := by
  obtain ⟨f, fd, F, gf⟩ := T
  refine ⟨f, fd, gf, F.kp, F.binds (fun _ _ _ _ _ _ us hl => match us, hl with | [_], _ => rfl), F.ok schull_corners (fun vs H Q E h => ?_) (fun cdv A outer s H vs Q E hr h => ?_)⟩
  · obtain ⟨p, xs, ps, rfl, _⟩ := h; rfl
  · obtain ⟨p, xs, ps, rfl, hP, l6, hG, q⟩ := h
    refine ⟨_, (pss_cons (ps_setLc (i := 1) (own := [("place", 4)]) rfl schull_corners.nd rfl rfl (sw_true rfl rfl rfl (by decide +kernel)) (pi_seq (pe_def Gorder_places (hr.mono (by decide)) (by rfl) (pa_cons (pv 0) pa_nil))) (blkOk_by (N := ["places", "rows", "there", "back", "place"]) (sc := defScope shull_corners) (by decide +kernel)) (fun _ _ _ _ _ => (pg_name (i := 4) schull_corners.nd rfl (.inl rfl))) (fun _ _ _ _ _ => pts_nil) (fun _ _ _ _ _ => (pe_tup (pa_cons (pv 4) (pa_cons (pe_def Grough_place (hr.mono (by decide)) (by rfl) (pa_cons (pv 4) pa_nil)) pa_nil))))) (pss_cons (ps_if (pt_cmpR op_eq (pe_callB call_len_seq (by rfl) mlen PySem.boot_len (pa_cons (pv 1) pa_nil)) pe_int (nomark _)) (pss_one (ps_ret (pe_tup (pa_cons (pe_ix ix_it (pe_ix ix_list (pv 1) pe_int (fun _ _ => rfl)) pe_int (fun _ _ => rfl)) pa_nil)))) pss_nil) (pss_cons (ps_par (i := 2) (j := 3) rfl schull_corners.nd rfl rfl (by decide) rfl rfl (pa_cons (pe_def Gleft_chain (hr.mono (by decide)) (by rfl) (pa_cons (pv 1) pa_nil)) (pa_cons (pe_def Gleft_chain (hr.mono (by decide)) (by rfl) (pa_cons (pe_revL (pv 1)) pa_nil)) pa_nil)) rfl) (pss_one (ps_ret (pe_callTy call_tuple_of (by rfl) mtuple (by decide +kernel) (pa_cons (pe_op op_cat (pe_slice sl_list (pv 2) po_none (po_some (pe_un un_neg pe_int))) (pe_slice sl_list (pv 3) po_none (po_some (pe_un un_neg pe_int)))) pa_nil))))))), ?_⟩
    dsimp only [tSeq, tAsg]
    refine lc_mapG (K := K) (fun a rs F6 => ∃ os : List Pl, Same H F6 ∧ SqL K F6 a rs ∧ DpAll K F6 rs (os.map pD) ∧ os.Pairwise ltP ∧ (∀ r, r ∈ os ↔ r ∈ ps) ∧ os.length ≤ ps.length)
      (fun R hR => ⟨_, rfl, p, xs, ps, rfl, hP, l6, hG, fun H1 a ys os s1 na ob om ol e1 h1 => hR _ _ _ ⟨os, s1, .inl (.inl e1), h1, ob, om, ol⟩⟩) (fun a0 rs F6 ⟨os, s6, hL6, h6, ob, om, ol⟩ => ?_)
    have rl : rs.length = os.length := by rw [DpAll_len h6, List.length_map]
    have go : ∀ o ∈ os, GoodP 400 o := fun o ho => hG o ((om o).mp ho)
    refine ⟨hL6, small1000 (by omega), fun i => qrP (os.getD i zP), fun i => noL_qr _, fun i x F7 R ex sx hR => ?_, fun a F8 ys s8 n8 e1 h8 => ?_⟩
    · obtain ⟨d', ed, hd⟩ := DpAll_at h6 ex
      rw [List.getElem?_map] at ed
      cases eo : os[i]? with
      | none => rw [eo] at ed; cases ed
      | some d =>
        rw [eo] at ed
        cases ed
        have e : os.getD i zP = d := by rw [List.getD_eq_getElem?_getD, eo]; rfl
        (try dsimp only at hR)
        rw [e] at hR
        have hx := Dp_same sx hd
        exact ⟨rfl, x, rfl, x, rfl, _, _, rfl, pla_t hx, go d (List.mem_of_getElem? eo), fun H' z s' hz => ⟨(by show 2 ≤ sizeLine; decide), fun b nb => hR _ _ (s'.trans (PB.same_new nb)) (dp_mk2 nb (Dp_same s' hx) hz)⟩⟩
    have h1 : DpAll K F8 ys (os.map qrP) := by rw [← range_get os zP, ← rl]; exact h8
    have s1 := s6.trans s8
    have yl : ys.length = os.length := by rw [DpAll_len h1, List.length_map]
    generalize F8 = H1 at s1 e1 h1 ⊢
    dsimp only [gName]
    refine ⟨_, rfl, a, ys, rfl, .inl (.inl (.inl e1)), rfl, _, rfl, ?_⟩
    by_cases o1 : os.length = 1
    · refine itT (decide_eq_true (by rw [yl, o1]; rfl)) ?_
      obtain ⟨o, rfl⟩ : ∃ o, os = [o] := by
        match os, o1 with
        | [o], _ => exact ⟨o, rfl⟩
      obtain ⟨v0, rfl, hv0⟩ : ∃ v, ys = [v] ∧ Dp K H1 v (qrP o) := by
        cases h1 with
        | cons h t => cases t with
          | nil => exact ⟨_, rfl, h⟩
      obtain ⟨pr, v, r1, rfl, c1, hv, hr1⟩ := dp_t2 hv0
      refine ⟨_, rfl, a, _, 0, _, rfl, rfl, .inl (.inl e1), rfl, _, _, 0, _, rfl, ⟨pr, rfl, .inl c1⟩, rfl, (by show 1 ≤ sizeLine; decide), fun t nt => ?_⟩
      have sn := PB.same_new (o := .tup [v]) nt
      exact q _ _ [o] (s1.trans sn) ob om ol (.tup (.inl (.inl upd_same)) (.cons (Dp_same sn hv) .nil))
    · refine itF (decide_eq_false fun z => o1 (by have := V.int.inj z; omega)) ?_
      refine ⟨_, rfl, a, ys, os, rfl, .inl (.inl e1), h1, by omega, go, fun H2 c1 ts s2 n2 e2 h2 => ?_⟩
      refine ⟨_, rfl, a, ys, rfl, .inl (.inl (s2 _ _ e1)), fun r nr => ?_⟩
      have sr := PB.same_new (o := .lst ys.reverse) nr
      refine ⟨r, ys.reverse, os.reverse, rfl, .inl (.inl upd_same), ?_, by rw [List.length_reverse]; omega, fun o ho => go o (List.mem_reverse.mp ho), fun H4 c2 us s4 n4 e4 h4 => ⟨_, _, rfl, ?_⟩⟩
      · rw [List.map_reverse]
        exact DpAll_same sr (dp_rev (DpAll_same s2 h1))
      have s24 := sr.trans s4
      have e2' := s24 _ _ e2
      have h2' := DpAll_same s24 h2
      have lt : ts.length ≤ 60 := by
        rw [DpAll_len h2, List.length_map]
        have := st_len os []
        have e : (chP os).length = (os.foldl (fun s p => pushP p s) []).length := List.length_reverse
        simp at this
        omega
      have lu : us.length ≤ 60 := by
        rw [DpAll_len h4, List.length_map]
        have := st_len os.reverse []
        have e : (chP os.reverse).length = (os.reverse.foldl (fun s p => pushP p s) []).length := List.length_reverse
        rw [List.length_reverse] at this
        rw [e]
        simp only [List.length_nil, Nat.add_zero] at this
        omega
      have k1 : DpAll K H4 (cutV ts none (some (-1))) ((chP os).dropLast.map pD) := by rw [cut_last, List.map_dropLast]; exact dp_dropLast h2'
      have k2 : DpAll K H4 (cutV us none (some (-1))) ((chP os.reverse).dropLast.map pD) := by rw [cut_last, List.map_dropLast]; exact dp_dropLast h4
      refine ⟨_, rfl, 1, rfl, _, rfl, c1, ts, rfl, .inl (.inl e2'), fun r1 nr1 => ?_⟩
      have sa := PB.same_new (o := .lst (cutV ts none (some (-1)))) nr1
      refine ⟨_, rfl, 1, rfl, _, rfl, c2, us, rfl, .inl (.inl (sa _ _ e4)), fun r2 nr2 => ?_⟩
      have sb := PB.same_new (o := .lst (cutV us none (some (-1)))) nr2
      have er1 : (upd (upd H4 r1 (.lst (cutV ts none (some (-1))))) r2 (.lst (cutV us none (some (-1))))) r1 = some (.lst (cutV ts none (some (-1)))) := sb _ _ upd_same
      refine ⟨r1, r2, _, _, rfl, rfl, er1, upd_same, ?_, fun r3 nr3 => ?_⟩
      · rw [cut_last, cut_last, List.length_dropLast, List.length_dropLast]
        have : (1000 : Nat) ≤ sizeLine := by decide
        omega
      have sc := PB.same_new (o := .lst (cutV ts none (some (-1)) ++ cutV us none (some (-1)))) nr3
      refine ⟨r3, _, rfl, .inl ⟨.inl (.inl upd_same), fun l nl => ?_⟩⟩
      have sl := PB.same_new (o := .tup (cutV ts none (some (-1)) ++ cutV us none (some (-1)))) nl
      have all := ((sa.trans sb).trans sc).trans sl
      refine q _ _ os ((((s1.trans s2).trans s24).trans all)) ob om ol (.tup (.inl (.inl upd_same)) ?_)
      unfold hullP
      rw [if_neg o1, List.map_append]
      exact dp_app (DpAll_same all k1) (DpAll_same all k2)
end
end F3
set_option Elab.async false
set_option linter.all false
set_option maxRecDepth 100000
set_option maxHeartbeats 4000000
/-! hulls of places by hulls of whole points -/
namespace F3
open PySem PySem.Spec PyProof.Rows L2 FX RM PB KD KS
theorem mem_dl {α : Type} {x : α} {l : List α} (h : x ∈ l.dropLast) : x ∈ l := (List.dropLast_sublist l).subset h
theorem nil_or_snoc {α : Type} (l : List α) : l = [] ∨ ∃ l' c, l = l' ++ [c] := by
  rcases List.eq_nil_or_concat l with h | ⟨a, b, h⟩
  · exact .inl h
  · exact .inr ⟨a, b, by rw [h, List.concat_eq_append]⟩
theorem sc_inj {N : Int} (n0 : 0 < N) {a b : Pl} (ha : Bot N a) (hb : Bot N b) (e : sc N a = sc N b) : a = b := by
  obtain ⟨a1, a2⟩ := sc_1 ha
  obtain ⟨b1, b2⟩ := sc_1 hb
  rw [e] at a1 a2
  have N0 : N ≠ 0 := by omega
  refine Prod.ext (rat_eq ha.1.1 hb.1.1 ?_) (rat_eq ha.1.2 hb.1.2 ?_)
  · refine Int.eq_of_mul_eq_mul_right N0 ?_
    calc a.1.1 * b.1.2 * N = a.1.1 * N * b.1.2 := by grind
      _ = (sc N b).1 * b.1.2 * a.1.2 := by rw [← a1]; grind
      _ = b.1.1 * a.1.2 * N := by rw [b1]; grind
  · refine Int.eq_of_mul_eq_mul_right N0 ?_
    calc a.2.1 * b.2.2 * N = a.2.1 * N * b.2.2 := by grind
      _ = (sc N b).2 * b.2.2 * a.2.2 := by rw [← a2]; grind
      _ = b.2.1 * a.2.2 * N := by rw [b2]; grind
theorem sc_lx {N : Int} (n0 : 0 < N) {a b : Pl} (ha : Bot N a) (hb : Bot N b) (h : ltP a b) : G4.lx (sc N a) (sc N b) := by
  obtain ⟨a1, a2⟩ := sc_1 ha
  obtain ⟨b1, b2⟩ := sc_1 hb
  have lt : ∀ {x y p q r s : Int}, 0 < q → 0 < s → x * q = p * N → y * s = r * N → p * s < r * q → x < y := by
    intro x y p q r s q0 s0 e1 e2 k
    rcases Int.lt_or_le x y with z | z
    · exact z
    · have m := Int.mul_le_mul_of_nonneg_right z (Int.le_of_lt (Int.mul_pos q0 s0))
      have m1 : x * (q * s) = p * s * N := by rw [← Int.mul_assoc, e1]; grind
      have m2 : y * (q * s) = r * q * N := by rw [Int.mul_comm q s, ← Int.mul_assoc, e2]; grind
      have m3 := Int.mul_lt_mul_of_pos_right k n0
      omega
  rcases h with h | ⟨h, k⟩
  · exact .inl (lt ha.1.1.1 hb.1.1.1 a1 b1 h)
  · refine .inr ⟨?_, lt ha.1.2.1 hb.1.2.1 a2 b2 k⟩
    show a.1.1 * (N / a.1.2) = b.1.1 * (N / b.1.2)
    rw [h]
theorem push_sc {N : Int} (n0 : 0 < N) {p : Pl} (hp : Bot N p) : ∀ {st : List Pl}, (∀ q ∈ st, Bot N q) → (pushP p st).map (sc N) = G4.push (sc N p) (st.map (sc N))
  | [], _ => rfl
  | [y], _ => rfl
  | y :: x :: r, h => by
    have k := (sc_pos n0 (h x (by simp)) (h y (by simp)) hp).1
    show (if sgP x y p ≤ 0 then pushP p (x :: r) else p :: y :: x :: r).map (sc N) = (if G4.cr (sc N x) (sc N y) (sc N p) ≤ 0 then G4.push (sc N p) (sc N x :: r.map (sc N)) else sc N p :: sc N y :: sc N x :: r.map (sc N))
    by_cases c : sgP x y p ≤ 0
    · rw [if_pos c, if_pos (k.mp c)]
      exact push_sc n0 hp fun q hq => h q (List.mem_cons_of_mem _ hq)
    · rw [if_neg c, if_neg fun z => c (k.mpr z)]
      rfl
theorem fold_sc {N : Int} (n0 : 0 < N) : ∀ (l st : List Pl), (∀ q ∈ l, Bot N q) → (∀ q ∈ st, Bot N q) → (l.foldl (fun s p => pushP p s) st).map (sc N) = (l.map (sc N)).foldl (fun s p => G4.push p s) (st.map (sc N))
  | [], _, _, _ => rfl
  | p :: l, st, h1, h2 => by
    have hp := h1 p (List.mem_cons_self ..)
    rw [List.foldl_cons, List.map_cons, List.foldl_cons, ← push_sc n0 hp h2]
    refine fold_sc n0 l _ (fun q hq => h1 q (List.mem_cons_of_mem _ hq)) fun q hq => ?_
    rcases push_mem hq with e | e
    · exact e ▸ hp
    · exact h2 q e
theorem chP_sc {N : Int} (n0 : 0 < N) {l : List Pl} (h : ∀ q ∈ l, Bot N q) : (chP l).map (sc N) = G4.chain (l.map (sc N)) := by
  unfold chP stP G4.chain
  rw [List.map_reverse, fold_sc n0 l [] h (fun _ h => nomatch h)]
  rfl
theorem hullP_sc {N : Int} (n0 : 0 < N) {os : List Pl} (h : ∀ q ∈ os, Bot N q) : (hullP os).map (sc N) = G4.hullR (os.map (sc N)) := by
  unfold hullP G4.hullR
  rw [List.length_map]
  split
  · rfl
  · rw [List.map_append, List.map_dropLast, List.map_dropLast, chP_sc n0 h, chP_sc n0 (fun q hq => h q (List.mem_reverse.mp hq)), List.map_reverse]
/-- the places ps in ascending order -/
structure Srt (ps os : List Pl) : Prop where
  lt : os.Pairwise ltP
  m : ∀ r, r ∈ os ↔ r ∈ ps
theorem map_inj' {N : Int} (n0 : 0 < N) : ∀ {l l' : List Pl}, (∀ p ∈ l, Bot N p) → (∀ p ∈ l', Bot N p) → l.map (sc N) = l'.map (sc N) → l = l'
  | [], [], _, _, _ => rfl
  | [], _ :: _, _, _, e => nomatch e
  | _ :: _, [], _, _, e => nomatch e
  | a :: l, b :: l', h, h', e => by
    obtain ⟨e1, e2⟩ := List.cons.inj e
    rw [sc_inj n0 (h a (by simp)) (h' b (by simp)) e1, map_inj' n0 (fun p hp => h p (List.mem_cons_of_mem _ hp)) (fun p hp => h' p (List.mem_cons_of_mem _ hp)) e2]
theorem hull_sub {os : List Pl} : ∀ r ∈ hullP os, r ∈ os := fun r hr => by
  unfold hullP at hr
  split at hr
  · exact hr
  · rcases List.mem_append.mp hr with h | h
    · have := List.mem_reverse.mp (mem_dl h)
      rcases st_mem this with k | k
      · exact k
      · exact nomatch k
    · have := List.mem_reverse.mp (mem_dl h)
      rcases st_mem this with k | k
      · exact List.mem_reverse.mp k
      · exact nomatch k
section
variable {ps os : List Pl} {N : Int}
theorem Srt.asc (h : Srt ps os) (n0 : 0 < N) (hb : ∀ p ∈ ps, Bot N p) : (os.map (sc N)).Pairwise G4.lx := by
  rw [List.pairwise_map]
  exact h.lt.imp_of_mem fun {a b} ha hb' k => sc_lx n0 (hb a ((h.m a).mp ha)) (hb b ((h.m b).mp hb')) k
/-- two or more places: the chains -/
theorem Srt.hl (h : Srt ps os) (n0 : 0 < N) (hb : ∀ p ∈ ps, Bot N p) (l2 : 2 ≤ os.length) : ∃ a b l u, G4.HL (fun q => q ∈ os.map (sc N)) a b l u ∧ (hullP os).map (sc N) = a :: (l ++ b :: u) := by
  have asc := h.asc n0 hb
  have e := hullP_sc n0 (os := os) fun q hq => hb q ((h.m q).mp hq)
  match os, l2 with
  | x :: y :: r, _ =>
    obtain ⟨b, l, u, k1, k2⟩ := G4.hull_HL asc
    exact ⟨_, b, l, u, k1, e.trans k2⟩
/-- the hull of any places between the corners and the places -/
theorem hull_between {ps' os' : List Pl} (h : Srt ps os) (h' : Srt ps' os') (hr : ∀ p ∈ ps, RatP p) (ne : ps ≠ []) (s1 : ∀ r ∈ ps', r ∈ ps) (s2 : ∀ r ∈ hullP os, r ∈ ps') : hullP os' = hullP os := by
  have n0 := bots_pos hr
  have hb := bots_ok hr
  have hb' : ∀ p ∈ ps', Bot (bots ps) p := fun p hp => hb p (s1 p hp)
  have o1 : ∀ p ∈ os, Bot (bots ps) p := fun p hp => hb p ((h.m p).mp hp)
  have o2 : ∀ p ∈ os', Bot (bots ps) p := fun p hp => hb' p ((h'.m p).mp hp)
  match os, h, s2, o1 with
  | [], h, _, _ =>
    cases ps with
    | nil => exact absurd rfl ne
    | cons p ps => exact nomatch (h.m p).mpr (List.mem_cons_self ..)
  | [o], h, s2, _ =>
    have m := s2 o (by unfold hullP; simp)
    have all : ∀ r ∈ os', r = o := fun r hr => List.mem_singleton.mp ((h.m r).mpr (s1 r ((h'.m r).mp hr)))
    have mo := (h'.m o).mpr m
    match os', all, mo, h' with
    | [r], all, _, _ => rw [all r (by simp)]
    | r :: s :: t, all, _, h' =>
      have k := (List.pairwise_cons.mp h'.lt).1 s (by simp)
      rw [all r (by simp), all s (by simp)] at k
      exact absurd (sc_lx n0 (hb' o m) (hb' o m) k) (G4.lx_irrefl _)
  | x :: y :: r, h, s2, o1 =>
    obtain ⟨a, b, l, u, k, e⟩ := h.hl n0 hb (by simp)
    have k' := k.again (fun q => q ∈ os'.map (sc (bots ps))) (fun q hq => by
      obtain ⟨z, hz, rfl⟩ := List.mem_map.mp hq
      exact List.mem_map_of_mem ((h.m z).mpr (s1 z ((h'.m z).mp hz)))) (fun q hq => by
      rw [← e] at hq
      obtain ⟨z, hz, rfl⟩ := List.mem_map.mp hq
      exact List.mem_map_of_mem ((h'.m z).mpr (s2 z hz)))
    have e' := G4.hull_eq (h'.asc n0 hb') k'
    rw [← hullP_sc n0 o2, ← e] at e'
    exact map_inj' n0 (fun p hp => o2 p (hull_sub p hp)) (fun p hp => o1 p (hull_sub p hp)) e'
theorem hull_ne (h : Srt ps os) (hr : ∀ p ∈ ps, RatP p) (ne : ps ≠ []) : hullP os ≠ [] := by
  match os, h with
  | [], h =>
    cases ps with
    | nil => exact absurd rfl ne
    | cons p ps => exact nomatch (h.m p).mpr (List.mem_cons_self ..)
  | [o], _ => unfold hullP; simp
  | x :: y :: r, h =>
    obtain ⟨a, b, l, u, k, e⟩ := h.hl (bots_pos hr) (bots_ok hr) (by simp)
    intro z
    rw [z] at e
    cases e
theorem hull_nodup (h : Srt ps os) (hr : ∀ p ∈ ps, RatP p) : (hullP os).Nodup := by
  match os, h with
  | [], _ => unfold hullP; simp [chP, stP]
  | [o], _ => unfold hullP; simp
  | x :: y :: r, h =>
    obtain ⟨a, b, l, u, k, e⟩ := h.hl (bots_pos hr) (bots_ok hr) (by simp)
    have := k.nodup
    rw [← e] at this
    rw [List.Nodup, List.pairwise_map] at this
    exact this.imp fun h e => h (congrArg _ e)
/-- without its last corner -/
theorem hull_shorter {ps' os' : List Pl} (h : Srt ps os) (hr : ∀ p ∈ ps, RatP p) (l2 : 2 ≤ (hullP os).length) (h' : Srt ps' os') (m : ∀ r, r ∈ ps' ↔ r ∈ (hullP os).dropLast) : hullP os' = (hullP os).dropLast := by
  have n0 := bots_pos hr
  have hb := bots_ok hr
  have o1 : ∀ p ∈ os, Bot (bots ps) p := fun p hp => hb p ((h.m p).mp hp)
  have hb' : ∀ p ∈ ps', Bot (bots ps) p := fun p hp => o1 p (hull_sub p (mem_dl ((m p).mp hp)))
  have o2 : ∀ p ∈ os', Bot (bots ps) p := fun p hp => hb' p ((h'.m p).mp hp)
  have d2 : ∀ p ∈ (hullP os).dropLast, Bot (bots ps) p := fun p hp => o1 p (hull_sub p (mem_dl hp))
  have two : 2 ≤ os.length := by
    match os, l2 with
    | [], l2 => unfold hullP at l2; simp [chP, stP] at l2
    | [o], l2 => unfold hullP at l2; simp at l2
    | _ :: _ :: _, _ => simp
  obtain ⟨a, b, l, u, k, e⟩ := h.hl n0 hb two
  have asc' := h'.asc n0 hb'
  have mem' : ∀ q, q ∈ os'.map (sc (bots ps)) ↔ q ∈ ((hullP os).map (sc (bots ps))).dropLast := fun q => by
    rw [← List.map_dropLast]
    constructor
    · intro hq
      obtain ⟨z, hz, rfl⟩ := List.mem_map.mp hq
      exact List.mem_map_of_mem ((m z).mp ((h'.m z).mp hz))
    · intro hq
      obtain ⟨z, hz, rfl⟩ := List.mem_map.mp hq
      exact List.mem_map_of_mem ((h'.m z).mpr ((m z).mpr hz))
  refine map_inj' n0 (fun p hp => o2 p (hull_sub p hp)) d2 ?_
  rw [List.map_dropLast, hullP_sc n0 o2]
  rw [e] at mem' ⊢
  rcases nil_or_snoc u with rfl | ⟨u', c, rfl⟩
  · have d : (a :: (l ++ [b])).dropLast = a :: l := by rw [← List.cons_append, List.dropLast_concat]
    rw [d] at mem' ⊢
    rcases nil_or_snoc l with rfl | ⟨l', c, rfl⟩
    · -- one place is left
      generalize os'.map (sc (bots ps)) = rows at mem' asc' ⊢
      have ma : a ∈ rows := (mem' a).mpr (by simp)
      have all : ∀ r ∈ rows, r = a := fun r hr => List.mem_singleton.mp ((mem' r).mp hr)
      match rows, all, ma, asc' with
      | [r], all, _, _ => rw [all r (by simp)]; rfl
      | r :: s :: t, all, _, asc' =>
        have k := (List.pairwise_cons.mp asc').1 s (by simp)
        rw [all r (by simp), all s (by simp)] at k
        exact absurd k (G4.lx_irrefl _)
    · have k2 := k.shorter_low
      have e3 : (fun q => q ∈ a :: (l' ++ [c])) = fun q => q ∈ os'.map (sc (bots ps)) := funext fun q => propext (mem' q).symm
      rw [e3] at k2
      exact G4.hull_eq asc' k2
  · have d : (a :: (l ++ b :: (u' ++ [c]))).dropLast = a :: (l ++ b :: u') := by
      have : a :: (l ++ b :: (u' ++ [c])) = (a :: (l ++ b :: u')) ++ [c] := by simp
      rw [this, List.dropLast_concat]
    rw [d] at mem' ⊢
    have k2 := k.shorter_up
    have e3 : (fun q => q ∈ a :: (l ++ b :: u')) = fun q => q ∈ os'.map (sc (bots ps)) := funext fun q => propext (mem' q).symm
    rw [e3] at k2
    exact G4.hull_eq asc' k2
end
end F3
set_option Elab.async false
set_option linter.all false
set_option maxRecDepth 100000
set_option maxHeartbeats 4000000
/-! an error beside its fields and what they should be: the rows that the law makes -/
namespace FX
open PySem PySem.Spec PyProof.Rows L2
theorem same_new {H : Hp} {p : Addr} {o : HO} (h : H p = none) : Same H (upd H p o) := fun b x e => by
  rw [upd_ne (ne_of_none e h)]; exact e
theorem len_one {α : Type} : ∀ {l : List α}, l.length = 1 → ∃ a, l = [a]
  | [a], _ => ⟨a, rfl⟩
theorem len_two {α : Type} : ∀ {l : List α}, l.length = 2 → ∃ a b, l = [a, b]
  | [a, b], _ => ⟨a, b, rfl⟩
/-- what a class of errors gives: its facts, its name's value, its constructor -/
structure CT (P : Program) (w : World) (K : PySem.W.Frag) (mg : Str → Option Value) (base : Heap) (x : Str) (fs : List Str) : Prop where
  ok : ClsOk K x fs
  g : mg x = some (.ref (He.ga K x))
  con : fs ≠ [] → ∃ fd ps, FnOk P w K mg base CX0 1 (He.ma K (He.ga K x) "__init__") fd ps (spInit (He.ga K x) fs) ∧ Binds K fd ps []
section
variable {X : Cx}
theorem pe_exC {x : Str} {fs : List Str} {e : Expr} {es : List Expr} {ta : TA} {p pos : Pos} (c : CT X.prog X.w X.K X.mg X.base x fs) (hr : Room 2 X.A) (hg : Gl X x) (ha : PA X (e :: es) ta) (hne : fs ≠ [] := by exact List.cons_ne_nil _ _)
    (hdb : (x == ("__debug__" : Str)) = false := by decide) (he : starEach (e :: es) X.env = (false, eval e X.env) :: starEach es X.env := by rfl) (hpl : (backTo pos (starEach es X.env)).any (·.1) = false := by rfl) :
    PE X (.Call (.Name x p) (e :: es) [] pos) (tEx (He.ga X.K x) fs ta) := by
  obtain ⟨fd, ps, F, b⟩ := c.con hne
  exact pe_ex c.ok.o (c.ok.ini hne) (c.ok.ity hne) F hr b hg c.g ha hdb he hpl
theorem pe_exC0 {x : Str} {p pos : Pos} (c : CT X.prog X.w X.K X.mg X.base x []) (hg : Gl X x) (hdb : (x == ("__debug__" : Str)) = false := by decide) :
    PE X (.Call (.Name x p) [] [] pos) (tEx (He.ga X.K x) [] tNil) := pe_ex0 c.ok.o (c.ok.xin rfl) hg c.g hdb
end
/-- one row: the error, what was read of it, what is due -/
def EntF (K : PySem.W.Frag) (H : Hp) (v : V) (x : Str) (ws : List V) : Prop := ∃ t e l1 l2 fs, v = .ref t ∧ H t = some (.tup [.ref e, .ref l1, .ref l2]) ∧ ExAt H e (He.ga K x) fs ∧ H l1 = some (.lst ws) ∧ H l2 = some (.lst ws)
def Ent (K : PySem.W.Frag) (H : Hp) (p : Addr) (v : V) (x : Str) (ws : List V) : Prop := ∃ t e l1 l2 fs, v = .ref t ∧ H t = some (.tup [.ref e, .ref l1, .ref l2]) ∧ ExAt H e (He.ga K x) fs ∧ H l1 = some (.lst ws) ∧ H l2 = some (.lst ws) ∧ l1 ≠ p ∧ l2 ≠ p
def Ents (K : PySem.W.Frag) (H : Hp) (p : Addr) : List V → List (Str × List V) → Prop
  | [], [] => True
  | v :: vs, (x, ws) :: r => Ent K H p v x ws ∧ Ents K H p vs r
  | _, _ => False
def EntsF (K : PySem.W.Frag) (H : Hp) : List V → List (Str × List V) → Prop
  | [], [] => True
  | v :: vs, (x, ws) :: r => EntF K H v x ws ∧ EntsF K H vs r
  | _, _ => False
section
variable {K : PySem.W.Frag} {H H' : Hp} {p : Addr}
theorem EntF.same {v : V} {x : Str} {ws : List V} (h : EntF K H v x ws) (s : Same H H') : EntF K H' v x ws := by
  obtain ⟨t, e, l1, l2, fs, a, b, c, d, f⟩ := h
  exact ⟨t, e, l1, l2, fs, a, s _ _ b, c.same s, s _ _ d, s _ _ f⟩
theorem EntsF.same : ∀ {vs : List V} {es : List (Str × List V)}, EntsF K H vs es → Same H H' → EntsF K H' vs es
  | [], [], _, _ => trivial
  | v :: vs, (x, ws) :: r, ⟨a, b⟩, s => ⟨a.same s, EntsF.same b s⟩
  | [], _ :: _, h, _ => h.elim
  | _ :: _, [], h, _ => h.elim
theorem EntsF.app : ∀ {vs us : List V} {es rs : List (Str × List V)}, EntsF K H vs es → EntsF K H us rs → EntsF K H (vs ++ us) (es ++ rs)
  | [], _, [], _, _, h => h
  | v :: vs, _, (x, ws) :: r, _, ⟨a, b⟩, h => ⟨a, EntsF.app b h⟩
  | [], _, _ :: _, _, h, _ => h.elim
  | _ :: _, _, [], _, h, _ => h.elim
theorem EntsF.len : ∀ {vs : List V} {es : List (Str × List V)}, EntsF K H vs es → vs.length = es.length
  | [], [], _ => rfl
  | v :: vs, (x, ws) :: r, ⟨_, b⟩ => congrArg (· + 1) (EntsF.len b)
  | [], _ :: _, h => h.elim
  | _ :: _, [], h => h.elim
theorem EntsF.at : ∀ {vs : List V} {es : List (Str × List V)} {i : Nat} {x : Str} {ws : List V}, EntsF K H vs es → es[i]? = some (x, ws) → ∃ v, vs[i]? = some v ∧ EntF K H v x ws
  | v :: vs, (y, us) :: r, 0, x, ws, ⟨a, _⟩, e => by
    have z := Option.some.inj e
    cases z
    exact ⟨v, rfl, a⟩
  | v :: vs, _ :: r, i + 1, x, ws, ⟨_, b⟩, e => EntsF.at (i := i) b e
  | [], [], _, _, _, _, e => by cases e
  | [], _ :: _, _, _, _, h, _ => h.elim
  | _ :: _, [], _, _, _, h, _ => h.elim
theorem Ents.free : ∀ {vs : List V} {es : List (Str × List V)}, Ents K H p vs es → EntsF K H vs es
  | [], [], _ => trivial
  | v :: vs, (x, ws) :: r, ⟨⟨t, e, l1, l2, fs, a, b, c, d, f, _⟩, q⟩ => ⟨⟨t, e, l1, l2, fs, a, b, c, d, f⟩, Ents.free q⟩
  | [], _ :: _, h => h.elim
  | _ :: _, [], h => h.elim
theorem Ent.but {v : V} {x : Str} {ws ys : List V} (hp : H p = some (.lst ys)) (s : ∀ b o, b ≠ p → H b = some o → H' b = some o) (h : Ent K H p v x ws) : Ent K H' p v x ws := by
  obtain ⟨t, e, l1, l2, fs, a, b, c, d, f, n1, n2⟩ := h
  have ne : ∀ {q : Addr} {o : HO}, H q = some o → o ≠ .lst ys → q ≠ p := fun {q o} z n z2 => by
    rw [z2, hp] at z
    exact n (Option.some.inj z).symm
  have nx : ∀ (φ : Heap → Prop), HO.ext φ ≠ .lst ys := fun φ z => by cases z
  refine ⟨t, e, l1, l2, fs, a, s _ _ (ne b (fun z => by cases z)) b, ?_, s _ _ n1 d, s _ _ n2 f, n1, n2⟩
  rcases c with ⟨c1, c2⟩ | ⟨dd, c1, c2⟩
  · exact .inl ⟨c1, s _ _ (ne c2 (nx _)) c2⟩
  · exact .inr ⟨dd, s _ _ (ne c1 (nx _)) c1, s _ _ (ne c2 (nx _)) c2⟩
theorem Ents.but {ys : List V} (hp : H p = some (.lst ys)) (s : ∀ b o, b ≠ p → H b = some o → H' b = some o) : ∀ {vs : List V} {es : List (Str × List V)}, Ents K H p vs es → Ents K H' p vs es
  | [], [], _ => trivial
  | v :: vs, (x, ws) :: r, ⟨a, b⟩ => ⟨a.but hp s, Ents.but hp s b⟩
  | [], _ :: _, h => h.elim
  | _ :: _, [], h => h.elim
theorem Ents.snoc {v : V} {x : Str} {ws : List V} : ∀ {vs : List V} {es : List (Str × List V)}, Ents K H p vs es → Ent K H p v x ws → Ents K H p (vs ++ [v]) (es ++ [(x, ws)])
  | [], [], _, h => ⟨h, trivial⟩
  | u :: vs, (y, us) :: r, ⟨a, b⟩, h => ⟨a, Ents.snoc b h⟩
  | [], _ :: _, h, _ => h.elim
  | _ :: _, [], h, _ => h.elim
end
/-- between two rows -/
def StF (K : PySem.W.Frag) (H0 : Hp) (p : Addr) (v0 v1 v2 v3 : V) (es : List (Str × List V)) (σ : L2.St) (H : Hp) : Prop := ∃ y xs, σ = [some v0, some v1, some v2, some v3, some (.ref p), y] ∧ Same H0 H ∧ H0 p = none ∧ H p = some (.lst xs) ∧ xs.length = es.length ∧ Ents K H p xs es
abbrev tApp (K : PySem.W.Frag) (ta : TA) : TS := tDrop (tBM K "list" rAppend (tVar 4) ta)
abbrev tRow (K : PySem.W.Frag) (te : TE) (t1 t2 : TA) : TA := tCons (tTup (tCons te (tCons (tLst t1) (tCons (tLst t2) tNil)))) tNil
section
variable {K : PySem.W.Frag} {H0 : Hp} {p : Addr} {v0 v1 v2 v3 : V} {es : List (Str × List V)} {D : Ends}
/-- the end of a row: the tuple is made and put behind the others -/
theorem row_end {x : Str} {ws : List V} {fs : List (Str × V)} {y : Option V} {xs : List V} {H H1 : Hp} {e l1 l2 t : Addr} (sm : Same H0 H) (np : H0 p = none) (hp : H p = some (.lst xs)) (hl : xs.length = es.length) (he : Ents K H p xs es) (hs : es.length < 1000)
    (s1 : Same H H1) (hx : ExAt H1 e (He.ga K x) fs) (n1 : H1 l1 = none) (n2 : upd H1 l1 (.lst ws) l2 = none) (n3 : upd (upd H1 l1 (.lst ws)) l2 (.lst ws) t = none)
    (next : ∀ σ' H', StF K H0 p v0 v1 v2 v3 (es ++ [(x, ws)]) σ' H' → D.nx σ' H') :
    rAppend (.ref p) [.ref t] (upd (upd (upd H1 l1 (.lst ws)) l2 (.lst ws)) t (.tup [.ref e, .ref l1, .ref l2])) (fun _ H2 => D.nx [some v0, some v1, some v2, some v3, some (.ref p), y] H2) := by
  have sa : Same H1 (upd H1 l1 (.lst ws)) := same_new n1
  have sb : Same (upd H1 l1 (.lst ws)) (upd (upd H1 l1 (.lst ws)) l2 (.lst ws)) := same_new n2
  have sc : Same (upd (upd H1 l1 (.lst ws)) l2 (.lst ws)) (upd (upd (upd H1 l1 (.lst ws)) l2 (.lst ws)) t (.tup [.ref e, .ref l1, .ref l2])) := same_new n3
  have s2 : Same H (upd (upd (upd H1 l1 (.lst ws)) l2 (.lst ws)) t (.tup [.ref e, .ref l1, .ref l2])) := ((s1.trans sa).trans sb).trans sc
  have hp1 := s1 _ _ hp
  have hp2 := sa _ _ hp1
  have hp3 := s2 _ _ hp
  refine ⟨p, xs, .ref t, rfl, rfl, hp3, small1000 (by omega), next _ _ ⟨y, xs ++ [.ref t], rfl, fun b o z => ?_, np, upd_same, by rw [List.length_append, List.length_append, hl]; rfl, ?_⟩⟩
  · rw [upd_ne (ne_of_none z np)]
    exact s2 _ _ (sm _ _ z)
  · refine Ents.but hp3 (fun b o nb z => by rw [upd_ne nb]; exact z) (Ents.snoc (Ents.but hp (fun b o _ z => s2 _ _ z) he) ⟨t, e, l1, l2, fs, rfl, upd_same, ?_, sc _ _ (sb _ _ upd_same), sc _ _ upd_same, (ne_of_none hp1 n1).symm, (ne_of_none hp2 n2).symm⟩)
    exact hx.same ((sa.trans sb).trans sc)
theorem step0 {x : Str} {σ : L2.St} {H : Hp} (h : StF K H0 p v0 v1 v2 v3 es σ H) (hs : es.length < 1000) (next : ∀ σ' H', StF K H0 p v0 v1 v2 v3 (es ++ [(x, [])]) σ' H' → D.nx σ' H') :
    tApp K (tRow K (tEx (He.ga K x) [] tNil) tNil tNil) D σ H := by
  obtain ⟨y, xs, rfl, sm, np, hp, hl, he⟩ := h
  refine ⟨.ref p, rfl, .inl ⟨rfl, _, .inl (.inl hp)⟩, rfl, Nat.zero_le _, fun e H1 ne s1 hx => ⟨Nat.zero_le _, fun l1 n1 => ⟨Nat.zero_le _, fun l2 n2 => ⟨(by show 3 ≤ sizeLine; decide), fun t n3 => ?_⟩⟩⟩⟩
  exact row_end sm np hp hl he hs s1 hx n1 n2 n3 next
theorem step1 {x f : Str} {j : Nat} {v : V} {σ : L2.St} {H : Hp} {rest : TS} (c : ClsOk K x [f]) (hj : ∀ y, [some v0, some v1, some v2, some v3, some (.ref p), y][j]? = some (some v)) (h : StF K H0 p v0 v1 v2 v3 es σ H) (hs : es.length < 1000)
    (next : ∀ σ' H', StF K H0 p v0 v1 v2 v3 (es ++ [(x, [v])]) σ' H' → rest D σ' H') :
    tSeq (tAsg (tEx (He.ga K x) [f] (tCons (tVar j) tNil)) (gName 5)) (tSeq (tApp K (tRow K (tVar 5) (tCons (tXv K f (tVar 5)) tNil) (tCons (tVar j) tNil))) rest) D σ H := by
  obtain ⟨y, xs, rfl, sm, np, hp, hl, he⟩ := h
  refine ⟨v, hj y, rfl, (by show 1 ≤ 1000; decide), fun e H1 ne s1 hx => ?_⟩
  have lk : List.lookup f [(f, v)] = some v := by simp [List.lookup]
  refine ⟨.ref p, rfl, .inl ⟨rfl, _, .inl (.inl (s1 _ _ hp))⟩, .ref e, rfl, .ref e, rfl, e, _, _, v, rfl, hx, c.is, c.no f (List.mem_cons_self ..), lk, (by show 1 ≤ sizeLine; decide), fun l1 n1 => ?_⟩
  refine ⟨v, hj _, (by show 1 ≤ sizeLine; decide), fun l2 n2 => ⟨(by show 3 ≤ sizeLine; decide), fun t n3 => ?_⟩⟩
  exact row_end (D := { D with nx := rest D }) sm np hp hl he hs s1 hx n1 n2 n3 next
theorem step2 {x f g : Str} {i j : Nat} {v u : V} {σ : L2.St} {H : Hp} {rest : TS} (c : ClsOk K x [f, g]) (hne : f ≠ g) (hi : ∀ y, [some v0, some v1, some v2, some v3, some (.ref p), y][i]? = some (some v)) (hj : ∀ y, [some v0, some v1, some v2, some v3, some (.ref p), y][j]? = some (some u))
    (h : StF K H0 p v0 v1 v2 v3 es σ H) (hs : es.length < 1000) (next : ∀ σ' H', StF K H0 p v0 v1 v2 v3 (es ++ [(x, [v, u])]) σ' H' → rest D σ' H') :
    tSeq (tAsg (tEx (He.ga K x) [f, g] (tCons (tVar i) (tCons (tVar j) tNil))) (gName 5)) (tSeq (tApp K (tRow K (tVar 5) (tCons (tXv K f (tVar 5)) (tCons (tXv K g (tVar 5)) tNil)) (tCons (tVar i) (tCons (tVar j) tNil)))) rest) D σ H := by
  obtain ⟨y, xs, rfl, sm, np, hp, hl, he⟩ := h
  refine ⟨v, hi y, u, hj y, rfl, (by show 2 ≤ 1000; decide), fun e H1 ne s1 hx => ?_⟩
  have l1 : List.lookup f [(g, u), (f, v)] = some v := by
    have z : (f == g) = false := by simpa using hne
    simp [List.lookup, z]
  have l2 : List.lookup g [(g, u), (f, v)] = some u := by simp [List.lookup]
  refine ⟨.ref p, rfl, .inl ⟨rfl, _, .inl (.inl (s1 _ _ hp))⟩, .ref e, rfl, .ref e, rfl, e, _, _, v, rfl, hx, c.is, c.no f (List.mem_cons_self ..), l1, .ref e, rfl, e, _, _, u, rfl, hx, c.is, c.no g (List.mem_cons_of_mem _ (List.mem_cons_self ..)), l2, (by show 2 ≤ sizeLine; decide), fun l1 n1 => ?_⟩
  refine ⟨v, hi _, u, hj _, (by show 2 ≤ sizeLine; decide), fun l2 n2 => ⟨(by show 3 ≤ sizeLine; decide), fun t n3 => ?_⟩⟩
  exact row_end (D := { D with nx := rest D }) sm np hp hl he hs s1 hx n1 n2 n3 next
end
end FX
set_option Elab.async false
set_option linter.all false
set_option maxRecDepth 100000
set_option maxHeartbeats 4000000
set_option exponentiation.threshold 3000
namespace F3
open PySem PySem.Spec PyProof.Rows L2 FX RM PB KD KS
section
variable {X : Cx}
theorem pmk_exW {x : Str} {e : Expr} {es : List Expr} {ta : TA} {p pos : Pos} {names : List Str} (c : CT X.prog X.w X.K X.mg X.base x names) (hr : Room 2 X.A) (hg : Gl X x) (ha : PA X (e :: es) ta) (hne : names ≠ [] := by exact List.cons_ne_nil _ _)
    (hdb : (x == ("__debug__" : Str)) = false := by decide) (he : starEach (e :: es) X.env = (false, eval e X.env) :: starEach es X.env := by rfl) (hpl : (backTo pos (starEach es X.env)).any (·.1) = false := by rfl) :
    PMk X (.Call (.Name x p) (e :: es) [] pos) (tMkO (He.ga X.K x) (spInit (He.ga X.K x) names) [] ta) := by
  obtain ⟨fd, ps, F, b⟩ := c.con hne
  exact pmk_oex c.ok.o (c.ok.ini hne) (c.ok.ity hne) F hr b .nil pass0 hg c.g ha hdb he hpl
end
/-- an own error with one word, let out -/
def xE (K : PySem.W.Frag) (x what : Str) (E : XK) (H : Hp) : Prop := ∀ d H', Same H H' → H' d = some (.xd [("what", .str what)]) → E (.ref (He.ga K x)) (some d) H'
theorem xE.same {K : PySem.W.Frag} {x what : Str} {E : XK} {H H' : Hp} (h : xE K x what E H) (s : Same H H') : xE K x what E H' := fun d H2 s2 => h d H2 (s.trans s2)
theorem raise_ok {K : PySem.W.Frag} {x what : Str} {E : XK} {H : Hp} {σ : L2.St} (h : xE K x what E H) : tMkO (He.ga K x) (spInit (He.ga K x) ["what"]) [] (tCons (tC (.str what)) tNil) σ H (fun cls d H2 => E cls d H2) := by
  refine ⟨(by show 1 ≤ 1000; decide), fun a na => ⟨a, [.str what], rfl, rfl, upd_same, fun H' d keep ea ed nd => ?_⟩⟩
  have da : d ≠ a := fun e => by rw [e, upd_same] at nd; cases nd
  have hd : H d = none := by rw [upd_ne da] at nd; exact nd
  refine ⟨rfl, d, _, ea, ed, hd, h d _ (fun b o e => ?_) upd_same⟩
  have ba : b ≠ a := ne_of_none e na
  rw [upd_ne (ne_of_none e hd), del_ne ba]
  exact keep b o ba (by rw [upd_ne ba]; exact e)
theorem for_seq {K : PySem.W.Frag} {a : Addr} {xs : List V} {j : Nat} {g : TG} {tb : TS} {D : Ends} {σ : L2.St} {H : Hp} (h0 : SqL K H a xs ∨ SqT K H a xs) (hj : σ[j]? = some (some (.ref a))) (Pv : Nat → L2.St → Hp → Prop) (p0 : Pv 0 σ H) (hS : ∀ i σ' H', Pv i σ' H' → Same H H')
    (hs : ∀ i x σ' H', xs[i]? = some x → Pv i σ' H' → g x σ' H' fun σ2 H2 => tb { D with nx := Pv (i + 1), ct := Pv (i + 1), bk := D.nx } σ2 H2) (hd : ∀ σ' H', Pv xs.length σ' H' → D.nx σ' H') : tFor (iSeq K (tVar j)) g tb D σ H := by
  rcases h0 with h0 | h0
  · exact .inl ⟨_, hj, a, rfl, ⟨_, h0⟩, for_list (K := K) (a := a) (xs := xs) Pv p0 (fun i σ' H' _ h => (hS i σ' H' h).seq h0) hs hd⟩
  · exact .inr ⟨_, hj, a, rfl, ⟨_, h0⟩, for_tup (K := K) (a := a) (xs := xs) Pv p0 (fun i σ' H' _ h => same_t (hS i σ' H' h) h0) hs hd⟩

/-! a patch -/
def cP (K : PySem.W.Frag) : Addr := He.ga K "Patch"
/-- at v a patch with these corners -/
def PatAt (K : PySem.W.Frag) (H : Hp) (v : V) (cs : List Pl) : Prop := ∃ a dx t, v = .ref a ∧ H a = some (.ins (cP K) dx [("corners", t)]) ∧ Dp K H t (.tuple (cs.map pD))
theorem PatAt.same {K : PySem.W.Frag} {H H' : Hp} {v : V} {cs : List Pl} (h : PatAt K H v cs) (s : Same H H') : PatAt K H' v cs := by
  obtain ⟨a, dx, t, rfl, e, ht⟩ := h
  exact ⟨a, dx, t, rfl, s _ _ e, Dp_same s ht⟩
def rowsD : PyData → Option (List PyData)
  | .tuple xs => some xs
  | .list xs => some xs
  | _ => none
/-- the things ds are these places, as tuples or lists -/
def PlD (ds : List PyData) (ps : List Pl) : Prop := ds.length = ps.length ∧ ∀ (i : Nat) (x : PyData) (q : Pl), ds[i]? = some x → ps[i]? = some q → x = pD q ∨ x = plD q
/-- what Patch(d) comes to: an error with a word, or the corners ps -/
def PatW (K : PySem.W.Frag) (d : PyData) (H : Hp) (E : XK) (Go : List Pl → Prop) : Prop :=
  ((rowsD d = none ∨ rowsD d = some []) ∧ xE K "BadPatch" "many" E H) ∨
  ∃ ds, rowsD d = some ds ∧ ds ≠ [] ∧ ds.length ≤ 60 ∧ (((∃ b ∈ ds, isPla b = false) ∧ xE K "BadPatch" "corner" E H) ∨
    ∃ ps : List Pl, PlD ds ps ∧ (∀ q ∈ ps, GoodP 400 q) ∧ ∀ os, Srt ps os → (hullP os ≠ ps → xE K "BadPatch" "turn" E H) ∧ (hullP os = ps → Go ps))
theorem PatW.same {K : PySem.W.Frag} {d : PyData} {H H' : Hp} {E : XK} {Go : List Pl → Prop} (h : PatW K d H E Go) (s : Same H H') : PatW K d H' E Go := by
  rcases h with ⟨a, x⟩ | ⟨ds, e, n, l, ⟨b, x⟩ | ⟨ps, h1, h2, h3⟩⟩
  · exact .inl ⟨a, x.same s⟩
  · exact .inr ⟨ds, e, n, l, .inl ⟨b, x.same s⟩⟩
  · exact .inr ⟨ds, e, n, l, .inr ⟨ps, h1, h2, fun os ho => ⟨fun z => ((h3 os ho).1 z).same s, (h3 os ho).2⟩⟩⟩
theorem PatW.imp {K : PySem.W.Frag} {d : PyData} {H : Hp} {E : XK} {Go Go' : List Pl → Prop} (h : PatW K d H E Go) (g : ∀ ps, Go ps → Go' ps) : PatW K d H E Go' := by
  rcases h with ⟨a, x⟩ | ⟨ds, e, n, l, ⟨b, x⟩ | ⟨ps, h1, h2, h3⟩⟩
  · exact .inl ⟨a, x⟩
  · exact .inr ⟨ds, e, n, l, .inl ⟨b, x⟩⟩
  · exact .inr ⟨ds, e, n, l, .inr ⟨ps, h1, h2, fun os ho => ⟨(h3 os ho).1, fun z => g _ ((h3 os ho).2 z)⟩⟩⟩
theorem isPla_p {q : Pl} (h : RatP q) : isPla (pD q) = true ∧ isPla (plD q) = true := by
  have a1 := h.1
  have a2 := h.2
  have e : ∀ r : Rt, IsRat r → isRat (rD r) = true := fun r hr => by
    obtain ⟨h1, h2⟩ := hr
    show (decide ((1 : Int) ≤ r.2) && decide (g2 r.1 r.2 = 1)) = true
    rw [decide_eq_true (by omega), decide_eq_true (show g2 r.1 r.2 = 1 by unfold g2; omega)]; rfl
  constructor
  · show (isRat (rD q.1) && isRat (rD q.2)) = true
    rw [e _ a1, e _ a2]; rfl
  · show (isRat (rD q.1) && isRat (rD q.2)) = true
    rw [e _ a1, e _ a2]; rfl
theorem eqv_rt (a b : Rt) : PyData.eqv (rD a) (rD b) = decide (a = b) := by
  obtain ⟨a1, a2⟩ := a; obtain ⟨b1, b2⟩ := b
  simp [rD, PyData.eqv, PyData.eqvAll]
  rw [Bool.eq_iff_iff]; simp
theorem eqv_pl (a b : Pl) : PyData.eqv (pD a) (pD b) = decide (a = b) := by
  obtain ⟨a1, a2⟩ := a; obtain ⟨b1, b2⟩ := b
  simp [pD, PyData.eqv, PyData.eqvAll, eqv_rt]
theorem eqvs_p : ∀ (as bs : List Pl), PyData.eqvAll (as.map pD) (bs.map pD) = decide (as = bs)
  | [], [] => by simp [PyData.eqvAll]
  | [], _ :: _ => by simp [PyData.eqvAll]
  | _ :: _, [] => by simp [PyData.eqvAll]
  | a :: as, b :: bs => by
    rw [List.map_cons, List.map_cons, PyData.eqvAll, eqv_pl, eqvs_p as bs]
    simp
theorem eqv_ps (as bs : List Pl) : PyData.eqv (.tuple (as.map pD)) (.tuple (bs.map pD)) = decide (as = bs) := by
  rw [PyData.eqv, eqvs_p]
theorem lay_ps : ∀ os : List Pl, PyData.canLayAll0 (os.map pD) = true ∧ PyData.depthAll (os.map pD) ≤ 2
  | [] => ⟨rfl, by simp [PyData.depthAll]⟩
  | o :: os => by
    obtain ⟨a, b⟩ := lay_ps os
    constructor
    · rw [List.map_cons, PyData.canLayAll0, a]
      simp [pD, rD, PyData.canLay0, PyData.canLayAll0]
    · rw [List.map_cons, PyData.depthAll]
      simp [pD, rD, PyData.depth, PyData.depthAll] at b ⊢
      omega
theorem shaped_ps (as : List Pl) : SeqAt.shaped (.tuple (as.map pD)) = true := by
  obtain ⟨a, b⟩ := lay_ps as
  unfold SeqAt.shaped
  rw [PyData.canLay0, a, PyData.depth]
  simp; omega
theorem pls_t {K : PySem.W.Frag} {H : Hp} {v : V} {ps : List Pl} (h : Dp K H v (.tuple (ps.map pD))) : ∃ p xs, v = .ref p ∧ SqT K H p xs ∧ Pls K H p xs ps := by
  cases h with
  | tup h g =>
    refine ⟨_, _, rfl, h, .inr h, by rw [DpAll_len g, List.length_map], fun i x q ex eq => ?_⟩
    obtain ⟨d, ed, hd⟩ := DpAll_at g ex
    rw [List.getElem?_map, eq] at ed
    cases ed
    exact pla_t hd
theorem PlD.pls {K : PySem.W.Frag} {H : Hp} {p : Addr} {xs : List V} {ds : List PyData} {ps : List Pl} (h : PlD ds ps) (hs : SqL K H p xs ∨ SqT K H p xs) (hd : DpAll K H xs ds) : Pls K H p xs ps := by
  refine ⟨hs, by rw [DpAll_len hd, h.1], fun i x q ex eq => ?_⟩
  obtain ⟨d, ed, hdx⟩ := DpAll_at hd ex
  rcases h.2 i d q ed eq with rfl | rfl
  · exact pla_t hdx
  · exact pla_l hdx
theorem rows_dp {K : PySem.W.Frag} {H : Hp} {v : V} {d : PyData} {ds : List PyData} (hv : Dp K H v d) (e : rowsD d = some ds) : isRo d = true ∧ ∃ p xs, v = .ref p ∧ (SqL K H p xs ∨ SqT K H p xs) ∧ DpAll K H xs ds := by
  cases hv with
  | non => cases e
  | bl b => cases e
  | int i => cases e
  | str s => cases e
  | lst h g => cases e; exact ⟨rfl, _, _, rfl, .inl h, g⟩
  | tup h g => cases e; exact ⟨rfl, _, _, rfl, .inr h, g⟩
theorem rows_no {d : PyData} (e : rowsD d = none) : isRo d = false := by cases d <;> first | rfl | cases e
theorem noL_ps (ps : List Pl) : noL (.tuple (ps.map pD)) = true := by
  rw [noL]; exact noLs_p ps
mutual
/-- data that stays where an instance changes -/
theorem Dp_keep {K : PySem.W.Frag} {H H' : Hp} {p C dx : Addr} {fs : List (Str × V)} (s : ∀ b o, b ≠ p → H b = some o → H' b = some o) (hp : H p = some (.ins C dx fs)) : ∀ {v : V} {d : PyData}, noL d = true → Dp K H v d → Dp K H' v d
  | _, _, _, .non => .non
  | _, _, _, .bl b => .bl b
  | _, _, _, .int i => .int i
  | _, _, _, .str x => .str x
  | _, _, n, .lst _ _ => by simp [noL] at n
  | _, _, n, .tup (a := a) h g => by
    have n2 := n
    simp only [noL] at n2
    refine .tup ?_ (Dp_keeps s hp n2 g)
    rcases h with (h | ⟨o, h⟩) | h
    · exact .inl (.inl (s _ _ (fun e => by rw [e, hp] at h; cases h) h))
    · exact .inl (.inr ⟨o, s _ _ (fun e => by rw [e, hp] at h; cases h) h⟩)
    · exact .inr h
theorem Dp_keeps {K : PySem.W.Frag} {H H' : Hp} {p C dx : Addr} {fs : List (Str × V)} (s : ∀ b o, b ≠ p → H b = some o → H' b = some o) (hp : H p = some (.ins C dx fs)) : ∀ {vs : List V} {ds : List PyData}, noLs ds = true → DpAll K H vs ds → DpAll K H' vs ds
  | _, _, _, .nil => .nil
  | _, _, n, .cons h g => by
    have n2 := n
    simp only [noLs, Bool.and_eq_true] at n2
    exact .cons (Dp_keep s hp n2.1 h) (Dp_keeps s hp n2.2 g)
end
def spPInit (K : PySem.W.Frag) : Sp := fun vs H Q E => ∃ (x dx : Addr) (v : V) (d : PyData), vs = [.ref x, v] ∧ H x = some (.ins (cP K) dx []) ∧ Dp K H v d ∧
  PatW K d H E fun ps => ∀ H' t, (∀ b o, b ≠ x → H b = some o → H' b = some o) → H' x = some (.ins (cP K) dx [("corners", t)]) → Dp K H' t (.tuple (ps.map pD)) → Q .non H'
section
variable {P : Program} {w : World} {K : PySem.W.Frag} {mg : Str → Option Value} {base : Heap}
abbrev sPinit : Stmt := inClass (topS 52) 0
theorem scPinit : FnScope ["self", "corners", "corner", "rows", "x", "y"] ["self", "corners"] (defScope sPinit) := ⟨rfl, rfl, rfl, by decide +kernel, rfl, by decide +kernel, by decide +kernel⟩
theorem in_Pinit {f : Addr} {fd : FuncData} (F : Fun K "__init__" "Patch.__init__" sPinit f fd) (cBP : CT P w K mg base "BadPatch" ["what"]) (tC : Cls K (cP K)) (nC : NoAttr K (cP K) "corners") (Gis_row : DefOk P w K mg base CX0 "is_row" 1 ["thing"] (spRow K isRo)) (Gis_place : DefOk P w K mg base CX0 "is_place" 3 ["thing"] (spRow K isPla)) (Ghull_corners : DefOk P w K mg base CX0 "hull_corners" 6 ["places"] (spHullC K)) (mlen : mg "len" = none) (mtuple : mg "tuple" = none) : FnOk P w K mg base (L2.CX P w) 7 f fd ["self", "corners"] (spPInit K) := by
  refine F.okX scPinit (fun vs H Q E h => ?_) (fun cdv A outer s H vs Q E hr h => ?_)
  · obtain ⟨x, dx, v, d, rfl, _⟩ := h; rfl
  · obtain ⟨x, dx, v, d, rfl, hx, hv, hW⟩ := h
    refine ⟨_, (pss_cons (ps_if (PW.pt (pw_or (pt_not (pt_val (pe_def Gis_row (hr.mono (by decide)) (by rfl) (pa_cons (pv 1) pa_nil)))) (pw_or1 (pt_cmpR op_eq (pe_callB call_len_seq (by rfl) mlen PySem.boot_len (pa_cons (pv 1) pa_nil)) pe_int (nomark _))))) (pss_one (ps_raise rfl (takes_of rfl rfl rfl rfl) (pmk_exW cBP (hr.mono (by decide)) (by rfl) (pa_cons pe_str pa_nil)))) pss_nil) (pss_cons (ps_for (passes_of rfl) rfl (pi_seq (pv 1)) (pg_name (i := 2) scPinit.nd rfl (.inl rfl)) (pss_one (ps_if (pt_not (pt_val (pe_def Gis_place (hr.mono (by decide)) (by rfl) (pa_cons (pv 2) pa_nil)))) (pss_one (ps_raise rfl (takes_of rfl rfl rfl rfl) (pmk_exW cBP (hr.mono (by decide)) (by rfl) (pa_cons pe_str pa_nil)))) pss_nil))) (pss_cons (ps_set (i := 3) scPinit.nd rfl (.inl rfl) (pe_callTy call_tuple_of (by rfl) mtuple (by decide +kernel) (pa_cons (pe_lc (own := [("x", 4), ("y", 5)]) rfl scPinit.nd (pi_seq (pv 1)) (blkOk_by (N := ["self", "corners", "corner", "rows", "x", "y"]) (sc := defScope sPinit) (by decide +kernel)) (fun _ _ _ _ _ => (pg_couK K rfl (pgs_cons (pg_name (i := 4) scPinit.nd rfl (.inl rfl)) (pgs_cons (pg_name (i := 5) scPinit.nd rfl (.inl rfl)) pgs_nil)))) (fun _ _ _ _ _ => pts_nil) (fun _ _ _ _ _ => (pe_tup (pa_cons (pv 4) (pa_cons (pv 5) pa_nil))))) pa_nil))) (pss_cons (ps_if (pt_cmpR (op_neD hr.units) (pe_def Ghull_corners (hr.mono (by decide)) (by rfl) (pa_cons (pv 3) pa_nil)) (pv 3) (nomark _)) (pss_one (ps_raise rfl (takes_of rfl rfl rfl rfl) (pmk_exW cBP (hr.mono (by decide)) (by rfl) (pa_cons pe_str pa_nil)))) pss_nil) (pss_one (ps_fld (pv 0) (pv 3) rfl)))))), ?_⟩
    refine ⟨v, rfl, v, d, rfl, hv, fun H1 s1 => ⟨_, rfl, ?_⟩⟩
    have hv1 := Dp_same s1 hv
    have hW1 := hW.same s1
    rcases hW1 with ⟨ed, ex⟩ | ⟨ds, ed, ne, l6, hW1⟩
    · cases eR : isRo d with
      | false => exact itT rfl (itT rfl (raise_ok ex))
      | true =>
        have e0 : rowsD d = some [] := by
          rcases ed with e | e
          · rw [rows_no e] at eR; cases eR
          · exact e
        obtain ⟨_, p, xs, rfl, hs, hd⟩ := rows_dp hv1 e0
        cases hd
        exact itF rfl ⟨.ref p, rfl, p, [], rfl, hs, rfl, _, rfl, itT rfl (raise_ok ex)⟩
    obtain ⟨eR, p, xs, rfl, hs, hd⟩ := rows_dp hv1 ed
    rw [eR]
    have xl := DpAll_len hd
    have dl : ds.length ≠ 0 := fun z => ne (List.length_eq_zero_iff.mp z)
    refine itF rfl ⟨.ref p, rfl, p, xs, rfl, hs, rfl, _, rfl, itF (decide_eq_false fun z => dl (by have := V.int.inj z; omega)) ?_⟩
    have hx1 := s1 _ _ hx
    show tFor (iSeq K (tVar 1)) _ _ _ [some (.ref x), some (.ref p), none, none, none, none] H1
    refine for_seq (j := 1) hs rfl (fun i σ H' => ∃ y : Option V, σ = [some (.ref x), some (.ref p), y, none, none, none] ∧ Same H1 H' ∧ ∀ j b, j < i → ds[j]? = some b → isPla b = true) ⟨none, rfl, fun _ _ z => z, fun j b z => absurd z (Nat.not_lt_zero _)⟩ (fun i σ H' ⟨_, _, z, _⟩ => z) ?_ ?_
    · rintro i y σ H' hy ⟨y0, rfl, s2, hb⟩
      obtain ⟨b, eb, hbv⟩ := DpAll_at hd hy
      refine ⟨y, rfl, y, b, rfl, Dp_same s2 hbv, fun H2 s3 => ⟨_, rfl, ?_⟩⟩
      cases eP : isPla b with
      | true =>
        refine itF rfl ⟨some y, rfl, s2.trans s3, fun j c jl ec => ?_⟩
        rcases Nat.lt_succ_iff_lt_or_eq.mp jl with z | rfl
        · exact hb j c z ec
        · rw [eb] at ec; cases ec; exact eP
      | false =>
        refine itT rfl (raise_ok ?_)
        rcases hW1 with ⟨_, ex⟩ | ⟨ps, hp, hg, _⟩
        · exact (ex.same s2).same s3
        · obtain ⟨q, eq⟩ : ∃ q, ps[i]? = some q := ⟨_, List.getElem?_eq_getElem (by rw [← hp.1]; exact (List.getElem?_eq_some_iff.mp eb).1)⟩
          have rq := (hg q (List.mem_of_getElem? eq)).1
          rcases hp.2 i b q eb eq with rfl | rfl
          · rw [(isPla_p rq).1] at eP; cases eP
          · rw [(isPla_p rq).2] at eP; cases eP
    rintro σ H2 ⟨y0, rfl, s2, hb⟩
    rcases hW1 with ⟨⟨b, bm, eb⟩, _⟩ | ⟨ps, hp, hg, hT⟩
    · obtain ⟨j, jl, ej⟩ := List.mem_iff_getElem.mp bm
      have := hb j b (by omega) (by rw [List.getElem?_eq_getElem jl, ej])
      rw [eb] at this; cases this
    have hP := (hp.pls hs hd).same s2
    have pl := hP.l
    have yz : xs.length < sizeLine := small1000 (by have := hp.1; omega)
    dsimp only [tSeq, tAsg, gName, tCB, tCons, tNil]
    refine lc_map (K := K) (a := p) (xs := xs) (j := 1) (fun i => pD (ps.getD i zP)) (fun i => noL_pp _) (by rfl) hP.s yz (fun i z G R ex sx hR => ?_) fun D F ks sF nF eF hF => ?_
    · obtain ⟨q, eq⟩ : ∃ q, ps[i]? = some q := ⟨_, List.getElem?_eq_getElem (by rw [pl]; exact (List.getElem?_eq_some_iff.mp ex).1)⟩
      have e : ps.getD i zP = q := by rw [List.getD_eq_getElem?_getD, eq]; rfl
      (try dsimp only at hR)
      rw [e] at hR
      obtain ⟨vx, vy, c, h1, h2⟩ := (hP.d i z q ex eq).same sx
      exact ⟨_, _, c, _, _, rfl, _, _, rfl, rfl, rfl, vx, rfl, vy, rfl, (by show 2 ≤ sizeLine; decide), fun t nt => hR _ _ (PB.same_new nt) (dp_mk2 nt h1 h2)⟩
    have hF' : DpAll K F ks (ps.map pD) := by rw [← range_get ps zP, pl]; exact hF
    refine ⟨D, ks, rfl, .inl ⟨.inl (.inl eF), fun t nt => ?_⟩⟩
    have sT := PB.same_new (o := .tup ks) nt
    have hT1 : Dp K (upd F t (.tup ks)) (.ref t) (.tuple (ps.map pD)) := .tup (.inl (.inl upd_same)) (DpAll_same sT hF')
    generalize upd F t (.tup ks) = G at sT hT1
    obtain ⟨t', ks', te, _, hPk⟩ := pls_t hT1
    cases te
    refine ⟨.ref t, rfl, t, ks', ps, rfl, hPk, by rw [← hp.1]; exact l6, hg, fun H3 z os s3 o1 o2 _ hz => ?_⟩
    have s13 := (((s1.trans s2).trans sF).trans sT).trans s3
    refine ⟨_, rfl, _, _, hz, Dp_same s3 hT1, shaped_ps _, shaped_ps _, _, rfl, ?_⟩
    rw [eqv_ps]
    obtain ⟨t1, t2⟩ := hT os ⟨o1, o2⟩
    by_cases c : hullP os = ps
    · refine itF (by rw [decide_eq_true c]; rfl) ?_
      refine ⟨_, rfl, _, rfl, x, cP K, dx, [], rfl, s13 _ _ hx, tC, nC, (by decide), ?_⟩
      have hk : ∀ b o, b ≠ x → H3 b = some o → (upd H3 x (.ins (cP K) dx [("corners", .ref t)])) b = some o := fun b o n e => by rw [upd_ne n]; exact e
      refine t2 c _ (.ref t) (fun b o n e => hk b o n (s13 _ _ e)) upd_same ?_
      exact Dp_keep hk (s13 _ _ hx) (noL_ps ps) (Dp_same s3 hT1)
    · exact itT (by rw [decide_eq_false c]; rfl) (raise_ok (((((t1 c).same s2).same sF).same sT).same s3))
end
end F3
set_option Elab.async false
set_option linter.all false
set_option maxRecDepth 100000
set_option maxHeartbeats 4000000
set_option exponentiation.threshold 3000
namespace F3
open PySem PySem.Spec PyProof.Rows L2 FX RM PB KD KS
/-- the class Patch: its facts and its constructor -/
structure PCt (P : Program) (w : World) (K : PySem.W.Frag) (mg : Str → Option Value) (base : Heap) : Prop where
  mkk : Mk K (cP K) (He.ma K (cP K) "__init__")
  g : mg "Patch" = some (.ref (cP K))
  cls : Cls K (cP K)
  no : NoAttr K (cP K) "corners"
  con : ∃ fd, FnOk P w K mg base (L2.CX P w) 7 (He.ma K (cP K) "__init__") fd ["self", "corners"] (spPInit K) ∧ L2.Binds K fd ["self", "corners"] []
theorem CX.imp {P : Program} {w : World} {outer : List Env} {H : Hp} {s s' : Shared} {E E' : XK} {u : Value} (h : L2.CX P w outer H s E u s') (i : ∀ cls d H', E cls d H' → E' cls d H') : L2.CX P w outer H s E' u s' := by
  obtain ⟨a, B, H', cls, d, h1, h2, h3, h4, h5, h6, h7, h8⟩ := h
  exact ⟨a, B, H', cls, d, h1, h2, h3, h4, h5, h6, h7, i _ _ _ h8⟩
section
variable {X : Cx} {e : Expr} {es : List Expr} {t : TA} {p pos : Pos}
theorem pe_patE {E : XK} (c : PCt X.prog X.w X.K X.mg X.base) (hr : Room 8 X.A) (hg : Gl X "Patch") (ha : PA X (e :: es) t) (hx : Passes (L2.CX X.prog X.w) X E)
    (he : starEach (e :: es) X.env = (false, eval e X.env) :: starEach es X.env := by rfl) (hpl : (backTo pos (starEach es X.env)).any (·.1) = false := by rfl) :
    PE X (.Call (.Name "Patch" p) (e :: es) [] pos) (tMake (cP X.K) (spPInit X.K) [] E t) := by
  obtain ⟨fd, F, b⟩ := c.con
  exact pe_make c.mkk F hr hg c.g b .nil hx ha (by decide) he hpl
/-- in a def that raises -/
theorem pe_patX {E : XK} (c : PCt X.prog X.w X.K X.mg X.base) (hr : Room 8 X.A) (hg : Gl X "Patch") (ha : PA X (e :: es) t) (tk : Takes X (fun cls d _ H => E cls d H))
    (he : starEach (e :: es) X.env = (false, eval e X.env) :: starEach es X.env := by rfl) (hpl : (backTo pos (starEach es X.env)).any (·.1) = false := by rfl) :
    PE X (.Call (.Name "Patch" p) (e :: es) [] pos) (tMake (cP X.K) (spPInit X.K) [] E t) := pe_patE c hr hg ha (passes_call tk fun _ _ _ _ h => h) he hpl
/-- where it cannot fail -/
theorem pe_pat0 (c : PCt X.prog X.w X.K X.mg X.base) (hr : Room 8 X.A) (hg : Gl X "Patch") (ha : PA X (e :: es) t)
    (he : starEach (e :: es) X.env = (false, eval e X.env) :: starEach es X.env := by rfl) (hpl : (backTo pos (starEach es X.env)).any (·.1) = false := by rfl) :
    PE X (.Call (.Name "Patch" p) (e :: es) [] pos) (tMake (cP X.K) (spPInit X.K) [] E0 t) := pe_patE c hr hg ha passL he hpl
/-- within a comprehension -/
theorem pe_pat0K (K : PySem.W.Frag) (c : PCt X.prog X.w K X.mg X.base) (hr : Room 8 X.A) (hg : Gl X "Patch") (ha : PA X (e :: es) t) (eK : X.K = K := by rfl)
    (he : starEach (e :: es) X.env = (false, eval e X.env) :: starEach es X.env := by rfl) (hpl : (backTo pos (starEach es X.env)).any (·.1) = false := by rfl) :
    PE X (.Call (.Name "Patch" p) (e :: es) [] pos) (tMake (cP K) (spPInit K) [] E0 t) := by
  subst eK
  exact pe_patE c hr hg ha passL he hpl
/-- within a try -/
theorem pe_patW {W : WX} (c : PCt X.prog X.w X.K X.mg X.base) (hr : Room 8 X.A) (hg : Gl X "Patch") (ha : PA X (e :: es) t) (tk : Takes X W)
    (he : starEach (e :: es) X.env = (false, eval e X.env) :: starEach es X.env := by rfl) (hpl : (backTo pos (starEach es X.env)).any (·.1) = false := by rfl) :
    PE X (.Call (.Name "Patch" p) (e :: es) [] pos) (tMake (cP X.K) (spPInit X.K) [] (fun cls d H => ∀ σ : L2.St, σ.length = X.N.length → W cls d σ H) t) :=
  pe_patE c hr hg ha (fun pins σ H s e s' I h => passAt tk σ pins H s e s' I (CX.imp h fun _ _ _ z => z σ I.len)) he hpl
end
/-- the reading of Patch(d) -/
theorem mk_pat {K : PySem.W.Frag} {H : Hp} {v : V} {d : PyData} {Q : VK} {E : XK} (hv : Dp K H v d) (h : PatW K d H E fun ps => ∀ H' z, Same H H' → PatAt K H' z ps → Q z H') :
    ∀ x dx, H x = none → H dx = none → dx ≠ x → spPInit K (.ref x :: ([v] ++ [])) (upd (upd H dx (.own x)) x (.ins (cP K) dx [])) (fun u H2 => u = .non ∧ Q (.ref x) H2) E := by
  intro x dx nx nd ne
  have n2 : (upd H dx (.own x)) x = none := by rw [upd_ne (Ne.symm ne)]; exact nx
  have s1 := PB.same_new (o := .own x) nd
  have s2 := PB.same_new (o := .ins (cP K) dx []) n2
  have s := s1.trans s2
  refine ⟨x, dx, v, d, rfl, upd_same, Dp_same s hv, (h.same s).imp fun ps g H' t hk hx ht => ⟨rfl, g H' _ (fun b o e => hk b o (ne_of_none e nx) (s b o e)) ⟨x, dx, t, rfl, hx, ht⟩⟩⟩
theorem lc_mapR {K : PySem.W.Frag} {a : Addr} {xs : List V} {tl : TE} {g : TG} {te : TE} {vs : List Nat} {σ : L2.St} {H : Hp} {Q : VK} (Rr : Nat → Hp → V → Prop) (hbut : ∀ i H H' p ys v, H p = some (.lst ys) → (∀ b o, b ≠ p → H b = some o → H' b = some o) → Rr i H v → Rr i H' v)
    (hsame : ∀ i H H' v, Same H H' → Rr i H v → Rr i H' v) (hj : ∀ R : VK, R (.ref a) H → tl σ H R) (h0 : SqL K H a xs ∨ SqT K H a xs) (hz : xs.length < sizeLine)
    (hs : ∀ i x H' (R : V → Hp → Prop), xs[i]? = some x → Same H H' → (∀ y H4, Same H' H4 → Rr i H4 y → R y H4) → g x (wipe σ vs) H' fun σ2 H2 => wipe σ2 vs = wipe σ vs ∧ te σ2 H2 R)
    (hd : ∀ D H' ys, Same H H' → H D = none → H' D = some (.lst ys) → ys.length = xs.length → (∀ i y, ys[i]? = some y → Rr i H' y) → Q (.ref D) H') : tLc (iSeq K tl) g tYes te vs σ H Q := by
  have main : ∀ D, H D = none → ∃ Pv : Nat → Hp → Prop, Pv 0 (upd H D (.lst [])) ∧ (∀ i H', Pv i H' → Same H H') ∧ (∀ i x H', xs[i]? = some x → Pv i H' → g x (wipe σ vs) H' fun σ2 H2 => wipe σ2 vs = wipe σ vs ∧ tYes σ2 H2 fun b H3 =>
      if b = true then te σ2 H3 fun y H4 => ∃ acc, H4 D = some (.lst acc) ∧ acc.length < sizeLine ∧ Pv (i + 1) (upd H4 D (.lst (acc ++ [y]))) else Pv (i + 1) H3) ∧ (∀ H', Pv xs.length H' → Q (.ref D) H') := by
    intro D nD
    refine ⟨fun i H' => Same H H' ∧ ∃ ys, H' D = some (.lst ys) ∧ ys.length = i ∧ ∀ k y, ys[k]? = some y → Rr k H' y, ⟨PB.same_new nD, [], upd_same, rfl, fun k y e => by cases e⟩, fun i H' h => h.1, ?_, ?_⟩
    · rintro i x H' hi ⟨s1, ys, hD, yl, hy⟩
      have il := (List.getElem?_eq_some_iff.mp hi).1
      refine hs i x H' _ hi s1 fun y H4 s4 h4 => ⟨ys, s4 _ _ hD, by omega, ?_, ys ++ [y], upd_same, by rw [List.length_append, yl]; rfl, ?_⟩
      · intro b o e
        rw [upd_ne (ne_of_none e nD)]; exact s4 _ _ (s1 _ _ e)
      · have sb : ∀ b o, b ≠ D → H4 b = some o → (upd H4 D (.lst (ys ++ [y]))) b = some o := fun b o n e => by rw [upd_ne n]; exact e
        intro k z ez
        refine hbut k H4 _ D ys z (s4 _ _ hD) sb ?_
        rcases Nat.lt_or_ge k ys.length with c | c
        · rw [List.getElem?_append_left c] at ez
          exact hsame k _ _ z s4 (hy k z ez)
        · rw [List.getElem?_append_right c] at ez
          have k0 : k - ys.length = 0 := by
            have := (List.getElem?_eq_some_iff.mp ez).1
            simp at this; omega
          rw [k0] at ez
          cases ez
          have : k = i := by omega
          rw [this]; exact h4
    · rintro H' ⟨s1, ys, hD, yl, hy⟩
      exact hd D H' ys s1 nD hD yl hy
  rcases h0 with h0 | h0
  · refine .inl (hj _ ⟨a, rfl, ⟨_, h0⟩, fun D nD => ?_⟩)
    obtain ⟨Pv, p0, p1, p2, p3⟩ := main D nD
    exact lc_list (K := K) (a := a) (xs := xs) Pv p0 (fun i H' _ h => (p1 i H' h).seq h0) p2 p3
  · refine .inr (hj _ ⟨a, rfl, ⟨_, h0⟩, fun D nD => ?_⟩)
    obtain ⟨Pv, p0, p1, p2, p3⟩ := main D nD
    exact lc_tup (K := K) (a := a) (xs := xs) Pv p0 (fun i H' _ h => same_t (p1 i H' h) h0) p2 p3
theorem PatAt.but {K : PySem.W.Frag} {H H' : Hp} {v : V} {cs : List Pl} {p : Addr} {ys : List V} (hp : H p = some (.lst ys)) (s : ∀ b o, b ≠ p → H b = some o → H' b = some o) (h : PatAt K H v cs) : PatAt K H' v cs := by
  obtain ⟨a, dx, t, rfl, e, ht⟩ := h
  exact ⟨a, dx, t, rfl, s _ _ (fun z => by rw [z, hp] at e; cases e) e, Dp_but hp s (noL_ps cs) ht⟩
theorem hull_len (os : List Pl) : (hullP os).length ≤ 2 * os.length := by
  unfold hullP
  split
  · omega
  · have a := st_len os []
    have b := st_len os.reverse []
    rw [List.length_append, List.length_dropLast, List.length_dropLast]
    unfold chP stP
    rw [List.length_reverse, List.length_reverse]
    simp at a b ⊢
    omega
/-- isinstance of a dict with places as keys -/
def rIsND (P : Program) (w : World) (K : PySem.W.Frag) : List V → Hp → VK → Prop := fun xs H Q => ∃ (D : Addr) (kvs : List KN.Ent) (tp : Addr) (cs : List V) (us : List Value) (b : Bool), xs = [.ref D, .ref tp] ∧ H D = some (KN.ND P w D kvs) ∧ H tp = some (.tup cs) ∧ Paired ClsV cs us ∧ PySem.W.kitAny K (.type "dict") us = some b ∧ Q (.bl b) H
theorem cr_isND {X : Cx} : CallR X (.builtin "isinstance") (rIsND X.prog X.w X.K) := by
  intro pins s σ H xs us Q I r h
  obtain ⟨D, kvs, tp, cs, cv, b, rfl, hD, hT, hc, hk, q⟩ := h
  obtain ⟨u1, u2, rfl, r1, r2⟩ := vals2 r
  cases (show u1 = Value.ref D from r1)
  cases (show u2 = Value.ref tp from r2)
  have h1 := I.hok D _ hD
  unfold KN.ND ObjOk at h1
  obtain ⟨⟨_, _, _, o, es, ep, g1, g2, g3, _⟩, _⟩ := h1
  have h2 := I.hok tp _ hT
  unfold ObjOk at h2
  obtain ⟨_, its, hv, o2, g4, g5, n, g6⟩ := h2
  have e := ClsV.all hc hv
  subst e
  obtain ⟨oc, od, odata, osl⟩ := o2
  dsimp only at g5 g6
  subst g5 g6
  exact PySem.W.kia_tup PySem.W.kitx_dict I.kIn ⟨o, g1, g2.1⟩ g4 hk (fun z => nomatch z) fun tk => ⟨.bl b, H, I.tok tk, rfl, q⟩
theorem cr_isiV {X : Cx} : CallR X (.builtin "isinstance") (fun xs H Q => rIsiT X.K xs H Q ∨ rIsND X.prog X.w X.K xs H Q) := fun pins s σ H xs us Q I r h =>
  h.elim (fun z => call_isiT pins s σ H xs us Q I r z) fun z => cr_isND pins s σ H xs us Q I r z
/-- a thing that is no sequence -/
def NoRow (P : Program) (w : World) (K : PySem.W.Frag) (H : Hp) (v : V) : Prop := (∃ t, (∀ H', Same H H' → TyX K H' v t) ∧ PySem.W.kitAny K t [.type "list", .type "tuple"] = some false) ∨ ∃ (D : Addr) (kvs : List KN.Ent), v = .ref D ∧ H D = some (KN.ND P w D kvs)
def spRowV (P : Program) (w : World) (K : PySem.W.Frag) : Sp := fun vs H Q _ => ∃ v, vs = [v] ∧ ((NoRow P w K H v ∧ ∀ H', Same H H' → Q (.bl false) H') ∨ (∃ p xs, v = .ref p ∧ (SqL K H p xs ∨ SqT K H p xs) ∧ ∀ H', Same H H' → Q (.bl true) H'))
def spHullOf (P : Program) (w : World) (K : PySem.W.Frag) : Sp := fun vs H Q E => ∃ v, vs = [v] ∧ ((NoRow P w K H v ∧ xE K "BadPatch" "many" E H) ∨ (∃ p, v = .ref p ∧ (SqL K H p [] ∨ SqT K H p []) ∧ xE K "BadPatch" "many" E H) ∨
  ∃ p xs ps, v = .ref p ∧ Pls K H p xs ps ∧ ps ≠ [] ∧ ps.length ≤ 30 ∧ (∀ q ∈ ps, GoodP 400 q) ∧ ∀ H' z os, Same H H' → Srt ps os → PatAt K H' z (hullP os) → Q z H')
theorem pls_td {K : PySem.W.Frag} {H : Hp} {v : V} {ps : List Pl} (h : Dp K H v (.tuple (ps.map pD))) : ∃ p xs, v = .ref p ∧ SqT K H p xs ∧ Pls K H p xs ps ∧ ∀ (i : Nat) (x : V) (c : Pl), xs[i]? = some x → ps[i]? = some c → Dp K H x (pD c) := by
  have D : ∀ {xs : List V}, DpAll K H xs (ps.map pD) → ∀ (i : Nat) (x : V) (c : Pl), xs[i]? = some x → ps[i]? = some c → Dp K H x (pD c) := fun {xs} g i x c ex eq => by
    obtain ⟨d, ed, hd⟩ := DpAll_at g ex
    rw [List.getElem?_map, eq] at ed
    cases ed
    exact hd
  cases h with
  | tup h g => exact ⟨_, _, rfl, h, ⟨.inr h, by rw [DpAll_len g, List.length_map], fun i x q ex eq => pla_t (D g i x q ex eq)⟩, D g⟩
theorem hull_one {os : List Pl} {c : Pl} (h : Srt [c] os) (r : RatP c) : hullP os = [c] := by
  have hr : ∀ p ∈ [c], RatP p := fun p hp => by rw [List.mem_singleton.mp hp]; exact r
  have ne := hull_ne h hr (List.cons_ne_nil _ _)
  have nd := hull_nodup h hr
  have all : ∀ q ∈ hullP os, q = c := fun q hq => List.mem_singleton.mp ((h.m q).mp (hull_sub q hq))
  match hullP os, ne, nd, all with
  | [], ne, _, _ => exact absurd rfl ne
  | [a], _, _, all => rw [all a (List.mem_singleton.mpr rfl)]
  | a :: b :: l, _, nd, all =>
    have ea := all a (List.mem_cons_self ..)
    have eb := all b (List.mem_cons_of_mem _ (List.mem_cons_self ..))
    rw [List.nodup_cons] at nd
    exact absurd (by rw [ea, ← eb]; exact List.mem_cons_self ..) nd.1
def spCorn (K : PySem.W.Frag) : Sp := fun vs H Q _ => ∃ v cs, vs = [v] ∧ PatAt K H v cs ∧ cs.length ≤ 60 ∧ (∀ q ∈ cs, GoodP 400 q) ∧ ∀ (H' : Hp) (t : Addr) (ys : List V), Same H H' → H' t = some (.tup ys) → ys.length = cs.length → (∀ (i : Nat) (y : V) (c : Pl), ys[i]? = some y → cs[i]? = some c → PatAt K H' y [c]) → Q (.ref t) H'
section
variable {P : Program} {w : World} {K : PySem.W.Frag} {mg : Str → Option Value} {base : Heap}
theorem okVis_row (T : Txt K mg "is_row" sis_row) (misinstance : mg "isinstance" = none) (mtuple : mg "tuple" = none) (mlist : mg "list" = none) : DefOk P w K mg base CX0 "is_row" 1 ["thing"] (spRowV P w K) := by
  obtain ⟨f, fd, F, gf⟩ := T
  refine ⟨f, fd, gf, F.kp, F.binds (fun _ _ _ _ _ _ us hl => match us, hl with | [_], _ => rfl), F.ok scis_row (fun vs H Q E h => ?_) (fun cdv A outer s H vs Q E hr h => ?_)⟩
  · obtain ⟨v, rfl, _⟩ := h; rfl
  · obtain ⟨v, rfl, hv⟩ := h
    refine ⟨_, (pss_one (ps_ret (pe_callB cr_isiV (by rfl) misinstance boot_isinstance (pa_cons (pv 0) (pa_cons (pe_tup (pa_cons (pe_bltn (v := .ty "list") (by rfl) mlist (by decide +kernel) rfl) (pa_cons (pe_bltn (v := .ty "tuple") (by rfl) mtuple (by decide +kernel) rfl) pa_nil))) pa_nil))))), ?_⟩
    refine ⟨v, rfl, (by show 2 ≤ sizeLine; decide), fun p np => ?_⟩
    rcases hv with ⟨⟨t, hT, kt⟩ | ⟨D, kvs, rfl, eD⟩, q⟩ | ⟨a, xs, rfl, hS, q⟩
    · exact .inl ⟨v, p, _, _, _, _, rfl, upd_same, .cons (.ty _) (.cons (.ty _) .nil), hT _ (PB.same_new np), kt, q _ (PB.same_new np)⟩
    · exact .inr ⟨D, kvs, p, _, _, _, rfl, PB.same_new np _ _ eD, upd_same, .cons (.ty _) (.cons (.ty _) .nil), kit_row (.dict []), q _ (PB.same_new np)⟩
    · rcases hS with hS | hS
      · exact .inl ⟨_, p, _, _, _, _, rfl, upd_same, .cons (.ty _) (.cons (.ty _) .nil), tyx_l ((PB.same_new np).seq hS), kit_row (.list []), q _ (PB.same_new np)⟩
      · exact .inl ⟨_, p, _, _, _, _, rfl, upd_same, .cons (.ty _) (.cons (.ty _) .nil), tyx_t (same_t (PB.same_new np) hS), kit_row (.tuple []), q _ (PB.same_new np)⟩
abbrev shull_of : Stmt := topS 53
theorem schull_of : FnScope ["places"] ["places"] (defScope shull_of) := ⟨rfl, rfl, rfl, by decide +kernel, rfl, by decide +kernel, by decide +kernel⟩
theorem okhull_of (T : Txt K mg "hull_of" shull_of) (cBP : CT P w K mg base "BadPatch" ["what"]) (cP_ : PCt P w K mg base) (Gis_row : DefOk P w K mg base CX0 "is_row" 1 ["thing"] (spRowV P w K)) (Ghull_corners : DefOk P w K mg base CX0 "hull_corners" 6 ["places"] (spHullC K)) (mlen : mg "len" = none) : DefOk P w K mg base (L2.CX P w) "hull_of" 9 ["places"] (spHullOf P w K) := by
  obtain ⟨f, fd, F, gf⟩ := T
  refine ⟨f, fd, gf, F.kp, F.binds (fun _ _ _ _ _ _ us hl => match us, hl with | [_], _ => rfl), F.okX schull_of (fun vs H Q E h => ?_) (fun cdv A outer s H vs Q E hr h => ?_)⟩
  · obtain ⟨v, rfl, _⟩ := h; rfl
  · obtain ⟨v, rfl, h⟩ := h
    refine ⟨_, (pss_cons (ps_if (PW.pt (pw_or (pt_not (pt_val (pe_def Gis_row (hr.mono (by decide)) (by rfl) (pa_cons (pv 0) pa_nil)))) (pw_or1 (pt_cmpR op_eq (pe_callB call_len_seq (by rfl) mlen PySem.boot_len (pa_cons (pv 0) pa_nil)) pe_int (nomark _))))) (pss_one (ps_raise rfl (takes_of rfl rfl rfl rfl) (pmk_exW cBP (hr.mono (by decide)) (by rfl) (pa_cons pe_str pa_nil)))) pss_nil) (pss_one (ps_ret (pe_patX cP_ (hr.mono (by decide)) (by rfl) (pa_cons (pe_def Ghull_corners (hr.mono (by decide)) (by rfl) (pa_cons (pv 0) pa_nil)) pa_nil) (takes_of rfl rfl rfl rfl))))), ?_⟩
    rcases h with ⟨hn, ex⟩ | ⟨p, rfl, hs, ex⟩ | ⟨p, xs, ps, rfl, hP, ne, l3, hg, q⟩
    · exact ⟨v, rfl, v, rfl, .inl ⟨hn, fun H1 s1 => ⟨_, rfl, itT rfl (itT rfl (raise_ok (ex.same s1)))⟩⟩⟩
    · refine ⟨_, rfl, _, rfl, .inr ⟨p, [], rfl, hs, fun H1 s1 => ⟨_, rfl, itF rfl ⟨.ref p, rfl, p, [], rfl, hs.elim (fun z => .inl (s1.seq z)) (fun z => .inr (same_t s1 z)), rfl, _, rfl, itT rfl (raise_ok (ex.same s1))⟩⟩⟩⟩
    refine ⟨_, rfl, _, rfl, .inr ⟨p, xs, rfl, hP.s, fun H1 s1 => ⟨_, rfl, itF rfl ⟨.ref p, rfl, p, xs, rfl, (hP.same s1).s, rfl, _, rfl, itF (decide_eq_false fun z => ne (List.length_eq_zero_iff.mp (by have := V.int.inj z; have := hP.l; omega))) ?_⟩⟩⟩⟩
    refine ⟨.ref p, rfl, p, xs, ps, rfl, hP.same s1, by omega, hg, fun H2 z os s2 o1 o2 ol hz => ?_⟩
    have hr' : ∀ p ∈ ps, RatP p := fun p hp => (hg p hp).1
    have hsub : ∀ r ∈ hullP os, r ∈ ps := fun r hr => (o2 r).mp (hull_sub r hr)
    have hl : (hullP os).length ≤ 60 := by
      have := hull_len os
      omega
    refine mk_pat hz (.inr ⟨_, rfl, fun z => hull_ne ⟨o1, o2⟩ hr' ne (List.map_eq_nil_iff.mp z), by rw [List.length_map]; exact hl, .inr ⟨hullP os, ⟨List.length_map _, fun i x q ex eq => .inl (by rw [List.getElem?_map, eq] at ex; cases ex; rfl)⟩, fun r hr => hg r (hsub r hr), fun os' ho => ?_⟩⟩)
    have e : hullP os' = hullP os := hull_between ⟨o1, o2⟩ ho hr' ne hsub (fun _ h => h)
    exact ⟨fun n => absurd e n, fun _ H3 z3 s3 h3 => q H3 z3 os ((s1.trans s2).trans s3) ⟨o1, o2⟩ h3⟩
end
end F3
set_option Elab.async false
set_option linter.all false
set_option maxRecDepth 100000
set_option maxHeartbeats 4000000
set_option exponentiation.threshold 10000
namespace F3
open PySem PySem.Spec PyProof.Rows L2 FX RM PB KD KS
theorem call_lcm {prog : Program} {w : World} {A : Around} {E : Value → Shared → Prop} {s : Shared} {Q : Value → Shared → Prop} {a b : Int} {t u : Tok} (ha : a.natAbs.log2 < 9000) (hb : b.natAbs.log2 < 9000)
   (hc : (((Nat.lcm 1 a.natAbs).lcm b.natAbs : Nat) : Int).natAbs.log2 < bitsLine)
   (hq : Q (Value.int (((Nat.lcm 1 a.natAbs).lcm b.natAbs : Nat) : Int) s.toks) { heap := s.heap, gens := s.gens, drawn := s.drawn, toks := s.toks + 1, os := s.os }) : wpAny (model prog w) A (call (Value.builtin "math.lcm") [Value.int a t, Value.int b u]) Q E s := by
  have h1 : ¬(max 1 a.natAbs).log2 / 30 + 1 > 450 := by
    rcases Nat.le_total 1 a.natAbs with c | c
    · rw [Nat.max_eq_right c]; omega
    · rw [Nat.max_eq_left c]; decide
  have h2 : ¬(max a.natAbs b.natAbs).log2 / 30 + 1 > 450 := by
    rcases Nat.le_total a.natAbs b.natAbs with c | c
    · rw [Nat.max_eq_right c]; omega
    · rw [Nat.max_eq_left c]; omega
  have g := PySem.W.mg_run_lcm a t b u h1 h2 hc
  exact PySem.Flt.call_fn_gives PySem.W.MGF.kind_lcm PySem.W.MGF.plain_lcm PySem.W.MGF.entry_lcm (PySem.W.MGF.args_lcm _ _) g hq
def rLcm : List V → Hp → VK → Prop := fun xs H Q => ∃ a b : Int, xs = [.int a, .int b] ∧ Sz 4000 a ∧ Sz 4000 b ∧ Q (.int ((a.natAbs.lcm b.natAbs : Nat) : Int)) H
theorem cr_lcm {X : Cx} : CallR X (.builtin "math.lcm") rLcm := by
  intro pins s σ H xs us Q I r h
  obtain ⟨a, b, rfl, za, zb, q⟩ := h
  obtain ⟨u1, u2, rfl, r1, r2⟩ := vals2 r
  obtain ⟨t, rfl⟩ := r1
  obtain ⟨u, rfl⟩ := r2
  have e : ((Nat.lcm 1 a.natAbs).lcm b.natAbs) = a.natAbs.lcm b.natAbs := by rw [Nat.lcm_one_left]
  have la := PySem.Flt.log2_lt_of (by decide) za
  have lb := PySem.Flt.log2_lt_of (by decide) zb
  have lm : (a.natAbs.lcm b.natAbs) < 2 ^ 8000 := by
    refine Nat.lt_of_le_of_lt (Nat.div_le_self _ _) ?_
    have h1 : a.natAbs * b.natAbs < 2 ^ 4000 * 2 ^ 4000 := Nat.mul_lt_mul'' za zb
    rwa [← Nat.pow_add] at h1
  refine call_lcm (by omega) (by omega) ?_ ?_
  · rw [e, Int.natAbs_natCast]
    have := PySem.Flt.log2_lt_of (by decide) lm
    have : (8000 : Nat) ≤ bitsLine := by decide
    omega
  · exact ⟨.int ((a.natAbs.lcm b.natAbs : Nat) : Int), H, I.tok _, ⟨_, by rw [e]⟩, q⟩

/-- the least common bottom, reckoned from c on -/
def lcmB (c : Nat) (l : List Pl) : Nat := l.foldl (fun c q => c.lcm (q.1.2.natAbs.lcm q.2.2.natAbs)) c
def whD (N : Int) (cs : List Pl) : PyData := .tuple (cs.map fun c => .tuple [.int (c.1.1 * N / c.1.2), .int (c.2.1 * N / c.2.2)])
/-- bottoms that divide M -/
def BotM (M : Nat) (q : Pl) : Prop := q.1.2.natAbs ∣ M ∧ q.2.2.natAbs ∣ M
def spWhole2 (K : PySem.W.Frag) : Sp := fun vs H Q _ => ∃ (p : Addr) (xs : List V) (css : List (List Pl)) (M : Nat), vs = [.ref p] ∧ (SqL K H p xs ∨ SqT K H p xs) ∧ css.length = xs.length ∧ css.length ≤ 20 ∧ (∀ (i : Nat) (x : V) (cs : List Pl), xs[i]? = some x → css[i]? = some cs → PatAt K H x cs) ∧
  0 < M ∧ M < 2 ^ 200 ∧ (∀ cs ∈ css, cs.length ≤ 60 ∧ ∀ q ∈ cs, GoodP 400 q ∧ BotM M q) ∧
  ∀ H' z, Same H H' → Dp K H' z (.tuple [.tuple (css.map (whD (lcmB 1 css.flatten))), .int (lcmB 1 css.flatten)]) → Q z H'
theorem for_seqG {K : PySem.W.Frag} {a : Addr} {xs : List V} {tl : TE} {g : TG} {tb : TS} {D : Ends} {σ : L2.St} {H : Hp} (h0 : SqL K H a xs ∨ SqT K H a xs) (hj : ∀ R : VK, R (.ref a) H → tl σ H R) (Pv : Nat → L2.St → Hp → Prop) (p0 : Pv 0 σ H) (hS : ∀ i σ' H', Pv i σ' H' → Same H H')
    (hs : ∀ i x σ' H', xs[i]? = some x → Pv i σ' H' → g x σ' H' fun σ2 H2 => tb { D with nx := Pv (i + 1), ct := Pv (i + 1), bk := D.nx } σ2 H2) (hd : ∀ σ' H', Pv xs.length σ' H' → D.nx σ' H') : tFor (iSeq K tl) g tb D σ H := by
  rcases h0 with h0 | h0
  · exact .inl (hj _ ⟨a, rfl, ⟨_, h0⟩, for_list (K := K) (a := a) (xs := xs) Pv p0 (fun i σ' H' _ h => (hS i σ' H' h).seq h0) hs hd⟩)
  · exact .inr (hj _ ⟨a, rfl, ⟨_, h0⟩, for_tup (K := K) (a := a) (xs := xs) Pv p0 (fun i σ' H' _ h => same_t (hS i σ' H' h) h0) hs hd⟩)
theorem dpall_ix {K : PySem.W.Frag} {H : Hp} {f : Nat → PyData} {n : Nat} {ys : List V} (hl : ys.length = n) (h : ∀ i y, ys[i]? = some y → Dp K H y (f i)) : DpAll K H ys ((List.range n).map f) := by
  subst hl
  induction ys generalizing f with
  | nil => exact .nil
  | cons y ys ih =>
    rw [List.length_cons, List.range_succ_eq_map, List.map_cons, List.map_map]
    exact .cons (h 0 y rfl) (ih fun i z e => h (i + 1) z e)
theorem lcmB_app (c : Nat) (l m : List Pl) : lcmB c (l ++ m) = lcmB (lcmB c l) m := List.foldl_append
theorem lcmB_snoc (c : Nat) (l : List Pl) (q : Pl) : lcmB c (l ++ [q]) = (lcmB c l).lcm (q.1.2.natAbs.lcm q.2.2.natAbs) := by rw [lcmB_app]; rfl
theorem lcmB_dvd {M : Nat} : ∀ {l : List Pl} {c : Nat}, c ∣ M → (∀ q ∈ l, BotM M q) → lcmB c l ∣ M
  | [], _, h, _ => h
  | q :: l, c, h, hl => lcmB_dvd (l := l) (c := c.lcm (q.1.2.natAbs.lcm q.2.2.natAbs)) (Nat.lcm_dvd h (Nat.lcm_dvd (hl q (List.mem_cons_self ..)).1 (hl q (List.mem_cons_self ..)).2)) fun z hz => hl z (List.mem_cons_of_mem _ hz)
theorem sz_dvd {a M : Nat} (h : a ∣ M) (M0 : 0 < M) (MZ : M < 2 ^ 200) : Sz 200 (a : Int) := by
  show ((a : Nat) : Int).natAbs < 2 ^ 200
  rw [Int.natAbs_natCast]
  exact Nat.lt_of_le_of_lt (Nat.le_of_dvd M0 h) MZ
theorem noL_wh (N : Int) (cs : List Pl) : noL (whD N cs) = true := by
  unfold whD
  rw [noL]
  exact noLs_all fun d hd => by
    obtain ⟨x, _, rfl⟩ := List.mem_map.mp hd
    simp [noL, noLs]
section
variable {X : Cx}
theorem pe_fldK (K : PySem.W.Frag) {e : Expr} {f : Str} {pos : Pos} {ta : TE} (he : PE X e ta) (hb : attributeBase e f X.env (eval e X.env) = eval e X.env) (eK : X.K = K := by rfl) : PE X (.Attribute e f pos) (tFld K ta f) := by
  subst eK; exact pe_fld he hb
theorem pi_seqK (K : PySem.W.Frag) {tg l : Expr} {tl : TE} (hl : PE X l tl) (eK : X.K = K := by rfl) : PI X tg l (iSeq K tl) := by
  subst eK; exact pi_seq hl
end
section
variable {P : Program} {w : World} {K : PySem.W.Frag} {mg : Str → Option Value} {base : Heap}
end
end F3
set_option Elab.async false
set_option linter.all false
set_option maxRecDepth 100000
set_option maxHeartbeats 4000000
/-! len, ==, != and walks of an object whose class has __len__, __eq__, __iter__ of its own -/
namespace OW
open PySem PySem.Spec PyProof.Rows L2 FX RM PB
section
variable {X : Cx} {pins : List (Addr × Obj)} {σ : L2.St} {H : Hp} {s : Shared}
theorem ins_inst {a C dx : Addr} {fs : List (Str × V)} (I : Inv X pins σ H s) (e : H a = some (.ins C dx fs)) : ∃ od, PySem.W.InstAt s.heap a (PySem.W.instObj C dx) C (some od) := by
  have h := I.hok a _ e
  unfold ObjOk at h
  obtain ⟨_, _, _, h1, mA, hn, _⟩ := h
  obtain ⟨od, ho, _⟩ := lookIn_ns hn
  exact ⟨od, h1, rfl, rfl, ho⟩
/-- a method called from within a rule -/
theorem call_in {CX : CXT} {n : Nat} {f : Addr} {fd : FuncData} {ps : List Str} {sp : Sp} {E : XK} {A : Around} {vs : List V} {us : List Value} {Q : VK} (F : FnOk X.prog X.w X.K X.mg X.base CX n f fd ps sp) (hb : L2.Binds X.K fd ps []) (hx : Passes CX X E)
    (hA : A.frames = X.A.frames) (hr : Room n A) (I : Inv X pins σ H s) (r : Vals vs us) (hq : sp vs H Q E) : wpAny (model X.prog X.w) A (call (.ref f) us) (EP X pins σ Q) X.xe s := by
  have e0 := I.env0
  have e1 : Env0 X.prog X.w X.K X.mg X.base A X.stack s H := { e0 with frames := hA.trans e0.frames }
  have hlen : us.length = ps.length := by
    rw [← F.len _ _ _ _ hq]; exact (r.length).symm
  have bb := hb s us I.kIn (by rw [List.append_nil]; exact hlen)
  rw [List.append_nil] at bb
  refine wpAny_call (codeAny_mono (F.run A X.stack s H ⟨us, []⟩ us vs Q E hr e1 bb r hq) fun t s' hq' => ?_)
  cases t with
  | error er => exact hx pins σ H s er s' I hq'
  | ok fl =>
    cases fl with
    | ret u => exact I.after hq'
    | next => exact False.elim hq'
    | brk => exact False.elim hq'
    | cont => exact False.elim hq'
end
section
variable {X : Cx} {C f : Addr} {CX : CXT} {n : Nat} {fd : FuncData} {ps : List Str} {sp : Sp}
/-- len(o) -/
def rLenO (C : Addr) (sp : Sp) : List V → Hp → VK → Prop := fun xs H Q => ∃ a dx fs, xs = [.ref a] ∧ H a = some (.ins C dx fs) ∧ sp xs H (fun v H' => ∃ n : Int, v = .int n ∧ 0 ≤ n ∧ n < 2 ^ 63 ∧ Q v H') E0
theorem cr_lenO (hf : PySem.W.findIn X.K (.ref C) "__len__" = some (some (.ref f))) (hn : PySem.W.isFn X.K (.ref f) = true) (F : FnOk X.prog X.w X.K X.mg X.base CX n f fd ps sp) (hb : L2.Binds X.K fd ps []) (hx : Passes CX X E0) (hr : Room n X.A.in1) : CallR X (.builtin "len") (rLenO C sp) := by
  intro pins s σ H xs us Q I r h
  obtain ⟨a, dx, fs, rfl, e, hq⟩ := h
  cases r with
  | cons r1 r2 =>
    cases r2 with
    | nil =>
      rename_i u
      cases (show u = Value.ref a from r1)
      obtain ⟨od, J⟩ := ins_inst I e
      obtain ⟨m, fr⟩ := I.fr
      refine PySem.W.len_K fr I.ok.mod.kin J hf hn (wpAny_mono (call_in F hb hx rfl hr I (show Vals [.ref a] [Value.ref a] from .cons (show RelV (.ref a) (.ref a) from rfl) .nil) hq) (fun v s' hv => ?_) (fun _ _ z => z))
      obtain ⟨w, H', I', rv, i, rfl, i0, i6, q⟩ := hv
      obtain ⟨t, rfl⟩ := rv
      exact ⟨⟨i0, i6⟩, .int i, H', I'.tok _, ⟨_, rfl⟩, q⟩
/-- o == y -/
def rEqO (K : PySem.W.Frag) (C : Addr) (sp : Sp) (neg : Bool) : L2.R2 := fun x y H Q => ∃ a dx fs t, x = .ref a ∧ H a = some (.ins C dx fs) ∧ TyX K H y t ∧ PySem.W.notFirst K C t = true ∧ sp [x, y] H (fun v H' => ∃ b, v = .bl b ∧ Q (.bl (neg ^^ b)) H') E0
theorem op_eqO (hf : PySem.W.findIn X.K (.ref C) "__eq__" = some (some (.ref f))) (hn : PySem.W.isFn X.K (.ref f) = true) (F : FnOk X.prog X.w X.K X.mg X.base CX n f fd ps sp) (hb : L2.Binds X.K fd ps []) (hx : Passes CX X E0) (hr : Room n X.A) : OpR X (compareOp .Eq) (rEqO X.K C sp false) := by
  intro pins s σ H x y v u Q I rx ry h
  obtain ⟨a, dx, fs, t, rfl, e, hT, nf, hq⟩ := h
  cases (show v = Value.ref a from rx)
  obtain ⟨od, J⟩ := ins_inst I e
  obtain ⟨m, fr⟩ := I.fr
  have hl : PySem.W.Looks (model X.prog X.w) s.heap (typeOf u) t := by
    obtain ⟨P, kx, hp, _⟩ := kit_of I ry hT
    exact kx.ty _ _ I.kIn hp
  refine PySem.W.cmp_K (op := .Eq) (by have := hr.un; omega) fr I.ok.mod.kin J hl nf hf hn (wpAny_mono (call_in F hb hx rfl hr I (show Vals [.ref a, y] [Value.ref a, u] from .cons (show RelV (.ref a) (.ref a) from rfl) (.cons ry .nil)) hq) (fun v s' hv => ?_) (fun _ _ z => z))
  obtain ⟨w, H', I', rv, b, rfl, q⟩ := hv
  cases (show v = Value.bool b from rv)
  exact ⟨.bl b, H', I', rfl, by simpa using q⟩
end
/-- the text's facts of a class with == and without != -/
def nsB (K : PySem.W.Frag) (N f : Addr) : Bool := match K.lookup N with
  | some ⟨_, _, .dict es _, _⟩ => es.toList.all (fun e => match e.key with | .str _ _ => true | _ => false) && ((match nsFind es "__eq__" with | some (.ref g) => decide (g = f) | _ => false) && (nsFind es "__ne__").isNone)
  | _ => false
def clB (K : PySem.W.Frag) (C f : Addr) : Bool := match K.lookup C with
  | some ⟨.type "type", _, .cls cd, sl⟩ => (match cd.mro, sl.toList with
    | [.ref D, .type "object"], [_, _, _, _, some (.builtin _), _] => decide (D = C) && (!cd.hasDel && nsB K cd.ns f)
    | _, _ => false)
  | _ => false
def fnB (K : PySem.W.Frag) (f : Addr) : Bool := match K.lookup f with
  | some ⟨.type "function", _, _, _⟩ => true
  | _ => false
def neB (K : PySem.W.Frag) (C f : Addr) : Bool := clB K C f && fnB K f
theorem nsB_ok {K : PySem.W.Frag} {N f : Addr} (h : nsB K N f = true) {hp : Heap} (hk : K.In hp) : ∃ mN, hp.Ns N mN ∧ mN "__eq__" = some (.ref f) ∧ mN "__ne__" = none := by
  unfold nsB at h
  split at h
  · rename_i c1 d1 es1 ep1 s1 ln
    obtain ⟨q1, h⟩ := He.ba h
    obtain ⟨q2, q3⟩ := He.ba h
    refine ⟨fun n => nsFind es1 n, ⟨_, _, _, hk _ _ ln, rfl, fun e he => ?_, fun _ => rfl⟩, ?_, by simpa using q3⟩
    · have := List.all_eq_true.mp q1 e (Array.mem_toList_iff.mpr he)
      split at this
      · exact ⟨_, _, by assumption⟩
      · cases this
    · split at q2
      · rename_i g eg
        rw [of_decide_eq_true q2] at eg
        exact eg
      · cases q2
  · cases h
theorem neB_ok {K : PySem.W.Frag} {C f : Addr} (h : neB K C f = true) {hp : Heap} (hk : K.In hp) {x dx : Addr} (hx : hp.get? x = some (PySem.W.instObj C dx)) : hp.OwnEqNoNe x C f "object" [Value.type "object"] := by
  obtain ⟨h0, h1⟩ := He.ba h
  unfold clB at h0
  unfold fnB at h1
  split at h0
  · rename_i dd cd sl lk
    split at h0
    · rename_i D k0 k1 k2 k3 n k5 em es
      obtain ⟨a, h0⟩ := He.ba h0
      obtain ⟨c, h0⟩ := He.ba h0
      obtain rfl := of_decide_eq_true a
      split at h1
      · rename_i d2 dat2 sl2 lf
        obtain ⟨nm, bs, mro, ns, qn, hd, sn, sub, ab, col, del⟩ := cd
        obtain ⟨l⟩ := sl
        dsimp only at em es c h0
        subst em es
        have c' : del = false := by simpa using c
        subst c'
        obtain ⟨mN, n1, n2, n3⟩ := nsB_ok h0 hk
        exact ⟨_, _, nm, qn, ns, bs, hd, sn, sub, ab, col, dd, k0, k1, k2, k3, k5, n, mN, _, hx, rfl, hk _ _ lk, n1, n2, hk _ _ lf, rfl, PySem.F.cmp_object.mro, PySem.F.cmp_object.eq.lookup, n3⟩
      · cases h1
    · cases h0
  · cases h0
section
variable {X : Cx} {C f : Addr} {CX : CXT} {n : Nat} {fd : FuncData} {ps : List Str} {sp : Sp}
/-- o != another of its class -/
def rNeO (C : Addr) (sp : Sp) : L2.R2 := fun x y H Q => ∃ a dx fs b dy gs, x = .ref a ∧ y = .ref b ∧ H a = some (.ins C dx fs) ∧ H b = some (.ins C dy gs) ∧ sp [x, y] H (fun v H' => ∃ c, v = .bl c ∧ Q (.bl (!c)) H') E0
theorem op_neO (hB : neB X.K C f = true) (F : FnOk X.prog X.w X.K X.mg X.base CX n f fd ps sp) (hb : L2.Binds X.K fd ps []) (hx : Passes CX X E0) (hr : Room n X.A.in1) : OpR X (compareOp .NotEq) (rNeO C sp) := by
  intro pins s σ H x y v u Q I rx ry h
  obtain ⟨a, dx, fs, b, dy, gs, rfl, rfl, e, e2, hq⟩ := h
  cases (show v = Value.ref a from rx)
  cases (show u = Value.ref b from ry)
  obtain ⟨od, J⟩ := ins_inst I e
  obtain ⟨od2, J2⟩ := ins_inst I e2
  refine PySem.compareOp_ne_ownEq PySem.F.cmp_object (neB_ok hB I.kIn J.at_) J2.at_ J2.cls (by have := hr.un; show X.A.units + 1 < cLine; have e : X.A.in1.units = X.A.units + 1 := rfl; omega)
    (wpAny_mono (call_in F hb hx rfl hr I (show Vals [.ref a, .ref b] [Value.ref a, Value.ref b] from .cons (show RelV (.ref a) (.ref a) from rfl) (.cons (show RelV (.ref b) (.ref b) from rfl) .nil)) hq) (fun v s' hv => ?_) (fun _ _ z => z))
  obtain ⟨w, H', I', rv, c, rfl, q⟩ := hv
  exact ⟨c, rv, .bl (!c), H', I', rfl, q⟩
end
end OW
set_option Elab.async false
set_option linter.all false
set_option maxRecDepth 100000
set_option maxHeartbeats 4000000
/-! for over an object whose __iter__ gives iter(its tuple) -/
namespace OW
open PySem PySem.Spec PyProof.Rows L2 FX RM PB
/-- at it the iterator of the tuple at t, i items gone -/
def ItT (t it : Addr) (i : Nat) : HO := HO.ext fun h => h.IsTupleIter it t i
theorem kind_iter : builtinKind "iter" = none := by decide +kernel
theorem plain_iter : plainId "iter" = true := by decide +kernel
theorem itT_ok {P : Program} {w : World} {H : Hp} {h : Heap} {t it : Addr} {i : Nat} (x : h.IsTupleIter it t i) : ObjOk P w H h it (ItT t it i) := by
  unfold ItT ObjOk
  obtain ⟨o, h1, h2, h3⟩ := x
  refine ⟨⟨o, h1, h2, h3⟩, ⟨o, h1⟩, fun g1 g2 a b => ?_⟩
  obtain ⟨o', k1, k2, k3⟩ := a
  exact ⟨o', b _ k1, k2, k3⟩
/-- a heap with more places, all of them empty -/
def padH (h : Heap) (n : Nat) : Heap := { h with objs := h.objs ++ Array.replicate (n - h.objs.size) { cls := .none, data := .freed } }
theorem pad_get (h : Heap) (n : Nat) (a : Addr) : (padH h n).get? a = h.get? a := by
  unfold padH Heap.get?
  rcases Nat.lt_or_ge a h.objs.size with l | l
  · rw [Array.getElem?_append_left l]
  · rw [Array.getElem?_append_right l, Array.getElem?_eq_none (by omega : h.objs.size ≤ a)]
    rw [Array.getElem?_replicate]
    split
    · rename_i e
      split at e <;> simp_all
    · rename_i o hn
      split at hn
      · exact absurd rfl (hn _ _ _)
      · rw [if_neg (by assumption)]
theorem pad_size {h : Heap} {n : Nat} (l : h.objs.size ≤ n) : (padH h n).objs.size = n := by
  unfold padH
  simp; omega
theorem pad_ns {h : Heap} {n : Nat} {a : Addr} {m : Str → Option Value} (x : h.Ns a m) : (padH h n).Ns a m := by
  unfold Heap.Ns at *
  rw [pad_get]; exact x
theorem pad_mod {K : PySem.W.Frag} {mg : Str → Option Value} {h : Heap} {n : Nat} (x : L2.Mod K mg h) : L2.Mod K mg (padH h n) := by
  obtain ⟨a, b, ⟨mb, c, d⟩, ⟨mc, e, f⟩⟩ := x
  exact ⟨fun b o k => by rw [pad_get]; exact a b o k, pad_ns b, ⟨mb, pad_ns c, d⟩, ⟨mc, pad_ns e, f⟩⟩
theorem pad_fun {g h : Heap} {n : Nat} : ∀ {o : List Env}, g.FunFrames h o → g.FunFrames (padH h n) o
  | [], x => x
  | e :: o, x => by
    unfold Heap.FunFrames at *
    obtain ⟨a, ⟨L, u, b, c, d⟩, e⟩ := x
    exact ⟨a, ⟨L, u, b, by rw [pad_get]; exact c, d⟩, pad_fun e⟩
section
variable {X : Cx}
def rIterT (K : PySem.W.Frag) (n : Nat) : List V → Hp → VK → Prop := fun xs H Q => ∃ t ys, xs = [.ref t] ∧ SqT K H t ys ∧ ∀ it, H it = none → n ≤ it → Q (.ref it) (upd H it (ItT t it 0))
theorem cr_iterT : CallR X (.builtin "iter") (rIterT X.K X.base.objs.size) := by
  intro pins s σ H xs us Q I r h
  obtain ⟨t, ys, rfl, hT, q⟩ := h
  cases r with
  | cons r1 r2 =>
    cases r2 with
    | nil =>
      rename_i u
      cases (show u = Value.ref t from r1)
      obtain ⟨its, _, hI, _⟩ := I.tuple hT
      refine PySem.Calls.call_function_entry kind_iter plain_iter PySem.W.kdk_entry_iter (PySem.W.kdk_args_iter _) ?_
      have e : Builtin.iter { pos := [Value.ref t] } = (pyIter (.ref t) >>= fun x => ret x) := rfl
      rw [e]
      refine wpAny_bind (thn (Q := fun v s' => EP X pins σ Q v s') ?_ fun v s' hv => wpAny_pure ⟨v, rfl, hv⟩)
      have hn : H s.heap.objs.size = none := I.hok.fresh (Nat.le_refl _)
      refine PySem.wpAny_pyIter_tuple (show s.heap.IsTuple t its.toArray from hI) ⟨.ref s.heap.objs.size, upd H s.heap.objs.size (ItT t s.heap.objs.size 0), I.laid (t' := s.toks) (fun b u hb => Heap.get?_push_of_some _ hb) (Nat.le_refl _) (itT_ok ⟨_, by heap_get, rfl, rfl⟩), rfl, q _ hn (Nat.le_trans I.ok.bsz I.sz)⟩
/-- for x in o -/
def iOwn (K : PySem.W.Frag) (C : Addr) (sp : Nat → Sp) (te : TE) : TI := fun σ H R => te σ H fun x H1 => ∃ a dx fs t, x = .ref a ∧ H1 a = some (.ins C dx fs) ∧ (∃ ys, SqT K H1 t ys) ∧ (∀ (n : Nat) (Q : VK), (∀ H2 it, Same H1 H2 → H1 it = none → n ≤ it → H2 it = some (ItT t it 0) → Q (.ref it) H2) → sp n [.ref a] H1 Q E0) ∧ ∀ H2, Same H1 H2 → R (Itt K t) H2
theorem pi_own {C f : Addr} {CX : CXT} {n : Nat} {fd : FuncData} {ps : List Str} {sp : Nat → Sp} {tg e : Expr} {te : TE} (he : PE X e te) (hf : PySem.W.findIn X.K (.ref C) "__iter__" = some (some (.ref f))) (hn : PySem.W.isFn X.K (.ref f) = true) (F : ∀ base, FnOk X.prog X.w X.K X.mg base CX n f fd ps (sp base.objs.size)) (hb : L2.Binds X.K fd ps []) (hx : Passes CX X E0) (hr : Room n X.A) :
    PI X tg e (iOwn X.K C sp te) := by
  refine ⟨fun pins s σ H R I h => ?_⟩
  refine thn (he.run pins s σ H _ I h) fun v s1 hh => ?_
  obtain ⟨x, H1, I1, rx, a, dx, fs, t, rfl, e1, hT, hs, hR⟩ := hh
  cases (show v = Value.ref a from rx)
  obtain ⟨od, J⟩ := ins_inst I1 e1
  obtain ⟨m, fr⟩ := I1.fr
  have l0 := I1.ok.bsz
  have hq := hs X.s_0.heap.objs.size (fun v H2 => ∃ it, v = .ref it ∧ Same H1 H2 ∧ H1 it = none ∧ X.s_0.heap.objs.size ≤ it ∧ H2 it = some (ItT t it 0)) fun H2 it a b d c => ⟨it, rfl, a, b, d, c⟩
  have F2 := F (padH X.base X.s_0.heap.objs.size)
  rw [pad_size l0] at F2
  have e0 := I1.env0
  have e2 : Env0 X.prog X.w X.K X.mg (padH X.base X.s_0.heap.objs.size) X.A X.stack s1 H1 :=
    { e0 with mod := pad_mod e0.mod, bs := fun b o hb => e0.bs b o (by rw [pad_get] at hb; exact hb), bsz := by rw [pad_size l0]; exact I1.sz, funs := pad_fun e0.funs }
  have rr : Vals [V.ref a] [Value.ref a] := .cons (show RelV (.ref a) (.ref a) from rfl) .nil
  have hlen : ([Value.ref a] : List Value).length = ps.length := by rw [← F2.len _ _ _ _ hq]; exact (rr.length).symm
  have bb := hb s1 [Value.ref a] I1.kIn (by rw [List.append_nil]; exact hlen)
  rw [List.append_nil] at bb
  refine PySem.W.owit_iter fr I1.ok.mod.kin J hf hn (wpAny_call (codeAny_mono (F2.run X.A X.stack s1 H1 ⟨[Value.ref a], []⟩ [Value.ref a] [V.ref a] _ E0 hr e2 bb rr hq) fun t s2 hq' => ?_))
  cases t with
  | error er => exact hx pins σ H1 s1 er s2 I1 hq'
  | ok fl =>
    cases fl with
    | next => exact False.elim hq'
    | brk => exact False.elim hq'
    | cont => exact False.elim hq'
    | ret u =>
      obtain ⟨v, H2, I2, rv, it, rfl, s12, n0, big, e2⟩ := I1.after hq'
      cases (show u = Value.ref it from rv)
      have x2 : s2.heap.IsTupleIter it t 0 := by
        have := I2.hok it _ e2
        unfold ItT ObjOk at this
        exact this.1
      refine wpAny_specialOf x2.typeIs PyProof.Rows.slot_tupleiter_next.lookup ?_
      refine ⟨it, [it], fun i h => h.IsTupleIter it t i, Itt X.K t, ItX.dropH H2 it, rfl, ItX.inv_drop I2 e2, turn_tuple t it, x2, fun b hb => ?_, hR _ fun b o hb => ?_⟩
      · rw [List.mem_singleton.mp hb]
        exact ItX.inv_fp I2 e2 big
      · rw [ItX.dropH_ne (fun z => by rw [z, n0] at hb; cases hb)]
        exact s12 b o hb
end
end OW
set_option Elab.async false
set_option linter.all false
set_option maxRecDepth 100000
set_option maxHeartbeats 4000000
set_option exponentiation.threshold 10000
namespace F3
open PySem PySem.Spec PyProof.Rows L2 FX RM PB KD KS
/-- what more the text says of the class Patch -/
def patB (K : PySem.W.Frag) : Bool :=
  He.eqO (PySem.W.findIn K (.ref (cP K)) "__class__") (some (some (.builtin "object.__class__"))) && (He.eqO (PySem.W.specialIn K (.builtin "object.__class__") "__get__") (some (some (.builtin "getset_descriptor.__get__"))) &&
  (decide (PySem.W.takesIn K (.builtin "object.__class__") = some true) && (decide (PySem.W.mroIn K (cP K) (.type "object") = some true) && (decide (PySem.W.kitOne K (.ref (cP K)) (.ref (cP K)) = some true) && (decide (PySem.W.kitOne K (.type "tuple") (.ref (cP K)) = some false) &&
  (decide (PySem.W.kitAny K (.ref (cP K)) [.type "list", .type "tuple"] = some false) && (PySem.W.notFirst K (cP K) (.ref (cP K)) && (PySem.W.notFirst K (cP K) (.type "tuple") && (He.eqO (PySem.W.findIn K (.ref (cP K)) "__len__") (some (some (.ref (He.ma K (cP K) "__len__")))) && (PySem.W.isFn K (.ref (He.ma K (cP K) "__len__")) &&
  (He.eqO (PySem.W.findIn K (.ref (cP K)) "__iter__") (some (some (.ref (He.ma K (cP K) "__iter__")))) && (PySem.W.isFn K (.ref (He.ma K (cP K) "__iter__")) && (He.eqO (PySem.W.findIn K (.ref (cP K)) "__eq__") (some (some (.ref (He.ma K (cP K) "__eq__")))) && (PySem.W.isFn K (.ref (He.ma K (cP K) "__eq__")) && OW.neB K (cP K) (He.ma K (cP K) "__eq__")))))))))))))))
structure PFa (K : PySem.W.Frag) : Prop where
  cc : PySem.W.findIn K (.ref (cP K)) "__class__" = some (some (.builtin "object.__class__"))
  cg : PySem.W.specialIn K (.builtin "object.__class__") "__get__" = some (some (.builtin "getset_descriptor.__get__"))
  ct : PySem.W.takesIn K (.builtin "object.__class__") = some true
  co : PySem.W.mroIn K (cP K) (.type "object") = some true
  ks : PySem.W.kitOne K (.ref (cP K)) (.ref (cP K)) = some true
  kt : PySem.W.kitOne K (.type "tuple") (.ref (cP K)) = some false
  kr : PySem.W.kitAny K (.ref (cP K)) [.type "list", .type "tuple"] = some false
  ns : PySem.W.notFirst K (cP K) (.ref (cP K)) = true
  nt : PySem.W.notFirst K (cP K) (.type "tuple") = true
  l1 : PySem.W.findIn K (.ref (cP K)) "__len__" = some (some (.ref (He.ma K (cP K) "__len__")))
  l2 : PySem.W.isFn K (.ref (He.ma K (cP K) "__len__")) = true
  i1 : PySem.W.findIn K (.ref (cP K)) "__iter__" = some (some (.ref (He.ma K (cP K) "__iter__")))
  i2 : PySem.W.isFn K (.ref (He.ma K (cP K) "__iter__")) = true
  e1 : PySem.W.findIn K (.ref (cP K)) "__eq__" = some (some (.ref (He.ma K (cP K) "__eq__")))
  e2 : PySem.W.isFn K (.ref (He.ma K (cP K) "__eq__")) = true
  ne : OW.neB K (cP K) (He.ma K (cP K) "__eq__") = true
theorem patB_ok {K : PySem.W.Frag} (h : patB K = true) : PFa K := by
  obtain ⟨a1, h⟩ := He.ba h
  obtain ⟨a2, h⟩ := He.ba h
  obtain ⟨a3, h⟩ := He.ba h
  obtain ⟨a4, h⟩ := He.ba h
  obtain ⟨a5, h⟩ := He.ba h
  obtain ⟨a6, h⟩ := He.ba h
  obtain ⟨a7, h⟩ := He.ba h
  obtain ⟨a8, h⟩ := He.ba h
  obtain ⟨a9, h⟩ := He.ba h
  obtain ⟨b1, h⟩ := He.ba h
  obtain ⟨b2, h⟩ := He.ba h
  obtain ⟨b3, h⟩ := He.ba h
  obtain ⟨b4, h⟩ := He.ba h
  obtain ⟨b5, h⟩ := He.ba h
  obtain ⟨b6, h⟩ := He.ba h
  exact ⟨He.eqO_ok a1, He.eqO_ok a2, of_decide_eq_true a3, of_decide_eq_true a4, of_decide_eq_true a5, of_decide_eq_true a6, of_decide_eq_true a7, a8, a9, He.eqO_ok b1, b2, He.eqO_ok b3, b4, He.eqO_ok b5, b6, h⟩
theorem tyx_pat {K : PySem.W.Frag} {H : Hp} {v : V} {cs : List Pl} (F : PFa K) (c : Cls K (cP K)) (h : PatAt K H v cs) : TyX K H v (.ref (cP K)) := by
  obtain ⟨a, dx, t, rfl, e, _⟩ := h
  exact .base (.ins e c F.cc F.cg F.ct F.co)
def spPLen (K : PySem.W.Frag) : Sp := fun vs H Q _ => ∃ v cs, vs = [v] ∧ PatAt K H v cs ∧ Q (.int cs.length) H
def spPIter (K : PySem.W.Frag) (n : Nat) : Sp := fun vs H Q _ => ∃ a dx t ys, vs = [.ref a] ∧ H a = some (.ins (cP K) dx [("corners", .ref t)]) ∧ SqT K H t ys ∧ ∀ H2 it, Same H H2 → H it = none → n ≤ it → H2 it = some (OW.ItT t it 0) → Q (.ref it) H2
def spPEq (K : PySem.W.Frag) : Sp := fun vs H Q _ => ∃ v u cs, vs = [v, u] ∧ PatAt K H v cs ∧ ((∃ ds, PatAt K H u ds ∧ Q (.bl (decide (cs = ds))) H) ∨ (∃ t, TyX K H u t ∧ PySem.W.kitOne K t (.ref (cP K)) = some false ∧ Q (.bl false) H))
section
variable {P : Program} {w : World} {K : PySem.W.Frag} {mg : Str → Option Value} {base : Heap}
abbrev sPlen : Stmt := inClass (topS 52) 1
theorem scPlen : FnScope ["self"] ["self"] (defScope sPlen) := ⟨rfl, rfl, rfl, by decide +kernel, rfl, by decide +kernel, by decide +kernel⟩
theorem in_Plen {f : Addr} {fd : FuncData} (F : Fun K "__len__" "Patch.__len__" sPlen f fd) (tC : Cls K (cP K)) (nC : NoAttr K (cP K) "corners") (mlen : mg "len" = none) : FnOk P w K mg base CX0 1 f fd ["self"] (spPLen K) := by
  refine F.ok scPlen (fun vs H Q E h => ?_) (fun cdv A outer s H vs Q E hr h => ?_)
  · obtain ⟨v, cs, rfl, _⟩ := h; rfl
  · obtain ⟨v, cs, rfl, hv, q⟩ := h
    refine ⟨_, (pss_one (ps_ret (pe_callB call_len_seq (by rfl) mlen PySem.boot_len (pa_cons (pe_fld (pv 0) rfl) pa_nil)))), ?_⟩
    obtain ⟨a, dx, t, rfl, e, ht⟩ := hv
    obtain ⟨p, xs, rfl, hT, hP, _⟩ := pls_td ht
    rw [hP.l] at q
    exact ⟨_, rfl, a, cP K, dx, _, .ref p, rfl, e, tC, nC, rfl, p, xs, rfl, .inr hT, q⟩
abbrev sPiter : Stmt := inClass (topS 52) 2
theorem scPiter : FnScope ["self"] ["self"] (defScope sPiter) := ⟨rfl, rfl, rfl, by decide +kernel, rfl, by decide +kernel, by decide +kernel⟩
theorem in_Piter {f : Addr} {fd : FuncData} (F : Fun K "__iter__" "Patch.__iter__" sPiter f fd) (tC : Cls K (cP K)) (nC : NoAttr K (cP K) "corners") (miter : mg "iter" = none) : FnOk P w K mg base CX0 1 f fd ["self"] (spPIter K base.objs.size) := by
  refine F.ok scPiter (fun vs H Q E h => ?_) (fun cdv A outer s H vs Q E hr h => ?_)
  · obtain ⟨a, dx, t, ys, rfl, _⟩ := h; rfl
  · obtain ⟨a, dx, t, ys, rfl, e, hT, q⟩ := h
    refine ⟨_, (pss_one (ps_ret (pe_callB OW.cr_iterT (by rfl) miter (by decide +kernel) (pa_cons (pe_fld (pv 0) rfl) pa_nil)))), ?_⟩
    exact ⟨_, rfl, a, cP K, dx, _, .ref t, rfl, e, tC, nC, rfl, t, ys, rfl, hT, fun it ni bi => q _ it (PB.same_new ni) ni bi upd_same⟩
abbrev sPeq : Stmt := inClass (topS 52) 3
theorem scPeq : FnScope ["self", "other"] ["self", "other"] (defScope sPeq) := ⟨rfl, rfl, rfl, by decide +kernel, rfl, by decide +kernel, by decide +kernel⟩
theorem in_Peq {f : Addr} {fd : FuncData} (F : Fun K "__eq__" "Patch.__eq__" sPeq f fd) (tC : Cls K (cP K)) (nC : NoAttr K (cP K) "corners") (fa : PFa K) (gP : mg "Patch" = some (.ref (cP K))) (misinstance : mg "isinstance" = none) : FnOk P w K mg base CX0 1 f fd ["self", "other"] (spPEq K) := by
  refine F.ok scPeq (fun vs H Q E h => ?_) (fun cdv A outer s H vs Q E hr h => ?_)
  · obtain ⟨v, u, cs, rfl, _⟩ := h; rfl
  · obtain ⟨v, u, cs, rfl, hv, h⟩ := h
    refine ⟨_, (pss_one (ps_ret (pe_and (pe_callB call_isi (by rfl) misinstance boot_isinstance (pa_cons (pv 1) (pa_cons (pe_glob (v := .ref (cP K)) (by rfl) gP rfl) pa_nil))) (pe_one (pe_cmpR (op_eqD hr.units) (pe_fld (pv 0) rfl) (pe_fld (pv 1) rfl) (nomark _)))))), ?_⟩
    rcases h with ⟨ds, hu, q⟩ | ⟨t, hT, kt, q⟩
    · have ht := tyx_pat fa tC hu
      obtain ⟨a, dx, t, rfl, e, h1⟩ := hv
      obtain ⟨b, dy, s2, rfl, e2, h2⟩ := hu
      refine ⟨_, rfl, _, _, _, _, true, rfl, .own _, ht, fa.ks, _, rfl, itT rfl ?_⟩
      refine ⟨_, rfl, a, cP K, dx, _, t, rfl, e, tC, nC, rfl, _, rfl, b, cP K, dy, _, s2, rfl, e2, tC, nC, rfl, _, _, h1, h2, shaped_ps _, shaped_ps _, ?_⟩
      rw [eqv_ps]; exact q
    · exact ⟨_, rfl, _, _, _, _, false, rfl, .own _, hT, kt, _, rfl, itF rfl q⟩
end
end F3
set_option Elab.async false
set_option linter.all false
set_option maxRecDepth 100000
set_option maxHeartbeats 4000000
set_option exponentiation.threshold 10000
namespace F3
open PySem PySem.Spec PyProof.Rows L2 FX RM PB KD KS
theorem HandAt.updD {H1 H4 : Hp} {p D : Addr} {o : HO} (h1 : HandAt H1 p) (nD : H1 D = none) (s : SameBut p H1 H4) (h4 : HandAt H4 p) : HandAt (upd H4 D o) p := by
  obtain ⟨c, cs, i, r, t, a, b, q⟩ := h1
  obtain ⟨c', cs', i', r', t', a', b', q'⟩ := h4
  obtain ⟨l', e⟩ := s.2 c _ a
  have np : p ≠ D := ne_of_none a nD
  have nc : c ≠ D := ne_of_none b nD
  have ec : c' = c := by
    rw [e] at a'
    cases a'
    rfl
  subst ec
  exact ⟨c', cs', i', r', t', by rw [upd_ne np]; exact a', by rw [upd_ne nc]; exact b', q'⟩
theorem SameBut.updD {H1 H4 : Hp} {p D : Addr} {o : HO} (s : SameBut p H1 H4) (nD : H1 D = none) : SameBut p H1 (upd H4 D o) :=
  ⟨fun b x nb e => by rw [upd_ne (ne_of_none e nD)]; exact s.1 b x nb e, fun c l e => by
    obtain ⟨l', e'⟩ := s.2 c l e
    exact ⟨l', by rw [upd_ne (ne_of_none e nD)]; exact e'⟩⟩
theorem HandAt.neD {H1 : Hp} {p D : Addr} (h1 : HandAt H1 p) (nD : H1 D = none) : D ≠ p := fun e => by
  obtain ⟨c, cs, i, r, t, a, _⟩ := h1
  rw [e, a] at nD; cases nD

/-- a place as the law draws it -/
def GoodL (q : Pl) : Prop := GoodP 151 q ∧ BotM 420 q
theorem norm_dvd {t b : Int} (h : 0 < b) : (norm t b).2.natAbs ∣ b.natAbs := by
  show (b / g2 t b).natAbs ∣ b.natAbs
  obtain ⟨y, hy⟩ := g2_r t b
  have gp := g2_pos (t := t) (b := b) (by omega)
  generalize g2 t b = g at *
  rw [hy, Int.mul_ediv_cancel_left _ (by omega), Int.natAbs_mul]
  exact Nat.dvd_mul_left _ _
theorem dvd420 {n : Int} (h : 0 < n) (h7 : n ≤ 7) : n.natAbs ∣ 420 := by
  have : n = 1 ∨ n = 2 ∨ n = 3 ∨ n = 4 ∨ n = 5 ∨ n = 6 ∨ n = 7 := by omega
  rcases this with rfl | rfl | rfl | rfl | rfl | rfl | rfl <;> decide
theorem norm420 {t b : Int} (h : 0 < b) (h7 : b ≤ 7) : (norm t b).2.natAbs ∣ 420 := Nat.dvd_trans (norm_dvd h) (dvd420 h h7)
def spDrawL (K : PySem.W.Frag) : Sp := fun vs H Q _ => ∃ p, vs = [.ref p] ∧ HandAt H p ∧ ∀ (r : Pl) v H', GoodL r → Dp K H' v (pD r) → HandAt H' p → SameBut p H H' → Q v H'
def spOf (K : PySem.W.Frag) : Sp := fun vs H Q _ => ∃ x y s : Int, vs = [.int x, .int y, .int s] ∧ 0 < s ∧ Sz 5 x ∧ Sz 5 y ∧ Sz 5 s ∧ ∀ H' v, Same H H' → Dp K H' v (pD (norm x s, norm y s)) → Q v H'
def spSpots (K : PySem.W.Frag) : Sp := fun vs H Q _ => ∃ (p : Addr) (m : Nat), vs = [.ref p, .int (m : Int)] ∧ 0 < m ∧ m ≤ 9 ∧ HandAt H p ∧ ∀ (H' : Hp) (D : Addr) (ys : List V) (ps : List Pl), ps ≠ [] → ps.length ≤ m → (∀ q ∈ ps, GoodL q) → H D = none → H' D = some (.lst ys) → DpAll K H' ys (ps.map pD) → HandAt H' p → SameBut p H H' → Q (.ref D) H'
/-- a list drawn from the hand -/
theorem lc_hand {K : PySem.W.Frag} {ta : TA} {g : TG} {te : TE} {vs : List Nat} {σ : L2.St} {H : Hp} {Q : VK} {p : Addr} (n : Nat) (hn : n ≤ 9) (hta : ∀ R : List V → Hp → Prop, R [.int (n : Int)] H → ta σ H R) (hH : HandAt H p)
    (hs : ∀ (i : Nat) H' (R : VK), HandAt H' p → (∀ q v H2, GoodL q → Dp K H2 v (pD q) → HandAt H2 p → SameBut p H' H2 → R v H2) → g (.int (0 + i)) (wipe σ vs) H' fun σ2 H2 => wipe σ2 vs = wipe σ vs ∧ te σ2 H2 R)
    (hd : ∀ (D : Addr) (H' : Hp) (ys : List V) (ps : List Pl), ps.length = n → (∀ q ∈ ps, GoodL q) → H D = none → H' D = some (.lst ys) → DpAll K H' ys (ps.map pD) → HandAt H' p → SameBut p H H' → Q (.ref D) H') : tLc (iRng1 ta) g tYes te vs σ H Q := by
  refine hta _ ⟨_, rfl, by omega, by omega, fun D nD => ?_⟩
  have ne := hH.neD nD
  refine lc_range (n := n) (fun i H' => HandAt H' p ∧ SameBut p H H' ∧ ∃ (ys : List V) (ps : List Pl), H' D = some (.lst ys) ∧ ps.length = i ∧ (∀ q ∈ ps, GoodL q) ∧ DpAll K H' ys (ps.map pD)) ⟨hH.same (PB.same_new nD), Same.but (PB.same_new nD), [], [], upd_same, rfl, (fun q hq => by cases hq), .nil⟩ ?_ ?_
  · rintro i H' hi ⟨h1, s1, ys, ps, eD, pl, pg, hA⟩
    refine hs i H' _ h1 fun q v H4 gq hv h4 s4 => ?_
    have eD4 := s4.1 _ _ ne eD
    have yl : ys.length = ps.length := by rw [DpAll_len hA, List.length_map]
    have A4 : DpAll K H4 ys (ps.map pD) := by
      obtain ⟨c, cs, a, b, t, e, _⟩ := h1
      exact DpAll_but e s4.1 (noLs_p ps) hA
    have sb : ∀ b o, b ≠ D → H4 b = some o → (upd H4 D (.lst (ys ++ [v]))) b = some o := fun b o n e => by rw [upd_ne n]; exact e
    refine ⟨ys, eD4, small1000 (by omega), HandAt.updD hH nD (s1.trans s4) h4, ?_, ys ++ [v], ps ++ [q], upd_same, by rw [List.length_append, pl]; rfl, ?_, ?_⟩
    · refine ⟨fun b o n e => ?_, fun c l e => ?_⟩
      · rw [upd_ne (ne_of_none e nD)]; exact (s1.trans s4).1 b o n e
      · rw [upd_ne (Ne.symm ne)]; exact (s1.trans s4).2 c l e
    · intro z hz
      rcases List.mem_append.mp hz with hz | hz
      · exact pg z hz
      · rw [List.mem_singleton.mp hz]; exact gq
    · rw [List.map_append]
      refine DpAll_but eD4 sb ?_ (DpAll_snoc hv A4)
      have := noLs_p (ps ++ [q])
      rw [List.map_append] at this
      exact this
  · rintro H' ⟨h1, s1, ys, ps, eD, pl, pg, hA⟩
    exact hd D H' ys ps pl pg nD eD hA h1 s1
section
variable {P : Program} {w : World} {K : PySem.W.Frag} {mg : Str → Option Value} {base : Heap}
theorem okL_law_small (T : Txt K mg "_law_small" s_law_small) (G_law_take : DefOk P w K mg base CX0 "_law_take" 2 ["_law_hand_here", "_law_many"] spTake) (G_law_ratio : DefOk P w K mg base CX0 "_law_ratio" 2 ["_law_top_here", "_law_bottom_here"] (spLow K)) : DefOk P w K mg base CX0 "_law_small" 3 ["_law_hand_here"] (spDraw K fun r => IsRat r ∧ SzR 5 r ∧ r.2.natAbs ∣ 420) := by
  obtain ⟨f, fd, F, gf⟩ := T
  refine ⟨f, fd, gf, F.kp, F.binds (fun _ _ _ _ _ _ us hl => match us, hl with | [_], _ => rfl), F.ok sc_law_small (fun vs H Q E h => ?_) (fun cdv A outer s H vs Q E hr h => ?_)⟩
  · obtain ⟨p, rfl, _⟩ := h; rfl
  · obtain ⟨p, rfl, hH, q⟩ := h
    refine ⟨_, (pss_one (ps_ret (pe_def G_law_ratio (hr.mono (by decide)) (by rfl) (pa_cons (pe_op op_sub (pe_def G_law_take (hr.mono (by decide)) (by rfl) (pa_cons (pv 0) (pa_cons pe_int pa_nil))) pe_int) (pa_cons (pe_op op_add pe_int (pe_def G_law_take (hr.mono (by decide)) (by rfl) (pa_cons (pv 0) (pa_cons pe_int pa_nil)))) pa_nil))))), ?_⟩
    refine ⟨.ref p, rfl, p, 13, rfl, hH, by decide, by decide, fun x H1 x0 x13 h1 s1 => ⟨_, _, rfl, rfl, ?_⟩⟩
    refine ⟨.ref p, rfl, p, 4, rfl, h1, by decide, by decide, fun y H2 y0 y4 h2 s2 => ⟨_, _, rfl, rfl, ?_⟩⟩
    have z1 : Sz 5 (x - 6) := by show (x - 6).natAbs < 2 ^ 5; omega
    have z2 : Sz 5 (1 + y) := by show (1 + y).natAbs < 2 ^ 5; omega
    have b0 : 0 < 1 + y := by omega
    exact ⟨_, _, rfl, b0, sz_mono z1 (by decide), sz_mono z2 (by decide), fun H3 v s3 hv => q _ _ _ ⟨norm_rat b0, szr_norm b0 z1 z2, norm420 b0 (by omega)⟩ hv (h2.same s3) ((s1.trans s2).trans (Same.but s3))⟩
theorem okL_law_place (T : Txt K mg "_law_place" s_law_place) (G_law_take : DefOk P w K mg base CX0 "_law_take" 2 ["_law_hand_here", "_law_many"] spTake) (G_law_small : DefOk P w K mg base CX0 "_law_small" 3 ["_law_hand_here"] (spDraw K fun r => IsRat r ∧ SzR 5 r ∧ r.2.natAbs ∣ 420)) (G_law_number : DefOk P w K mg base CX0 "_law_number" 3 ["_law_hand_here"] (spNum 151)) (G_law_ratio : DefOk P w K mg base CX0 "_law_ratio" 2 ["_law_top_here", "_law_bottom_here"] (spLow K)) : DefOk P w K mg base CX0 "_law_place" 4 ["_law_hand_here"] (spDrawL K) := by
  obtain ⟨f, fd, F, gf⟩ := T
  refine ⟨f, fd, gf, F.kp, F.binds (fun _ _ _ _ _ _ us hl => match us, hl with | [_], _ => rfl), F.ok sc_law_place (fun vs H Q E h => ?_) (fun cdv A outer s H vs Q E hr h => ?_)⟩
  · obtain ⟨p, rfl, _⟩ := h; rfl
  · obtain ⟨p, rfl, hH, q⟩ := h
    refine ⟨_, (pss_cons (ps_if (pt_truth (pe_def G_law_take (hr.mono (by decide)) (by rfl) (pa_cons (pv 0) (pa_cons pe_int pa_nil))) (fun _ => rfl)) (pss_one (ps_ret (pe_tup (pa_cons (pe_def G_law_small (hr.mono (by decide)) (by rfl) (pa_cons (pv 0) pa_nil)) (pa_cons (pe_def G_law_small (hr.mono (by decide)) (by rfl) (pa_cons (pv 0) pa_nil)) pa_nil))))) pss_nil) (pss_one (ps_ret (pe_tup (pa_cons (pe_def G_law_ratio (hr.mono (by decide)) (by rfl) (pa_cons (pe_def G_law_number (hr.mono (by decide)) (by rfl) (pa_cons (pv 0) pa_nil)) (pa_cons (pe_op op_add pe_int (pe_def G_law_take (hr.mono (by decide)) (by rfl) (pa_cons (pv 0) (pa_cons pe_int pa_nil)))) pa_nil))) (pa_cons (pe_def G_law_ratio (hr.mono (by decide)) (by rfl) (pa_cons (pe_def G_law_number (hr.mono (by decide)) (by rfl) (pa_cons (pv 0) pa_nil)) (pa_cons (pe_op op_add pe_int (pe_def G_law_take (hr.mono (by decide)) (by rfl) (pa_cons (pv 0) (pa_cons pe_int pa_nil)))) pa_nil))) pa_nil)))))), ?_⟩
    refine ⟨.ref p, rfl, p, 4, rfl, hH, by decide, by decide, fun k H1 k0 k4 h1 s1 => ?_⟩
    refine ⟨_, rfl, ite2 (fun e => ?_) (fun e => ?_)⟩
    · refine ⟨.ref p, rfl, p, rfl, h1, fun r1 v1 H2 o1 hv1 h2 s2 => ?_⟩
      refine ⟨.ref p, rfl, p, rfl, h2, fun r2 v2 H3 o2 hv2 h3 s3 => ?_⟩
      refine ⟨(by show 2 ≤ sizeLine; decide), fun a na => ?_⟩
      have sn := PB.same_new (o := .tup [v1, v2]) na
      exact q (r1, r2) _ _ ⟨⟨⟨o1.1, o2.1⟩, ⟨szr_mono o1.2.1 (by decide), szr_mono o2.2.1 (by decide)⟩⟩, o1.2.2, o2.2.2⟩ (dp_mk2 na (h2.dp s3 (noL_r _) hv1) hv2) (h3.same sn) (((s1.trans s2).trans s3).trans (Same.but sn))
    · refine ⟨.ref p, rfl, p, rfl, h1, fun xa H2 za h2 s2 => ?_⟩
      refine ⟨.ref p, rfl, p, 7, rfl, h2, by decide, by decide, fun ya H3 y0a y7a h3 s3 => ⟨_, _, rfl, rfl, ?_⟩⟩
      have zza : Sz 151 (1 + ya) := sz_mono (n := 4) (by show (1 + ya).natAbs < 2 ^ 4; omega) (by decide)
      have b0a : 0 < 1 + ya := by omega
      refine ⟨_, _, rfl, b0a, sz_mono za (by decide), sz_mono zza (by decide), fun H4 va s4 hva => ?_⟩
      have h4 := h3.same s4
      refine ⟨.ref p, rfl, p, rfl, h4, fun xb H5 zb h5 s5 => ?_⟩
      refine ⟨.ref p, rfl, p, 7, rfl, h5, by decide, by decide, fun yb H6 y0b y7b h6 s6 => ⟨_, _, rfl, rfl, ?_⟩⟩
      have zzb : Sz 151 (1 + yb) := sz_mono (n := 4) (by show (1 + yb).natAbs < 2 ^ 4; omega) (by decide)
      have b0b : 0 < 1 + yb := by omega
      refine ⟨_, _, rfl, b0b, sz_mono zb (by decide), sz_mono zzb (by decide), fun H7 vb s7 hvb => ?_⟩
      have h7 := h6.same s7
      refine ⟨(by show 2 ≤ sizeLine; decide), fun a na => ?_⟩
      have sn := PB.same_new (o := .tup [va, vb]) na
      refine q (_, _) _ _ ⟨⟨⟨norm_rat b0a, norm_rat b0b⟩, ⟨szr_norm b0a za zza, szr_norm b0b zb zzb⟩⟩, norm420 b0a (by omega), norm420 b0b (by omega)⟩ (dp_mk2 na (Dp_same s7 (h5.dp s6 (noL_r _) (h4.dp s5 (noL_r _) hva))) hvb) (h7.same sn) ?_
      exact ((((((s1.trans s2).trans s3).trans (Same.but s4)).trans s5).trans s6).trans (Same.but s7)).trans (Same.but sn)
abbrev s_law_of : Stmt := topS 82
theorem sc_law_of : FnScope ["_law_x", "_law_y", "_law_share"] ["_law_x", "_law_y", "_law_share"] (defScope s_law_of) := ⟨rfl, rfl, rfl, by decide +kernel, rfl, by decide +kernel, by decide +kernel⟩
theorem ok_law_of (T : Txt K mg "_law_of" s_law_of) (G_law_ratio : DefOk P w K mg base CX0 "_law_ratio" 2 ["_law_top_here", "_law_bottom_here"] (spLow K)) : DefOk P w K mg base CX0 "_law_of" 3 ["_law_x", "_law_y", "_law_share"] (spOf K) := by
  obtain ⟨f, fd, F, gf⟩ := T
  refine ⟨f, fd, gf, F.kp, F.binds (fun _ _ _ _ _ _ us hl => match us, hl with | [_, _, _], _ => rfl), F.ok sc_law_of (fun vs H Q E h => ?_) (fun cdv A outer s H vs Q E hr h => ?_)⟩
  · obtain ⟨x, y, s_, rfl, _⟩ := h; rfl
  · obtain ⟨x, y, s_, rfl, s0, zx, zy, zs, q⟩ := h
    refine ⟨_, (pss_one (ps_ret (pe_tup (pa_cons (pe_def G_law_ratio (hr.mono (by decide)) (by rfl) (pa_cons (pv 0) (pa_cons (pv 2) pa_nil))) (pa_cons (pe_def G_law_ratio (hr.mono (by decide)) (by rfl) (pa_cons (pv 1) (pa_cons (pv 2) pa_nil))) pa_nil))))), ?_⟩
    refine ⟨_, rfl, _, rfl, x, s_, rfl, s0, sz_mono zx (by decide), sz_mono zs (by decide), fun H1 v s1 hv => ?_⟩
    refine ⟨_, rfl, _, rfl, y, s_, rfl, s0, sz_mono zy (by decide), sz_mono zs (by decide), fun H2 u s2 hu => ⟨(by show 2 ≤ sizeLine; decide), fun a na => ?_⟩⟩
    exact q _ _ ((s1.trans s2).trans (PB.same_new na)) (dp_mk2 na (Dp_same s2 hv) hu)
abbrev s_law_spots : Stmt := topS 88
theorem sc_law_spots : FnScope ["_law_hand_here", "_law_most", "_law_many", "_law_kind", "_law_wide", "_law_turn"] ["_law_hand_here", "_law_most"] (defScope s_law_spots) := ⟨rfl, rfl, rfl, by decide +kernel, rfl, by decide +kernel, by decide +kernel⟩
theorem ok_law_spots (T : Txt K mg "_law_spots" s_law_spots) (G_law_take : DefOk P w K mg base CX0 "_law_take" 2 ["_law_hand_here", "_law_many"] spTake) (G_law_place : DefOk P w K mg base CX0 "_law_place" 4 ["_law_hand_here"] (spDrawL K)) (G_law_of : DefOk P w K mg base CX0 "_law_of" 3 ["_law_x", "_law_y", "_law_share"] (spOf K)) (mrange : mg "range" = none) : DefOk P w K mg base CX0 "_law_spots" 5 ["_law_hand_here", "_law_most"] (spSpots K) := by
  obtain ⟨f, fd, F, gf⟩ := T
  refine ⟨f, fd, gf, F.kp, F.binds (fun _ _ _ _ _ _ us hl => match us, hl with | [_, _], _ => rfl), F.ok sc_law_spots (fun vs H Q E h => ?_) (fun cdv A outer s H vs Q E hr h => ?_)⟩
  · obtain ⟨p, m, rfl, _⟩ := h; rfl
  · obtain ⟨p, m, rfl, m0, m9, hH, q⟩ := h
    refine ⟨_, (pss_cons (ps_set (i := 2) sc_law_spots.nd rfl (.inl rfl) (pe_op op_add pe_int (pe_def G_law_take (hr.mono (by decide)) (by rfl) (pa_cons (pv 0) (pa_cons (pv 1) pa_nil))))) (pss_cons (ps_set (i := 3) sc_law_spots.nd rfl (.inr rfl) (pe_def G_law_take (hr.mono (by decide)) (by rfl) (pa_cons (pv 0) (pa_cons pe_int pa_nil)))) (pss_cons (ps_if (pt_cmpR op_eq (pv 3) pe_int (nomark _)) (pss_one (ps_ret (pe_lc (own := [("_law_turn", 5)]) rfl sc_law_spots.nd (pi_range1 (by rfl) mrange (pa_cons (pv 2) pa_nil)) (blkOk_by (N := ["_law_hand_here", "_law_most", "_law_many", "_law_kind", "_law_wide", "_law_turn"]) (sc := defScope s_law_spots) (by decide +kernel)) (fun _ _ _ _ _ => (pg_name (i := 5) sc_law_spots.nd rfl (.inl rfl))) (fun _ _ _ _ _ => pts_nil) (fun _ _ _ _ _ => (pe_def G_law_place (hr.mono (by decide)) (by rfl) (pa_cons (pv 0) pa_nil)))))) pss_nil) (pss_cons (ps_set (i := 4) sc_law_spots.nd rfl (.inr rfl) (pe_ifExp (pt_cmpR op_eq (pv 3) pe_int (nomark _)) pe_int pe_int)) (pss_one (ps_ret (pe_lc (own := [("_law_turn", 5)]) rfl sc_law_spots.nd (pi_range1 (by rfl) mrange (pa_cons (pv 2) pa_nil)) (blkOk_by (N := ["_law_hand_here", "_law_most", "_law_many", "_law_kind", "_law_wide", "_law_turn"]) (sc := defScope s_law_spots) (by decide +kernel)) (fun _ _ _ _ _ => (pg_name (i := 5) sc_law_spots.nd rfl (.inl rfl))) (fun _ _ _ _ _ => pts_nil) (fun _ _ _ _ _ => (pe_def G_law_of (hr.mono (by decide)) (by rfl) (pa_cons (pe_def G_law_take (hr.mono (by decide)) (by rfl) (pa_cons (pv 0) (pa_cons (pv 4) pa_nil))) (pa_cons (pe_def G_law_take (hr.mono (by decide)) (by rfl) (pa_cons (pv 0) (pa_cons (pv 4) pa_nil))) (pa_cons (pv 3) pa_nil)))))))))))), ?_⟩
    refine ⟨.ref p, rfl, _, rfl, p, m, rfl, hH, by omega, by omega, fun k H1 k0 k9 h1 s1 => ⟨_, _, rfl, rfl, ?_⟩⟩
    have ek : (1 + k : Int) = ((k.toNat + 1 : Nat) : Int) := by omega
    show tSeq _ _ _ [some (.ref p), some (.int (m : Int)), some (.int (1 + k)), none, none, none] H1
    rw [ek]
    refine ⟨.ref p, rfl, p, 4, rfl, h1, by decide, by decide, fun kd H2 d0 d4 h2 s2 => ?_⟩
    have fin : ∀ (D : Addr) (G : Hp) (ys : List V) (ps : List Pl), ps.length = k.toNat + 1 → (∀ q ∈ ps, GoodL q) → H2 D = none → G D = some (.lst ys) → DpAll K G ys (ps.map pD) → HandAt G p → SameBut p H2 G → Q (.ref D) G := fun D G ys ps pl pg nD eD hA hG sG => by
      have ne := h2.neD nD
      have nH : H D = none := by
        cases e : H D with
        | none => rfl
        | some o => rw [(s1.trans s2).1 D o ne e] at nD; cases nD
      exact q G D ys ps (fun z => by rw [z] at pl; cases pl) (by omega) pg nH eD hA hG ((s1.trans s2).trans sG)
    refine ⟨_, rfl, rfl, _, rfl, ite2 (fun e => ?_) (fun e => ?_)⟩
    · dsimp only [tRet]
      refine lc_hand (K := K) (p := p) (k.toNat + 1) (by omega) (fun R hR => ⟨_, rfl, hR⟩) h2 (fun i G R hG hR => ?_) (fun D G ys ps pl pg nD eD hA hG sG => ?_)
      · exact ⟨rfl, .ref p, rfl, p, rfl, hG, fun r v G1 gr hv g1 t1 => hR r v G1 gr hv g1 t1⟩
      · exact fin D G ys ps pl pg nD eD hA hG sG
    have kd0 : kd ≠ 0 := fun z => e (by rw [z]; rfl)
    refine ⟨_, rfl, rfl, _, rfl, ite2 (fun e1 => ?_) (fun e1 => ?_)⟩
    · dsimp only [tRet, tC, tSeq, gName]
      refine lc_hand (K := K) (p := p) (k.toNat + 1) (by omega) (fun R hR => ⟨_, rfl, hR⟩) h2 (fun i G R hG hR => ?_) (fun D G ys ps pl pg nD eD hA hG sG => ?_)
      · refine ⟨rfl, .ref p, rfl, _, rfl, p, 3, rfl, hG, by decide, by decide, fun x G1 x0 x7 g1 t1 => ?_⟩
        refine ⟨.ref p, rfl, _, rfl, p, 3, rfl, g1, by decide, by decide, fun y G2 y0 y7 g2 t2 => ?_⟩
        have z5 : ∀ {z : Int}, 0 ≤ z → z < 8 → Sz 5 z := fun {z} a b => by show z.natAbs < 2 ^ 5; omega
        refine ⟨_, rfl, x, y, kd, rfl, by omega, z5 x0 (by omega), z5 y0 (by omega), z5 d0 (by omega), fun G3 v t3 hv => ?_⟩
        have kp : 0 < kd := by omega
        exact hR _ v G3 ⟨⟨⟨norm_rat kp, norm_rat kp⟩, ⟨szr_mono (szr_norm kp (z5 x0 (by omega)) (z5 d0 (by omega))) (by decide), szr_mono (szr_norm kp (z5 y0 (by omega)) (z5 d0 (by omega))) (by decide)⟩⟩, norm420 kp (by omega), norm420 kp (by omega)⟩ hv (g2.same t3) ((t1.trans t2).trans (Same.but t3))
      · exact fin D G ys ps pl pg nD eD hA hG sG
    · dsimp only [tRet, tC, tSeq, gName]
      refine lc_hand (K := K) (p := p) (k.toNat + 1) (by omega) (fun R hR => ⟨_, rfl, hR⟩) h2 (fun i G R hG hR => ?_) (fun D G ys ps pl pg nD eD hA hG sG => ?_)
      · refine ⟨rfl, .ref p, rfl, _, rfl, p, 7, rfl, hG, by decide, by decide, fun x G1 x0 x7 g1 t1 => ?_⟩
        refine ⟨.ref p, rfl, _, rfl, p, 7, rfl, g1, by decide, by decide, fun y G2 y0 y7 g2 t2 => ?_⟩
        have z5 : ∀ {z : Int}, 0 ≤ z → z < 8 → Sz 5 z := fun {z} a b => by show z.natAbs < 2 ^ 5; omega
        refine ⟨_, rfl, x, y, kd, rfl, by omega, z5 x0 (by omega), z5 y0 (by omega), z5 d0 (by omega), fun G3 v t3 hv => ?_⟩
        have kp : 0 < kd := by omega
        exact hR _ v G3 ⟨⟨⟨norm_rat kp, norm_rat kp⟩, ⟨szr_mono (szr_norm kp (z5 x0 (by omega)) (z5 d0 (by omega))) (by decide), szr_mono (szr_norm kp (z5 y0 (by omega)) (z5 d0 (by omega))) (by decide)⟩⟩, norm420 kp (by omega), norm420 kp (by omega)⟩ hv (g2.same t3) ((t1.trans t2).trans (Same.but t3))
      · exact fin D G ys ps pl pg nD eD hA hG sG
end
end F3
set_option Elab.async false
set_option linter.all false
set_option maxRecDepth 100000
set_option maxHeartbeats 4000000
set_option exponentiation.threshold 10000
namespace F3
open PySem PySem.Spec PyProof.Rows L2 FX RM PB KD KS
/-- a list or a tuple of places, told as tuples -/
def Rows (K : PySem.W.Frag) (H : Hp) (p : Addr) (xs : List V) (ps : List Pl) : Prop := (SqL K H p xs ∨ SqT K H p xs) ∧ DpAll K H xs (ps.map pD)
theorem Rows.same {K : PySem.W.Frag} {H H' : Hp} {p : Addr} {xs : List V} {ps : List Pl} (h : Rows K H p xs ps) (s : Same H H') : Rows K H' p xs ps := ⟨h.1.elim (fun z => .inl (s.seq z)) (fun z => .inr (same_t s z)), DpAll_same s h.2⟩
theorem Rows.len {K : PySem.W.Frag} {H : Hp} {p : Addr} {xs : List V} {ps : List Pl} (h : Rows K H p xs ps) : xs.length = ps.length := by rw [DpAll_len h.2, List.length_map]
theorem Rows.at {K : PySem.W.Frag} {H : Hp} {p : Addr} {xs : List V} {ps : List Pl} (h : Rows K H p xs ps) {i : Nat} {x : V} (e : xs[i]? = some x) : ∃ q, ps[i]? = some q ∧ q ∈ ps ∧ Dp K H x (pD q) := by
  obtain ⟨d, ed, hd⟩ := DpAll_at h.2 e
  rw [List.getElem?_map] at ed
  cases eq : ps[i]? with
  | none => rw [eq] at ed; cases ed
  | some q => rw [eq] at ed; cases ed; exact ⟨q, rfl, List.mem_of_getElem? eq, hd⟩
/-- a whole point -/
def iD (p : G4.Pt) : PyData := .tuple [.int p.1, .int p.2]
theorem noL_i (p : G4.Pt) : noL (iD p) = true := by simp [iD, noL, noLs]
def spBots (K : PySem.W.Frag) : Sp := fun vs H Q _ => ∃ (p : Addr) (xs : List V) (ps : List Pl) (M : Nat), vs = [.ref p] ∧ Rows K H p xs ps ∧ ps.length ≤ 60 ∧ 0 < M ∧ M < 2 ^ 200 ∧ (∀ q ∈ ps, GoodP 400 q ∧ BotM M q) ∧ ∀ H', Same H H' → Q (.int (lcmB 1 ps)) H'
def spWholesL (K : PySem.W.Frag) : Sp := fun vs H Q _ => ∃ (p : Addr) (xs : List V) (ps : List Pl) (N : Int), vs = [.ref p, .int N] ∧ Rows K H p xs ps ∧ ps.length ≤ 60 ∧ Sz 200 N ∧ (∀ q ∈ ps, GoodP 400 q) ∧ ∀ (H' : Hp) (D : Addr) (ys : List V), Same H H' → H D = none → H' D = some (.lst ys) → DpAll K H' ys (ps.map fun q => iD (sc N q)) → Q (.ref D) H'
theorem lcm_law {c b : Nat} (h : 0 < b) : ((c : Int) * (b : Int)) / ((Nat.gcd c b : Nat) : Int) = ((c.lcm b : Nat) : Int) := by
  unfold Nat.lcm
  rw [← Int.natCast_mul, Int.natCast_ediv]
theorem nat_of {b : Int} (h : 0 < b) : b = ((b.natAbs : Nat) : Int) := by omega
section
variable {P : Program} {w : World} {K : PySem.W.Frag} {mg : Str → Option Value} {base : Heap}
abbrev s_law_bottoms : Stmt := topS 75
theorem sc_law_bottoms : FnScope ["_law_places", "_law_common", "_law_place_here", "_law_number_here"] ["_law_places"] (defScope s_law_bottoms) := ⟨rfl, rfl, rfl, by decide +kernel, rfl, by decide +kernel, by decide +kernel⟩
theorem ok_law_bottoms (T : Txt K mg "_law_bottoms" s_law_bottoms) (G_law_gcd : DefOk P w K mg base CX0 "_law_gcd" 1 ["_law_one", "_law_other"] spGcd) : DefOk P w K mg base CX0 "_law_bottoms" 2 ["_law_places"] (spBots K) := by
  obtain ⟨f, fd, F, gf⟩ := T
  refine ⟨f, fd, gf, F.kp, F.binds (fun _ _ _ _ _ _ us hl => match us, hl with | [_], _ => rfl), F.ok sc_law_bottoms (fun vs H Q E h => ?_) (fun cdv A outer s H vs Q E hr h => ?_)⟩
  · obtain ⟨p, xs, ps, M, rfl, _⟩ := h; rfl
  · obtain ⟨p, xs, ps, M, rfl, hR, l6, M0, MZ, hg, q⟩ := h
    refine ⟨_, (pss_cons (ps_set (i := 1) sc_law_bottoms.nd rfl (.inl rfl) pe_int) (pss_cons (ps_for PassesOwn.never rfl (pi_seq (pv 0)) (pg_name (i := 2) sc_law_bottoms.nd rfl (.inl rfl)) (pss_one (ps_for PassesOwn.never rfl (pi_seq (pv 2)) (pg_name (i := 3) sc_law_bottoms.nd rfl (.inl rfl)) (pss_one (ps_set (i := 1) sc_law_bottoms.nd rfl (.inl rfl) (pe_op op_fdivW (pe_op op_mulW (pv 1) (pe_ix ix_it (pv 3) pe_int (fun _ _ => rfl))) (pe_def G_law_gcd (hr.mono (by decide)) (by rfl) (pa_cons (pv 1) (pa_cons (pe_ix ix_it (pv 3) pe_int (fun _ _ => rfl)) pa_nil))))))))) (pss_one (ps_ret (pv 1))))), ?_⟩
    show tSeq _ _ _ [some (.ref p), some (.int 1), none, none] H
    dsimp only [tSeq]
    refine for_seq (j := 0) hR.1 rfl (fun i σ H' => ∃ y2 y3 : Option V, σ = [some (.ref p), some (.int (lcmB 1 (ps.take i) : Nat)), y2, y3] ∧ Same H H') ⟨none, none, rfl, fun _ _ z => z⟩ (fun i σ H' ⟨_, _, _, z⟩ => z) ?_ ?_
    · rintro i x σ H' hx ⟨y2, y3, rfl, s1⟩
      obtain ⟨r, er, hr_, hd⟩ := hR.at hx
      have gq := hg r hr_
      have c0 : lcmB 1 (ps.take i) ∣ M := lcmB_dvd (Nat.one_dvd _) fun z hz => (hg z (List.mem_of_mem_take hz)).2
      have e1 : ps.take (i + 1) = ps.take i ++ [r] := by rw [List.take_add_one, er]; rfl
      rw [e1, lcmB_snoc]
      generalize lcmB 1 (ps.take i) = c at c0
      obtain ⟨t, vx, vy, rfl, hT, h1, h2⟩ := dp_t2 (Dp_same s1 hd)
      show tFor (iSeq K (tVar 2)) _ _ _ [some (.ref p), some (.int (c : Int)), some (.ref t), y3] H'
      have zc := sz_mono (sz_dvd c0 M0 MZ) (by decide : 200 ≤ 4000)
      have p1 := gq.1.1.1.1
      have p2 := gq.1.1.2.1
      have d1 := Nat.lcm_dvd c0 gq.2.1
      have z1 := sz_mono (sz_dvd gq.2.1 M0 MZ) (by decide : 200 ≤ 4000)
      have z2 := sz_mono (sz_dvd gq.2.2 M0 MZ) (by decide : 200 ≤ 4000)
      have zd := sz_mono (sz_dvd d1 M0 MZ) (by decide : 200 ≤ 4000)
      have gz : ∀ {a b : Nat}, 0 < b → Sz 4000 (b : Int) → Sz 4000 ((Nat.gcd a b : Nat) : Int) := fun {a b} hb hz => by
        show ((Nat.gcd a b : Nat) : Int).natAbs < 2 ^ 4000
        rw [Int.natAbs_natCast]
        exact Nat.lt_of_le_of_lt (Nat.gcd_le_right _ hb) (by have := hz; unfold Sz at this; rwa [Int.natAbs_natCast] at this)
      have st : ∀ {a : Nat} {b : Int}, 0 < b → (a : Int) * b / ((Nat.gcd (a : Int).natAbs b.natAbs : Nat) : Int) = ((a.lcm b.natAbs : Nat) : Int) := fun {a b} hb => by
        have e := nat_of hb
        generalize b.natAbs = m at e
        subst e
        rw [Int.natAbs_natCast]
        exact lcm_law (by omega)
      refine for_seq (j := 2) (.inr hT) rfl (fun k σ H2 => ∃ (y3 : Option V) (z : Nat), σ = [some (.ref p), some (.int (z : Int)), some (.ref t), y3] ∧ (k = 0 → z = c) ∧ (k = 1 → z = c.lcm r.1.2.natAbs) ∧ (k = 2 → z = c.lcm (r.1.2.natAbs.lcm r.2.2.natAbs)) ∧ Same H' H2) ⟨y3, c, rfl, (fun _ => rfl), (fun z => by cases z), (fun z => by cases z), fun _ _ z => z⟩ (fun k σ H2 ⟨_, _, _, _, _, _, z⟩ => z) ?_ ?_
      · rintro k v σ H2 hv ⟨y3, z, rfl, c1, c2, c3, s2⟩
        match k, hv with
        | 0, hv =>
          cases hv
          obtain rfl := c1 rfl
          have ha := cou_r (Dp_same s2 h1)
          have gp : (0 : Int) < ((Nat.gcd (z : Int).natAbs r.1.2.natAbs : Nat) : Int) := by
            have := Nat.gcd_pos_of_pos_right (z : Int).natAbs (show 0 < r.1.2.natAbs by omega)
            omega
          refine ⟨_, rfl, vx, rfl, _, _, 1, _, rfl, ha, rfl, _, _, rfl, rfl, wide_mul zc (sz_mono gq.1.2.1.2 (by decide : 400 ≤ 4000)) (by decide) (by decide) (by decide), _, rfl, vx, rfl, _, _, 1, _, rfl, ha, rfl, _, _, rfl, _, _, rfl, rfl, wide_div gp (gz (by omega) z1) (by decide) (by decide), ?_⟩
          exact ⟨some vx, z.lcm r.1.2.natAbs, by rw [← st p1]; rfl, fun e => (by cases e), fun _ => rfl, fun e => (by cases e), s2⟩
        | 1, hv =>
          cases hv
          obtain rfl := c2 rfl
          have ha := cou_r (Dp_same s2 h2)
          have gp : (0 : Int) < ((Nat.gcd ((c.lcm r.1.2.natAbs : Nat) : Int).natAbs r.2.2.natAbs : Nat) : Int) := by
            have := Nat.gcd_pos_of_pos_right ((c.lcm r.1.2.natAbs : Nat) : Int).natAbs (show 0 < r.2.2.natAbs by omega)
            omega
          refine ⟨_, rfl, vy, rfl, _, _, 1, _, rfl, ha, rfl, _, _, rfl, rfl, wide_mul zd (sz_mono gq.1.2.2.2 (by decide : 400 ≤ 4000)) (by decide) (by decide) (by decide), _, rfl, vy, rfl, _, _, 1, _, rfl, ha, rfl, _, _, rfl, _, _, rfl, rfl, wide_div gp (gz (by omega) z2) (by decide) (by decide), ?_⟩
          exact ⟨some vy, (c.lcm r.1.2.natAbs).lcm r.2.2.natAbs, by rw [← st p2]; rfl, fun e => (by cases e), fun e => (by cases e), fun _ => Nat.lcm_assoc _ _ _, s2⟩
        | k + 2, hv => cases hv
      · rintro σ H2 ⟨y3, z, rfl, _, _, c3, s2⟩
        obtain rfl := c3 rfl
        exact ⟨some (.ref t), y3, rfl, s1.trans s2⟩
    · rintro σ H' ⟨y2, y3, rfl, s1⟩
      rw [hR.len, List.take_length]
      exact ⟨_, rfl, q H' s1⟩
abbrev s_law_wholes : Stmt := topS 76
theorem sc_law_wholes : FnScope ["_law_places", "_law_common", "_law_place_here"] ["_law_places", "_law_common"] (defScope s_law_wholes) := ⟨rfl, rfl, rfl, by decide +kernel, rfl, by decide +kernel, by decide +kernel⟩
theorem ok_law_wholes (T : Txt K mg "_law_wholes" s_law_wholes)  : DefOk P w K mg base CX0 "_law_wholes" 1 ["_law_places", "_law_common"] (spWholesL K) := by
  obtain ⟨f, fd, F, gf⟩ := T
  refine ⟨f, fd, gf, F.kp, F.binds (fun _ _ _ _ _ _ us hl => match us, hl with | [_, _], _ => rfl), F.ok sc_law_wholes (fun vs H Q E h => ?_) (fun cdv A outer s H vs Q E hr h => ?_)⟩
  · obtain ⟨p, xs, ps, N, rfl, _⟩ := h; rfl
  · obtain ⟨p, xs, ps, N, rfl, hR, l6, zN, hg, q⟩ := h
    refine ⟨_, (pss_one (ps_ret (pe_lc (own := [("_law_place_here", 2)]) rfl sc_law_wholes.nd (pi_seq (pv 0)) (blkOk_by (N := ["_law_places", "_law_common", "_law_place_here"]) (sc := defScope s_law_wholes) (by decide +kernel)) (fun _ _ _ _ _ => (pg_name (i := 2) sc_law_wholes.nd rfl (.inl rfl))) (fun _ _ _ _ _ => pts_nil) (fun _ _ _ _ _ => (pe_tup (pa_cons (pe_op op_mulW (pe_ix (ix_itK K) (pe_ix (ix_itK K) (pv 2) pe_int (fun _ _ => rfl)) pe_int (fun _ _ => rfl)) (pe_op op_fdivW (pv 1) (pe_ix (ix_itK K) (pe_ix (ix_itK K) (pv 2) pe_int (fun _ _ => rfl)) pe_int (fun _ _ => rfl)))) (pa_cons (pe_op op_mulW (pe_ix (ix_itK K) (pe_ix (ix_itK K) (pv 2) pe_int (fun _ _ => rfl)) pe_int (fun _ _ => rfl)) (pe_op op_fdivW (pv 1) (pe_ix (ix_itK K) (pe_ix (ix_itK K) (pv 2) pe_int (fun _ _ => rfl)) pe_int (fun _ _ => rfl)))) pa_nil))))))), ?_⟩
    have xz : xs.length < sizeLine := small1000 (by have := hR.len; omega)
    dsimp only [tRet]
    refine lc_map (K := K) (a := p) (xs := xs) (j := 0) (fun i => iD (sc N (ps.getD i zP))) (fun i => noL_i _) (by rfl) hR.1 xz (fun i x G R ex sx hR2 => ?_) fun D G ws s2 n2 e2 h2 => ?_
    · obtain ⟨r, er, hr_, hd⟩ := hR.at ex
      have e : ps.getD i zP = r := by rw [List.getD_eq_getElem?_getD, er]; rfl
      (try dsimp only at hR2)
      rw [e] at hR2
      obtain ⟨t, vx, vy, rfl, hT, h1, h2⟩ := dp_t2 (Dp_same sx hd)
      have gq := hg r hr_
      have m4 : ∀ {z : Int}, Sz 400 z → Sz 4000 z := fun z => sz_mono z (by decide)
      have cx := cou_r h1
      have cy := cou_r h2
      have ct : Cou K G (.ref t) vx vy := ⟨t, rfl, .inl hT⟩
      have zd : ∀ {b : Int}, 0 < b → Sz 400 b → Sz 200 (N / b) := fun {b} hb hz => Nat.lt_of_le_of_lt (Int.natAbs_ediv_le_natAbs _ _) zN
      refine ⟨rfl, .ref t, rfl, vx, vy, 0, _, rfl, ct, rfl, _, _, 0, _, rfl, cx, rfl, _, rfl, .ref t, rfl, vx, vy, 0, _, rfl, ct, rfl, _, _, 1, _, rfl, cx, rfl, _, _, rfl, rfl, wide_div gq.1.1.1 (m4 gq.2.1.2) (by decide) (by decide), _, _, rfl, rfl, wide_mul (m4 gq.2.1.1) (zd gq.1.1.1 gq.2.1.2) (by decide) (by decide) (by decide), ?_⟩
      refine ⟨.ref t, rfl, vx, vy, 1, _, rfl, ct, rfl, _, _, 0, _, rfl, cy, rfl, _, rfl, .ref t, rfl, vx, vy, 1, _, rfl, ct, rfl, _, _, 1, _, rfl, cy, rfl, _, _, rfl, rfl, wide_div gq.1.2.1 (m4 gq.2.2.2) (by decide) (by decide), _, _, rfl, rfl, wide_mul (m4 gq.2.2.1) (zd gq.1.2.1 gq.2.2.2) (by decide) (by decide) (by decide), (by show 2 ≤ sizeLine; decide), fun b nb => ?_⟩
      exact hR2 _ _ (PB.same_new nb) (.tup (.inl (.inl upd_same)) (.cons (.int _) (.cons (.int _) .nil)))
    refine q G D ws s2 n2 e2 ?_
    rw [← range_get ps zP, ← hR.len]
    exact h2
end
end F3
set_option Elab.async false
set_option linter.all false
set_option maxRecDepth 100000
set_option maxHeartbeats 4000000
set_option exponentiation.threshold 10000
namespace F3
open PySem PySem.Spec PyProof.Rows L2 FX RM PB KD KS
theorem pushG_mem {p q : G4.Pt} : ∀ {st : List G4.Pt}, q ∈ G4.push p st → q = p ∨ q ∈ st
  | [], h => .inl (List.mem_singleton.mp h)
  | [y], h => by
    rcases List.mem_cons.mp h with h | h
    · exact .inl h
    · exact .inr h
  | y :: x :: r, h => by
    unfold G4.push at h
    split at h
    · rcases pushG_mem h with h | h
      · exact .inl h
      · exact .inr (List.mem_cons_of_mem _ h)
    · rcases List.mem_cons.mp h with h | h
      · exact .inl h
      · exact .inr h
theorem stG_mem {q : G4.Pt} : ∀ {l s : List G4.Pt}, q ∈ l.foldl (fun s p => G4.push p s) s → q ∈ l ∨ q ∈ s
  | [], _, h => .inr h
  | p :: l, s, h => by
    have h : q ∈ l.foldl (fun s p => G4.push p s) (G4.push p s) := h
    rcases stG_mem h with h | h
    · exact .inl (List.mem_cons_of_mem _ h)
    · rcases pushG_mem h with h | h
      · exact .inl (h ▸ List.mem_cons_self ..)
      · exact .inr h
theorem pushG_len (p : G4.Pt) : ∀ st : List G4.Pt, (G4.push p st).length ≤ st.length + 1
  | [] => Nat.le_refl _
  | [y] => Nat.le_refl _
  | y :: x :: r => by
    unfold G4.push
    split
    · have := pushG_len p (x :: r)
      simp at this ⊢
      omega
    · simp
theorem stG_len : ∀ (l s : List G4.Pt), (l.foldl (fun s p => G4.push p s) s).length ≤ l.length + s.length
  | [], s => by simp
  | p :: l, s => by
    have := stG_len l (G4.push p s)
    have := pushG_len p s
    rw [List.foldl_cons, List.length_cons]
    omega

def stG (l : List G4.Pt) : List G4.Pt := l.foldl (fun s p => G4.push p s) []
theorem stG_chain (l : List G4.Pt) : (stG l).reverse = G4.chain l := rfl
theorem noLs_i (ds : List G4.Pt) : noLs (ds.map iD) = true := noLs_all fun d hd => by
  obtain ⟨x, _, rfl⟩ := List.mem_map.mp hd
  exact noL_i x
theorem sz_dif {n : Nat} {a b : Int} (ha : Sz n a) (hb : Sz n b) : Sz (n + 1) (a - b) := by
  have h : (a - b).natAbs ≤ a.natAbs + b.natAbs := by omega
  show (a - b).natAbs < 2 ^ (n + 1)
  rw [Nat.pow_succ]
  have : a.natAbs < 2 ^ n := ha
  have : b.natAbs < 2 ^ n := hb
  omega
def SzT (n : Nat) (p : G4.Pt) : Prop := Sz n p.1 ∧ Sz n p.2
def spHalf2 (K : PySem.W.Frag) : Sp := fun vs H Q _ => ∃ (p : Addr) (xs : List V) (os : List G4.Pt), vs = [.ref p] ∧ SqL K H p xs ∧ DpAll K H xs (os.map iD) ∧ os.length ≤ 60 ∧ (∀ q ∈ os, SzT 1000 q) ∧ ∀ (H' : Hp) (c : Addr) (ys : List V), Same H H' → H c = none → H' c = some (.lst ys) → DpAll K H' ys ((G4.chain os).dropLast.map iD) → Q (.ref c) H'
section
variable {P : Program} {w : World} {K : PySem.W.Frag} {mg : Str → Option Value} {base : Heap}
abbrev s_law_half : Stmt := topS 77
theorem sc_law_half : FnScope ["_law_rows", "_law_kept", "_law_row", "_law_one", "_law_other"] ["_law_rows"] (defScope s_law_half) := ⟨rfl, rfl, rfl, by decide +kernel, rfl, by decide +kernel, by decide +kernel⟩
theorem ok_law_half (T : Txt K mg "_law_half" s_law_half) (mlen : mg "len" = none) : DefOk P w K mg base CX0 "_law_half" 1 ["_law_rows"] (spHalf2 K) := by
  obtain ⟨f, fd, F, gf⟩ := T
  refine ⟨f, fd, gf, F.kp, F.binds (fun _ _ _ _ _ _ us hl => match us, hl with | [_], _ => rfl), F.ok sc_law_half (fun vs H Q E h => ?_) (fun cdv A outer s H vs Q E hr h => ?_)⟩
  · obtain ⟨p, xs, os, rfl, _⟩ := h; rfl
  · obtain ⟨p, xs, os, rfl, hS, hD, l6, hG, q⟩ := h
    refine ⟨_, (pss_cons (ps_set (i := 1) sc_law_half.nd rfl (.inl rfl) (pe_lst pa_nil)) (pss_cons (ps_for PassesOwn.never rfl (pi_list (pv 0)) (pg_name (i := 2) sc_law_half.nd rfl (.inl rfl)) (pss_cons (ps_while PassesOwn.never (pt_cmpR op_gt (pe_callB call_len_seq (by rfl) mlen PySem.boot_len (pa_cons (pv 1) pa_nil)) pe_int (nomark _)) (pss_cons (ps_par (i := 3) (j := 4) rfl sc_law_half.nd rfl rfl (by decide) rfl rfl (pa_cons (pe_ix ix_list (pv 1) (pe_un un_neg pe_int) (fun _ _ => rfl)) (pa_cons (pe_ix ix_list (pv 1) (pe_un un_neg pe_int) (fun _ _ => rfl)) pa_nil)) rfl) (pss_cons (ps_if (pt_cmpR op_gt (pe_op op_mulW (pe_op op_sub (pe_ix ix_it (pv 4) pe_int (fun _ _ => rfl)) (pe_ix ix_it (pv 3) pe_int (fun _ _ => rfl))) (pe_op op_sub (pe_ix ix_it (pv 2) pe_int (fun _ _ => rfl)) (pe_ix ix_it (pv 3) pe_int (fun _ _ => rfl)))) (pe_op op_mulW (pe_op op_sub (pe_ix ix_it (pv 4) pe_int (fun _ _ => rfl)) (pe_ix ix_it (pv 3) pe_int (fun _ _ => rfl))) (pe_op op_sub (pe_ix ix_it (pv 2) pe_int (fun _ _ => rfl)) (pe_ix ix_it (pv 3) pe_int (fun _ _ => rfl)))) (nomark _)) (pss_one ps_break) pss_nil) (pss_one (ps_set (i := 1) sc_law_half.nd rfl (.inl rfl) (pe_slice sl_list (pv 1) po_none (po_some (pe_un un_neg pe_int)))))))) (pss_one (ps_expr (pe_bm PySem.F.plainAttrs_list PySem.F.slot_list_append PySem.F.type_list_append mt_append (pv 1) (pa_cons (pv 2) pa_nil)))))) (pss_one (ps_ret (pe_slice sl_list (pv 1) po_none (po_some (pe_un un_neg pe_int))))))), ?_⟩
    refine ⟨(by show 0 ≤ sizeLine; decide), fun c nc => ?_⟩
    have s0 := PB.same_new (o := .lst []) nc
    have lx : xs.length = os.length := by rw [DpAll_len hD, List.length_map]
    refine ⟨.ref p, rfl, p, rfl, ⟨_, s0.seq hS⟩, for_list (K := K) (a := p) (xs := xs) (fun i σ H' => ∃ (c : Addr) (y y3 y4 : Option V) (ys : List V), σ = [some (.ref p), some (.ref c), y, y3, y4] ∧ Same H H' ∧ H c = none ∧ H' c = some (.lst ys) ∧ DpAll K H' ys ((stG (os.take i)).reverse.map iD))
      ⟨c, none, none, none, [], rfl, s0, nc, upd_same, .nil⟩ (fun i σ H' _ ⟨_, _, _, _, _, _, s1, _⟩ => s1.seq hS) ?_ ?_⟩
    · rintro i x σ H1 hi ⟨c, y, y3, y4, ys, rfl, s1, nc, eD, hY⟩
      have il : i < os.length := by rw [← lx]; exact (List.getElem?_eq_some_iff.mp hi).1
      have gi := hG os[i] (List.getElem_mem il)
      obtain ⟨d, ed, hx⟩ := DpAll_at hD hi
      rw [List.getElem?_map, List.getElem?_eq_getElem il] at ed
      cases ed
      have ges : ∀ q ∈ stG (os.take i), SzT 1000 q := fun q hq => by
        rcases stG_mem hq with h | h
        · exact hG q (List.mem_of_mem_take h)
        · exact nomatch h
      have les : (stG (os.take i)).length ≤ i := by
        have := stG_len (os.take i) []
        rw [List.length_take] at this
        have e : (stG (os.take i)).length = ((os.take i).foldl (fun s p => G4.push p s) []).length := rfl
        simp at this
        omega
      have enx : stG (os.take (i + 1)) = G4.push os[i] (stG (os.take i)) := by
        rw [List.take_succ_eq_append_getElem il]
        unfold stG
        rw [List.foldl_append]
        rfl
      rw [enx]
      generalize os[i] = o at gi hx enx ⊢
      generalize stG (os.take i) = st0 at hY ges les enx ⊢
      clear enx
      refine ⟨fun m σ H2 => ∃ (c : Addr) (st : List G4.Pt) (zs : List V) (y3 y4 : Option V), m = st.length ∧ σ = [some (.ref p), some (.ref c), some x, y3, y4] ∧ Same H H2 ∧ H c = none ∧ H2 c = some (.lst zs) ∧ DpAll K H2 zs (st.reverse.map iD) ∧ G4.push o st = G4.push o st0 ∧ (∀ q ∈ st, SzT 1000 q) ∧ st.length ≤ 60, ⟨_, c, st0, ys, y3, y4, rfl, rfl, s1, nc, eD, hY, rfl, ges, by omega⟩, ?_⟩
      clear y3 y4 hY eD nc c
      rintro m σ H2 ⟨c, st, zs, y3, y4, rfl, rfl, s2, nc, eZ, hZ, ep, gs, l6s⟩
      have zl : zs.length = st.length := by rw [DpAll_len hZ, List.length_map, List.length_reverse]
      have fin : ∀ (y3 y4 : Option V), G4.push o st = o :: st → tDrop (tBM K "list" rAppend (tVar 1) (tCons (tVar 2) tNil)) { nx := fun σ H' => ∃ (c : Addr) (y y3 y4 : Option V) (ys : List V), σ = [some (.ref p), some (.ref c), y, y3, y4] ∧ Same H H' ∧ H c = none ∧ H' c = some (.lst ys) ∧ DpAll K H' ys ((G4.push o st0).reverse.map iD), rt := Q } [some (.ref p), some (.ref c), some x, y3, y4] H2 := fun y3 y4 eo => by
        refine ⟨_, rfl, .inl ⟨rfl, _, .inl (.inl eZ)⟩, _, rfl, c, zs, x, rfl, rfl, eZ, small1000 (by omega), c, some x, y3, y4, _, rfl, fun b u e => ?_, nc, upd_same, ?_⟩
        · rw [upd_ne (ne_of_none e nc)]; exact s2 b u e
        · rw [← ep, eo, List.reverse_cons, List.map_append]
          exact DpAll_but eZ (fun b u n e => by rw [upd_ne n]; exact e) (by rw [← List.map_append]; exact noLs_i _) (DpAll_snoc (Dp_same s2 hx) hZ)
      refine ⟨_, rfl, c, zs, rfl, .inl (.inl (.inl eZ)), _, _, rfl, rfl, _, rfl, ?_⟩
      match st, zl, hZ, ep, gs, l6s, fin with
      | [], zl, hZ, ep, gs, l6s, fin =>
        exact itF (decide_eq_false (by rw [zl]; simp)) (fin _ _ rfl)
      | [y1], zl, hZ, ep, gs, l6s, fin =>
        exact itF (decide_eq_false (by rw [zl]; simp)) (fin _ _ rfl)
      | y1 :: x1 :: r, zl, hZ, ep, gs, l6s, fin =>
        have hZ0 := hZ
        rw [List.reverse_cons, List.reverse_cons, List.append_assoc, List.map_append] at hZ
        obtain ⟨ws, v2, v1, ez, hW, hv2, hv1⟩ := dp_snoc2 (a := iD x1) (b := iD y1) hZ
        obtain ⟨a2, a1⟩ := atI_2 ws v2 v1
        rw [← ez] at a1 a2
        have gx1 := gs x1 (by simp)
        have gy1 := gs y1 (by simp)
        refine itT (decide_eq_true (by rw [zl]; simp; omega)) ⟨fun σ' H' => ∃ (c : Addr) (st : List G4.Pt) (zs : List V) (y3 y4 : Option V), st.length < (y1 :: x1 :: r).length ∧ σ' = [some (.ref p), some (.ref c), some x, y3, y4] ∧ Same H H' ∧ H c = none ∧ H' c = some (.lst zs) ∧ DpAll K H' zs (st.reverse.map iD) ∧ G4.push o st = G4.push o st0 ∧ (∀ q ∈ st, SzT 1000 q) ∧ st.length ≤ 60, fun σ' H' ⟨c, st, zs, y3, y4, lt, k⟩ => ⟨_, lt, c, st, zs, y3, y4, rfl, k⟩, ?_⟩
        refine ⟨_, rfl, _, rfl, c, zs, -2, v2, rfl, rfl, .inl (.inl eZ), a2, _, rfl, _, rfl, c, zs, -1, v1, rfl, rfl, .inl (.inl eZ), a1, _, _, rfl, ?_⟩
        have k1 : Cou K H2 v1 (.int y1.1) (.int y1.2) := cou_r hv1
        have k2 : Cou K H2 v2 (.int x1.1) (.int x1.2) := cou_r hv2
        have k0 : Cou K H2 x (.int o.1) (.int o.2) := cou_r (Dp_same s2 hx)
        refine ⟨v1, rfl, _, _, 0, _, rfl, k1, rfl, v2, rfl, _, _, 0, _, rfl, k2, rfl, _, _, rfl, rfl, x, rfl, _, _, 1, _, rfl, k0, rfl, v2, rfl, _, _, 1, _, rfl, k2, rfl, _, _, rfl, rfl, _, _, rfl, rfl, wide_mul (sz_dif gy1.1 gx1.1) (sz_dif gi.2 gx1.2) (by decide) (by decide) (by decide), 
          v1, rfl, _, _, 1, _, rfl, k1, rfl, v2, rfl, _, _, 1, _, rfl, k2, rfl, _, _, rfl, rfl, x, rfl, _, _, 0, _, rfl, k0, rfl, v2, rfl, _, _, 0, _, rfl, k2, rfl, _, _, rfl, rfl, _, _, rfl, rfl, wide_mul (sz_dif gy1.2 gx1.2) (sz_dif gi.1 gx1.1) (by decide) (by decide) (by decide), _, _, rfl, rfl, _, rfl, ite2 (fun e => ?_) (fun e => ?_)⟩
        · have e' := of_decide_eq_true e
          have cc : ¬ G4.cr x1 y1 o ≤ 0 := by unfold G4.cr; omega
          exact fin _ _ (if_neg cc)
        · have e' : ¬ ((y1.2 - x1.2) * (o.1 - x1.1) < (y1.1 - x1.1) * (o.2 - x1.2)) := fun z => e (decide_eq_true z)
          have cc : G4.cr x1 y1 o ≤ 0 := by unfold G4.cr; omega
          have e1 : G4.push o (y1 :: x1 :: r) = G4.push o (x1 :: r) := if_pos cc
          refine ⟨_, rfl, 1, rfl, _, rfl, c, zs, rfl, .inl (.inl eZ), fun r1 nr1 => ?_⟩
          have sr := PB.same_new (o := .lst (cutV zs none (some (-1)))) nr1
          have nr0 : H r1 = none := by
            cases e9 : H r1 with
            | none => rfl
            | some u => rw [s2 _ _ e9] at nr1; cases nr1
          refine ⟨r1, x1 :: r, zs.dropLast, some v2, some v1, by simp, rfl, s2.trans sr, nr0, by rw [← cut_last]; exact upd_same, ?_, by rw [← e1]; exact ep, fun q hq => gs q (List.mem_cons_of_mem _ hq), by simp at l6s ⊢; omega⟩
          have e5 : ((x1 :: r).reverse.map iD) = ((y1 :: x1 :: r).reverse.map iD).dropLast := by
            rw [List.reverse_cons (a := y1), List.map_append]; simp
          rw [e5]
          exact dp_dropLast (DpAll_same sr hZ0)
    rintro σ H' ⟨c, y, y3, y4, ys, rfl, s1, nc, eD, hY⟩
    rw [lx, List.take_length] at hY
    refine ⟨_, rfl, 1, rfl, _, rfl, c, ys, rfl, .inl (.inl eD), fun r1 nr1 => ?_⟩
    have sr := PB.same_new (o := .lst (cutV ys none (some (-1)))) nr1
    have nr0 : H r1 = none := by
      cases e9 : H r1 with
      | none => rfl
      | some u => rw [s1 _ _ e9] at nr1; cases nr1
    refine q _ r1 _ (s1.trans sr) nr0 upd_same ?_
    have z := dp_dropLast (DpAll_same sr hY)
    rw [← cut_last] at z
    rw [List.map_dropLast, ← stG_chain]
    exact z
end
end F3
set_option Elab.async false
set_option linter.all false
set_option maxRecDepth 100000
set_option maxHeartbeats 4000000
set_option exponentiation.threshold 10000
namespace F3
open PySem PySem.Spec PyProof.Rows L2 FX RM PB KD KS
open PySem.W (dataLe keyToks keyToksAll)
open G4 (Pt lx)
/-- strictly ascending lists of the same points are the same -/
theorem asc_eq : ∀ {l m : List Pt}, l.Pairwise lx → m.Pairwise lx → (∀ x, x ∈ l ↔ x ∈ m) → l = m
  | [], [], _, _, _ => rfl
  | [], b :: m, _, _, h => nomatch (h b).mpr (List.mem_cons_self ..)
  | a :: l, [], _, _, h => nomatch (h a).mp (List.mem_cons_self ..)
  | a :: l, b :: m, hl, hm, h => by
    rw [List.pairwise_cons] at hl hm
    have ab : a = b := by
      rcases List.mem_cons.mp ((h a).mp (List.mem_cons_self ..)) with e | e
      · exact e
      · rcases List.mem_cons.mp ((h b).mpr (List.mem_cons_self ..)) with e2 | e2
        · exact e2.symm
        · exact absurd (G4.lx_trans (hm.1 a e) (hl.1 b e2)) (G4.lx_irrefl b)
    subst ab
    rw [asc_eq hl.2 hm.2 fun x => ⟨fun hx => ?_, fun hx => ?_⟩]
    · rcases List.mem_cons.mp ((h x).mp (List.mem_cons_of_mem _ hx)) with e | e
      · subst e; exact absurd (hl.1 x hx) (G4.lx_irrefl x)
      · exact e
    · rcases List.mem_cons.mp ((h x).mpr (List.mem_cons_of_mem _ hx)) with e | e
      · subst e; exact absurd (hm.1 x hx) (G4.lx_irrefl x)
      · exact e
/-- equals kept once -/
def dd : List Pt → List Pt → List Pt
  | acc, [] => acc
  | acc, x :: xs => dd (if acc = [] ∨ acc.getLast? ≠ some x then acc ++ [x] else acc) xs
def leP (a b : Pt) : Prop := a = b ∨ lx a b
theorem dd_ok : ∀ {xs acc : List Pt}, acc.Pairwise lx → xs.Pairwise leP → (∀ a ∈ acc, ∀ x ∈ xs, leP a x) → (dd acc xs).Pairwise lx ∧ ∀ q, q ∈ dd acc xs ↔ q ∈ acc ∨ q ∈ xs
  | [], acc, ha, _, _ => ⟨ha, fun q => by simp [dd]⟩
  | x :: xs, acc, ha, hx, h => by
    rw [List.pairwise_cons] at hx
    unfold dd
    split
    · rename_i c
      have hl : ∀ a ∈ acc, lx a x := fun a hm => by
        rcases h a hm x (List.mem_cons_self ..) with e | e
        · subst e
          rcases c with c | c
          · rw [c] at hm; cases hm
          · obtain ⟨init, z, ez⟩ : ∃ init z, acc = init ++ [z] := ⟨acc.dropLast, acc.getLast (List.ne_nil_of_mem hm), (List.dropLast_concat_getLast (List.ne_nil_of_mem hm)).symm⟩
            rw [ez] at hm ha c
            rw [List.pairwise_append] at ha
            rcases List.mem_append.mp hm with hm | hm
            · rcases h z (by rw [ez]; simp) a (List.mem_cons_self ..) with e | e
              · rw [e] at c; simp at c
              · exact absurd (G4.lx_trans (ha.2.2 a hm z (by simp)) e) (G4.lx_irrefl a)
            · rw [List.mem_singleton.mp hm] at c; simp at c
        · exact e
      have ha2 : (acc ++ [x]).Pairwise lx := List.pairwise_append.mpr ⟨ha, List.pairwise_singleton _ _, fun a hm b hb => by rw [List.mem_singleton.mp hb]; exact hl a hm⟩
      obtain ⟨r1, r2⟩ := dd_ok (xs := xs) ha2 hx.2 fun a hm y hy => by
        rcases List.mem_append.mp hm with hm | hm
        · exact h a hm y (List.mem_cons_of_mem _ hy)
        · rw [List.mem_singleton.mp hm]; exact hx.1 y hy
      refine ⟨r1, fun q => (r2 q).trans ?_⟩
      simp [or_assoc]
    · rename_i c
      obtain ⟨r1, r2⟩ := dd_ok (xs := xs) ha hx.2 fun a hm y hy => h a hm y (List.mem_cons_of_mem _ hy)
      refine ⟨r1, fun q => (r2 q).trans ⟨fun z => z.elim .inl fun z => .inr (List.mem_cons_of_mem _ z), fun z => ?_⟩⟩
      rcases z with z | z
      · exact .inl z
      · rcases List.mem_cons.mp z with rfl | z
        · refine .inl ?_
          have : acc.getLast? = some q := by
            cases e : acc.getLast? with
            | none => exact absurd (.inl (List.getLast?_eq_none_iff.mp e)) c
            | some u => 
              by_cases k : u = q
              · rw [k]
              · exact absurd (.inr (by rw [e]; exact fun z => k (Option.some.inj z))) c
          exact List.mem_of_getLast? this
        · exact .inr z
theorem dd_len : ∀ (xs acc : List Pt), (dd acc xs).length ≤ acc.length + xs.length
  | [], acc => Nat.le_refl _
  | x :: xs, acc => by
    unfold dd
    have := dd_len xs (if acc = [] ∨ acc.getLast? ≠ some x then acc ++ [x] else acc)
    split at this
    · rw [if_pos (by assumption)]; simp at this ⊢; omega
    · rw [if_neg (by assumption)]; simp at this ⊢; omega
/-- the sorted whole points -/
theorem toks_i (p : Pt) : keyToks (iD p) = .inl 1 :: .inl p.1 :: .inl 1 :: .inl p.2 :: (keyToks (iD p)).drop 4 := by
  simp [iD, keyToks, keyToksAll]
theorem toks_i' (p : Pt) : ∃ l, keyToks (iD p) = .inl 1 :: .inl p.1 :: .inl 1 :: .inl p.2 :: l := ⟨_, toks_i p⟩
theorem iD_le {a b : Pt} (h : (!PyProof.Rows.lexLt PyProof.Rows.itemOrd (keyToks (iD b)) (keyToks (iD a))) = true) : leP a b := by
  obtain ⟨la, ea⟩ := toks_i' a
  obtain ⟨lb, eb⟩ := toks_i' b
  rw [ea, eb, PyProof.Rows.lex_self] at h
  have q1 : ¬ b.1 < a.1 := fun z => by rw [lex1 _ _ z] at h; cases h
  rcases Int.lt_trichotomy a.1 b.1 with c | c | c
  · exact .inr (.inl c)
  · rw [c, PyProof.Rows.lex_self, PyProof.Rows.lex_self] at h
    have q2 : ¬ b.2 < a.2 := fun z => by rw [lex1 _ _ z] at h; cases h
    rcases Int.lt_trichotomy a.2 b.2 with d | d | d
    · exact .inr (.inr ⟨c, d⟩)
    · exact .inl (Prod.ext c d)
    · exact absurd d q2
  · exact absurd c q1
def getT : PyData → Pt
  | .tuple [.int a, .int b] => (a, b)
  | _ => (0, 0)
theorem alike_i (us : List Pt) : PySem.W.AllAlike (us.map iD) := fun x hx y hy => by
  obtain ⟨a, _, rfl⟩ := List.mem_map.mp hx
  obtain ⟨b, _, rfl⟩ := List.mem_map.mp hy
  simp [iD, PySem.W.alike, PySem.W.alikeAll]
theorem sortable_i (us : List Pt) : PySem.W.Sortable (us.map iD) := .inl fun x hx => by
  obtain ⟨a, _, rfl⟩ := List.mem_map.mp hx
  exact ⟨_, _, rfl⟩
theorem depth_i (us : List Pt) : ∀ d ∈ us.map iD, d.depth ≤ 60 := fun x hx => by
  obtain ⟨a, _, rfl⟩ := List.mem_map.mp hx
  simp [iD, PyData.depth, PyData.depthAll]
theorem sorted_i {us : List Pt} {ps : List (V × PyData)} {xs : List V} (hl : xs.length = us.length) (pm : ps.Perm (xs.zip (us.map iD))) (pw : ps.Pairwise fun x y => dataLe false Prod.snd x y = true) :
    ∃ ss : List Pt, ss.Pairwise leP ∧ (∀ d, d ∈ ss ↔ d ∈ us) ∧ ss.length = us.length ∧ ps.map Prod.snd = ss.map iD := by
  have p2 : (ps.map Prod.snd).Perm (us.map iD) := by
    have := pm.map Prod.snd
    rwa [List.map_snd_zip (by rw [List.length_map]; omega)] at this
  have p3 : ((ps.map Prod.snd).map getT).Perm us := by
    have := p2.map getT
    rw [List.map_map (f := iD)] at this
    rwa [show getT ∘ iD = id from rfl, List.map_id] at this
  have e4 : ps.map Prod.snd = ((ps.map Prod.snd).map getT).map iD := by
    rw [List.map_map]
    refine (List.map_id _).symm.trans (List.map_congr_left fun x hx => ?_)
    obtain ⟨d, _, rfl⟩ := List.mem_map.mp (p2.mem_iff.mp hx)
    rfl
  refine ⟨(ps.map Prod.snd).map getT, ?_, fun d => p3.mem_iff, p3.length_eq, e4⟩
  have pw2 : (ps.map Prod.snd).Pairwise fun x y => (!PyProof.Rows.lexLt PyProof.Rows.itemOrd (keyToks y) (keyToks x)) = true := by
    rw [List.pairwise_map]
    exact pw.imp fun h => h
  rw [e4, List.pairwise_map] at pw2
  exact pw2.imp fun h => iD_le h
/-- what the law reckons: the sorted points, each once -/
theorem dd_os {ps os : List Pl} {ss : List Pt} {N : Int} (h : Srt ps os) (n0 : 0 < N) (hb : ∀ p ∈ ps, Bot N p) (hs : ss.Pairwise leP) (hm : ∀ d, d ∈ ss ↔ d ∈ ps.map (sc N)) : dd [] ss = os.map (sc N) := by
  obtain ⟨r1, r2⟩ := dd_ok (xs := ss) (acc := []) .nil hs (fun a ha => nomatch ha)
  refine asc_eq r1 (h.asc n0 hb) fun q => ?_
  rw [r2 q, List.mem_map]
  constructor
  · rintro (z | z)
    · cases z
    · obtain ⟨p, hp, e⟩ := List.mem_map.mp ((hm q).mp z)
      exact ⟨p, (h.m p).mpr hp, e⟩
  · rintro ⟨p, hp, e⟩
    exact .inr ((hm q).mpr (List.mem_map.mpr ⟨p, (h.m p).mp hp, e⟩))
end F3
set_option Elab.async false
set_option linter.all false
set_option maxRecDepth 100000
set_option maxHeartbeats 4000000
set_option exponentiation.threshold 10000
namespace F3
open PySem PySem.Spec PyProof.Rows L2 FX RM PB KD KS
theorem for_seqR {K : PySem.W.Frag} {tl : TE} {g : TG} {tb : TS} {D : Ends} {σ : L2.St} {H : Hp} (facts : Addr → List V → Hp → Prop) (hj : ∀ R : VK, (∀ a xs F, facts a xs F → R (.ref a) F) → tl σ H R)
    (hk : ∀ a xs F, facts a xs F → SqL K F a xs ∧ ∃ Pv : Nat → L2.St → Hp → Prop, Pv 0 σ F ∧ (∀ i σ' H', Pv i σ' H' → SqL K H' a xs) ∧ (∀ i x σ' H', xs[i]? = some x → Pv i σ' H' → g x σ' H' fun σ2 H2 => tb { D with nx := Pv (i + 1), ct := Pv (i + 1), bk := D.nx } σ2 H2) ∧ (∀ σ' H', Pv xs.length σ' H' → D.nx σ' H')) : tFor (iList K tl) g tb D σ H := by
  refine hj _ fun a xs F hf => ?_
  obtain ⟨h0, Pv, p0, hS, hs, hd⟩ := hk a xs F hf
  exact ⟨a, rfl, ⟨_, h0⟩, for_list (K := K) (a := a) (xs := xs) Pv p0 (fun i σ' H' _ h => hS i σ' H' h) hs hd⟩
/-- [e for k in range(i, j, c)], each e some data that holds no list -/
theorem lc_rng3 {K : PySem.W.Frag} {ta : TA} {g : TG} {te : TE} {vs : List Nat} {σ : L2.St} {H : Hp} {Q : VK} (i j c : Int) (n : Nat) (hr : RgC i j c n) (hn : n ≤ 1000) (hta : ∀ R : List V → Hp → Prop, R [.int i, .int j, .int c] H → ta σ H R) (f : Nat → PyData) (hf : ∀ i, noL (f i) = true)
    (hs : ∀ (k : Nat) F (R : V → Hp → Prop), k < n → Same H F → (∀ y F4, Same F F4 → Dp K F4 y (f k) → R y F4) → g (.int (i + (k : Nat) * c)) (wipe σ vs) F fun σ2 H2 => wipe σ2 vs = wipe σ vs ∧ te σ2 H2 R)
    (hd : ∀ D H' ys, Same H H' → H D = none → H' D = some (.lst ys) → DpAll K H' ys ((List.range n).map f) → Q (.ref D) H') : tLc (iRng3 ta) g tYes te vs σ H Q := by
  refine hta _ ⟨i, j, c, n, rfl, hr, fun D nD => ?_⟩
  refine lc_it walk_rangeC (fun k H' => Same H H' ∧ ∃ ys, H' D = some (.lst ys) ∧ ys.length = k ∧ DpAll K H' ys ((List.range k).map f)) ⟨PB.same_new nD, [], upd_same, rfl, .nil⟩ (fun _ _ _ _ => trivial) ?_ ?_
  · rintro k x H1 H2 kn ⟨s1, ys, eD, yl, hy⟩ ⟨rfl, rfl⟩
    refine hs k _ _ kn s1 fun y H4 s4 h4 => ⟨ys, s4 _ _ eD, small1000 (by omega), ?_, ys ++ [y], upd_same, by rw [List.length_append, yl]; rfl, ?_⟩
    · intro b o e
      rw [upd_ne (ne_of_none e nD)]; exact s4 _ _ (s1 _ _ e)
    · rw [List.range_succ, List.map_append]
      refine DpAll_but (s4 _ _ eD) (fun b o n e => by rw [upd_ne n]; exact e) ?_ (DpAll_snoc h4 (DpAll_same s4 hy))
      refine noLs_all fun d hd => ?_
      rcases List.mem_append.mp hd with hd | hd
      · obtain ⟨z, _, rfl⟩ := List.mem_map.mp hd; exact hf z
      · rw [List.mem_singleton.mp hd]; exact hf k
  · rintro H' ⟨s1, ys, eD, yl, hy⟩
    exact hd D H' ys s1 nD eD hy
/-- data that stays where a list grows -/
theorem Dp_put {K : PySem.W.Frag} {H H' : Hp} {p : Addr} {ys : List V} (s : ∀ b o, b ≠ p → H b = some o → H' b = some o) (hp : H p = some (.lst ys)) : ∀ {v : V} {d : PyData}, noL d = true → Dp K H v d → Dp K H' v d := fun n h => Dp_but hp s n h
theorem dd_snoc : ∀ (l acc : List G4.Pt) (x : G4.Pt), dd acc (l ++ [x]) = if dd acc l = [] ∨ (dd acc l).getLast? ≠ some x then dd acc l ++ [x] else dd acc l
  | [], acc, x => rfl
  | y :: l, acc, x => dd_snoc l _ x
theorem rg_size {n : Nat} : Builtin.Range.rangeSize ((n : Int) - 1) (-1) (-1) = n := by
  unfold Builtin.Range.rangeSize
  rw [if_neg (by decide)]
  by_cases h : (n : Int) - 1 > -1
  · rw [if_pos h]
    have e : ((n : Int) - 1 - -1 - 1) / - -1 = (n : Int) - 1 := by
      rw [show (- -1 : Int) = 1 by decide, Int.ediv_one]; omega
    rw [e]; omega
  · rw [if_neg h]; omega
theorem rg_down {n : Nat} (h : n ≤ 1000) : RgC ((n : Int) - 1) (-1) (-1) n := by
  refine ⟨by decide, by decide, ?_, rg_size⟩
  unfold Builtin.Range.small
  rw [rg_size]
  unfold Builtin.Range.rangeFitsLong
  simp
  omega
theorem rev_get {α β : Type} (l : List α) (z : α) {n : Nat} (hn : n = l.length) {g : α → β} : (List.range n).map (fun k => g (l.getD (n - 1 - k) z)) = l.reverse.map g := by
  subst hn
  apply List.ext_getElem
  · simp
  · intro i h1 h2
    simp at h1 h2
    have e : l.length - 1 - i < l.length := by omega
    simp [List.getD_eq_getElem?_getD, e]
theorem norm_eq {t N : Int} {r : Rt} (n0 : 0 < N) (hr : IsRat r) (e : t * r.2 = r.1 * N) : norm t N = r := by
  have h := rep_norm (t := t) n0
  refine rat_eq h.1 hr ?_
  have h3 := h.2.2
  generalize norm t N = z at h3 ⊢
  have k : (z.1 * r.2) * N = (r.1 * z.2) * N := by grind
  exact Int.eq_of_mul_eq_mul_right (by omega) k
theorem bot_lcm {c : Nat} : ∀ {l : List Pl}, (∀ q ∈ l, RatP q) → ∀ q ∈ l, q.1.2.natAbs ∣ lcmB c l ∧ q.2.2.natAbs ∣ lcmB c l := by
  intro l h q hq
  obtain ⟨a, b, rfl⟩ := List.append_of_mem hq
  have up : ∀ (m : List Pl) (d : Nat), d ∣ lcmB d m := fun m => by
    induction m with
    | nil => exact fun d => Nat.dvd_refl _
    | cons z m ih => exact fun d => Nat.dvd_trans (Nat.dvd_lcm_left _ _) (ih _)
  rw [show a ++ q :: b = (a ++ [q]) ++ b by simp, lcmB_app, lcmB_snoc]
  have k := up b ((lcmB c a).lcm (q.1.2.natAbs.lcm q.2.2.natAbs))
  exact ⟨Nat.dvd_trans (Nat.dvd_trans (Nat.dvd_lcm_left _ _) (Nat.dvd_lcm_right _ _)) k, Nat.dvd_trans (Nat.dvd_trans (Nat.dvd_lcm_right _ _) (Nat.dvd_lcm_right _ _)) k⟩
theorem lcmB_pos {l : List Pl} (h : ∀ q ∈ l, RatP q) : ∀ {c : Nat}, 0 < c → 0 < lcmB c l := by
  induction l with
  | nil => exact fun h => h
  | cons q l ih =>
    intro c c0
    have hq := h q (List.mem_cons_self ..)
    have a := hq.1.1
    have b := hq.2.1
    exact ih (fun z hz => h z (List.mem_cons_of_mem _ hz)) (Nat.lcm_pos c0 (Nat.lcm_pos (by omega) (by omega)))
theorem lcm_bot {l : List Pl} (h : ∀ q ∈ l, RatP q) : ∀ q ∈ l, Bot (lcmB 1 l : Nat) q := fun q hq => by
  obtain ⟨a, b⟩ := bot_lcm (c := 1) h q hq
  exact ⟨h q hq, Int.natAbs_dvd_natAbs.mp (by rw [Int.natAbs_natCast]; exact a), Int.natAbs_dvd_natAbs.mp (by rw [Int.natAbs_natCast]; exact b)⟩
def spHullL (K : PySem.W.Frag) : Sp := fun vs H Q _ => ∃ (p : Addr) (xs : List V) (ps os : List Pl) (M : Nat), vs = [.ref p] ∧ Rows K H p xs ps ∧ ps ≠ [] ∧ ps.length ≤ 60 ∧ 0 < M ∧ M < 2 ^ 200 ∧ (∀ q ∈ ps, GoodP 400 q ∧ BotM M q) ∧ Srt ps os ∧ ∀ H' z, Same H H' → Dp K H' z (.tuple ((hullP os).map pD)) → Q z H'
section
variable {P : Program} {w : World} {K : PySem.W.Frag} {mg : Str → Option Value} {base : Heap}
abbrev s_law_hull : Stmt := topS 78
theorem sc_law_hull : FnScope ["_law_places", "_law_common", "_law_rows", "_law_row", "_law_k"] ["_law_places"] (defScope s_law_hull) := ⟨rfl, rfl, rfl, by decide +kernel, rfl, by decide +kernel, by decide +kernel⟩
theorem ok_law_hull (T : Txt K mg "_law_hull" s_law_hull) (G_law_bottoms : DefOk P w K mg base CX0 "_law_bottoms" 2 ["_law_places"] (spBots K)) (G_law_wholes : DefOk P w K mg base CX0 "_law_wholes" 1 ["_law_places", "_law_common"] (spWholesL K)) (G_law_half : DefOk P w K mg base CX0 "_law_half" 1 ["_law_rows"] (spHalf2 K)) (G_law_ratio : DefOk P w K mg base CX0 "_law_ratio" 2 ["_law_top_here", "_law_bottom_here"] (spLow K)) (mlen : mg "len" = none) (mrange : mg "range" = none) (mtuple : mg "tuple" = none) (msorted : mg "sorted" = none) : DefOk P w K mg base CX0 "_law_hull" 3 ["_law_places"] (spHullL K) := by
  obtain ⟨f, fd, F, gf⟩ := T
  refine ⟨f, fd, gf, F.kp, F.binds (fun _ _ _ _ _ _ us hl => match us, hl with | [_], _ => rfl), F.ok sc_law_hull (fun vs H Q E h => ?_) (fun cdv A outer s H vs Q E hr h => ?_)⟩
  · obtain ⟨p, xs, ps, os, M, rfl, _⟩ := h; rfl
  · obtain ⟨p, xs, ps, os, M, rfl, hR, pn, l6, M0, MZ, hg, hO, q⟩ := h
    refine ⟨_, (pss_cons (ps_set (i := 1) sc_law_hull.nd rfl (.inr rfl) (pe_def G_law_bottoms (hr.mono (by decide)) (by rfl) (pa_cons (pv 0) pa_nil))) (pss_cons (ps_set (i := 2) sc_law_hull.nd rfl (.inr rfl) (pe_lst pa_nil)) (pss_cons (ps_for PassesOwn.never rfl (pi_list (pe_callB (cr_sortDat (Room.u65 hr)) (by rfl) msorted (by decide +kernel) (pa_cons (pe_def G_law_wholes (hr.mono (by decide)) (by rfl) (pa_cons (pv 0) (pa_cons (pv 1) pa_nil))) pa_nil))) (pg_name (i := 3) sc_law_hull.nd rfl (.inl rfl)) (pss_one (ps_if (PW.pt (pw_or (pt_not (pt_truth (pv 2) (fun _ => rfl))) (pw_or1 (pt_cmpR (op_neD hr.units) (pe_ix ix_list (pv 2) (pe_un un_neg pe_int) (fun _ _ => rfl)) (pv 3) (nomark _))))) (pss_one (ps_expr (pe_bm PySem.F.plainAttrs_list PySem.F.slot_list_append PySem.F.type_list_append mt_append (pv 2) (pa_cons (pv 3) pa_nil)))) pss_nil))) (pss_cons (ps_if (pt_cmpR op_gt (pe_callB call_len_seq (by rfl) mlen PySem.boot_len (pa_cons (pv 2) pa_nil)) pe_int (nomark _)) (pss_one (ps_set (i := 2) sc_law_hull.nd rfl (.inr rfl) (pe_op op_cat (pe_def G_law_half (hr.mono (by decide)) (by rfl) (pa_cons (pv 2) pa_nil)) (pe_def G_law_half (hr.mono (by decide)) (by rfl) (pa_cons (pe_lc (own := [("_law_k", 4)]) rfl sc_law_hull.nd (pi_range3 (by rfl) mrange (pa_cons (pe_op op_sub (pe_callB call_len_seq (by rfl) mlen PySem.boot_len (pa_cons (pv 2) pa_nil)) pe_int) (pa_cons (pe_un un_neg pe_int) (pa_cons (pe_un un_neg pe_int) pa_nil)))) (blkOk_by (N := ["_law_places", "_law_common", "_law_rows", "_law_row", "_law_k"]) (sc := defScope s_law_hull) (by decide +kernel)) (fun _ _ _ _ _ => (pg_name (i := 4) sc_law_hull.nd rfl (.inl rfl))) (fun _ _ _ _ _ => pts_nil) (fun _ _ _ _ _ => (pe_ix (ix_listK K) (pv 2) (pv 4) (fun _ _ => rfl)))) pa_nil))))) pss_nil) (pss_one (ps_ret (pe_callTy call_tuple_of (by rfl) mtuple (by decide +kernel) (pa_cons (pe_lc (own := [("_law_row", 3)]) rfl sc_law_hull.nd (pi_seq (pv 2)) (blkOk_by (N := ["_law_places", "_law_common", "_law_rows", "_law_row", "_law_k"]) (sc := defScope s_law_hull) (by decide +kernel)) (fun _ _ _ _ _ => (pg_name (i := 3) sc_law_hull.nd rfl (.inl rfl))) (fun _ _ _ _ _ => pts_nil) (fun _ _ _ _ _ => (pe_tup (pa_cons (pe_def G_law_ratio (hr.mono (by decide)) (by rfl) (pa_cons (pe_ix (ix_itK K) (pv 3) pe_int (fun _ _ => rfl)) (pa_cons (pv 1) pa_nil))) (pa_cons (pe_def G_law_ratio (hr.mono (by decide)) (by rfl) (pa_cons (pe_ix (ix_itK K) (pv 3) pe_int (fun _ _ => rfl)) (pa_cons (pv 1) pa_nil))) pa_nil))))) pa_nil)))))))), ?_⟩
    refine ⟨.ref p, rfl, p, xs, ps, M, rfl, hR, l6, M0, MZ, hg, fun H1 s1 => ?_⟩
    have hr' : ∀ r ∈ ps, RatP r := fun r hr => (hg r hr).1.1
    have d0 : lcmB 1 ps ∣ M := lcmB_dvd (Nat.one_dvd _) fun r hr => (hg r hr).2
    have zN := sz_dvd d0 M0 MZ
    have n0 : (0 : Int) < (lcmB 1 ps : Nat) := by have := lcmB_pos hr' (c := 1) (by decide); omega
    have hB := lcm_bot hr'
    generalize hN : ((lcmB 1 ps : Nat) : Int) = N at zN n0 hB
    have hZ : ∀ r ∈ ps, SzT 1000 (sc N r) := fun r hr => by
      obtain ⟨g1, g2⟩ := (hg r hr).1.2
      have dv : ∀ {b : Int}, Sz 200 (N / b) := fun {b} => Nat.lt_of_le_of_lt (Int.natAbs_ediv_le_natAbs _ _) zN
      exact ⟨sz_mono (sz_mul g1.1 dv) (by decide), sz_mono (sz_mul g2.1 dv) (by decide)⟩
    refine ⟨(by show 0 ≤ sizeLine; decide), fun D nD => ?_⟩
    have sD := PB.same_new (o := .lst []) nD
    show tSeq _ _ _ [some (.ref p), some (.int N), some (.ref D), none, none] (upd H1 D (.lst []))
    dsimp only [tSeq]
    refine for_seqR (K := K) (fun a zs F => ∃ ss : List G4.Pt, Same (upd H1 D (.lst [])) F ∧ a ≠ D ∧ F a = some (.lst zs) ∧ DpAll K F zs (ss.map iD) ∧ ss.Pairwise leP ∧ (∀ d, d ∈ ss ↔ d ∈ ps.map (sc N)) ∧ ss.length = ps.length)
      (fun R hR2 => ?_) (fun a zs F ⟨ss, s2, aD, eA, hA, hp, hm, hl⟩ => ⟨.inl (.inl eA), fun i σ H' => ∃ (y : Option V) (ys : List V), σ = [some (.ref p), some (.int N), some (.ref D), y, none] ∧ Same H1 H' ∧ (∀ b o, b ≠ D → F b = some o → H' b = some o) ∧ H' D = some (.lst ys) ∧ DpAll K H' ys ((dd [] (ss.take i)).map iD), ?_, ?_, ?_, ?_⟩)
    · refine ⟨.ref p, rfl, _, rfl, p, xs, ps, N, rfl, hR.same (s1.trans sD), l6, zN, fun r hr => (hg r hr).1, fun F' W ws s3 nW eW hW => ?_⟩
      have e9 : (ps.map fun q => iD (sc N q)) = (ps.map (sc N)).map iD := by rw [List.map_map]; rfl
      rw [e9] at hW
      have wl : ws.length = (ps.map (sc N)).length := by rw [DpAll_len hW, List.length_map]
      refine ⟨W, ws, _, rfl, .inl (.inl eW), hW, alike_i _, sortable_i _, depth_i _, fun qs b pm pw nb => ?_⟩
      obtain ⟨ss, o1, o2, o3, o4⟩ := sorted_i wl pm pw
      have sb := PB.same_new (o := .lst (qs.map Prod.fst)) nb
      refine hR2 b (qs.map Prod.fst) _ ⟨ss, s3.trans sb, (fun z => by rw [z, s3 _ _ upd_same] at nb; cases nb), upd_same, ?_, o1, o2, by rw [o3, List.length_map]⟩
      rw [← o4]
      exact dpall_of fun z hz => Dp_same sb (zip_dp hW z (pm.mem_iff.mp hz))
    · exact ⟨none, [], rfl, fun b o e => s2 _ _ (sD b o e), fun b o _ e => e, s2 _ _ upd_same, .nil⟩
    · rintro i σ H' ⟨y, ys, rfl, _, k, _⟩
      exact .inl (.inl (k _ _ aD eA))
    · rintro i x σ H' hx ⟨y, ys, rfl, s3, k3, eD, hY⟩
      have il : i < ss.length := by have := (List.getElem?_eq_some_iff.mp hx).1; have e := DpAll_len hA; rw [List.length_map] at e; omega
      obtain ⟨d, ed, hd0⟩ := DpAll_at hA hx
      rw [List.getElem?_map, List.getElem?_eq_getElem il] at ed
      cases ed
      have hd : Dp K H' x (iD ss[i]) := Dp_put k3 (s2 _ _ upd_same) (noL_i _) hd0
      dsimp only
      rw [List.take_succ_eq_append_getElem il, dd_snoc]
      have dl : (dd [] (ss.take i)).length ≤ 60 := by have := dd_len (ss.take i) []; rw [List.length_take] at this; simp at this; omega
      generalize ss[i] = e at hd ⊢
      generalize dd [] (ss.take i) = r at hY dl ⊢
      have yl : ys.length = r.length := by rw [DpAll_len hY, List.length_map]
      have app : ∀ (σ2 : Option V), tDrop (tBM K "list" rAppend (tVar 2) (tCons (tVar 3) tNil)) { nx := fun σ H' => ∃ (y : Option V) (ys : List V), σ = [some (.ref p), some (.int N), some (.ref D), y, none] ∧ Same H1 H' ∧ (∀ b o, b ≠ D → F b = some o → H' b = some o) ∧ H' D = some (.lst ys) ∧ DpAll K H' ys ((r ++ [e]).map iD), rt := Q } [some (.ref p), some (.int N), some (.ref D), some x, none] H' := fun _ => by
        refine ⟨_, rfl, .inl ⟨rfl, _, .inl (.inl eD)⟩, _, rfl, D, ys, x, rfl, rfl, eD, small1000 (by omega), some x, _, rfl, fun b u e => ?_, fun b u n e => ?_, upd_same, ?_⟩
        · rw [upd_ne (ne_of_none e nD)]; exact s3 b u e
        · rw [upd_ne n]; exact k3 b u n e
        · rw [List.map_append]
          exact DpAll_but eD (fun b u n e => by rw [upd_ne n]; exact e) (by rw [← List.map_append]; exact noLs_i _) (DpAll_snoc hd hY)
      have stay : (∃ (y : Option V) (ys : List V), [some (.ref p), some (.int N), some (.ref D), some x, none] = [some (V.ref p), some (V.int N), some (V.ref D), y, none] ∧ Same H1 H' ∧ (∀ b o, b ≠ D → F b = some o → H' b = some o) ∧ H' D = some (.lst ys) ∧ DpAll K H' ys (r.map iD)) := ⟨some x, ys, rfl, s3, k3, eD, hY⟩
      refine ⟨_, rfl, _, .inl ⟨ys, .inl (.inl eD), rfl⟩, ?_⟩
      rcases nil_or_snoc r with rfl | ⟨init, z, rfl⟩
      · cases hY
        rw [if_pos (show ([] : List G4.Pt) = [] ∨ ([] : List G4.Pt).getLast? ≠ some e from .inl rfl)]
        exact itT rfl (itT rfl (app none))
      · rw [List.map_append] at hY
        obtain ⟨us, v, rfl, hv⟩ : ∃ us v, ys = us ++ [v] ∧ Dp K H' v (iD z) := by
          have e1 : ys ≠ [] := fun e => by rw [e] at yl; simp at yl
          refine ⟨ys.dropLast, ys.getLast e1, (List.dropLast_concat_getLast e1).symm, ?_⟩
          have e2 : ys[init.length]? = some (ys.getLast e1) := by
            rw [List.getLast_eq_getElem, List.getElem?_eq_getElem (by rw [yl]; simp)]
            congr 1
            simp only [yl, List.length_append, List.length_singleton, Nat.add_sub_cancel]
          obtain ⟨d, ed, hd2⟩ := DpAll_at hY e2
          rw [List.getElem?_append_right (by simp)] at ed
          simp at ed
          rw [ed]; exact hd2
        have at1 : atI (us ++ [v]) (-1) = some v := by
          have hl : (us ++ [v]).length = us.length + 1 := by simp
          have e1 : ixN (us ++ [v]).length (-1) = some us.length := by
            unfold ixN
            rw [if_neg (by omega), hl, if_pos (by omega)]
            congr 1; omega
          unfold atI
          rw [e1]
          show (us ++ [v])[us.length]? = some v
          rw [List.getElem?_append_right (Nat.le_refl _), Nat.sub_self]; rfl
        have ni : (!(us ++ [v]).isEmpty) = true := by cases us <;> rfl
        refine itF (by rw [ni]; rfl) ?_
        refine ⟨_, rfl, _, rfl, D, _, -1, v, rfl, rfl, .inl (.inl eD), at1, _, rfl, _, _, hv, hd, (shaped_r z).1, (shaped_r e).1, _, rfl, ?_⟩
        have ez : PyData.eqv (iD z) (iD e) = decide (z = e) := eqv_rt z e
        rw [ez]
        by_cases c : z = e
        · subst c
          rw [if_neg (by simp)]
          exact itF (by rw [decide_eq_true rfl]; rfl) stay
        · rw [if_pos (.inr (by simp; exact c))]
          exact itT (by rw [decide_eq_false c]; rfl) (app none)
    · rintro σ H' ⟨y, ys, rfl, s3, k3, eD, hY⟩
      have zl : zs.length = ss.length := by rw [DpAll_len hA, List.length_map]
      rw [zl, List.take_length, dd_os hO n0 hB hp hm] at hY
      have yl : ys.length = os.length := by rw [DpAll_len hY, List.length_map, List.length_map]
      have ol : os.length ≤ 60 := by
        have a := dd_len ss []
        rw [dd_os hO n0 hB hp hm, List.length_map] at a
        simp at a; omega
      have on : os ≠ [] := fun z => by
        obtain ⟨u, hu⟩ := List.exists_mem_of_ne_nil ps pn
        have := (hO.m u).mpr hu
        rw [z] at this; cases this
      have o0 : os.length ≠ 0 := fun z => on (List.length_eq_zero_iff.mp z)
      have hBo : ∀ u ∈ os, Bot N u := fun u hu => hB u ((hO.m u).mp hu)
      refine ⟨_, rfl, D, ys, rfl, .inl (.inl (.inl eD)), _, _, rfl, rfl, _, rfl, ?_⟩
      by_cases l1 : os.length = 1
      · refine itF (decide_eq_false (by rw [yl, l1]; decide)) ?_
        have eh : hullP os = os := if_pos l1
        have hA : DpAll K H' ys (((hullP os).map (sc N)).map iD) := by rw [eh]; exact hY
        have sE := s1.trans s3
        have eE := eD
        dsimp only [tNext, tRet, tCB, tCons, tNil]
        have eL : ys.length = (hullP os).length := by rw [DpAll_len hA, List.length_map, List.length_map]
        refine lc_map (K := K) (a := D) (xs := ys) (j := 2) (fun i => pD ((hullP os).getD i zP)) (fun i => noL_pp _) (by rfl) (.inl (.inl (.inl eE))) (small1000 (by have := hull_len os; omega)) (fun i x G R ex sx hR2 => ?_) fun D2 G ws s9 n9 e9 h9 => ?_
        · obtain ⟨c, ec⟩ : ∃ c, (hullP os)[i]? = some c := ⟨_, List.getElem?_eq_getElem (by rw [← eL]; exact (List.getElem?_eq_some_iff.mp ex).1)⟩
          have eg : (hullP os).getD i zP = c := by rw [List.getD_eq_getElem?_getD, ec]; rfl
          (try dsimp only at hR2)
          rw [eg] at hR2
          obtain ⟨d, ed, hd⟩ := DpAll_at hA ex
          rw [List.getElem?_map, List.getElem?_map, ec] at ed
          cases ed
          have cm : c ∈ ps := (hO.m c).mp (hull_sub c (List.mem_of_getElem? ec))
          have hc : Cou K G x (.int (sc N c).1) (.int (sc N c).2) := cou_r (Dp_same sx hd)
          have bc := hB c cm
          have zc := hZ c cm
          have zN4 := sz_mono zN (by decide : 200 ≤ 2000)
          refine ⟨rfl, x, rfl, _, _, 0, _, rfl, hc, rfl, _, rfl, _, _, rfl, n0, sz_mono zc.1 (by decide), sz_mono zN (by decide), fun G1 v1 t1 hv1 => ?_⟩
          refine ⟨x, rfl, _, _, 1, _, rfl, hc.same t1, rfl, _, rfl, _, _, rfl, n0, sz_mono zc.2 (by decide), sz_mono zN (by decide), fun G2 v2 t2 hv2 => ⟨(by show 2 ≤ sizeLine; decide), fun b nb => ?_⟩⟩
          rw [norm_eq n0 bc.1.1 (sc_1 bc).1] at hv1
          rw [norm_eq n0 bc.1.2 (sc_1 bc).2] at hv2
          exact hR2 _ _ ((t1.trans t2).trans (PB.same_new nb)) (dp_mk2 nb (Dp_same t2 hv1) hv2)
        refine ⟨D2, ws, rfl, .inl ⟨.inl (.inl e9), fun l nl => ?_⟩⟩
        have sl := PB.same_new (o := .tup ws) nl
        refine q _ _ ((sE.trans s9).trans sl) (.tup (.inl (.inl upd_same)) (DpAll_same sl ?_))
        rw [← range_get (hullP os) zP, ← eL]
        exact h9
      · refine itT (decide_eq_true (by rw [yl]; omega)) ?_
        have len_os : (os.map (sc N)).length = os.length := List.length_map _
        have zo : ∀ u ∈ os.map (sc N), SzT 1000 u := fun u hu => by
          obtain ⟨c, hc, rfl⟩ := List.mem_map.mp hu
          exact hZ c ((hO.m c).mp hc)
        refine ⟨_, rfl, D, ys, os.map (sc N), rfl, .inl (.inl eD), hY, by rw [len_os]; exact ol, zo, fun G1 c1 y1 t1 n1 e1 h1 => ?_⟩
        have eD1 := t1 _ _ eD
        have hY1 := DpAll_same t1 hY
        dsimp only [tCons, tNil, tCall]
        refine lc_rng3 (K := K) ((os.length : Int) - 1) (-1) (-1) os.length (rg_down (by omega)) (by omega) (fun R hR2 => ?_) (fun k => iD ((os.map (sc N)).getD (os.length - 1 - k) (0, 0))) (fun k => noL_i _) (fun k G R kn sG hR2 => ?_) fun D2 G2 zs2 t2 n2 e2 h2 => ?_
        · refine ⟨_, rfl, D, ys, rfl, .inl (.inl (.inl eD1)), _, _, rfl, rfl, _, rfl, _, rfl, ?_⟩
          show R [V.int ((ys.length : Int) - 1), V.int (-1), V.int (-1)] G1
          rw [yl]; exact hR2
        · have il : os.length - 1 - k < ys.length := by omega
          have ei : ys[os.length - 1 - k]? = some ys[os.length - 1 - k] := List.getElem?_eq_getElem il
          obtain ⟨d, ed, hd⟩ := DpAll_at (DpAll_same sG hY1) ei
          have eg : (os.map (sc N))[os.length - 1 - k]? = some ((os.map (sc N)).getD (os.length - 1 - k) (0, 0)) := by
            rw [List.getD_eq_getElem?_getD, List.getElem?_eq_getElem (by rw [len_os]; omega)]; rfl
          rw [List.getElem?_map, eg] at ed
          cases ed
          have ea := atI_nat ei
          have ez : (((os.length - 1 - k : Nat)) : Int) = (os.length : Int) - 1 + (k : Int) * -1 := by omega
          rw [ez] at ea
          exact ⟨rfl, _, rfl, _, rfl, D, ys, _, _, rfl, rfl, .inl (.inl (sG _ _ eD1)), ea, hR2 _ _ (fun _ _ z => z) hd⟩
        have h2' : DpAll K G2 zs2 ((os.map (sc N)).reverse.map iD) := by
          rw [rev_get (g := iD) (os.map (sc N)) (0, 0) len_os.symm] at h2
          exact h2
        refine ⟨D2, zs2, (os.map (sc N)).reverse, rfl, .inl (.inl e2), h2', by rw [List.length_reverse, len_os]; exact ol, fun u hu => zo u (List.mem_reverse.mp hu), fun G3 c3 y2 t3 n3 e3 h3 => ?_⟩
        have e1' := t3 _ _ (t2 _ _ e1)
        have h1' := DpAll_same (t2.trans t3) h1
        have hT : (hullP os).map (sc N) = (G4.chain (os.map (sc N))).dropLast ++ (G4.chain (os.map (sc N)).reverse).dropLast := by
          rw [hullP_sc n0 hBo]
          unfold G4.hullR
          rw [if_neg (by rw [len_os]; exact l1)]
        have ly : (y1 ++ y2).length ≤ 120 := by
          rw [List.length_append, DpAll_len h1, DpAll_len h3, List.length_map, List.length_map, ← List.length_append, ← hT, List.length_map]
          have := hull_len os
          omega
        have lz : y1.length + y2.length ≤ sizeLine := by
          rw [List.length_append] at ly
          have : (1000 : Nat) ≤ sizeLine := by decide
          omega
        refine ⟨c1, c3, y1, y2, rfl, rfl, e1', e3, lz, fun r3 nr3 => ?_⟩
        have sr := PB.same_new (o := .lst (y1 ++ y2)) nr3
        have eE : (upd G3 r3 (.lst (y1 ++ y2))) r3 = some (.lst (y1 ++ y2)) := upd_same
        have hA : DpAll K (upd G3 r3 (.lst (y1 ++ y2))) (y1 ++ y2) (((hullP os).map (sc N)).map iD) := by
          rw [hT, List.map_append]
          exact dp_app (DpAll_same sr h1') (DpAll_same sr h3)
        have sE : Same H (upd G3 r3 (.lst (y1 ++ y2))) := ((((s1.trans s3).trans t1).trans t2).trans t3).trans sr
        generalize upd G3 r3 (.lst (y1 ++ y2)) = G4' at eE hA sE
        dsimp only [gName, tNext, tRet, tCB, tCons, tNil]
        have eL : (y1 ++ y2).length = (hullP os).length := by rw [DpAll_len hA, List.length_map, List.length_map]
        refine lc_map (K := K) (a := r3) (xs := (y1 ++ y2)) (j := 2) (fun i => pD ((hullP os).getD i zP)) (fun i => noL_pp _) (by rfl) (.inl (.inl (.inl eE))) (small1000 (by have := hull_len os; omega)) (fun i x G R ex sx hR2 => ?_) fun D2 G ws s9 n9 e9 h9 => ?_
        · obtain ⟨c, ec⟩ : ∃ c, (hullP os)[i]? = some c := ⟨_, List.getElem?_eq_getElem (by rw [← eL]; exact (List.getElem?_eq_some_iff.mp ex).1)⟩
          have eg : (hullP os).getD i zP = c := by rw [List.getD_eq_getElem?_getD, ec]; rfl
          (try dsimp only at hR2)
          rw [eg] at hR2
          obtain ⟨d, ed, hd⟩ := DpAll_at hA ex
          rw [List.getElem?_map, List.getElem?_map, ec] at ed
          cases ed
          have cm : c ∈ ps := (hO.m c).mp (hull_sub c (List.mem_of_getElem? ec))
          have hc : Cou K G x (.int (sc N c).1) (.int (sc N c).2) := cou_r (Dp_same sx hd)
          have bc := hB c cm
          have zc := hZ c cm
          have zN4 := sz_mono zN (by decide : 200 ≤ 2000)
          refine ⟨rfl, x, rfl, _, _, 0, _, rfl, hc, rfl, _, rfl, _, _, rfl, n0, sz_mono zc.1 (by decide), sz_mono zN (by decide), fun G1 v1 t1 hv1 => ?_⟩
          refine ⟨x, rfl, _, _, 1, _, rfl, hc.same t1, rfl, _, rfl, _, _, rfl, n0, sz_mono zc.2 (by decide), sz_mono zN (by decide), fun G2 v2 t2 hv2 => ⟨(by show 2 ≤ sizeLine; decide), fun b nb => ?_⟩⟩
          rw [norm_eq n0 bc.1.1 (sc_1 bc).1] at hv1
          rw [norm_eq n0 bc.1.2 (sc_1 bc).2] at hv2
          exact hR2 _ _ ((t1.trans t2).trans (PB.same_new nb)) (dp_mk2 nb (Dp_same t2 hv1) hv2)
        refine ⟨D2, ws, rfl, .inl ⟨.inl (.inl e9), fun l nl => ?_⟩⟩
        have sl := PB.same_new (o := .tup ws) nl
        refine q _ _ ((sE.trans s9).trans sl) (.tup (.inl (.inl upd_same)) (DpAll_same sl ?_))
        rw [← range_get (hullP os) zP, ← eL]
        exact h9
end
end F3
set_option Elab.async false
set_option linter.all false
set_option maxRecDepth 100000
set_option maxHeartbeats 4000000
set_option exponentiation.threshold 10000
namespace F3
open PySem PySem.Spec PyProof.Rows L2 FX RM PB KD KS
def tupOk : Nat → PyData → Prop
  | 0, .int _ => True
  | n + 1, .tuple ds => ∀ d ∈ ds, tupOk n d
  | _, _ => False
def spTup (K : PySem.W.Frag) (n : Nat) : Sp := fun vs H Q _ => ∃ v d, vs = [v] ∧ Dp K H v d ∧ tupOk n d ∧ ∀ H', Same H H' → Q (.bl true) H'
theorem tup_r (r : Rt) : tupOk 1 (rD r) := by
  intro d hd
  rcases List.mem_cons.mp hd with e | hd
  · rw [e]; trivial
  · rw [List.mem_singleton.mp hd]; trivial
theorem tup_p (p : Pl) : tupOk 2 (pD p) := by
  intro d hd
  rcases List.mem_cons.mp hd with e | hd
  · rw [e]; exact tup_r _
  · rw [List.mem_singleton.mp hd]; exact tup_r _
theorem tup_ps (cs : List Pl) : tupOk 3 (.tuple (cs.map pD)) := by
  intro d hd
  obtain ⟨c, _, rfl⟩ := List.mem_map.mp hd
  exact tup_p c
section
variable {P : Program} {w : World} {K : PySem.W.Frag} {mg : Str → Option Value} {base : Heap}
abbrev s_law_tuples : Stmt := topS 92
theorem sc_law_tuples : FnScope ["_law_thing", "_law_item"] ["_law_thing"] (defScope s_law_tuples) := ⟨rfl, rfl, rfl, by decide +kernel, rfl, by decide +kernel, by decide +kernel⟩
theorem ok_law_tuples (T : Txt K mg "_law_tuples" s_law_tuples) (misinstance : mg "isinstance" = none) (mtuple : mg "tuple" = none) (mint : mg "int" = none) (mbool : mg "bool" = none) : DefOk P w K mg base CX0 "_law_tuples" 1 ["_law_thing"] (spTup K 0) := by
  obtain ⟨f, fd, F, gf⟩ := T
  refine ⟨f, fd, gf, F.kp, F.binds (fun _ _ _ _ _ _ us hl => match us, hl with | [_], _ => rfl), F.ok sc_law_tuples (fun vs H Q E h => ?_) (fun cdv A outer s H vs Q E hr h => ?_)⟩
  · obtain ⟨v, d, rfl, _⟩ := h; rfl
  · obtain ⟨v, d, rfl, hv, ok, q⟩ := h
    refine ⟨_, (pss_cons (ps_if (pt_val (pe_callB call_isi (by rfl) misinstance boot_isinstance (pa_cons (pv 0) (pa_cons (pe_bltn (v := .ty "tuple") (by rfl) mtuple (by decide +kernel) rfl) pa_nil)))) pss_never pss_nil) (pss_one (ps_ret (pe_and (pe_callB call_isi (by rfl) misinstance boot_isinstance (pa_cons (pv 0) (pa_cons (pe_bltn (v := .ty "int") (by rfl) mint (by decide +kernel) rfl) pa_nil))) (pe_one (pe_not (pe_callB call_isi (by rfl) misinstance boot_isinstance (pa_cons (pv 0) (pa_cons (pe_bltn (v := .ty "bool") (by rfl) mbool (by decide +kernel) rfl) pa_nil))))))))), ?_⟩
    obtain ⟨i, rfl⟩ : ∃ i, d = .int i := by
      cases d with
      | int i => exact ⟨i, rfl⟩
      | _ => exact ok.elim
    refine ⟨v, rfl, v, _, _, _, _, rfl, .ty _, dp_tyx hv, kit_ty (kit_tuple (.int i)), _, rfl, itF rfl ?_⟩
    refine ⟨v, rfl, v, _, _, _, _, rfl, .ty _, dp_tyx hv, kit_ty (kit_int (.int i)), true, rfl, itT rfl ?_⟩
    exact ⟨v, rfl, v, _, _, _, _, rfl, .ty _, dp_tyx hv, kit_ty (kit_bool (.int i)), _, rfl, q H (fun _ _ e => e)⟩
theorem okL1_law_tuples (T : Txt K mg "_law_tuples" s_law_tuples) (G_law_tuples : DefOk P w K mg base CX0 "_law_tuples" 1 ["_law_thing"] (spTup K 0)) (misinstance : mg "isinstance" = none) (mtuple : mg "tuple" = none) (mint : mg "int" = none) (mbool : mg "bool" = none) : DefOk P w K mg base CX0 "_law_tuples" 2 ["_law_thing"] (spTup K 1) := by
  obtain ⟨f, fd, F, gf⟩ := T
  refine ⟨f, fd, gf, F.kp, F.binds (fun _ _ _ _ _ _ us hl => match us, hl with | [_], _ => rfl), F.ok sc_law_tuples (fun vs H Q E h => ?_) (fun cdv A outer s H vs Q E hr h => ?_)⟩
  · obtain ⟨v, d, rfl, _⟩ := h; rfl
  · obtain ⟨v, d, rfl, hv, ok, q⟩ := h
    refine ⟨_, (pss_cons (ps_if (pt_val (pe_callB call_isi (by rfl) misinstance boot_isinstance (pa_cons (pv 0) (pa_cons (pe_bltn (v := .ty "tuple") (by rfl) mtuple (by decide +kernel) rfl) pa_nil)))) (pss_one (ps_ret (pe_notT (pe_lc (own := [("_law_item", 1)]) (g := gName 1) (tt := tNot (tB (tCall (spTup K 0) [] E0 (tCons (tVar 1) tNil)))) rfl sc_law_tuples.nd (pi_seq (pv 0)) (blkOk_by (N := ["_law_thing", "_law_item"]) (sc := defScope s_law_tuples) (by decide +kernel)) (fun _ _ _ _ _ => pg_name (i := 1) sc_law_tuples.nd rfl (.inl rfl)) (fun _ _ _ _ _ => (pts_one (pt_not (pt_val (pe_def G_law_tuples (hr.mono (by decide)) (by rfl) (pa_cons (pv 1) pa_nil)))))) (fun _ _ _ _ _ => pe_int))))) pss_nil) (pss_one (ps_ret (pe_and (pe_callB call_isi (by rfl) misinstance boot_isinstance (pa_cons (pv 0) (pa_cons (pe_bltn (v := .ty "int") (by rfl) mint (by decide +kernel) rfl) pa_nil))) (pe_one (pe_not (pe_callB call_isi (by rfl) misinstance boot_isinstance (pa_cons (pv 0) (pa_cons (pe_bltn (v := .ty "bool") (by rfl) mbool (by decide +kernel) rfl) pa_nil))))))))), ?_⟩
    obtain ⟨ds, rfl⟩ : ∃ ds, d = .tuple ds := by
      cases d with
      | tuple ds => exact ⟨ds, rfl⟩
      | _ => exact ok.elim
    refine ⟨v, rfl, v, _, _, _, _, rfl, .ty _, dp_tyx hv, kit_ty (kit_tuple (.tuple ds)), _, rfl, itT rfl ?_⟩
    cases hv with
    | tup hS hA =>
      rename_i a xs
      dsimp only [tRet, tNotT]
      refine .inr ⟨_, rfl, a, rfl, ⟨_, hS⟩, fun D nD => ?_⟩
      refine lc_tup (K := K) (a := a) (xs := xs) (fun i H' => Same H H' ∧ H' D = some (.lst [])) ⟨PB.same_new nD, upd_same⟩ (fun i H' _ h => same_t h.1 hS) ?_ ?_
      · rintro i x H' hi ⟨s1, hD⟩
        obtain ⟨d, ed, hd⟩ := DpAll_at hA hi
        refine ⟨rfl, x, rfl, x, d, rfl, Dp_same s1 hd, ok d (List.mem_of_getElem? ed), fun H3 s3 => ⟨_, rfl, ?_⟩⟩
        exact itF rfl ⟨s1.trans s3, s3 _ _ hD⟩
      · rintro H' ⟨s1, hD⟩
        exact ⟨false, .inl ⟨[], .inl (.inl hD), rfl⟩, q H' s1⟩
theorem okL2_law_tuples (T : Txt K mg "_law_tuples" s_law_tuples) (G_law_tuples : DefOk P w K mg base CX0 "_law_tuples" 2 ["_law_thing"] (spTup K 1)) (misinstance : mg "isinstance" = none) (mtuple : mg "tuple" = none) (mint : mg "int" = none) (mbool : mg "bool" = none) : DefOk P w K mg base CX0 "_law_tuples" 3 ["_law_thing"] (spTup K 2) := by
  obtain ⟨f, fd, F, gf⟩ := T
  refine ⟨f, fd, gf, F.kp, F.binds (fun _ _ _ _ _ _ us hl => match us, hl with | [_], _ => rfl), F.ok sc_law_tuples (fun vs H Q E h => ?_) (fun cdv A outer s H vs Q E hr h => ?_)⟩
  · obtain ⟨v, d, rfl, _⟩ := h; rfl
  · obtain ⟨v, d, rfl, hv, ok, q⟩ := h
    refine ⟨_, (pss_cons (ps_if (pt_val (pe_callB call_isi (by rfl) misinstance boot_isinstance (pa_cons (pv 0) (pa_cons (pe_bltn (v := .ty "tuple") (by rfl) mtuple (by decide +kernel) rfl) pa_nil)))) (pss_one (ps_ret (pe_notT (pe_lc (own := [("_law_item", 1)]) (g := gName 1) (tt := tNot (tB (tCall (spTup K 1) [] E0 (tCons (tVar 1) tNil)))) rfl sc_law_tuples.nd (pi_seq (pv 0)) (blkOk_by (N := ["_law_thing", "_law_item"]) (sc := defScope s_law_tuples) (by decide +kernel)) (fun _ _ _ _ _ => pg_name (i := 1) sc_law_tuples.nd rfl (.inl rfl)) (fun _ _ _ _ _ => (pts_one (pt_not (pt_val (pe_def G_law_tuples (hr.mono (by decide)) (by rfl) (pa_cons (pv 1) pa_nil)))))) (fun _ _ _ _ _ => pe_int))))) pss_nil) (pss_one (ps_ret (pe_and (pe_callB call_isi (by rfl) misinstance boot_isinstance (pa_cons (pv 0) (pa_cons (pe_bltn (v := .ty "int") (by rfl) mint (by decide +kernel) rfl) pa_nil))) (pe_one (pe_not (pe_callB call_isi (by rfl) misinstance boot_isinstance (pa_cons (pv 0) (pa_cons (pe_bltn (v := .ty "bool") (by rfl) mbool (by decide +kernel) rfl) pa_nil))))))))), ?_⟩
    obtain ⟨ds, rfl⟩ : ∃ ds, d = .tuple ds := by
      cases d with
      | tuple ds => exact ⟨ds, rfl⟩
      | _ => exact ok.elim
    refine ⟨v, rfl, v, _, _, _, _, rfl, .ty _, dp_tyx hv, kit_ty (kit_tuple (.tuple ds)), _, rfl, itT rfl ?_⟩
    cases hv with
    | tup hS hA =>
      rename_i a xs
      dsimp only [tRet, tNotT]
      refine .inr ⟨_, rfl, a, rfl, ⟨_, hS⟩, fun D nD => ?_⟩
      refine lc_tup (K := K) (a := a) (xs := xs) (fun i H' => Same H H' ∧ H' D = some (.lst [])) ⟨PB.same_new nD, upd_same⟩ (fun i H' _ h => same_t h.1 hS) ?_ ?_
      · rintro i x H' hi ⟨s1, hD⟩
        obtain ⟨d, ed, hd⟩ := DpAll_at hA hi
        refine ⟨rfl, x, rfl, x, d, rfl, Dp_same s1 hd, ok d (List.mem_of_getElem? ed), fun H3 s3 => ⟨_, rfl, ?_⟩⟩
        exact itF rfl ⟨s1.trans s3, s3 _ _ hD⟩
      · rintro H' ⟨s1, hD⟩
        exact ⟨false, .inl ⟨[], .inl (.inl hD), rfl⟩, q H' s1⟩
theorem okL3_law_tuples (T : Txt K mg "_law_tuples" s_law_tuples) (G_law_tuples : DefOk P w K mg base CX0 "_law_tuples" 3 ["_law_thing"] (spTup K 2)) (misinstance : mg "isinstance" = none) (mtuple : mg "tuple" = none) (mint : mg "int" = none) (mbool : mg "bool" = none) : DefOk P w K mg base CX0 "_law_tuples" 4 ["_law_thing"] (spTup K 3) := by
  obtain ⟨f, fd, F, gf⟩ := T
  refine ⟨f, fd, gf, F.kp, F.binds (fun _ _ _ _ _ _ us hl => match us, hl with | [_], _ => rfl), F.ok sc_law_tuples (fun vs H Q E h => ?_) (fun cdv A outer s H vs Q E hr h => ?_)⟩
  · obtain ⟨v, d, rfl, _⟩ := h; rfl
  · obtain ⟨v, d, rfl, hv, ok, q⟩ := h
    refine ⟨_, (pss_cons (ps_if (pt_val (pe_callB call_isi (by rfl) misinstance boot_isinstance (pa_cons (pv 0) (pa_cons (pe_bltn (v := .ty "tuple") (by rfl) mtuple (by decide +kernel) rfl) pa_nil)))) (pss_one (ps_ret (pe_notT (pe_lc (own := [("_law_item", 1)]) (g := gName 1) (tt := tNot (tB (tCall (spTup K 2) [] E0 (tCons (tVar 1) tNil)))) rfl sc_law_tuples.nd (pi_seq (pv 0)) (blkOk_by (N := ["_law_thing", "_law_item"]) (sc := defScope s_law_tuples) (by decide +kernel)) (fun _ _ _ _ _ => pg_name (i := 1) sc_law_tuples.nd rfl (.inl rfl)) (fun _ _ _ _ _ => (pts_one (pt_not (pt_val (pe_def G_law_tuples (hr.mono (by decide)) (by rfl) (pa_cons (pv 1) pa_nil)))))) (fun _ _ _ _ _ => pe_int))))) pss_nil) (pss_one (ps_ret (pe_and (pe_callB call_isi (by rfl) misinstance boot_isinstance (pa_cons (pv 0) (pa_cons (pe_bltn (v := .ty "int") (by rfl) mint (by decide +kernel) rfl) pa_nil))) (pe_one (pe_not (pe_callB call_isi (by rfl) misinstance boot_isinstance (pa_cons (pv 0) (pa_cons (pe_bltn (v := .ty "bool") (by rfl) mbool (by decide +kernel) rfl) pa_nil))))))))), ?_⟩
    obtain ⟨ds, rfl⟩ : ∃ ds, d = .tuple ds := by
      cases d with
      | tuple ds => exact ⟨ds, rfl⟩
      | _ => exact ok.elim
    refine ⟨v, rfl, v, _, _, _, _, rfl, .ty _, dp_tyx hv, kit_ty (kit_tuple (.tuple ds)), _, rfl, itT rfl ?_⟩
    cases hv with
    | tup hS hA =>
      rename_i a xs
      dsimp only [tRet, tNotT]
      refine .inr ⟨_, rfl, a, rfl, ⟨_, hS⟩, fun D nD => ?_⟩
      refine lc_tup (K := K) (a := a) (xs := xs) (fun i H' => Same H H' ∧ H' D = some (.lst [])) ⟨PB.same_new nD, upd_same⟩ (fun i H' _ h => same_t h.1 hS) ?_ ?_
      · rintro i x H' hi ⟨s1, hD⟩
        obtain ⟨d, ed, hd⟩ := DpAll_at hA hi
        refine ⟨rfl, x, rfl, x, d, rfl, Dp_same s1 hd, ok d (List.mem_of_getElem? ed), fun H3 s3 => ⟨_, rfl, ?_⟩⟩
        exact itF rfl ⟨s1.trans s3, s3 _ _ hD⟩
      · rintro H' ⟨s1, hD⟩
        exact ⟨false, .inl ⟨[], .inl (.inl hD), rfl⟩, q H' s1⟩
end
end F3
set_option Elab.async false
set_option linter.all false
set_option maxRecDepth 100000
set_option maxHeartbeats 4000000
set_option exponentiation.threshold 10000
namespace F3
open PySem PySem.Spec PyProof.Rows L2 FX RM PB KD KS
section
variable {X : Cx}
/-- a def that raises, called within a try: the error for every state -/
theorem pe_defW {x : Str} {k : Nat} {ps : List Str} {sp : Sp} {W : WX} {e : Expr} {es : List Expr} {t : TA} {p pos : Pos} (D : DefOk X.prog X.w X.K X.mg X.base (L2.CX X.prog X.w) x k ps sp) (hr : Room k X.A) (hg : Gl X x) (ha : PA X (e :: es) t) (tk : Takes X W) (n : Nat) (en : X.N.length = n)
    (hdb : (x == ("__debug__" : Str)) = false := by decide) (he : starEach (e :: es) X.env = (false, eval e X.env) :: starEach es X.env := by rfl) (hpl : (backTo pos (starEach es X.env)).any (·.1) = false := by rfl) :
    PE X (.Call (.Name x p) (e :: es) [] pos) (tCall sp [] (fun cls d H => ∀ σ : L2.St, σ.length = n → W cls d σ H) t) := by
  subst en
  obtain ⟨f, fd, g, k, b, F⟩ := D.ex
  exact pe_call F hr hg g k b .nil (fun pins σ H s e s' I h => passAt tk σ pins H s e s' I (CX.imp h fun _ _ _ z => z σ I.len)) ha hdb he hpl
theorem pe_patWK (K : PySem.W.Frag) {W : WX} {e : Expr} {es : List Expr} {t : TA} {p pos : Pos} (c : PCt X.prog X.w K X.mg X.base) (hr : Room 8 X.A) (hg : Gl X "Patch") (ha : PA X (e :: es) t) (tk : Takes X W) (n : Nat) (en : X.N.length = n) (eK : X.K = K := by rfl)
    (he : starEach (e :: es) X.env = (false, eval e X.env) :: starEach es X.env := by rfl) (hpl : (backTo pos (starEach es X.env)).any (·.1) = false := by rfl) :
    PE X (.Call (.Name "Patch" p) (e :: es) [] pos) (tMake (cP K) (spPInit K) [] (fun cls d H => ∀ σ : L2.St, σ.length = n → W cls d σ H) t) := by
  subst eK; subst en
  exact pe_patW c hr hg ha tk he hpl
end
/-- what Patch of a thing comes to: a word, or the corners -/
def spTry (K : PySem.W.Frag) : Sp := fun vs H Q _ => ∃ v d, vs = [v] ∧ Dp K H v d ∧
  (((rowsD d = none ∨ rowsD d = some []) ∧ ∀ H', Same H H' → Q (.str "many") H') ∨ ∃ ds, rowsD d = some ds ∧ ds ≠ [] ∧ ds.length ≤ 60 ∧ (((∃ b ∈ ds, isPla b = false) ∧ ∀ H', Same H H' → Q (.str "corner") H') ∨
    ∃ ps : List Pl, PlD ds ps ∧ (∀ q ∈ ps, GoodP 400 q) ∧ ∀ os, Srt ps os → (hullP os ≠ ps → ∀ H', Same H H' → Q (.str "turn") H') ∧ (hullP os = ps → ∀ H' z, Same H H' → Dp K H' z (.tuple (ps.map pD)) → Q z H')))
def spHullTry (P : Program) (w : World) (K : PySem.W.Frag) : Sp := fun vs H Q _ => ∃ v, vs = [v] ∧ (NoRow P w K H v ∨ ∃ p, v = .ref p ∧ (SqL K H p [] ∨ SqT K H p [])) ∧ ∀ H', Same H H' → Q (.str "many") H'
section
variable {P : Program} {w : World} {K : PySem.W.Frag} {mg : Str → Option Value} {base : Heap}
end
end F3
set_option Elab.async false
set_option linter.all false
set_option maxRecDepth 100000
set_option maxHeartbeats 4000000
set_option exponentiation.threshold 10000
namespace F3
open PySem PySem.Spec PyProof.Rows L2 FX RM PB KD KS
open G4 (Pt lx cr)
/-- what a hull's corners T are to the sorted points ss -/
structure Hf (T ss : List Pt) : Prop where
  sub : ∀ t ∈ T, t ∈ ss
  ne : T ≠ []
  nd : T.Nodup
  fst : T[0]? = ss[0]?
  one : T.length = 1 → ss[0]? = ss.getLast?
  side : 2 ≤ T.length → ∀ (k : Nat) (x y : Pt), T[k]? = some x → T[(k + 1) % T.length]? = some y → (∀ q ∈ ss, 0 ≤ cr x y q) ∧ ∀ q ∈ T, q ≠ x → q ≠ y → 0 < cr x y q
  two : T.length = 2 → T[1]? = ss.getLast?
theorem leP_asym {a b : Pt} (h : leP a b) (k : leP b a) : a = b := by
  rcases h with h | h
  · exact h
  · rcases k with k | k
    · exact k.symm
    · exact absurd (G4.lx_trans h k) (G4.lx_irrefl a)
theorem srt_fst {s : Pt} {ss : List Pt} (h : (s :: ss).Pairwise leP) : ∀ q ∈ s :: ss, leP s q := fun q hq => by
  rcases List.mem_cons.mp hq with e | e
  · exact .inl e.symm
  · exact (List.pairwise_cons.mp h).1 q e
theorem srt_lst {ss : List Pt} (h : ss.Pairwise leP) {z : Pt} (e : ss.getLast? = some z) : ∀ q ∈ ss, leP q z := fun q hq => by
  rcases nil_or_snoc ss with rfl | ⟨l, c, rfl⟩
  · cases hq
  · rw [List.getLast?_concat] at e
    cases e
    rcases List.mem_append.mp hq with m | m
    · exact (List.pairwise_append.mp h).2.2 q m _ (by simp)
    · exact .inl (List.mem_singleton.mp m)
theorem hull_facts {ps os : List Pl} {ss : List Pt} {N : Int} (h : Srt ps os) (n0 : 0 < N) (hb : ∀ p ∈ ps, Bot N p) (pn : ps ≠ []) (hs : ss.Pairwise leP) (hm : ∀ d, d ∈ ss ↔ d ∈ ps.map (sc N)) : Hf ((hullP os).map (sc N)) ss := by
  have hr : ∀ p ∈ ps, RatP p := fun p hp => (hb p hp).1
  have hm2 : ∀ d, d ∈ ss ↔ d ∈ os.map (sc N) := fun d => by
    rw [hm d, List.mem_map, List.mem_map]
    exact ⟨fun ⟨p, a, b⟩ => ⟨p, (h.m p).mpr a, b⟩, fun ⟨p, a, b⟩ => ⟨p, (h.m p).mp a, b⟩⟩
  have on : os ≠ [] := fun z => by
    obtain ⟨u, hu⟩ := List.exists_mem_of_ne_nil ps pn
    have := (h.m u).mpr hu
    rw [z] at this; cases this
  obtain ⟨u, hu⟩ := List.exists_mem_of_ne_nil ps pn
  obtain ⟨s0, sr, rfl⟩ : ∃ s0 sr, ss = s0 :: sr := by
    cases ss with
    | nil => exact absurd ((hm (sc N u)).mpr (List.mem_map.mpr ⟨u, hu, rfl⟩)) (fun z => nomatch z)
    | cons a b => exact ⟨a, b, rfl⟩
  obtain ⟨zl, ez⟩ : ∃ z, (s0 :: sr).getLast? = some z := ⟨_, List.getLast?_eq_some_getLast (List.cons_ne_nil _ _)⟩
  have zm : zl ∈ s0 :: sr := List.mem_of_getLast? ez
  by_cases l1 : os.length = 1
  · obtain ⟨o, rfl⟩ : ∃ o, os = [o] := by
      match os, l1 with
      | [o], _ => exact ⟨o, rfl⟩
    have eh : hullP [o] = [o] := rfl
    rw [eh]
    have all : ∀ d ∈ s0 :: sr, d = sc N o := fun d hd => List.mem_singleton.mp ((hm2 d).mp hd)
    have e0 := all s0 (List.mem_cons_self ..)
    have e1 := all zl zm
    refine ⟨fun t ht => (hm2 t).mpr ht, List.cons_ne_nil _ _, List.pairwise_singleton _ _, ?_, fun _ => ?_, fun l2 => ?_, fun l2 => ?_⟩
    · show some (sc N o) = some s0
      rw [e0]
    · rw [ez, e1, ← e0]; rfl
    · simp at l2
    · simp at l2
  · have l2 : 2 ≤ os.length := by
      have : os.length ≠ 0 := fun z => on (List.length_eq_zero_iff.mp z)
      omega
    obtain ⟨a, b, l, u', hl, e⟩ := h.hl n0 hb l2
    rw [e]
    have S : ∀ d, d ∈ s0 :: sr ↔ d ∈ os.map (sc N) := hm2
    have am := hl.mem a (List.mem_cons_self ..)
    have bm := hl.mem b (by simp)
    have ea : s0 = a := by
      have k1 := srt_fst hs a ((S a).mpr am)
      have k2 : leP a s0 := (hl.mn s0 ((S s0).mp (List.mem_cons_self ..))).elim (fun z => .inl z.symm) .inr
      exact leP_asym k1 k2
    have eb : zl = b := by
      have k1 := srt_lst hs ez b ((S b).mpr bm)
      have k2 : leP zl b := (hl.mx zl ((S zl).mp zm)).elim .inl .inr
      exact leP_asym k2 k1
    refine ⟨fun t ht => (S t).mpr (hl.mem t ht), List.cons_ne_nil _ _, hl.nodup, ?_, fun l1 => ?_, fun _ k x y hx hy => ?_, fun l2 => ?_⟩
    · show some a = some s0
      rw [ea]
    · simp at l1
    · obtain ⟨p1, p2⟩ := hl.side k x y hx hy
      exact ⟨fun q hq => p1 q ((S q).mp hq), p2⟩
    · rw [ez, eb]
      have l0 : l = [] := by
        cases l with
        | nil => rfl
        | cons c l => simp at l2
      subst l0
      rfl
end F3
set_option Elab.async false
set_option linter.all false
set_option maxRecDepth 100000
set_option maxHeartbeats 4000000
set_option exponentiation.threshold 10000
/-! patches asked: sides, halves, amounts, by whole points -/
namespace F3
open PySem PySem.Spec PyProof.Rows L2 FX RM PB KD KS
/-! ratios over one bottom -/
theorem rep_scale {r : Rt} {t b t' b' : Int} (h : Rep r t b) (k : 0 < b') (e : t * b' = t' * b) : Rep r t' b' := by
  obtain ⟨h1, hb, h2⟩ := h
  refine ⟨h1, k, ?_⟩
  refine Int.eq_of_mul_eq_mul_right (a := b) (by omega) ?_
  calc r.1 * b' * b = r.1 * b * b' := by grind
    _ = t * b' * r.2 := by rw [h2]; grind
    _ = t' * r.2 * b := by rw [e]; grind
theorem rep_add1 {r s : Rt} {t t' b : Int} (h : Rep r t b) (k : Rep s t' b) : Rep (radd r s) (t + t') b := rep_scale (rep_add h k) h.2.1 (by grind)
theorem rep_sub1 {r s : Rt} {t t' b : Int} (h : Rep r t b) (k : Rep s t' b) : Rep (rsub r s) (t - t') b := rep_scale (rep_sub h k) h.2.1 (by grind)
theorem rep_sz {r : Rt} {t b : Int} {n m : Nat} (h : Rep r t b) (ht : Sz n t) (hb : Sz m b) : Sz n r.1 ∧ Sz m r.2 := by
  rw [← norm_of h]
  exact ⟨sz_div (.inr (by have := h.2.1; omega)) ht, sz_div' (.inr (by have := h.2.1; omega)) hb⟩
def ltR (r s : Rt) : Prop := r.1 * s.2 < s.1 * r.2
instance (r s : Rt) : Decidable (ltR r s) := inferInstanceAs (Decidable (_ < _))
theorem pos_mul_lt {a b c : Int} (h : 0 < c) : a * c < b * c ↔ a < b := ⟨fun k => Int.lt_of_mul_lt_mul_right k (Int.le_of_lt h), fun k => Int.mul_lt_mul_of_pos_right k h⟩
theorem rep_lt {r s : Rt} {t t' b : Int} (h : Rep r t b) (k : Rep s t' b) : ltR r s ↔ t < t' := by
  obtain ⟨h1, hb, h2⟩ := h
  obtain ⟨k1, _, k2⟩ := k
  have p : 0 < r.2 * s.2 := Int.mul_pos h1.1 k1.1
  unfold ltR
  rw [← pos_mul_lt (a := r.1 * s.2) hb, ← pos_mul_lt (a := t) p]
  have e1 : r.1 * s.2 * b = t * (r.2 * s.2) := by calc r.1 * s.2 * b = r.1 * b * s.2 := by grind
    _ = _ := by rw [h2]; grind
  have e2 : s.1 * r.2 * b = t' * (r.2 * s.2) := by calc s.1 * r.2 * b = s.1 * b * r.2 := by grind
    _ = _ := by rw [k2]; grind
  rw [e1, e2]
theorem rep_eqv {r s : Rt} {t t' b : Int} (h : Rep r t b) (k : Rep s t' b) : r = s ↔ t = t' := by
  constructor
  · intro e
    subst e
    have e := h.2.2.symm.trans k.2.2
    exact Int.eq_of_mul_eq_mul_right (by have := h.1.1; omega) e
  · intro e
    exact rep_eq h k (by rw [e])
theorem lt_anti {r s : Rt} (h : IsRat r) (k : IsRat s) (a : ¬ ltR r s) (b : ¬ ltR s r) : r = s := rat_eq h k (by unfold ltR at a b; omega)
theorem rep_c {N : Int} (n0 : 0 < N) {p : Pl} (h : Bot N p) : Rep p.1 (sc N p).1 N ∧ Rep p.2 (sc N p).2 N := ⟨⟨h.1.1, n0, (sc_1 h).1.symm⟩, ⟨h.1.2, n0, (sc_1 h).2.symm⟩⟩
/-! amounts -/
def dt (d : Int × Int) (P : G4.Pt) : Int := d.1 * P.1 + d.2 * P.2
def ng2 (d : Int × Int) : Int × Int := (-d.1, -d.2)
theorem dt_ng (d : Int × Int) (P : G4.Pt) : dt (ng2 d) P = - dt d P := by unfold dt ng2; dsimp only; grind
theorem rawA_pos {d : Int × Int} {p : Pl} (h : RatP p) : 0 < (rawA d p).2 := Int.mul_pos h.1.1 h.2.1
theorem amt_rat {d : Int × Int} {p : Pl} (h : RatP p) : IsRat (amt d p) := norm_rat (rawA_pos h)
theorem amt_dt {N : Int} (n0 : 0 < N) {p : Pl} (h : Bot N p) (d : Int × Int) : Rep (amt d p) (dt d (sc N p)) N := by
  refine rep_scale (rep_norm (rawA_pos h.1)) n0 ?_
  obtain ⟨s1, s2⟩ := sc_1 h
  unfold rawA dt
  dsimp only
  generalize (sc N p).1 = x at *
  generalize (sc N p).2 = y at *
  calc (d.1 * p.1.1 * p.2.2 + d.2 * p.2.1 * p.1.2) * N = d.1 * p.2.2 * (p.1.1 * N) + d.2 * p.1.2 * (p.2.1 * N) := by grind
    _ = _ := by rw [← s1, ← s2]; grind
theorem amt_neg {d : Int × Int} {p : Pl} (h : RatP p) : amt (ng2 d) p = rneg (amt d p) := by
  have hb := bots_ok (l := [p]) (fun q hq => by rw [List.mem_singleton.mp hq]; exact h) p (List.mem_singleton.mpr rfl)
  have n0 := bots_pos (l := [p]) (fun q hq => by rw [List.mem_singleton.mp hq]; exact h)
  exact (rep_eqv (amt_dt n0 hb _) (rep_neg (amt_dt n0 hb d))).mpr (dt_ng _ _)
/-! the greatest and the least of a row -/
def topF (r0 : Rt) (rs : List Rt) : Rt := rs.foldl (fun g r => if ltR g r then r else g) r0
def lowF (r0 : Rt) (rs : List Rt) : Rt := rs.foldl (fun g r => if ltR r g then r else g) r0
def topC (d : Int × Int) (cs : List Pl) : Rt := topF (amt d (cs.headD zP)) (cs.map (amt d))
def lowC (d : Int × Int) (cs : List Pl) : Rt := lowF (amt d (cs.headD zP)) (cs.map (amt d))
theorem lt_trans_R {r s t : Rt} (hr : IsRat r) (hs : IsRat s) (ht : IsRat t) (h : ¬ ltR s r) (k : ¬ ltR t s) : ¬ ltR t r := by
  unfold ltR at *
  intro z
  have h' : r.1 * s.2 ≤ s.1 * r.2 := by omega
  have k' : s.1 * t.2 ≤ t.1 * s.2 := by omega
  have a := Int.mul_le_mul_of_nonneg_right h' (Int.le_of_lt ht.1)
  have b := Int.mul_le_mul_of_nonneg_right k' (Int.le_of_lt hr.1)
  have c := (pos_mul_lt (a := t.1 * r.2) (b := r.1 * t.2) hs.1).mpr z
  have e1 : r.1 * s.2 * t.2 = r.1 * t.2 * s.2 := by grind
  have e2 : s.1 * r.2 * t.2 = s.1 * t.2 * r.2 := by grind
  have e3 : t.1 * s.2 * r.2 = t.1 * r.2 * s.2 := by grind
  omega
theorem lt_irr (r : Rt) : ¬ ltR r r := by unfold ltR; omega
theorem top_ok : ∀ (rs : List Rt) (r0 : Rt), IsRat r0 → (∀ r ∈ rs, IsRat r) → (topF r0 rs ∈ r0 :: rs) ∧ ∀ r ∈ r0 :: rs, ¬ ltR (topF r0 rs) r
  | [], r0, _, _ => ⟨List.mem_cons_self .., fun r hr => by rw [List.mem_singleton.mp hr]; exact lt_irr _⟩
  | r :: rs, r0, h0, h => by
    have hr := h r (List.mem_cons_self ..)
    have hg : IsRat (if ltR r0 r then r else r0) := by split <;> assumption
    obtain ⟨a, b⟩ := top_ok rs (if ltR r0 r then r else r0) hg (fun x hx => h x (List.mem_cons_of_mem _ hx))
    have e : topF r0 (r :: rs) = topF (if ltR r0 r then r else r0) rs := rfl
    rw [e]
    have ht : IsRat (topF (if ltR r0 r then r else r0) rs) := by
      rcases List.mem_cons.mp a with z | z
      · rw [z]; exact hg
      · exact h _ (List.mem_cons_of_mem _ z)
    have b0 := b _ (List.mem_cons_self ..)
    refine ⟨?_, fun x hx => ?_⟩
    · rcases List.mem_cons.mp a with z | z
      · rw [z]
        split
        · simp
        · simp
      · exact List.mem_cons_of_mem _ (List.mem_cons_of_mem _ z)
    · rcases List.mem_cons.mp hx with z | z
      · subst z
        refine lt_trans_R h0 hg ht ?_ b0
        split
        · rename_i c; unfold ltR at *; omega
        · exact lt_irr _
      · rcases List.mem_cons.mp z with z | z
        · subst z
          refine lt_trans_R hr hg ht ?_ b0
          split
          · exact lt_irr _
          · assumption
        · exact b x (List.mem_cons_of_mem _ z)
theorem top_eq {d : Int × Int} {cs : List Pl} (hr : ∀ c ∈ cs, RatP c) {c : Pl} (hc : c ∈ cs) (h : ∀ q ∈ cs, ¬ ltR (amt d c) (amt d q)) : topC d cs = amt d c := by
  have ne : cs ≠ [] := fun z => by rw [z] at hc; cases hc
  obtain ⟨c0, cr, rfl⟩ : ∃ c0 cr, cs = c0 :: cr := by
    cases cs with
    | nil => exact absurd rfl ne
    | cons a b => exact ⟨a, b, rfl⟩
  have h0 : IsRat (amt d c0) := amt_rat (hr c0 (List.mem_cons_self ..))
  have hm : ∀ r ∈ (c0 :: cr).map (amt d), IsRat r := fun r hm => by
    obtain ⟨q, hq, rfl⟩ := List.mem_map.mp hm
    exact amt_rat (hr q hq)
  obtain ⟨a, b⟩ := top_ok _ (amt d c0) h0 hm
  have am : ∃ q ∈ c0 :: cr, topC d (c0 :: cr) = amt d q := by
    rcases List.mem_cons.mp a with z | z
    · exact ⟨c0, List.mem_cons_self .., z⟩
    · obtain ⟨q, hq, e⟩ := List.mem_map.mp z
      exact ⟨q, hq, e.symm⟩
  obtain ⟨q, hq, e⟩ := am
  have b1 := b (amt d c) (List.mem_cons_of_mem _ (List.mem_map.mpr ⟨c, hc, rfl⟩))
  have e2 : topF (amt d c0) ((c0 :: cr).map (amt d)) = topC d (c0 :: cr) := rfl
  rw [e2, e] at b1
  rw [e]
  exact lt_anti (amt_rat (hr q hq)) (amt_rat (hr c hc)) b1 (h q hq)
theorem top_mem {d : Int × Int} {cs : List Pl} (hr : ∀ c ∈ cs, RatP c) (ne : cs ≠ []) : ∃ c ∈ cs, topC d cs = amt d c := by
  obtain ⟨c0, cr, rfl⟩ : ∃ c0 cr, cs = c0 :: cr := by
    cases cs with
    | nil => exact absurd rfl ne
    | cons a b => exact ⟨a, b, rfl⟩
  have h0 : IsRat (amt d c0) := amt_rat (hr c0 (List.mem_cons_self ..))
  have hm : ∀ r ∈ (c0 :: cr).map (amt d), IsRat r := fun r hm => by
    obtain ⟨q, hq, rfl⟩ := List.mem_map.mp hm
    exact amt_rat (hr q hq)
  obtain ⟨a, b⟩ := top_ok _ (amt d c0) h0 hm
  rcases List.mem_cons.mp a with z | z
  · exact ⟨c0, List.mem_cons_self .., z⟩
  · obtain ⟨q, hq, e⟩ := List.mem_map.mp z
    exact ⟨q, hq, e.symm⟩
theorem neg_lt (r s : Rt) : ltR (rneg r) (rneg s) ↔ ltR s r := by
  unfold ltR rneg
  dsimp only
  rw [Int.neg_mul, Int.neg_mul]; omega
theorem low_neg : ∀ (rs : List Rt) (r0 : Rt), lowF r0 rs = rneg (topF (rneg r0) (rs.map rneg))
  | [], r0 => by show r0 = rneg (rneg r0); unfold rneg; simp
  | r :: rs, r0 => by
    have ih := low_neg rs (if ltR r r0 then r else r0)
    have e1 : lowF r0 (r :: rs) = lowF (if ltR r r0 then r else r0) rs := rfl
    have e2 : topF (rneg r0) ((r :: rs).map rneg) = topF (if ltR (rneg r0) (rneg r) then rneg r else rneg r0) (rs.map rneg) := rfl
    rw [e1, e2, ih]
    congr 2
    by_cases c : ltR r r0
    · rw [if_pos c, if_pos ((neg_lt _ _).mpr c)]
    · rw [if_neg c, if_neg fun z => c ((neg_lt _ _).mp z)]
theorem lowC_eq {d : Int × Int} {cs : List Pl} (hr : ∀ c ∈ cs, RatP c) (ne : cs ≠ []) : lowC d cs = rneg (topC (ng2 d) cs) := by
  obtain ⟨c0, cr, rfl⟩ : ∃ c0 cr, cs = c0 :: cr := by
    cases cs with
    | nil => exact absurd rfl ne
    | cons a b => exact ⟨a, b, rfl⟩
  unfold lowC topC
  rw [low_neg]
  congr 2
  · exact (amt_neg (hr c0 (List.mem_cons_self ..))).symm
  · rw [List.map_map]
    exact List.map_congr_left fun q hq => (amt_neg (hr q hq)).symm
end F3
set_option Elab.async false
set_option linter.all false
set_option maxRecDepth 100000
set_option maxHeartbeats 4000000
set_option exponentiation.threshold 10000
namespace F3
open PySem PySem.Spec PyProof.Rows L2 FX RM PB KD KS
/-! the direction of a step, the direction to its right -/
def dirS (x y : Pl) : Int × Int := dirOf (stepF x y)
def norS (x y : Pl) : Int × Int := ((dirS x y).2, -(dirS x y).1)
theorem dir_par {N : Int} (n0 : 0 < N) {x y : Pl} (hx : Bot N x) (hy : Bot N y) (ne : x ≠ y) : ∃ t u : Int, 0 < t ∧ 0 < u ∧ ((sc N y).1 - (sc N x).1) * t = (dirS x y).1 * u ∧ ((sc N y).2 - (sc N x).2) * t = (dirS x y).2 * u := by
  obtain ⟨x1, x2⟩ := rep_c n0 hx
  obtain ⟨y1, y2⟩ := rep_c n0 hy
  have s1 : Rep (rsub y.1 x.1) ((sc N y).1 - (sc N x).1) N := rep_sub1 y1 x1
  have s2 : Rep (rsub y.2 x.2) ((sc N y).2 - (sc N x).2) N := rep_sub1 y2 x2
  unfold dirS dirOf stepF
  dsimp only
  generalize rsub y.1 x.1 = a at *
  generalize rsub y.2 x.2 = b at *
  obtain ⟨ra, _, ea⟩ := s1
  obtain ⟨rb, _, eb⟩ := s2
  have nz : a.1 * b.2 ≠ 0 ∨ b.1 * a.2 ≠ 0 := by
    have a0 := ra.1
    have b0 := rb.1
    by_cases h1 : a.1 = 0
    · by_cases h2 : b.1 = 0
      · exfalso
        rw [h1, Int.zero_mul] at ea
        rw [h2, Int.zero_mul] at eb
        have z1 := (Int.mul_eq_zero.mp ea.symm).resolve_right (by omega)
        have z2 := (Int.mul_eq_zero.mp eb.symm).resolve_right (by omega)
        exact ne (sc_inj n0 hx hy (Prod.ext (by omega) (by omega)))
      · exact .inr (Int.mul_ne_zero h2 (by omega))
    · exact .inl (Int.mul_ne_zero h1 (by omega))
  obtain ⟨p, q, e1, e2, d1, d2, _⟩ := g2_parts nz
  have gp : 0 < g2 (a.1 * b.2) (b.1 * a.2) := g2_posO nz
  have en : norm (a.1 * b.2) (b.1 * a.2) = (p, q) := Prod.ext d1 d2
  rw [en]
  dsimp only
  generalize g2 (a.1 * b.2) (b.1 * a.2) = g at *
  generalize (sc N y).1 - (sc N x).1 = D1 at *
  generalize (sc N y).2 - (sc N x).2 = D2 at *
  refine ⟨a.2 * b.2, g * N, Int.mul_pos ra.1 rb.1, Int.mul_pos gp n0, ?_, ?_⟩
  · calc D1 * (a.2 * b.2) = D1 * a.2 * b.2 := by grind
      _ = a.1 * b.2 * N := by rw [← ea]; grind
      _ = p * (g * N) := by rw [e1]; grind
  · calc D2 * (a.2 * b.2) = D2 * b.2 * a.2 := by grind
      _ = b.1 * a.2 * N := by rw [← eb]; grind
      _ = q * (g * N) := by rw [e2]; grind
theorem step_nz {x y : Pl} (hx : RatP x) (hy : RatP y) (ne : x ≠ y) : (stepF x y).1.1 ≠ 0 ∨ (stepF x y).2.1 ≠ 0 := by
  have hm : ∀ q ∈ [x, y], RatP q := fun q hq => by
    rcases List.mem_cons.mp hq with e | e
    · rw [e]; exact hx
    · rw [List.mem_singleton.mp e]; exact hy
  have n0 := bots_pos hm
  have bx := bots_ok hm x (by simp)
  have by_ := bots_ok hm y (by simp)
  generalize bots [x, y] = N at *
  obtain ⟨x1, x2⟩ := rep_c n0 bx
  obtain ⟨y1, y2⟩ := rep_c n0 by_
  have s1 : Rep (rsub y.1 x.1) ((sc N y).1 - (sc N x).1) N := rep_sub1 y1 x1
  have s2 : Rep (rsub y.2 x.2) ((sc N y).2 - (sc N x).2) N := rep_sub1 y2 x2
  by_cases h1 : (rsub y.1 x.1).1 = 0
  · by_cases h2 : (rsub y.2 x.2).1 = 0
    · exfalso
      obtain ⟨ra, _, ea⟩ := s1
      obtain ⟨rb, _, eb⟩ := s2
      have a0 := ra.1
      have b0 := rb.1
      rw [h1, Int.zero_mul] at ea
      rw [h2, Int.zero_mul] at eb
      have z1 := (Int.mul_eq_zero.mp ea.symm).resolve_right (by omega)
      have z2 := (Int.mul_eq_zero.mp eb.symm).resolve_right (by omega)
      exact ne (sc_inj n0 bx by_ (Prod.ext (by omega) (by omega)))
    · exact .inr h2
  · exact .inl h1
theorem dir_sz {n m : Nat} {p : Pl} (hz : p.1.1 ≠ 0 ∨ p.2.1 ≠ 0) (hr : RatP p) (h : Sz n p.1.1 ∧ Sz n p.2.1) (k : Sz m p.1.2 ∧ Sz m p.2.2) : SzR (n + m) (dirOf p) := by
  have nz : p.1.1 * p.2.2 ≠ 0 ∨ p.2.1 * p.1.2 ≠ 0 := by
    have := hr.1.1
    have := hr.2.1
    rcases hz with h | h
    · exact .inl (Int.mul_ne_zero h (by omega))
    · exact .inr (Int.mul_ne_zero h (by omega))
  exact ⟨sz_div nz (sz_mul h.1 k.2), sz_div' nz (sz_mul h.2 k.1)⟩
/-- the program's way to the right is ours -/
theorem g2_comm (a b : Int) : g2 a b = g2 b a := by unfold g2; rw [Nat.gcd_comm]
theorem g2_neg (a b : Int) : g2 a (-b) = g2 a b := by unfold g2; rw [Int.natAbs_neg]
theorem neg_div_g {a g : Int} (h : ∃ k, a = g * k) : -a / g = -(a / g) := by
  obtain ⟨k, e⟩ := h
  subst e
  by_cases g0 : g = 0
  · subst g0; simp
  · rw [Int.mul_ediv_cancel_left _ g0, ← Int.mul_neg, Int.mul_ediv_cancel_left _ g0]
theorem nor_eq (x y : Pl) : dirOf ((stepF x y).2, rneg (stepF x y).1) = norS x y := by
  unfold norS dirS dirOf norm
  generalize stepF x y = s
  show (s.2.1 * (rneg s.1).2 / g2 (s.2.1 * (rneg s.1).2) ((rneg s.1).1 * s.2.2), (rneg s.1).1 * s.2.2 / g2 (s.2.1 * (rneg s.1).2) ((rneg s.1).1 * s.2.2)) = _
  have e1 : (rneg s.1).2 = s.1.2 := rfl
  have e2 : (rneg s.1).1 * s.2.2 = -(s.1.1 * s.2.2) := by show -s.1.1 * s.2.2 = _; rw [Int.neg_mul]
  rw [e1, e2, g2_neg, g2_comm]
  exact Prod.ext rfl (neg_div_g (g2_l _ _))
theorem rsub_anti (r s : Rt) (hr : IsRat r) (hs : IsRat s) : rsub s r = rneg (rsub r s) := by
  have a := rep_sub (rep_self hs) (rep_self hr)
  have b := rep_neg (rep_sub (rep_self hr) (rep_self hs))
  exact rep_eq a b (by grind)
theorem dir_anti {x y : Pl} (hx : RatP x) (hy : RatP y) : dirS y x = ng2 (dirS x y) := by
  have e1 : stepF y x = (rneg (stepF x y).1, rneg (stepF x y).2) := by
    unfold stepF
    exact Prod.ext (rsub_anti _ _ hy.1 hx.1) (rsub_anti _ _ hy.2 hx.2)
  unfold dirS
  rw [e1]
  unfold dirOf norm ng2
  generalize stepF x y = s
  have a1 : (rneg s.1).1 * (rneg s.2).2 = -(s.1.1 * s.2.2) := by show -s.1.1 * s.2.2 = _; rw [Int.neg_mul]
  have a2 : (rneg s.2).1 * (rneg s.1).2 = -(s.2.1 * s.1.2) := by show -s.2.1 * s.1.2 = _; rw [Int.neg_mul]
  dsimp only
  rw [a1, a2, g2_neg, g2_comm (-(s.1.1 * s.2.2)), g2_neg, g2_comm]
  exact Prod.ext (neg_div_g (g2_l _ _)) (neg_div_g (g2_r _ _))
/-! a side: left of it is below along its right -/
theorem side_dt {N : Int} (n0 : 0 < N) {x y : Pl} (hx : Bot N x) (hy : Bot N y) (ne : x ≠ y) (Q : G4.Pt) : (0 ≤ G4.cr (sc N x) (sc N y) Q ↔ dt (norS x y) Q ≤ dt (norS x y) (sc N x)) := by
  obtain ⟨t, u, t0, u0, e1, e2⟩ := dir_par n0 hx hy ne
  unfold norS dt G4.cr
  dsimp only
  generalize dirS x y = d at *
  generalize sc N x = X at *
  generalize sc N y = Y at *
  have e : ((Y.1 - X.1) * (Q.2 - X.2) - (Y.2 - X.2) * (Q.1 - X.1)) * t = ((d.2 * X.1 + -d.1 * X.2) - (d.2 * Q.1 + -d.1 * Q.2)) * u := by
    calc _ = ((Y.1 - X.1) * t) * (Q.2 - X.2) - ((Y.2 - X.2) * t) * (Q.1 - X.1) := by grind
      _ = _ := by rw [e1, e2]; grind
  generalize (Y.1 - X.1) * (Q.2 - X.2) - (Y.2 - X.2) * (Q.1 - X.1) = c at *
  generalize hA : d.2 * X.1 + -d.1 * X.2 = A at *
  generalize hB : d.2 * Q.1 + -d.1 * Q.2 = B at *
  constructor
  · intro h
    have := Int.mul_nonneg h (Int.le_of_lt t0)
    rw [e] at this
    rcases Int.lt_or_le A B with z | z
    · have := Int.mul_neg_of_neg_of_pos (show A - B < 0 by omega) u0; omega
    · exact z
  · intro h
    have := Int.mul_nonneg (show 0 ≤ A - B by omega) (Int.le_of_lt u0)
    rw [← e] at this
    rcases Int.lt_or_le c 0 with z | z
    · have := Int.mul_neg_of_neg_of_pos z t0; omega
    · exact z
/-- the corners of a patch -/
structure Poly (cs : List Pl) : Prop where
  ne : cs ≠ []
  rat : ∀ c ∈ cs, RatP c
  nd : cs.Nodup
  side : 2 ≤ cs.length → ∀ (k : Nat) (x y : Pl), cs[k]? = some x → cs[(k + 1) % cs.length]? = some y → x ≠ y ∧ ∀ q ∈ cs, 0 ≤ sgP x y q
  two : ∀ a b, cs = [a, b] → ltP a b
theorem pair_or {α : Type} {R : α → α → Prop} : ∀ {l : List α}, l.Pairwise R → ∀ {a b}, a ∈ l → b ∈ l → a ≠ b → R a b ∨ R b a
  | x :: l, h, a, b, ha, hb, ne => by
    obtain ⟨h1, h2⟩ := List.pairwise_cons.mp h
    rcases List.mem_cons.mp ha with e | ha
    · rcases List.mem_cons.mp hb with e2 | hb
      · exact absurd (e.trans e2.symm) ne
      · exact .inl (e ▸ h1 b hb)
    · rcases List.mem_cons.mp hb with e2 | hb
      · exact .inr (e2 ▸ h1 a ha)
      · exact pair_or h2 ha hb ne
theorem poly_of {ps os : List Pl} (h : Srt ps os) (hr : ∀ p ∈ ps, RatP p) (ne : ps ≠ []) : Poly (hullP os) := by
  have n0 := bots_pos hr
  have hb := bots_ok hr
  generalize bots ps = N at *
  have hs : (os.map (sc N)).Pairwise leP := (h.asc n0 hb).imp fun z => .inr z
  have hf := hull_facts h n0 hb ne hs (fun d => by
    rw [List.mem_map, List.mem_map]
    exact ⟨fun ⟨p, a, b⟩ => ⟨p, (h.m p).mp a, b⟩, fun ⟨p, a, b⟩ => ⟨p, (h.m p).mpr a, b⟩⟩)
  have hm : ∀ c ∈ hullP os, c ∈ ps := fun c hc => (h.m c).mp (hull_sub c hc)
  have nd := hull_nodup h hr
  refine ⟨hull_ne h hr ne, fun c hc => hr c (hm c hc), nd, fun l2 k x y hx hy => ?_, fun a b e => ?_⟩
  · have kx := (List.getElem?_eq_some_iff.mp hx).1
    have xy : x ≠ y := fun e => by
      subst e
      obtain ⟨k1, q1⟩ := List.getElem?_eq_some_iff.mp hx
      obtain ⟨k2, q2⟩ := List.getElem?_eq_some_iff.mp hy
      have := (List.getElem_inj nd).mp (q1.trans q2.symm)
      by_cases z : k + 1 = (hullP os).length
      · rw [z, Nat.mod_self] at this; omega
      · rw [Nat.mod_eq_of_lt (by omega)] at this; omega
    refine ⟨xy, fun q hq => ?_⟩
    have lm : ((hullP os).map (sc N)).length = (hullP os).length := List.length_map ..
    have g := hf.side (by rw [lm]; exact l2) k (sc N x) (sc N y) (by rw [List.getElem?_map, hx]; rfl) (by rw [lm, List.getElem?_map, hy]; rfl)
    have g1 := g.1 (sc N q) (hf.sub _ (List.mem_map.mpr ⟨q, hq, rfl⟩))
    have bx := hb x (hm x (List.mem_of_getElem? hx))
    have by_ := hb y (hm y (List.mem_of_getElem? hy))
    have bq := hb q (hm q hq)
    have := (sc_pos n0 bx by_ bq).2
    rcases Int.lt_or_le (sgP x y q) 0 with z | z
    · have := this.mp z; omega
    · exact z
  · have ha : a ∈ hullP os := by rw [e]; simp
    have hb' : b ∈ hullP os := by rw [e]; simp
    have ab : a ≠ b := fun z => by
      rw [e] at nd
      exact (List.nodup_cons.mp nd).1 (by rw [z]; simp)
    rcases pair_or h.lt (hull_sub a ha) (hull_sub b hb') ab with z | z
    · exact z
    · exfalso
      have lx := sc_lx n0 (hb b (hm b hb')) (hb a (hm a ha)) z
      have f0 := hf.fst
      rw [e] at f0
      obtain ⟨s0, sr, es⟩ : ∃ s0 sr, os.map (sc N) = s0 :: sr := by
        cases q : os.map (sc N) with
        | nil => rw [q] at f0; cases f0
        | cons u v => exact ⟨u, v, rfl⟩
      rw [es] at f0 hs
      have e0 : s0 = sc N a := (Option.some.inj f0).symm
      have := srt_fst hs (sc N b) (by rw [← es]; exact List.mem_map.mpr ⟨b, hull_sub b hb', rfl⟩)
      rw [e0] at this
      rcases this with q | q
      · rw [q] at lx; exact G4.lx_irrefl _ lx
      · exact G4.lx_asymm lx q
end F3
set_option Elab.async false
set_option linter.all false
set_option maxRecDepth 100000
set_option maxHeartbeats 4000000
set_option exponentiation.threshold 10000
namespace F3
open PySem PySem.Spec PyProof.Rows L2 FX RM PB KD KS
/-! the halves of a patch; what lies in it -/
def AX4 : List (Int × Int) := [(1, 0), (0, 1), (-1, 0), (0, -1)]
def halvesF : List Pl → List ((Int × Int) × Rt)
  | [c] => AX4.map fun d => (d, amt d c)
  | [a, b] => [(norS a b, amt (norS a b) a), (ng2 (norS a b), amt (ng2 (norS a b)) a), (dirS a b, amt (dirS a b) b), (ng2 (dirS a b), amt (ng2 (dirS a b)) a)]
  | cs => (List.range cs.length).map fun k => (norS (cs.getD k zP) (cs.getD ((k + 1) % cs.length) zP), amt (norS (cs.getD k zP) (cs.getD ((k + 1) % cs.length) zP)) (cs.getD k zP))
theorem halves3 {cs : List Pl} (l3 : 3 ≤ cs.length) : halvesF cs = (List.range cs.length).map fun k => (norS (cs.getD k zP) (cs.getD ((k + 1) % cs.length) zP), amt (norS (cs.getD k zP) (cs.getD ((k + 1) % cs.length) zP)) (cs.getD k zP)) := by
  match cs, l3 with
  | _ :: _ :: _ :: _, _ => rfl
def Lies (cs : List Pl) (p : Pl) : Prop := ∀ h ∈ halvesF cs, ¬ ltR h.2 (amt h.1 p)
theorem cases3 {cs : List Pl} (ne : cs ≠ []) : (∃ c, cs = [c]) ∨ (∃ a b, cs = [a, b]) ∨ 3 ≤ cs.length := by
  match cs, ne with
  | [c], _ => exact .inl ⟨c, rfl⟩
  | [a, b], _ => exact .inr (.inl ⟨a, b, rfl⟩)
  | _ :: _ :: _ :: _, _ => exact .inr (.inr (by simp))
theorem bots_for {l : List Pl} (h : ∀ q ∈ l, RatP q) : ∃ N : Int, 0 < N ∧ ∀ q ∈ l, Bot N q := ⟨bots l, bots_pos h, bots_ok h⟩
theorem getD_at {cs : List Pl} {k : Nat} (h : k < cs.length) : cs[k]? = some (cs.getD k zP) := by
  rw [List.getD_eq_getElem?_getD, List.getElem?_eq_getElem h]; rfl
theorem sg_cr {N : Int} (n0 : 0 < N) {a b c : Pl} (ha : Bot N a) (hb : Bot N b) (hc : Bot N c) : (0 ≤ sgP a b c ↔ 0 ≤ G4.cr (sc N a) (sc N b) (sc N c)) ∧ (sgP a b c = 0 ↔ G4.cr (sc N a) (sc N b) (sc N c) = 0) := by
  have := sc_pos n0 ha hb hc
  omega
theorem not_lt_amt {N : Int} (n0 : 0 < N) {a b : Pl} (ha : Bot N a) (hb : Bot N b) (d : Int × Int) : ¬ ltR (amt d a) (amt d b) ↔ dt d (sc N b) ≤ dt d (sc N a) := by
  rw [rep_lt (amt_dt n0 ha d) (amt_dt n0 hb d)]; omega
theorem side_amt {x y q : Pl} (hx : RatP x) (hy : RatP y) (hq : RatP q) (ne : x ≠ y) : 0 ≤ sgP x y q ↔ ¬ ltR (amt (norS x y) x) (amt (norS x y) q) := by
  obtain ⟨N, n0, hb⟩ := bots_for (l := [x, y, q]) (fun r hr => by
    rcases List.mem_cons.mp hr with e | hr
    · rw [e]; exact hx
    · rcases List.mem_cons.mp hr with e | hr
      · rw [e]; exact hy
      · rw [List.mem_singleton.mp hr]; exact hq)
  have bx := hb x (by simp)
  have by_ := hb y (by simp)
  have bq := hb q (by simp)
  rw [(sg_cr n0 bx by_ bq).1, side_dt n0 bx by_ ne, not_lt_amt n0 bx bq]
theorem lies3 {cs : List Pl} (P : Poly cs) (l3 : 3 ≤ cs.length) {p : Pl} (hp : RatP p) : Lies cs p ↔ ∀ k x y, cs[k]? = some x → cs[(k + 1) % cs.length]? = some y → 0 ≤ sgP x y p := by
  unfold Lies
  rw [halves3 l3]
  constructor
  · intro h k x y hx hy
    have kl := (List.getElem?_eq_some_iff.mp hx).1
    have s := (P.side (by omega) k x y hx hy).1
    rw [side_amt (P.rat x (List.mem_of_getElem? hx)) (P.rat y (List.mem_of_getElem? hy)) hp s]
    have ex : cs.getD k zP = x := by rw [List.getD_eq_getElem?_getD, hx]; rfl
    have ey : cs.getD ((k + 1) % cs.length) zP = y := by rw [List.getD_eq_getElem?_getD, hy]; rfl
    have := h _ (List.mem_map.mpr ⟨k, List.mem_range.mpr kl, rfl⟩)
    rw [ex, ey] at this
    exact this
  · intro h z hz
    obtain ⟨k, hk, rfl⟩ := List.mem_map.mp hz
    have kl := List.mem_range.mp hk
    have hx := getD_at kl
    have hy := getD_at (cs := cs) (k := (k + 1) % cs.length) (Nat.mod_lt _ (by omega))
    have s := (P.side (by omega) k _ _ hx hy).1
    exact (side_amt (P.rat _ (List.mem_of_getElem? hx)) (P.rat _ (List.mem_of_getElem? hy)) hp s).mp (h k _ _ hx hy)
/-! by x, then by y -/
def sxP (a b : Pl) : Int := sgn (a.1.1 * b.1.2 - b.1.1 * a.1.2)
def syP (a b : Pl) : Int := sgn (a.2.1 * b.2.2 - b.2.1 * a.2.2)
def cmpP (a b : Pl) : Int := if sxP a b = 0 then syP a b else sxP a b
theorem sgn_r {r s : Rt} {t t' b : Int} (h : Rep r t b) (k : Rep s t' b) : sgn (r.1 * s.2 - s.1 * r.2) = sgn (t - t') := by
  have a := rep_lt h k
  have b := rep_lt k h
  unfold ltR at a b
  unfold sgn
  by_cases c : t - t' < 0
  · rw [if_pos c, if_pos (by omega)]
  · rw [if_neg c, if_neg (by omega)]
    by_cases e : t - t' > 0
    · rw [if_pos e, if_pos (by omega)]
    · rw [if_neg e, if_neg (by omega)]
theorem cmp_le {N : Int} (n0 : 0 < N) {a b : Pl} (ha : Bot N a) (hb : Bot N b) : cmpP a b ≤ 0 ↔ leP (sc N a) (sc N b) := by
  obtain ⟨a1, a2⟩ := rep_c n0 ha
  obtain ⟨b1, b2⟩ := rep_c n0 hb
  unfold cmpP sxP syP
  rw [sgn_r a1 b1, sgn_r a2 b2]
  have hx : ∀ X Y : G4.Pt, leP X Y ↔ (X.1 < Y.1 ∨ (X.1 = Y.1 ∧ X.2 ≤ Y.2)) := fun X Y => by
    unfold leP G4.lx
    constructor
    · rintro (h | h | h)
      · rw [h]; exact .inr ⟨rfl, Int.le_refl _⟩
      · exact .inl h
      · exact .inr ⟨h.1, by omega⟩
    · rintro (h | ⟨h1, h2⟩)
      · exact .inr (.inl h)
      · by_cases e : X.2 = Y.2
        · exact .inl (Prod.ext h1 e)
        · exact .inr (.inr ⟨h1, by omega⟩)
  rw [hx]
  generalize sc N a = A
  generalize sc N b = B
  unfold sgn
  by_cases c : A.1 - B.1 < 0
  · rw [if_pos c]; simp; omega
  · rw [if_neg c]
    by_cases e : A.1 - B.1 > 0
    · rw [if_pos e]; simp; omega
    · rw [if_neg e]; simp only [if_true]
      by_cases f : A.2 - B.2 < 0
      · rw [if_pos f]; simp; omega
      · rw [if_neg f]
        by_cases g : A.2 - B.2 > 0
        · rw [if_pos g]; simp; omega
        · rw [if_neg g]; simp; omega
theorem le_iff (X Y : G4.Pt) : leP X Y ↔ (X.1 < Y.1 ∨ (X.1 = Y.1 ∧ X.2 ≤ Y.2)) := by
  unfold leP G4.lx
  constructor
  · rintro (h | h | h)
    · rw [h]; exact .inr ⟨rfl, Int.le_refl _⟩
    · exact .inl h
    · exact .inr ⟨h.1, by omega⟩
  · rintro (h | ⟨h1, h2⟩)
    · exact .inr (.inl h)
    · by_cases e : X.2 = Y.2
      · exact .inl (Prod.ext h1 e)
      · exact .inr (.inr ⟨h1, by omega⟩)
/-- along a line: by the order is by the amount -/
theorem line_le {v w : Int × Int} (v0 : v.1 > 0 ∨ (v.1 = 0 ∧ v.2 > 0)) (h : v.1 * w.2 - v.2 * w.1 = 0) : (0 < w.1 ∨ (0 = w.1 ∧ 0 ≤ w.2)) ↔ 0 ≤ v.1 * w.1 + v.2 * w.2 := by
  rcases v0 with v0 | ⟨v1, v2⟩
  · have e : (v.1 * w.1 + v.2 * w.2) * v.1 = w.1 * (v.1 * v.1 + v.2 * v.2) := by
      have : v.1 * w.2 = v.2 * w.1 := by omega
      calc (v.1 * w.1 + v.2 * w.2) * v.1 = v.1 * v.1 * w.1 + v.2 * (v.1 * w.2) := by grind
        _ = _ := by rw [this]; grind
    have sq : 0 < v.1 * v.1 + v.2 * v.2 := by
      have a := Int.mul_pos v0 v0
      have b : 0 ≤ v.2 * v.2 := by
        rcases Int.le_total 0 v.2 with z | z
        · exact Int.mul_nonneg z z
        · have := Int.mul_nonneg (show 0 ≤ -v.2 by omega) (show 0 ≤ -v.2 by omega)
          rw [Int.neg_mul_neg] at this; exact this
      omega
    generalize v.1 * w.1 + v.2 * w.2 = A at *
    generalize v.1 * v.1 + v.2 * v.2 = S at *
    constructor
    · intro k
      have w0 : 0 ≤ w.1 := by omega
      have := Int.mul_nonneg w0 (Int.le_of_lt sq)
      rw [← e] at this
      rcases Int.lt_or_le A 0 with z | z
      · have := Int.mul_neg_of_neg_of_pos z v0; omega
      · exact z
    · intro k
      have := Int.mul_nonneg k (Int.le_of_lt v0)
      rw [e] at this
      have w0 : 0 ≤ w.1 := by
        rcases Int.lt_or_le w.1 0 with z | z
        · have := Int.mul_neg_of_neg_of_pos z sq; omega
        · exact z
      by_cases c : w.1 = 0
      · refine .inr ⟨c.symm, ?_⟩
        rw [c, Int.mul_zero, Int.sub_zero] at h
        have := (Int.mul_eq_zero.mp h).resolve_left (by omega)
        omega
      · exact .inl (by omega)
  · have w1 : w.1 = 0 := by
      rw [v1, Int.zero_mul] at h
      have : v.2 * w.1 = 0 := by omega
      exact (Int.mul_eq_zero.mp this).resolve_left (by omega)
    rw [v1, w1, Int.zero_mul, Int.zero_add]
    constructor
    · intro k
      exact Int.mul_nonneg (Int.le_of_lt v2) (by omega)
    · intro k
      refine .inr ⟨rfl, ?_⟩
      rcases Int.lt_or_le w.2 0 with z | z
      · have := Int.mul_neg_of_pos_of_neg v2 z; omega
      · exact z
theorem lies2 {a b p : Pl} (ha : RatP a) (hb : RatP b) (hp : RatP p) (ab : ltP a b) (ne : a ≠ b) : Lies [a, b] p ↔ (sgP a b p = 0 ∧ cmpP a p ≤ 0 ∧ cmpP p b ≤ 0) := by
  obtain ⟨N, n0, hB⟩ := bots_for (l := [a, b, p]) (fun r hr => by
    rcases List.mem_cons.mp hr with e | hr
    · rw [e]; exact ha
    · rcases List.mem_cons.mp hr with e | hr
      · rw [e]; exact hb
      · rw [List.mem_singleton.mp hr]; exact hp)
  have Ba := hB a (by simp)
  have Bb := hB b (by simp)
  have Bp := hB p (by simp)
  have lx := sc_lx n0 Ba Bb ab
  rw [cmp_le n0 Ba Bp, cmp_le n0 Bp Bb, (sg_cr n0 Ba Bb Bp).2, le_iff, le_iff]
  have hs := side_dt n0 Ba Bb ne (sc N p)
  obtain ⟨t, u, t0, u0, e1, e2⟩ := dir_par n0 Ba Bb ne
  have key : Lies [a, b] p ↔ (dt (norS a b) (sc N p) ≤ dt (norS a b) (sc N a) ∧ dt (ng2 (norS a b)) (sc N p) ≤ dt (ng2 (norS a b)) (sc N a) ∧ dt (dirS a b) (sc N p) ≤ dt (dirS a b) (sc N b) ∧ dt (ng2 (dirS a b)) (sc N p) ≤ dt (ng2 (dirS a b)) (sc N a)) := by
    unfold Lies halvesF
    simp only [List.forall_mem_cons, List.not_mem_nil, false_implies, implies_true, and_true]
    rw [not_lt_amt n0 Ba Bp, not_lt_amt n0 Ba Bp, not_lt_amt n0 Bb Bp, not_lt_amt n0 Ba Bp]
  rw [key, dt_ng, dt_ng, dt_ng, dt_ng]
  have hd : ∀ P : G4.Pt, dt (norS a b) P = (dirS a b).2 * P.1 + -(dirS a b).1 * P.2 := fun P => rfl
  have hd2 : ∀ P : G4.Pt, dt (dirS a b) P = (dirS a b).1 * P.1 + (dirS a b).2 * P.2 := fun P => rfl
  rw [hd, hd, hd2, hd2, hd2]
  generalize dirS a b = d at *
  unfold G4.cr
  unfold G4.lx at lx
  generalize sc N a = A at *
  generalize sc N b = B at *
  generalize sc N p = P at *
  -- d is along B - A
  have d0 : d.1 > 0 ∨ (d.1 = 0 ∧ d.2 > 0) := by
    rcases lx with l | ⟨l1, l2⟩
    · left
      have : 0 < d.1 * u := by rw [← e1]; exact Int.mul_pos (by omega) t0
      rcases Int.lt_or_le 0 d.1 with z | z
      · exact z
      · have := Int.mul_nonneg (show 0 ≤ -d.1 by omega) (Int.le_of_lt u0); rw [Int.neg_mul] at this; omega
    · right
      constructor
      · have : d.1 * u = 0 := by rw [← e1, l1]; simp
        exact (Int.mul_eq_zero.mp this).resolve_right (by omega)
      · have : 0 < d.2 * u := by rw [← e2]; exact Int.mul_pos (by omega) t0
        rcases Int.lt_or_le 0 d.2 with z | z
        · exact z
        · have := Int.mul_nonneg (show 0 ≤ -d.2 by omega) (Int.le_of_lt u0); rw [Int.neg_mul] at this; omega
  have cx : ((B.1 - A.1) * (P.2 - A.2) - (B.2 - A.2) * (P.1 - A.1) = 0) ↔ d.1 * (P.2 - A.2) - d.2 * (P.1 - A.1) = 0 := by
    have e : ((B.1 - A.1) * (P.2 - A.2) - (B.2 - A.2) * (P.1 - A.1)) * t = (d.1 * (P.2 - A.2) - d.2 * (P.1 - A.1)) * u := by
      calc _ = ((B.1 - A.1) * t) * (P.2 - A.2) - ((B.2 - A.2) * t) * (P.1 - A.1) := by grind
        _ = _ := by rw [e1, e2]; grind
    constructor
    · intro z
      rw [z, Int.zero_mul] at e
      exact (Int.mul_eq_zero.mp e.symm).resolve_right (by omega)
    · intro z
      rw [z, Int.zero_mul] at e
      exact (Int.mul_eq_zero.mp e).resolve_right (by omega)
  rw [cx]
  have cb : d.1 * (B.2 - A.2) - d.2 * (B.1 - A.1) = 0 := by
    have e : (d.1 * (B.2 - A.2) - d.2 * (B.1 - A.1)) * t = 0 := by
      calc _ = d.1 * ((B.2 - A.2) * t) - d.2 * ((B.1 - A.1) * t) := by grind
        _ = 0 := by rw [e1, e2]; grind
    exact (Int.mul_eq_zero.mp e).resolve_right (by omega)
  have z0 : (d.2 * P.1 + -d.1 * P.2 ≤ d.2 * A.1 + -d.1 * A.2 ∧ -(d.2 * P.1 + -d.1 * P.2) ≤ -(d.2 * A.1 + -d.1 * A.2)) ↔ d.1 * (P.2 - A.2) - d.2 * (P.1 - A.1) = 0 := by
    have : d.1 * (P.2 - A.2) - d.2 * (P.1 - A.1) = (d.2 * A.1 + -d.1 * A.2) - (d.2 * P.1 + -d.1 * P.2) := by grind
    rw [this]; omega
  have r1 : ∀ z : d.1 * (P.2 - A.2) - d.2 * (P.1 - A.1) = 0, (-(d.1 * P.1 + d.2 * P.2) ≤ -(d.1 * A.1 + d.2 * A.2)) ↔ (A.1 < P.1 ∨ (A.1 = P.1 ∧ A.2 ≤ P.2)) := fun z => by
    have l := line_le (v := d) (w := (P.1 - A.1, P.2 - A.2)) d0 z
    dsimp only at l
    have : d.1 * (P.1 - A.1) + d.2 * (P.2 - A.2) = (d.1 * P.1 + d.2 * P.2) - (d.1 * A.1 + d.2 * A.2) := by grind
    rw [this] at l
    omega
  have r2 : ∀ z : d.1 * (P.2 - A.2) - d.2 * (P.1 - A.1) = 0, (d.1 * P.1 + d.2 * P.2 ≤ d.1 * B.1 + d.2 * B.2) ↔ (P.1 < B.1 ∨ (P.1 = B.1 ∧ P.2 ≤ B.2)) := fun z => by
    have l0 : d.1 * (B.2 - P.2) - d.2 * (B.1 - P.1) = 0 := by
      have e3 : d.1 * (B.2 - P.2) - d.2 * (B.1 - P.1) = (d.1 * (B.2 - A.2) - d.2 * (B.1 - A.1)) - (d.1 * (P.2 - A.2) - d.2 * (P.1 - A.1)) := by grind
      rw [e3, cb, z]; rfl
    have l := line_le (v := d) (w := (B.1 - P.1, B.2 - P.2)) d0 l0
    dsimp only at l
    have : d.1 * (B.1 - P.1) + d.2 * (B.2 - P.2) = (d.1 * B.1 + d.2 * B.2) - (d.1 * P.1 + d.2 * P.2) := by grind
    rw [this] at l
    omega
  constructor
  · rintro ⟨h1, h2, h3, h4⟩
    have z := z0.mp ⟨h1, h2⟩
    exact ⟨z, (r1 z).mp h4, (r2 z).mp h3⟩
  · rintro ⟨z, h4, h3⟩
    exact ⟨(z0.mpr z).1, (z0.mpr z).2, (r2 z).mpr h3, (r1 z).mpr h4⟩
theorem lies1 {c p : Pl} (hc : RatP c) (hp : RatP p) : Lies [c] p ↔ (sgP c c p = 0 ∧ cmpP c p ≤ 0 ∧ cmpP p c ≤ 0) := by
  obtain ⟨N, n0, hB⟩ := bots_for (l := [c, p]) (fun r hr => by
    rcases List.mem_cons.mp hr with e | hr
    · rw [e]; exact hc
    · rw [List.mem_singleton.mp hr]; exact hp)
  have Bc := hB c (by simp)
  have Bp := hB p (by simp)
  rw [cmp_le n0 Bc Bp, cmp_le n0 Bp Bc, (sg_cr n0 Bc Bc Bp).2, le_iff, le_iff]
  unfold Lies halvesF AX4
  simp only [List.map_cons, List.map_nil, List.forall_mem_cons, List.not_mem_nil, false_implies, implies_true, and_true]
  rw [not_lt_amt n0 Bc Bp, not_lt_amt n0 Bc Bp, not_lt_amt n0 Bc Bp, not_lt_amt n0 Bc Bp]
  unfold dt G4.cr
  dsimp only
  generalize sc N c = C
  generalize sc N p = P
  have : (C.1 - C.1) * (P.2 - C.2) - (C.2 - C.2) * (P.1 - C.1) = 0 := by simp
  rw [this]
  simp only [true_and]
  omega
/-- the greatest amount along each half's direction is the half's own -/
theorem halves_top {cs : List Pl} (P : Poly cs) : ∀ h ∈ halvesF cs, h.2 = topC h.1 cs := by
  rcases cases3 P.ne with ⟨c, rfl⟩ | ⟨a, b, rfl⟩ | l3
  · intro h hh
    obtain ⟨d, _, rfl⟩ := List.mem_map.mp (show h ∈ AX4.map fun d => (d, amt d c) from hh)
    exact (top_eq P.rat (List.mem_singleton.mpr rfl) (fun q hq => by rw [List.mem_singleton.mp hq]; exact lt_irr _)).symm
  · have ra := P.rat a (by simp)
    have rb := P.rat b (by simp)
    have ab := P.two a b rfl
    have ne : a ≠ b := fun e => (List.nodup_cons.mp P.nd).1 (by rw [e]; simp)
    have la : Lies [a, b] a ∧ Lies [a, b] b := by
      rw [lies2 ra rb ra ab ne, lies2 ra rb rb ab ne]
      obtain ⟨N, n0, hB⟩ := bots_for P.rat
      have Ba := hB a (by simp)
      have Bb := hB b (by simp)
      have lx := sc_lx n0 Ba Bb ab
      rw [cmp_le n0 Ba Ba, cmp_le n0 Ba Bb, cmp_le n0 Bb Bb, (sg_cr n0 Ba Bb Ba).2, (sg_cr n0 Ba Bb Bb).2, G4.cr_self1, G4.cr_self2]
      exact ⟨⟨rfl, .inl rfl, .inr lx⟩, rfl, .inr lx, .inl rfl⟩
    intro h hh
    have ha := la.1 h hh
    have hb := la.2 h hh
    have both : ∀ q ∈ [a, b], ¬ ltR h.2 (amt h.1 q) := fun q hq => by
      rcases List.mem_cons.mp hq with e | e
      · rw [e]; exact ha
      · rw [List.mem_singleton.mp e]; exact hb
    have : (∃ c ∈ [a, b], h.2 = amt h.1 c) := by
      simp only [halvesF, List.mem_cons, List.not_mem_nil, or_false] at hh
      rcases hh with e | e | e | e <;> rw [e]
      · exact ⟨a, by simp, rfl⟩
      · exact ⟨a, by simp, rfl⟩
      · exact ⟨b, by simp, rfl⟩
      · exact ⟨a, by simp, rfl⟩
    obtain ⟨c, hc, e⟩ := this
    rw [e] at both
    rw [e]
    exact (top_eq P.rat hc both).symm
  · intro h hh
    rw [halves3 l3] at hh
    obtain ⟨k, hk, rfl⟩ := List.mem_map.mp hh
    have kl := List.mem_range.mp hk
    have hx := getD_at kl
    have hy := getD_at (cs := cs) (k := (k + 1) % cs.length) (Nat.mod_lt _ (by omega))
    obtain ⟨s, t⟩ := P.side (by omega) k _ _ hx hy
    have rx := P.rat _ (List.mem_of_getElem? hx)
    have ry := P.rat _ (List.mem_of_getElem? hy)
    exact (top_eq P.rat (List.mem_of_getElem? hx) fun q hq => (side_amt rx ry (P.rat q hq) s).mp (t q hq)).symm
end F3
set_option Elab.async false
set_option linter.all false
set_option maxRecDepth 100000
set_option maxHeartbeats 4000000
set_option exponentiation.threshold 10000
namespace F3
open PySem PySem.Spec PyProof.Rows L2 FX RM PB KD KS
theorem sgn_pos (i : Int) : 0 < sgn i ↔ 0 < i := by unfold sgn; split <;> (try split) <;> omega
theorem sgn_neg' (i : Int) : sgn i < 0 ↔ i < 0 := by unfold sgn; split <;> (try split) <;> omega
def spCmp (K : PySem.W.Frag) : Sp := fun vs H Q _ => ∃ v u r s, vs = [v, u] ∧ Dp K H v (rD r) ∧ Dp K H u (rD s) ∧ SzR 2000 r ∧ SzR 2000 s ∧ Q (.int (sgn (r.1 * s.2 - s.1 * r.2))) H
def spBest (K : PySem.W.Frag) (o : Rt → List Rt → Rt) : Sp := fun vs H Q _ => ∃ (p : Addr) (xs : List V) (rs : List Rt) (r0 : Rt), vs = [.ref p] ∧ SqL K H p xs ∧ DpAll K H xs (rs.map rD) ∧ rs[0]? = some r0 ∧ (∀ r ∈ rs, SzR 2000 r) ∧ ∀ z, Dp K H z (rD (o r0 rs)) → Q z H
def spSumN (K : PySem.W.Frag) : Sp := fun vs H Q _ => ∃ (p : Addr) (xs : List V) (rs : List Rt) (N : Int), vs = [.ref p] ∧ SqL K H p xs ∧ DpAll K H xs (rs.map rD) ∧ rs.length ≤ 60 ∧ Sz 900 N ∧ (∀ r ∈ rs, ∃ t, Rep r t N ∧ Sz 900 t) ∧ 0 < N ∧ ∀ H' z, Same H H' → Dp K H' z (rD (sumR rs)) → Q z H'
def spCmpP (K : PySem.W.Frag) : Sp := fun vs H Q _ => ∃ v u a b, vs = [v, u] ∧ Pla K H v a ∧ Pla K H u b ∧ GoodP 400 a ∧ GoodP 400 b ∧ Q (.int (cmpP a b)) H
theorem dp_rAt {K : PySem.W.Frag} {H : Hp} {xs : List V} {rs : List Rt} {i : Nat} {x : V} (h : DpAll K H xs (rs.map rD)) (e : xs[i]? = some x) : ∃ r, rs[i]? = some r ∧ Dp K H x (rD r) := by
  obtain ⟨d, ed, hd⟩ := DpAll_at h e
  rw [List.getElem?_map] at ed
  cases er : rs[i]? with
  | none => rw [er] at ed; cases ed
  | some r => rw [er] at ed; cases ed; exact ⟨r, rfl, hd⟩
theorem fold_snoc {α β : Type} (f : β → α → β) (b : β) (l : List α) {i : Nat} {x : α} (e : l[i]? = some x) : (l.take (i + 1)).foldl f b = f ((l.take i).foldl f b) x := by
  rw [List.take_add_one, e, List.foldl_append]; rfl
theorem mem_fold_top {r0 : Rt} : ∀ {rs : List Rt} {g : Rt}, (g = r0 ∨ g ∈ rs) → ∀ {l : List Rt}, (∀ x ∈ l, x ∈ rs) → (topF g l = r0 ∨ topF g l ∈ rs)
  | _, g, h, [], _ => h
  | rs, g, h, r :: l, k => by
    show topF (if ltR g r then r else g) l = r0 ∨ _
    refine mem_fold_top ?_ fun x hx => k x (List.mem_cons_of_mem _ hx)
    split
    · exact .inr (k r (List.mem_cons_self ..))
    · exact h
theorem mem_fold_low {r0 : Rt} : ∀ {rs : List Rt} {g : Rt}, (g = r0 ∨ g ∈ rs) → ∀ {l : List Rt}, (∀ x ∈ l, x ∈ rs) → (lowF g l = r0 ∨ lowF g l ∈ rs)
  | _, g, h, [], _ => h
  | rs, g, h, r :: l, k => by
    show lowF (if ltR r g then r else g) l = r0 ∨ _
    refine mem_fold_low ?_ fun x hx => k x (List.mem_cons_of_mem _ hx)
    split
    · exact .inr (k r (List.mem_cons_self ..))
    · exact h
theorem sum_rep {N : Int} (n0 : 0 < N) : ∀ {rs : List Rt}, (∀ r ∈ rs, ∃ t, Rep r t N ∧ Sz 900 t) → ∃ T : Int, Rep (sumR rs) T N ∧ T.natAbs ≤ rs.length * 2 ^ 900 := by
  intro rs h
  have main : ∀ (n : Nat), ∃ T : Int, Rep (sumR (rs.take n)) T N ∧ T.natAbs ≤ n * 2 ^ 900 := by
    intro n
    induction n with
    | zero => exact ⟨0, ⟨rat_zero, n0, by show (0 : Int) * N = 0 * 1; omega⟩, Nat.zero_le _⟩
    | succ n ih =>
      obtain ⟨T, hT, hz⟩ := ih
      cases e : rs[n]? with
      | none =>
        rw [List.take_add_one, e]
        refine ⟨T, by simpa using hT, Nat.le_trans hz (Nat.mul_le_mul_right _ (Nat.le_succ n))⟩
      | some r =>
        obtain ⟨t, ht, zt⟩ := h r (List.mem_of_getElem? e)
        refine ⟨T + t, ?_, ?_⟩
        · have k := rep_add1 hT ht
          unfold sumR at k ⊢
          rw [fold_snoc _ _ _ e]; exact k
        · have : t.natAbs < 2 ^ 900 := zt
          rw [Nat.succ_mul]
          omega
  obtain ⟨T, a, b⟩ := main rs.length
  rw [List.take_length] at a
  exact ⟨T, a, b⟩
theorem sum_szr {N : Int} (n0 : 0 < N) (zN : Sz 900 N) {rs : List Rt} (l6 : rs.length ≤ 60) (h : ∀ r ∈ rs, ∃ t, Rep r t N ∧ Sz 900 t) : IsRat (sumR rs) ∧ SzR 906 (sumR rs) := by
  obtain ⟨T, hT, hz⟩ := sum_rep n0 h
  have zT : Sz 906 T := by
    show T.natAbs < 2 ^ 906
    refine Nat.lt_of_le_of_lt hz (Nat.lt_of_le_of_lt (Nat.mul_le_mul_right _ l6) ?_)
    have : (2 : Nat) ^ 906 = 64 * 2 ^ 900 := by rw [show 906 = 6 + 900 from rfl, Nat.pow_add]
    have p : 0 < (2 : Nat) ^ 900 := Nat.pow_pos (by decide)
    omega
  obtain ⟨a, b⟩ := rep_sz hT zT zN
  exact ⟨hT.1, a, sz_mono b (by decide)⟩
section
variable {P : Program} {w : World} {K : PySem.W.Frag} {mg : Str → Option Value} {base : Heap}
abbrev scompare : Stmt := topS 17
theorem sccompare : FnScope ["one", "other"] ["one", "other"] (defScope scompare) := ⟨rfl, rfl, rfl, by decide +kernel, rfl, by decide +kernel, by decide +kernel⟩
theorem okcompare (T : Txt K mg "compare" scompare) (Gsign_of : DefOk P w K mg base CX0 "sign_of" 1 ["number"] spSign) : DefOk P w K mg base CX0 "compare" 2 ["one", "other"] (spCmp K) := by
  obtain ⟨f, fd, F, gf⟩ := T
  refine ⟨f, fd, gf, F.kp, F.binds (fun _ _ _ _ _ _ us hl => match us, hl with | [_, _], _ => rfl), F.ok sccompare (fun vs H Q E h => ?_) (fun cdv A outer s H vs Q E hr h => ?_)⟩
  · obtain ⟨v, u, r, s_, rfl, _⟩ := h; rfl
  · obtain ⟨v, u, r, s_, rfl, hv, hu, zr, zs, q⟩ := h
    refine ⟨_, (pss_one (ps_ret (pe_def Gsign_of (hr.mono (by decide)) (by rfl) (pa_cons (pe_op op_sub (pe_op op_mulW (pe_ix ix_it (pv 0) pe_int (fun _ _ => rfl)) (pe_ix ix_it (pv 1) pe_int (fun _ _ => rfl))) (pe_op op_mulW (pe_ix ix_it (pv 1) pe_int (fun _ _ => rfl)) (pe_ix ix_it (pv 0) pe_int (fun _ _ => rfl)))) pa_nil)))), ?_⟩
    have c1 := cou_r hv
    have c2 := cou_r hu
    exact ⟨v, rfl, _, _, 0, _, rfl, c1, rfl, u, rfl, _, _, 1, _, rfl, c2, rfl, _, _, rfl, rfl, wide_mul zr.1 zs.2 (by decide) (by decide) (by decide), u, rfl, _, _, 0, _, rfl, c2, rfl, v, rfl, _, _, 1, _, rfl, c1, rfl, _, _, rfl, rfl, wide_mul zs.1 zr.2 (by decide) (by decide) (by decide), _, _, rfl, rfl, _, rfl, q⟩
abbrev sleast_of : Stmt := topS 19
theorem scleast_of : FnScope ["row", "least", "one"] ["row"] (defScope sleast_of) := ⟨rfl, rfl, rfl, by decide +kernel, rfl, by decide +kernel, by decide +kernel⟩
theorem okleast_of (T : Txt K mg "least_of" sleast_of) (Gcompare : DefOk P w K mg base CX0 "compare" 2 ["one", "other"] (spCmp K)) : DefOk P w K mg base CX0 "least_of" 3 ["row"] (spBest K lowF) := by
  obtain ⟨f, fd, F, gf⟩ := T
  refine ⟨f, fd, gf, F.kp, F.binds (fun _ _ _ _ _ _ us hl => match us, hl with | [_], _ => rfl), F.ok scleast_of (fun vs H Q E h => ?_) (fun cdv A outer s H vs Q E hr h => ?_)⟩
  · obtain ⟨p, xs, rs, r0, rfl, _⟩ := h; rfl
  · obtain ⟨p, xs, rs, r0, rfl, hS, hD, e0, hz, q⟩ := h
    refine ⟨_, (pss_cons (ps_set (i := 1) scleast_of.nd rfl (.inl rfl) (pe_ix ix_list (pv 0) pe_int (fun _ _ => rfl))) (pss_cons (ps_for PassesOwn.never rfl (pi_list (pv 0)) (pg_name (i := 2) scleast_of.nd rfl (.inl rfl)) (pss_one (ps_if (pt_cmpR op_lt (pe_def Gcompare (hr.mono (by decide)) (by rfl) (pa_cons (pv 2) (pa_cons (pv 1) pa_nil))) pe_int (nomark _)) (pss_one (ps_set (i := 1) scleast_of.nd rfl (.inl rfl) (pv 2))) pss_nil))) (pss_one (ps_ret (pv 1))))), ?_⟩
    obtain ⟨x0, ex0, hx0⟩ := DpAll_at' hD (show (rs.map rD)[0]? = some (rD r0) by rw [List.getElem?_map, e0]; rfl)
    have lx : xs.length = rs.length := by rw [DpAll_len hD, List.length_map]
    refine ⟨.ref p, rfl, p, xs, 0, x0, rfl, rfl, hS, atI_nat (j := 0) ex0, ?_⟩
    refine ⟨.ref p, rfl, p, rfl, ⟨_, hS⟩, for_list (K := K) (a := p) (xs := xs) (fun i σ H' => ∃ (t : V) (y : Option V), σ = [some (.ref p), some t, y] ∧ H' = H ∧ Dp K H t (rD (lowF r0 (rs.take i))))
      ⟨x0, none, rfl, rfl, hx0⟩ (fun i σ H' _ ⟨_, _, _, s1, _⟩ => by rw [s1]; exact hS) ?_ ?_⟩
    · rintro i x σ H' hi ⟨t, y, rfl, rfl, ht⟩
      obtain ⟨r, er, hx⟩ := dp_rAt hD hi
      have m0 : r0 ∈ rs := List.mem_of_getElem? e0
      have zg : SzR 2000 (lowF r0 (rs.take i)) := by
        rcases mem_fold_low (r0 := r0) (rs := rs) (g := r0) (.inl rfl) (l := rs.take i) (fun x hx => List.mem_of_mem_take hx) with h | h
        · rw [h]; exact hz _ m0
        · exact hz _ h
      have zr := hz r (List.mem_of_getElem? er)
      have st : lowF r0 (rs.take (i + 1)) = if ltR r (lowF r0 (rs.take i)) then r else lowF r0 (rs.take i) := fold_snoc _ _ _ er
      rw [st]
      refine ⟨x, rfl, t, rfl, x, t, r, _, rfl, hx, ht, zr, zg, _, _, rfl, rfl, _, rfl, ?_⟩
      by_cases c : ltR r (lowF r0 (rs.take i))
      · rw [if_pos c]
        exact itT (decide_eq_true ((sgn_neg' _).mpr (by unfold ltR at c; omega))) ⟨x, rfl, x, some x, rfl, rfl, hx⟩
      · rw [if_neg c]
        exact itF (decide_eq_false fun z => c (by have := (sgn_neg' _).mp z; unfold ltR; omega)) ⟨t, some x, rfl, rfl, ht⟩
    · rintro σ H' ⟨t, y, rfl, rfl, ht⟩
      rw [lx, List.take_length] at ht
      exact ⟨t, rfl, q t ht⟩
abbrev sgreatest_of : Stmt := topS 20
theorem scgreatest_of : FnScope ["row", "greatest", "one"] ["row"] (defScope sgreatest_of) := ⟨rfl, rfl, rfl, by decide +kernel, rfl, by decide +kernel, by decide +kernel⟩
theorem okgreatest_of (T : Txt K mg "greatest_of" sgreatest_of) (Gcompare : DefOk P w K mg base CX0 "compare" 2 ["one", "other"] (spCmp K)) : DefOk P w K mg base CX0 "greatest_of" 3 ["row"] (spBest K topF) := by
  obtain ⟨f, fd, F, gf⟩ := T
  refine ⟨f, fd, gf, F.kp, F.binds (fun _ _ _ _ _ _ us hl => match us, hl with | [_], _ => rfl), F.ok scgreatest_of (fun vs H Q E h => ?_) (fun cdv A outer s H vs Q E hr h => ?_)⟩
  · obtain ⟨p, xs, rs, r0, rfl, _⟩ := h; rfl
  · obtain ⟨p, xs, rs, r0, rfl, hS, hD, e0, hz, q⟩ := h
    refine ⟨_, (pss_cons (ps_set (i := 1) scgreatest_of.nd rfl (.inl rfl) (pe_ix ix_list (pv 0) pe_int (fun _ _ => rfl))) (pss_cons (ps_for PassesOwn.never rfl (pi_list (pv 0)) (pg_name (i := 2) scgreatest_of.nd rfl (.inl rfl)) (pss_one (ps_if (pt_cmpR op_gt (pe_def Gcompare (hr.mono (by decide)) (by rfl) (pa_cons (pv 2) (pa_cons (pv 1) pa_nil))) pe_int (nomark _)) (pss_one (ps_set (i := 1) scgreatest_of.nd rfl (.inl rfl) (pv 2))) pss_nil))) (pss_one (ps_ret (pv 1))))), ?_⟩
    obtain ⟨x0, ex0, hx0⟩ := DpAll_at' hD (show (rs.map rD)[0]? = some (rD r0) by rw [List.getElem?_map, e0]; rfl)
    have lx : xs.length = rs.length := by rw [DpAll_len hD, List.length_map]
    refine ⟨.ref p, rfl, p, xs, 0, x0, rfl, rfl, hS, atI_nat (j := 0) ex0, ?_⟩
    refine ⟨.ref p, rfl, p, rfl, ⟨_, hS⟩, for_list (K := K) (a := p) (xs := xs) (fun i σ H' => ∃ (t : V) (y : Option V), σ = [some (.ref p), some t, y] ∧ H' = H ∧ Dp K H t (rD (topF r0 (rs.take i))))
      ⟨x0, none, rfl, rfl, hx0⟩ (fun i σ H' _ ⟨_, _, _, s1, _⟩ => by rw [s1]; exact hS) ?_ ?_⟩
    · rintro i x σ H' hi ⟨t, y, rfl, rfl, ht⟩
      obtain ⟨r, er, hx⟩ := dp_rAt hD hi
      have m0 : r0 ∈ rs := List.mem_of_getElem? e0
      have zg : SzR 2000 (topF r0 (rs.take i)) := by
        rcases mem_fold_top (r0 := r0) (rs := rs) (g := r0) (.inl rfl) (l := rs.take i) (fun x hx => List.mem_of_mem_take hx) with h | h
        · rw [h]; exact hz _ m0
        · exact hz _ h
      have zr := hz r (List.mem_of_getElem? er)
      have st : topF r0 (rs.take (i + 1)) = if ltR (topF r0 (rs.take i)) r then r else topF r0 (rs.take i) := fold_snoc _ _ _ er
      rw [st]
      refine ⟨x, rfl, t, rfl, x, t, r, _, rfl, hx, ht, zr, zg, _, _, rfl, rfl, _, rfl, ?_⟩
      by_cases c : ltR (topF r0 (rs.take i)) r
      · rw [if_pos c]
        exact itT (decide_eq_true ((sgn_pos _).mpr (by unfold ltR at c; omega))) ⟨x, rfl, x, some x, rfl, rfl, hx⟩
      · rw [if_neg c]
        exact itF (decide_eq_false fun z => c (by have := (sgn_pos _).mp z; unfold ltR; omega)) ⟨t, some x, rfl, rfl, ht⟩
    · rintro σ H' ⟨t, y, rfl, rfl, ht⟩
      rw [lx, List.take_length] at ht
      exact ⟨t, rfl, q t ht⟩
theorem okNsum_of (T : Txt K mg "sum_of" ssum_of) (Gplus : DefOk P w K mg base CX0 "plus" 2 ["one", "other"] (spBin K radd)) {zA : Addr} (gZ : mg "ZERO" = some (.ref zA)) (hZ : ∀ H, SqT K H zA [.int 0, .int 1]) : DefOk P w K mg base CX0 "sum_of" 3 ["row"] (spSumN K) := by
  obtain ⟨f, fd, F, gf⟩ := T
  refine ⟨f, fd, gf, F.kp, F.binds (fun _ _ _ _ _ _ us hl => match us, hl with | [_], _ => rfl), F.ok scsum_of (fun vs H Q E h => ?_) (fun cdv A outer s H vs Q E hr h => ?_)⟩
  · obtain ⟨p, xs, rs, N, rfl, _⟩ := h; rfl
  · obtain ⟨p, xs, rs, N, rfl, hS, hD, l6, zN, hr_, n0, q⟩ := h
    refine ⟨_, (pss_cons (ps_set (i := 1) scsum_of.nd rfl (.inl rfl) (pe_glob (v := .ref zA) (by rfl) gZ rfl)) (pss_cons (ps_for PassesOwn.never rfl (pi_list (pv 0)) (pg_name (i := 2) scsum_of.nd rfl (.inl rfl)) (pss_one (ps_set (i := 1) scsum_of.nd rfl (.inl rfl) (pe_def Gplus (hr.mono (by decide)) (by rfl) (pa_cons (pv 1) (pa_cons (pv 2) pa_nil)))))) (pss_one (ps_ret (pv 1))))), ?_⟩
    have lx : xs.length = rs.length := by rw [DpAll_len hD, List.length_map]
    refine ⟨.ref p, rfl, p, rfl, ⟨_, hS⟩, for_list (K := K) (a := p) (xs := xs) (fun i σ H' => ∃ (t : V) (y : Option V), σ = [some (.ref p), some t, y] ∧ Same H H' ∧ Dp K H' t (rD (sumR (rs.take i))))
      ⟨.ref zA, none, rfl, fun _ _ e => e, .tup (hZ H) (.cons (.int 0) (.cons (.int 1) .nil))⟩ (fun i σ H' _ ⟨_, _, _, s1, _⟩ => s1.seq hS) ?_ ?_⟩
    · rintro i x σ H' hi ⟨t, y, rfl, s1, ht⟩
      obtain ⟨r, er, hx⟩ := dp_rAt hD hi
      obtain ⟨t1, rr, rz⟩ := hr_ r (List.mem_of_getElem? er)
      obtain ⟨ir, iz⟩ := sum_szr n0 zN (rs := rs.take i) (by rw [List.length_take]; omega) (fun z hz => hr_ z (List.mem_of_mem_take hz))
      obtain ⟨ya, yb⟩ := rep_sz rr rz zN
      refine ⟨t, rfl, x, rfl, t, x, _, r, rfl, ht, Dp_same s1 hx, ir, rr.1, szr_mono iz (by decide), ⟨sz_mono ya (by decide), sz_mono yb (by decide)⟩, fun H2 z s2 hz => ⟨z, some x, rfl, s1.trans s2, ?_⟩⟩
      rw [List.take_add_one, er]
      show Dp K H2 z (rD (sumR (rs.take i ++ [r])))
      rw [sumR_snoc]; exact hz
    · rintro σ H' ⟨t, y, rfl, s1, ht⟩
      rw [lx, List.take_length] at ht
      exact ⟨t, rfl, q H' t s1 ht⟩
abbrev scompare_places : Stmt := topS 38
theorem sccompare_places : FnScope ["one", "other"] ["one", "other"] (defScope scompare_places) := ⟨rfl, rfl, rfl, by decide +kernel, rfl, by decide +kernel, by decide +kernel⟩
theorem okcompare_places (T : Txt K mg "compare_places" scompare_places) (Gcompare : DefOk P w K mg base CX0 "compare" 2 ["one", "other"] (spCmp K)) : DefOk P w K mg base CX0 "compare_places" 3 ["one", "other"] (spCmpP K) := by
  obtain ⟨f, fd, F, gf⟩ := T
  refine ⟨f, fd, gf, F.kp, F.binds (fun _ _ _ _ _ _ us hl => match us, hl with | [_, _], _ => rfl), F.ok sccompare_places (fun vs H Q E h => ?_) (fun cdv A outer s H vs Q E hr h => ?_)⟩
  · obtain ⟨v, u, a, b, rfl, _⟩ := h; rfl
  · obtain ⟨v, u, a, b, rfl, hv, hu, ga, gb, q⟩ := h
    refine ⟨_, (pss_one (ps_ret (pe_orT (pe_def Gcompare (hr.mono (by decide)) (by rfl) (pa_cons (pe_ix ix_it (pv 0) pe_int (fun _ _ => rfl)) (pa_cons (pe_ix ix_it (pv 1) pe_int (fun _ _ => rfl)) pa_nil))) (pe_one (pe_def Gcompare (hr.mono (by decide)) (by rfl) (pa_cons (pe_ix ix_it (pv 0) pe_int (fun _ _ => rfl)) (pa_cons (pe_ix ix_it (pv 1) pe_int (fun _ _ => rfl)) pa_nil))))))), ?_⟩
    obtain ⟨vx, vy, cv, hvx, hvy⟩ := hv
    obtain ⟨ux, uy, cu, hux, huy⟩ := hu
    have m := fun {r : Rt} (h : SzR 400 r) => (szr_mono h (by decide) : SzR 2000 r)
    refine ⟨v, rfl, _, _, 0, _, rfl, cv, rfl, u, rfl, _, _, 0, _, rfl, cu, rfl, vx, ux, a.1, b.1, rfl, hvx, hux, m ga.2.1, m gb.2.1, ?_⟩
    have e1 : sgn (a.1.1 * b.1.2 - b.1.1 * a.1.2) = sxP a b := rfl
    rw [e1]
    unfold cmpP at q
    refine ⟨_, rfl, ?_⟩
    by_cases z : sxP a b = 0
    · rw [if_pos z] at q
      refine itF (by rw [z]; rfl) ?_
      exact ⟨v, rfl, _, _, 1, _, rfl, cv, rfl, u, rfl, _, _, 1, _, rfl, cu, rfl, vy, uy, a.2, b.2, rfl, hvy, huy, m ga.2.2, m gb.2.2, q⟩
    · rw [if_neg z] at q
      exact itT (by simp [z]) q
end
end F3
set_option Elab.async false
set_option linter.all false
set_option maxRecDepth 100000
set_option maxHeartbeats 4000000
set_option exponentiation.threshold 10000
namespace F3
open PySem PySem.Spec PyProof.Rows L2 FX RM PB KD KS
theorem cut_whole {xs : List V} {lo hi : Option Int} (e : HT.sIx xs.length 0 lo = 0 ∧ HT.sIx xs.length xs.length hi = xs.length) : cutV xs lo hi = xs := by
  unfold cutV
  rw [e.1, e.2]
  simp
theorem cut_drop (xs : List V) {k : Nat} (h : k ≤ xs.length) : cutV xs (some (k : Int)) none = xs.drop k := by
  unfold cutV
  have e1 : HT.sIx xs.length 0 (some (k : Int)) = k := by
    show (if (k : Int) < 0 then ((k : Int) + (xs.length : Int)).toNat else min (k : Int).toNat xs.length) = _
    rw [if_neg (by omega)]
    omega
  have e2 : HT.sIx xs.length xs.length none = xs.length := rfl
  rw [e1, e2]
  first
    | exact List.take_of_length_le (by rw [List.length_drop]; omega)
    | (rw [List.take_of_length_le (by simp)])
    | trace_state
theorem cut_end (xs : List V) (n0 : xs ≠ []) : cutV xs (some (-1)) none = xs.drop (xs.length - 1) := by
  unfold cutV
  have l0 : 0 < xs.length := List.length_pos_iff.mpr n0
  have e1 : HT.sIx xs.length 0 (some (-1)) = xs.length - 1 := by
    show (if (-1 : Int) < 0 then (-1 + (xs.length : Int)).toNat else min (-1 : Int).toNat xs.length) = _
    rw [if_pos (by omega)]
    omega
  have e2 : HT.sIx xs.length xs.length none = xs.length := rfl
  rw [e1, e2]
  first
    | exact List.take_of_length_le (by rw [List.length_drop]; omega)
    | (rw [List.take_of_length_le (by simp)])
    | trace_state
theorem dp_drop {K : PySem.W.Frag} {H : Hp} : ∀ {ys : List V} {ds : List PyData} (k : Nat), DpAll K H ys ds → DpAll K H (ys.drop k) (ds.drop k)
  | _, _, 0, h => h
  | _, _, k + 1, .nil => .nil
  | _, _, k + 1, .cons a b => dp_drop k b
theorem catA {K : PySem.W.Frag} {H : Hp} {a b : Addr} {xs ys : List V} {Q : VK} (ha : SqT K H a xs) (hb : SqT K H b ys) (hl : xs.length + ys.length ≤ 1000) (q : ∀ c H', Same H H' → SqT K H' c (xs ++ ys) → Q (.ref c) H') : rCatA K (.ref a) (.ref b) H Q := by
  refine ⟨a, b, xs, ys, rfl, rfl, ha, hb, Nat.le_trans hl (by decide), fun e => ?_, fun e e2 => ?_, fun e e2 p np => ?_⟩
  · exact q b H (fun _ _ z => z) (by rw [e]; exact hb)
  · exact q a H (fun _ _ z => z) (by rw [e2, List.append_nil]; exact ha)
  · exact q p _ (PB.same_new np) (.inl (.inl upd_same))
theorem slA {K : PySem.W.Frag} {H : Hp} {a : Addr} {xs : List V} {lo hi : Option Int} {Q : VK} (ha : SqT K H a xs) (q : ∀ c H', Same H H' → SqT K H' c (cutV xs lo hi) → Q (.ref c) H') : rSlA K (.ref a) lo hi H Q := by
  refine ⟨a, xs, rfl, ha, fun e => ?_, fun e p np => ?_⟩
  · exact q a H (fun _ _ z => z) (by rw [cut_whole e]; exact ha)
  · exact q p _ (PB.same_new np) (.inl (.inl upd_same))
end F3
set_option Elab.async false
set_option linter.all false
set_option maxRecDepth 100000
set_option maxHeartbeats 4000000
/-! x in o where o's class has __contains__ of its own -/
namespace OW
open PySem PySem.Spec PyProof.Rows L2 FX RM PB
section
variable {X : Cx} {C f : Addr} {CX : CXT} {n : Nat} {fd : FuncData} {ps : List Str} {sp : Sp}
/-- x in o -/
def rInO (C : Addr) (sp : Sp) : L2.R2 := fun x y H Q => ∃ a dx fs, y = .ref a ∧ H a = some (.ins C dx fs) ∧ sp [y, x] H (fun v H' => ∃ b, v = .bl b ∧ Q (.bl b) H') E0
theorem op_inO (hf : PySem.W.findIn X.K (.ref C) "__contains__" = some (some (.ref f))) (hn : PySem.W.isFn X.K (.ref f) = true) (F : FnOk X.prog X.w X.K X.mg X.base CX n f fd ps sp) (hb : L2.Binds X.K fd ps []) (hx : Passes CX X E0) (hr : Room n X.A) : OpR X (compareOp .In) (rInO C sp) := by
  intro pins s σ H x y v u Q I rx ry h
  obtain ⟨a, dx, fs, rfl, e, hq⟩ := h
  cases (show u = Value.ref a from ry)
  obtain ⟨od, J⟩ := ins_inst I e
  obtain ⟨m, fr⟩ := I.fr
  refine PySem.W.in_K fr I.ok.mod.kin J hf hn (wpAny_mono (call_in F hb hx rfl hr I (show Vals [.ref a, x] [Value.ref a, v] from .cons (show RelV (.ref a) (.ref a) from rfl) (.cons rx .nil)) hq) (fun v s' hv => ?_) (fun _ _ z => z))
  obtain ⟨w, H', I', rv, b, rfl, q⟩ := hv
  cases (show v = Value.bool b from rv)
  exact wpAny_truthy_bool ⟨.bl b, H', I', rfl, q⟩
end
end OW
set_option Elab.async false
set_option linter.all false
set_option maxRecDepth 100000
set_option maxHeartbeats 4000000
set_option exponentiation.threshold 10000
namespace F3
open PySem PySem.Spec PyProof.Rows L2 FX RM PB KD KS
theorem cut_take (xs : List V) {k : Nat} (h : k ≤ xs.length) : cutV xs none (some (k : Int)) = xs.take k := by
  unfold cutV
  cases xs with
  | nil => rw [Nat.le_zero.mp h]; rfl
  | cons x xs =>
    have e1 : HT.sIx (x :: xs).length 0 none = 0 := rfl
    have e2 : HT.sIx (x :: xs).length (x :: xs).length (some (k : Int)) = k := by
      show (if (k : Int) < 0 then ((k : Int) + ((x :: xs).length : Int)).toNat else min (k : Int).toNat (x :: xs).length) = _
      rw [if_neg (by omega)]
      omega
    rw [e1, e2]; rfl
def sD (s : Pl × Pl) : PyData := .tuple [pD s.1, pD s.2]
theorem noL_s (s : Pl × Pl) : noL (sD s) = true := by simp [sD, pD, rD, noL, noLs]
theorem noLs_s (ss : List (Pl × Pl)) : noLs (ss.map sD) = true := noLs_all fun d hd => by
  obtain ⟨x, _, rfl⟩ := List.mem_map.mp hd
  exact noL_s x
def roundF (cs : List Pl) : List (Pl × Pl) := cs.zip (cs.drop 1 ++ cs.take 1)
def sidesF (cs : List Pl) : List (Pl × Pl) := if cs.length < 3 then cs.zip (cs.drop 1) else roundF cs
theorem rot_at {cs : List Pl} {k : Nat} (h : k < cs.length) : (cs.drop 1 ++ cs.take 1)[k]? = cs[(k + 1) % cs.length]? := by
  rcases Nat.lt_or_ge (k + 1) cs.length with l | l
  · rw [Nat.mod_eq_of_lt l, List.getElem?_append_left (by rw [List.length_drop]; omega), List.getElem?_drop, Nat.add_comm]
  · have e : k + 1 = cs.length := by omega
    rw [e, Nat.mod_self, List.getElem?_append_right (by rw [List.length_drop]; omega), List.length_drop, show k - (cs.length - 1) = 0 by omega, List.getElem?_take]
    rw [if_pos (by omega)]
theorem round_at {cs : List Pl} {k : Nat} {x y : Pl} : (roundF cs)[k]? = some (x, y) ↔ cs[k]? = some x ∧ cs[(k + 1) % cs.length]? = some y := by
  unfold roundF
  rw [List.getElem?_zip_eq_some]
  constructor
  · rintro ⟨a, b⟩
    rw [rot_at (List.getElem?_eq_some_iff.mp a).1] at b
    exact ⟨a, b⟩
  · rintro ⟨a, b⟩
    refine ⟨a, ?_⟩
    rw [rot_at (List.getElem?_eq_some_iff.mp a).1]; exact b
theorem round_len (cs : List Pl) : (roundF cs).length = cs.length := by
  unfold roundF
  rw [List.length_zip, List.length_append, List.length_drop, List.length_take]
  omega
theorem sides_le (cs : List Pl) : (sidesF cs).length ≤ cs.length := by
  unfold sidesF
  split
  · rw [List.length_zip]; omega
  · rw [round_len]; exact Nat.le_refl _
theorem dpall_iv {K : PySem.W.Frag} {H : Hp} : ∀ {vs : List V} {es : List PyData}, vs.length = es.length → (∀ (i : Nat) (v : V) (d : PyData), vs[i]? = some v → es[i]? = some d → Dp K H v d) → DpAll K H vs es
  | [], [], _, _ => .nil
  | [], _ :: _, h, _ => by simp at h
  | _ :: _, [], h, _ => by simp at h
  | v :: vs, d :: es, h, k => .cons (k 0 v d rfl rfl) (dpall_iv (by simpa using h) fun i v' d' h1 h2 => k (i + 1) v' d' h1 h2)
theorem dp_pAt {K : PySem.W.Frag} {H : Hp} {xs : List V} {ps : List Pl} {i : Nat} {x : V} {p : Pl} (h : DpAll K H xs (ps.map pD)) (e : xs[i]? = some x) (e2 : ps[i]? = some p) : Dp K H x (pD p) := by
  obtain ⟨d, ed, hd⟩ := DpAll_at h e
  rw [List.getElem?_map, e2] at ed
  cases ed; exact hd
theorem pairs_dp {K : PySem.W.Frag} {H : Hp} {xs ys acc : List V} {cs ds : List Pl} (hp : ZP.Pairs H xs ys acc) (hl : acc.length = min xs.length ys.length) (hx : DpAll K H xs (cs.map pD)) (hy : DpAll K H ys (ds.map pD)) : DpAll K H acc ((cs.zip ds).map sD) := by
  have lx : xs.length = cs.length := by rw [DpAll_len hx, List.length_map]
  have ly : ys.length = ds.length := by rw [DpAll_len hy, List.length_map]
  refine dpall_iv (by rw [hl, lx, ly, List.length_map, List.length_zip]) fun i v d ev ed => ?_
  obtain ⟨T, x, y, rfl, ex, ey, hT⟩ := hp i v ev
  rw [List.getElem?_map] at ed
  cases ez : (cs.zip ds)[i]? with
  | none => rw [ez] at ed; cases ed
  | some z =>
    rw [ez] at ed
    cases ed
    obtain ⟨a, b⟩ := List.getElem?_zip_eq_some.mp ez
    exact .tup (.inl (.inl hT)) (.cons (dp_pAt hx ex a) (.cons (dp_pAt hy ey b) .nil))
theorem dp_take {K : PySem.W.Frag} {H : Hp} : ∀ {ys : List V} {ds : List PyData} (k : Nat), DpAll K H ys ds → DpAll K H (ys.take k) (ds.take k)
  | _, _, 0, _ => by rw [List.take_zero, List.take_zero]; exact .nil
  | _, _, k + 1, .nil => .nil
  | _, _, k + 1, .cons a b => .cons a (dp_take k b)
theorem dp_tup {K : PySem.W.Frag} {H : Hp} {v : V} {ds : List PyData} (h : Dp K H v (.tuple ds)) : ∃ p xs, v = .ref p ∧ SqT K H p xs ∧ DpAll K H xs ds := by
  cases h with
  | tup h g => exact ⟨_, _, rfl, h, g⟩
def spRound (K : PySem.W.Frag) : Sp := fun vs H Q _ => ∃ v cs, vs = [v] ∧ Dp K H v (.tuple (cs.map pD)) ∧ cs.length ≤ 60 ∧ ∀ H' D ys, Same H H' → H D = none → H' D = some (.lst ys) → DpAll K H' ys ((roundF cs).map sD) → Q (.ref D) H'
def spSides (K : PySem.W.Frag) : Sp := fun vs H Q _ => ∃ v cs, vs = [v] ∧ Dp K H v (.tuple (cs.map pD)) ∧ cs.length ≤ 60 ∧ ∀ H' z, Same H H' → Dp K H' z (.tuple ((sidesF cs).map sD)) → Q z H'
def spBtw (K : PySem.W.Frag) : Sp := fun vs H Q _ => ∃ v u t a b p, vs = [v, u, t] ∧ Pla K H v a ∧ Pla K H u b ∧ Pla K H t p ∧ GoodP 400 a ∧ GoodP 400 b ∧ GoodP 400 p ∧ ∀ (k : Bool) H', (k = true ↔ (sgP a b p = 0 ∧ cmpP a p ≤ 0 ∧ cmpP p b ≤ 0)) → Same H H' → Q (.bl k) H'
def spHold (K : PySem.W.Frag) : Sp := fun vs H Q _ => ∃ v t cs p, vs = [v, t] ∧ Dp K H v (.tuple (cs.map pD)) ∧ Poly cs ∧ cs.length ≤ 60 ∧ (∀ c ∈ cs, GoodP 400 c) ∧ Pla K H t p ∧ GoodP 400 p ∧ ∀ (k : Bool) H', (k = true ↔ Lies cs p) → Same H H' → Q (.bl k) H'
theorem sgn_z (i : Int) : sgn i = 0 ↔ i = 0 := by unfold sgn; split <;> (try split) <;> omega
section
variable {P : Program} {w : World} {K : PySem.W.Frag} {mg : Str → Option Value} {base : Heap}
abbrev scouples_round : Stmt := topS 47
theorem sccouples_round : FnScope ["row"] ["row"] (defScope scouples_round) := ⟨rfl, rfl, rfl, by decide +kernel, rfl, by decide +kernel, by decide +kernel⟩
theorem okcouples_round (T : Txt K mg "couples_round" scouples_round) (mlist : mg "list" = none) (mzip : mg "zip" = none) : DefOk P w K mg base CX0 "couples_round" 1 ["row"] (spRound K) := by
  obtain ⟨f, fd, F, gf⟩ := T
  refine ⟨f, fd, gf, F.kp, F.binds (fun _ _ _ _ _ _ us hl => match us, hl with | [_], _ => rfl), F.ok sccouples_round (fun vs H Q E h => ?_) (fun cdv A outer s H vs Q E hr h => ?_)⟩
  · obtain ⟨v, cs, rfl, _⟩ := h; rfl
  · obtain ⟨v, cs, rfl, hv, l6, q⟩ := h
    refine ⟨_, (pss_one (ps_ret (ZP.pe_listZip (by rfl) mlist (by rfl) mzip (pa_cons (pv 0) (pa_cons (pe_op op_catA (pe_slice sl_tupA (pv 0) (po_some pe_int) po_none) (pe_slice sl_tupA (pv 0) po_none (po_some pe_int))) pa_nil))))), ?_⟩
    obtain ⟨p, xs, rfl, hS, hA⟩ := dp_tup hv
    have lx : xs.length = cs.length := by rw [DpAll_len hA, List.length_map]
    refine ⟨_, rfl, _, rfl, _, rfl, ?_⟩
    dsimp only [tNoPart]
    refine slA hS fun c1 H1 s1 h1 => ⟨_, rfl, _, rfl, ?_⟩
    dsimp only [tNoPart]
    refine slA (same_t s1 hS) fun c2 H2 s2 h2 => ?_
    have l60 : xs.length ≤ 60 := by omega
    by_cases x0 : xs = []
    · subst x0
      have e1 : cutV ([] : List V) (some 1) none = [] := rfl
      have e2 : cutV ([] : List V) none (some 1) = [] := rfl
      rw [e1] at h1
      rw [e2] at h2
      have c0 : cs = [] := List.length_eq_zero_iff.mp lx.symm
      subst c0
      refine catA (same_t s2 h1) h2 (by simp) fun c3 H3 s3 h3 => ?_
      refine ⟨p, c3, _, _, rfl, .inr (same_t ((s1.trans s2).trans s3) hS), .inr h3, fun H4 D acc s4 nD eD al pp => ?_⟩
      refine q H4 D acc (((s1.trans s2).trans s3).trans s4) ?_ eD ?_
      · cases e : H D with
        | none => rfl
        | some o => rw [((s1.trans s2).trans s3) _ _ e] at nD; cases nD
      · have : acc = [] := List.length_eq_zero_iff.mp (by rw [al]; rfl)
        rw [this]; exact .nil
    have l0 : 1 ≤ xs.length := List.length_pos_iff.mpr x0
    rw [show (1 : Int) = ((1 : Nat) : Int) from rfl, cut_drop xs l0] at h1
    rw [show (1 : Int) = ((1 : Nat) : Int) from rfl, cut_take xs l0] at h2
    refine catA (same_t s2 h1) h2 (by rw [List.length_drop, List.length_take]; omega) fun c3 H3 s3 h3 => ?_
    have s13 := (s1.trans s2).trans s3
    refine ⟨p, c3, _, _, rfl, .inr (same_t s13 hS), .inr h3, fun H4 D acc s4 nD eD al pp => ?_⟩
    refine q H4 D acc (s13.trans s4) ?_ eD ?_
    · cases e : H D with
      | none => rfl
      | some o => rw [s13 _ _ e] at nD; cases nD
    · have hA4 := DpAll_same (s13.trans s4) hA
      refine pairs_dp pp al hA4 ?_
      rw [List.map_append, List.map_drop, List.map_take]
      exact dp_app (dp_drop 1 hA4) (dp_take 1 hA4)
abbrev ssides_of : Stmt := topS 48
theorem scsides_of : FnScope ["corners"] ["corners"] (defScope ssides_of) := ⟨rfl, rfl, rfl, by decide +kernel, rfl, by decide +kernel, by decide +kernel⟩
theorem oksides_of (T : Txt K mg "sides_of" ssides_of) (Gcouples_round : DefOk P w K mg base CX0 "couples_round" 1 ["row"] (spRound K)) (mlen : mg "len" = none) (mtuple : mg "tuple" = none) (mzip : mg "zip" = none) : DefOk P w K mg base CX0 "sides_of" 2 ["corners"] (spSides K) := by
  obtain ⟨f, fd, F, gf⟩ := T
  refine ⟨f, fd, gf, F.kp, F.binds (fun _ _ _ _ _ _ us hl => match us, hl with | [_], _ => rfl), F.ok scsides_of (fun vs H Q E h => ?_) (fun cdv A outer s H vs Q E hr h => ?_)⟩
  · obtain ⟨v, cs, rfl, _⟩ := h; rfl
  · obtain ⟨v, cs, rfl, hv, l6, q⟩ := h
    refine ⟨_, (pss_cons (ps_if (pt_cmpR op_lt (pe_callB call_len_seq (by rfl) mlen PySem.boot_len (pa_cons (pv 0) pa_nil)) pe_int (nomark _)) (pss_one (ps_ret (ZP.pe_tupleZip (by rfl) mtuple (by rfl) mzip (pa_cons (pv 0) (pa_cons (pe_slice sl_tupA (pv 0) (po_some pe_int) po_none) pa_nil))))) pss_nil) (pss_one (ps_ret (pe_callTy call_tuple_of (by rfl) mtuple (by decide +kernel) (pa_cons (pe_def Gcouples_round (hr.mono (by decide)) (by rfl) (pa_cons (pv 0) pa_nil)) pa_nil))))), ?_⟩
    obtain ⟨p, xs, rfl, hS, hA⟩ := dp_tup hv
    have lx : xs.length = cs.length := by rw [DpAll_len hA, List.length_map]
    refine ⟨_, rfl, p, xs, rfl, .inr hS, _, _, rfl, rfl, _, rfl, ite2 (fun e => ?_) (fun e => ?_)⟩
    · have l3 : cs.length < 3 := by have := of_decide_eq_true e; omega
      refine ⟨_, rfl, _, rfl, _, rfl, ?_⟩
      dsimp only [tNoPart]
      refine slA hS fun c1 H1 s1 h1 => ?_
      refine ⟨p, c1, _, _, rfl, .inr (same_t s1 hS), .inr h1, fun H4 D acc s4 nD eD al pp => ?_⟩
      refine q H4 _ (s1.trans s4) (.tup (.inl (.inl eD)) ?_)
      have e1 : sidesF cs = cs.zip (cs.drop 1) := if_pos l3
      rw [e1]
      have hA4 := DpAll_same (s1.trans s4) hA
      refine pairs_dp pp al hA4 ?_
      by_cases x0 : xs = []
      · subst x0
        have c0 : cs = [] := List.length_eq_zero_iff.mp lx.symm
        subst c0
        exact .nil
      · rw [show (1 : Int) = ((1 : Nat) : Int) from rfl, cut_drop xs (List.length_pos_iff.mpr x0), List.map_drop]
        exact dp_drop 1 hA4
    · have l3 : ¬ cs.length < 3 := fun z => e (decide_eq_true (by omega))
      refine ⟨_, rfl, _, cs, rfl, hv, l6, fun H1 D ys s1 nD eD hY => ⟨D, ys, rfl, .inl ⟨.inl (.inl eD), fun t nt => ?_⟩⟩⟩
      have sn := PB.same_new (o := .tup ys) nt
      refine q _ _ (s1.trans sn) (.tup (.inl (.inl upd_same)) ?_)
      have e1 : sidesF cs = roundF cs := if_neg l3
      rw [e1]
      exact DpAll_same sn hY
abbrev sis_between : Stmt := topS 49
theorem scis_between : FnScope ["one", "other", "place"] ["one", "other", "place"] (defScope sis_between) := ⟨rfl, rfl, rfl, by decide +kernel, rfl, by decide +kernel, by decide +kernel⟩
theorem okis_between (T : Txt K mg "is_between" sis_between) (Gturn_at : DefOk P w K mg base CX0 "turn_at" 3 ["first", "second", "third"] (spTurnA K)) (Gcompare_places : DefOk P w K mg base CX0 "compare_places" 3 ["one", "other"] (spCmpP K)) : DefOk P w K mg base CX0 "is_between" 4 ["one", "other", "place"] (spBtw K) := by
  obtain ⟨f, fd, F, gf⟩ := T
  refine ⟨f, fd, gf, F.kp, F.binds (fun _ _ _ _ _ _ us hl => match us, hl with | [_, _, _], _ => rfl), F.ok scis_between (fun vs H Q E h => ?_) (fun cdv A outer s H vs Q E hr h => ?_)⟩
  · obtain ⟨v, u, t, a, b, p, rfl, _⟩ := h; rfl
  · obtain ⟨v, u, t, a, b, p, rfl, hv, hu, ht, ga, gb, gp, q⟩ := h
    refine ⟨_, (pss_cons (ps_if (pt_cmpR op_ne (pe_def Gturn_at (hr.mono (by decide)) (by rfl) (pa_cons (pv 0) (pa_cons (pv 1) (pa_cons (pv 2) pa_nil)))) pe_int (nomark _)) (pss_one (ps_ret pe_bl)) pss_nil) (pss_one (ps_ret (pe_and (pe_cmpR op_le (pe_def Gcompare_places (hr.mono (by decide)) (by rfl) (pa_cons (pv 0) (pa_cons (pv 2) pa_nil))) pe_int (nomark _)) (pe_one (pe_cmpR op_le (pe_def Gcompare_places (hr.mono (by decide)) (by rfl) (pa_cons (pv 2) (pa_cons (pv 1) pa_nil))) pe_int (nomark _))))))), ?_⟩
    refine ⟨_, rfl, _, rfl, _, rfl, v, u, t, a, b, p, rfl, hv, hu, ht, ga, gb, gp, fun H1 s1 => ⟨rfl, _, rfl, ?_⟩⟩
    by_cases z : sgP a b p = 0
    · refine itF (by rw [(sgn_z _).mpr z]; rfl) ?_
      refine ⟨v, rfl, t, rfl, v, t, a, p, rfl, hv.same s1, ht.same s1, ga, gp, _, _, rfl, rfl, _, rfl, ?_⟩
      by_cases c1 : cmpP a p ≤ 0
      · refine itT (decide_eq_true c1) ?_
        refine ⟨t, rfl, u, rfl, t, u, p, b, rfl, ht.same s1, hu.same s1, gp, gb, _, _, rfl, rfl, q _ H1 ?_ s1⟩
        rw [decide_eq_true_iff]
        exact ⟨fun k => ⟨z, c1, k⟩, fun k => k.2.2⟩
      · refine itF (decide_eq_false c1) (q false H1 ?_ s1)
        exact ⟨(fun k => nomatch k), fun k => absurd k.2.1 c1⟩
    · refine itT (by have : sgn (sgP a b p) ≠ 0 := fun k => z ((sgn_z _).mp k)
                     simp [this]) (q false H1 ?_ s1)
      exact ⟨(fun k => nomatch k), fun k => absurd k.1 z⟩
abbrev scorners_hold : Stmt := topS 50
theorem sccorners_hold : FnScope ["corners", "place", "one", "other"] ["corners", "place"] (defScope scorners_hold) := ⟨rfl, rfl, rfl, by decide +kernel, rfl, by decide +kernel, by decide +kernel⟩
theorem okcorners_hold (T : Txt K mg "corners_hold" scorners_hold) (Gturn_at : DefOk P w K mg base CX0 "turn_at" 3 ["first", "second", "third"] (spTurnA K)) (Gis_between : DefOk P w K mg base CX0 "is_between" 4 ["one", "other", "place"] (spBtw K)) (Gsides_of : DefOk P w K mg base CX0 "sides_of" 2 ["corners"] (spSides K)) (mlen : mg "len" = none) : DefOk P w K mg base CX0 "corners_hold" 5 ["corners", "place"] (spHold K) := by
  obtain ⟨f, fd, F, gf⟩ := T
  refine ⟨f, fd, gf, F.kp, F.binds (fun _ _ _ _ _ _ us hl => match us, hl with | [_, _], _ => rfl), F.ok sccorners_hold (fun vs H Q E h => ?_) (fun cdv A outer s H vs Q E hr h => ?_)⟩
  · obtain ⟨v, t, cs, p, rfl, _⟩ := h; rfl
  · obtain ⟨v, t, cs, p, rfl, hv, hP, l6, hg, ht, gp, q⟩ := h
    refine ⟨_, (pss_cons (ps_if (pt_cmpR op_lt (pe_callB call_len_seq (by rfl) mlen PySem.boot_len (pa_cons (pv 0) pa_nil)) pe_int (nomark _)) (pss_one (ps_ret (pe_def Gis_between (hr.mono (by decide)) (by rfl) (pa_cons (pe_ix ix_tup (pv 0) pe_int (fun _ _ => rfl)) (pa_cons (pe_ix ix_tup (pv 0) (pe_un un_neg pe_int) (fun _ _ => rfl)) (pa_cons (pv 1) pa_nil)))))) pss_nil) (pss_cons (ps_for PassesOwn.never rfl (pi_tup (pe_def Gsides_of (hr.mono (by decide)) (by rfl) (pa_cons (pv 0) pa_nil))) (pg_cou rfl (pgs_cons (pg_name (i := 2) sccorners_hold.nd rfl (.inl rfl)) (pgs_cons (pg_name (i := 3) sccorners_hold.nd rfl (.inl rfl)) pgs_nil))) (pss_one (ps_if (pt_cmpR op_lt (pe_def Gturn_at (hr.mono (by decide)) (by rfl) (pa_cons (pv 2) (pa_cons (pv 3) (pa_cons (pv 1) pa_nil)))) pe_int (nomark _)) (pss_one (ps_ret pe_bl)) pss_nil))) (pss_one (ps_ret pe_bl)))), ?_⟩
    obtain ⟨a, xs, rfl, hS, hA⟩ := dp_tup hv
    have lx : xs.length = cs.length := by rw [DpAll_len hA, List.length_map]
    refine ⟨_, rfl, a, xs, rfl, .inr hS, _, _, rfl, rfl, _, rfl, ite2 (fun e => ?_) (fun e => ?_)⟩
    · have l3 : cs.length < 3 := by have := of_decide_eq_true e; omega
      rcases cases3 hP.ne with ⟨c, rfl⟩ | ⟨c, d, rfl⟩ | l
      · obtain ⟨x, rfl⟩ : ∃ x, xs = [x] := List.length_eq_one_iff.mp lx
        have hx := dp_pAt hA (i := 0) (x := x) (p := c) rfl rfl
        have gc := hg c (by simp)
        refine ⟨_, rfl, a, _, 0, x, rfl, rfl, hS, rfl, _, rfl, _, rfl, a, _, -1, x, rfl, rfl, hS, rfl, _, rfl, x, x, t, c, c, p, rfl, pla_t hx, pla_t hx, ht, gc, gc, gp, fun k H1 hk s1 => q k H1 ?_ s1⟩
        rw [hk, lies1 gc.1 gp.1]
      · obtain ⟨x, y, rfl⟩ : ∃ x y, xs = [x, y] := len_two' lx
        have hx := dp_pAt hA (i := 0) (x := x) (p := c) rfl rfl
        have hy := dp_pAt hA (i := 1) (x := y) (p := d) rfl rfl
        have gc := hg c (by simp)
        have gd := hg d (by simp)
        refine ⟨_, rfl, a, _, 0, x, rfl, rfl, hS, rfl, _, rfl, _, rfl, a, _, -1, y, rfl, rfl, hS, rfl, _, rfl, x, y, t, c, d, p, rfl, pla_t hx, pla_t hy, ht, gc, gd, gp, fun k H1 hk s1 => q k H1 ?_ s1⟩
        have ne : c ≠ d := fun z => (List.nodup_cons.mp hP.nd).1 (by rw [z]; simp)
        rw [hk, lies2 gc.1 gd.1 gp.1 (hP.two c d rfl) ne]
      · omega
    · have l3 : 3 ≤ cs.length := by
        have : ¬ cs.length < 3 := fun z => e (decide_eq_true (by omega))
        omega
      have eS : sidesF cs = roundF cs := if_neg (by omega)
      have iff := lies3 hP l3 gp.1
      refine ⟨_, rfl, _, cs, rfl, hv, l6, fun H1 z s1 hz => ?_⟩
      obtain ⟨b, ys, rfl, hT, hB⟩ := dp_tup hz
      rw [eS] at hB
      have ly : ys.length = cs.length := by rw [DpAll_len hB, List.length_map, round_len]
      refine ⟨b, rfl, ⟨_, hT⟩, for_tup (K := K) (a := b) (xs := ys) (fun i σ H' => ∃ (y1 y2 : Option V), σ = [some (.ref a), some t, y1, y2] ∧ Same H1 H' ∧ ∀ k x y, k < i → cs[k]? = some x → cs[(k + 1) % cs.length]? = some y → 0 ≤ sgP x y p)
        ⟨none, none, rfl, (fun _ _ z => z), fun k x y hk => absurd hk (Nat.not_lt_zero _)⟩ (fun i σ H' _ ⟨_, _, _, s2, _⟩ => same_t s2 hT) ?_ ?_⟩
      · rintro i x σ H' hi ⟨y1, y2, rfl, s2, hall⟩
        obtain ⟨d, ed, hd⟩ := DpAll_at hB hi
        rw [List.getElem?_map] at ed
        cases er : (roundF cs)[i]? with
        | none => rw [er] at ed; cases ed
        | some c =>
          rw [er] at ed
          cases ed
          obtain ⟨c1, c2⟩ := c
          obtain ⟨e1, e2⟩ := round_at.mp er
          obtain ⟨pp, vx, vy, rfl, hc, h1, h2⟩ := dp_t2 (Dp_same s2 hd)
          have g1 := hg c1 (List.mem_of_getElem? e1)
          have g2 := hg c2 (List.mem_of_getElem? e2)
          refine ⟨vx, vy, ⟨pp, rfl, .inl hc⟩, ?_⟩
          refine ⟨_, _, rfl, _, _, rfl, rfl, ?_⟩
          refine ⟨_, rfl, _, rfl, _, rfl, vx, vy, t, c1, c2, p, rfl, pla_t h1, pla_t h2, ht.same (s1.trans s2), g1, g2, gp, fun H3 s3 => ⟨_, _, rfl, rfl, _, rfl, ?_⟩⟩
          by_cases c : sgP c1 c2 p < 0
          · refine itT (decide_eq_true ((sgn_neg' _).mpr c)) (q false H3 ?_ ((s1.trans s2).trans s3))
            refine ⟨(fun k => nomatch k), fun k => ?_⟩
            have := iff.mp k i c1 c2 e1 e2
            omega
          · refine itF (decide_eq_false fun z => c ((sgn_neg' _).mp z)) ⟨_, _, rfl, s2.trans s3, fun k x y hk hx hy => ?_⟩
            rcases Nat.lt_succ_iff_lt_or_eq.mp hk with h | h
            · exact hall k x y h hx hy
            · subst h
              rw [e1] at hx
              rw [e2] at hy
              cases hx
              cases hy
              omega
      · rintro σ H' ⟨y1, y2, rfl, s2, hall⟩
        refine q true H' ⟨fun _ => iff.mpr fun k x y hx hy => hall k x y ?_ hx hy, fun _ => rfl⟩ (s1.trans s2)
        rw [ly]; exact (List.getElem?_eq_some_iff.mp hx).1
end
end F3
set_option Elab.async false
set_option linter.all false
set_option maxRecDepth 100000
set_option maxHeartbeats 4000000
set_option exponentiation.threshold 10000
namespace F3
open PySem PySem.Spec PyProof.Rows L2 FX RM PB KD KS
theorem lc_all {K : PySem.W.Frag} {J : It} {n : Nat} {G : Hp → Prop} {Y : Nat → Hp → V → Hp → Prop} (w : Walk J n G Y) {g : TG} {te : TE} {vs : List Nat} {σ : L2.St} {H : Hp} {Q : VK} (f : Nat → PyData) (hn : ∀ i, noL (f i) = true) (hz : n < sizeLine)
    (hG : ∀ H', Same H H' → G H') (hY : ∀ i H0 x H', Y i H0 x H' → Same H0 H')
    (hs : ∀ i x H0 H' (R : V → Hp → Prop), i < n → Same H H0 → Y i H0 x H' → (∀ y H4, Same H' H4 → Dp K H4 y (f i) → R y H4) → g x (wipe σ vs) H' fun σ2 H2 => wipe σ2 vs = wipe σ vs ∧ te σ2 H2 R)
    (hd : ∀ D H' ys, Same H H' → H D = none → H' D = some (.lst ys) → DpAll K H' ys ((List.range n).map f) → Q (.ref D) H') :
    ∀ D, H D = none → ∃ W : Nat → Nat → Hp → Prop, (∃ m, W 0 m (upd H D (.lst []))) ∧ ∀ i m H, W i m H →
      (J.stop i H ∧ Q (.ref D) H) ∨ (J.go i H ∧ ∃ Nx : Hp → Prop, (∀ H', Nx H' → ∃ m', m' < m ∧ W (i + 1) m' H') ∧ ∀ x H', J.yld i H x H' → g x (wipe σ vs) H' fun σ2 H2 => wipe σ2 vs = wipe σ vs ∧ tYes σ2 H2 fun b H3 =>
        if b = true then te σ2 H3 fun y H4 => ∃ acc, H4 D = some (.lst acc) ∧ acc.length < sizeLine ∧ Nx (upd H4 D (.lst (acc ++ [y]))) else Nx H3) :=
  ZP.lc_filter (tt := tYes) w (fun _ => true) f hn hz hG hY (fun i x H0 H' R R0 il s y yes no => hs i x H0 H' R il s y (yes rfl)) (fun D H' ys s n e h => hd D H' ys s n e (by rw [List.filter_eq_self.mpr (fun _ _ => rfl)] at h; exact h))
theorem cross_rep {N : Int} (n0 : 0 < N) {a b c : Pl} (ha : Bot N a) (hb : Bot N b) (hc : Bot N c) : Rep (crossP a b c) (G4.cr (sc N a) (sc N b) (sc N c)) (N * N) := by
  have w := Int.mul_pos (Int.mul_pos (sc_w ha).1 (sc_w hb).1) (sc_w hc).1
  have e := sc_cr ha hb hc
  refine rep_scale (rep_norm (t := (rawC (wrow a) (wrow b) (wrow c)).1) (b := (rawC (wrow a) (wrow b) (wrow c)).2) w) (Int.mul_pos n0 n0) ?_
  exact e
theorem crossL_rep {N : Int} (n0 : 0 < N) {a b c : Pl} (ha : Bot N a) (hb : Bot N b) (hc : Bot N c) : Rep (crossL a b c) (G4.cr (sc N a) (sc N b) (sc N c)) (N * N) := by
  obtain ⟨a1, a2⟩ := rep_c n0 ha
  obtain ⟨b1, b2⟩ := rep_c n0 hb
  obtain ⟨c1, c2⟩ := rep_c n0 hc
  exact rep_sub1 (rep_mul (rep_sub1 b1 a1) (rep_sub1 c2 a2)) (rep_mul (rep_sub1 b2 a2) (rep_sub1 c1 a1))
theorem cross_eq {a b c : Pl} (ha : RatP a) (hb : RatP b) (hc : RatP c) : crossL a b c = crossP a b c := by
  obtain ⟨N, n0, hB⟩ := bots_for (l := [a, b, c]) (fun r hr => by
    rcases List.mem_cons.mp hr with e | hr
    · rw [e]; exact ha
    · rcases List.mem_cons.mp hr with e | hr
      · rw [e]; exact hb
      · rw [List.mem_singleton.mp hr]; exact hc)
  exact rep_eq (crossL_rep n0 (hB a (by simp)) (hB b (by simp)) (hB c (by simp))) (cross_rep n0 (hB a (by simp)) (hB b (by simp)) (hB c (by simp))) rfl
theorem amt_sz {d : Int × Int} {q : Pl} (zd : SzR 600 d) (gq : GoodP 400 q) : SzR 2000 (amt d q) := by
  refine szr_mono (n := 1401) (szr_norm (rawA_pos gq.1) ?_ ?_) (by decide)
  · exact sz_add (sz_mul (sz_mul zd.1 gq.2.1.1) gq.2.2.2) (sz_mul (sz_mul zd.2 gq.2.2.1) gq.2.1.2)
  · exact sz_mono (sz_mul gq.2.1.2 gq.2.2.2) (by decide)
/-- corners as the law has them -/
structure PatG (cs : List Pl) : Prop where
  poly : Poly cs
  l : cs.length ≤ 30
  g : ∀ c ∈ cs, GoodP 400 c
  N : ∃ N : Int, 0 < N ∧ Sz 100 N ∧ ∀ c ∈ cs, Bot N c ∧ SzT 300 (sc N c)
theorem szt_dif {n : Nat} {a b : Int} (ha : Sz n a) (hb : Sz n b) : Sz (n + 1) (a - b) := sz_sub ha hb
theorem dir_sz2 {N : Int} (n0 : 0 < N) (zN : Sz 100 N) {x y : Pl} (hx : Bot N x) (hy : Bot N y) (zx : SzT 300 (sc N x)) (zy : SzT 300 (sc N y)) (ne : x ≠ y) : SzR 401 (dirS x y) ∧ SzP 301 (stepF x y) := by
  obtain ⟨x1, x2⟩ := rep_c n0 hx
  obtain ⟨y1, y2⟩ := rep_c n0 hy
  have r1 := rep_sub1 y1 x1
  have r2 := rep_sub1 y2 x2
  obtain ⟨a1, b1⟩ := rep_sz r1 (szt_dif zy.1 zx.1) zN
  obtain ⟨a2, b2⟩ := rep_sz r2 (szt_dif zy.2 zx.2) zN
  exact ⟨dir_sz (step_nz hx.1 hy.1 ne) ⟨r1.1, r2.1⟩ ⟨a1, a2⟩ ⟨b1, b2⟩, ⟨⟨a1, sz_mono b1 (by decide)⟩, ⟨a2, sz_mono b2 (by decide)⟩⟩⟩
theorem filt_get {α : Type} (cs : List Pl) (q : Pl → Bool) (g : Pl → α) : ((List.range cs.length).filter (fun i => q (cs.getD i zP))).map (fun i => g (cs.getD i zP)) = (cs.filter q).map g := by
  have e : (List.range cs.length).map (fun i => cs.getD i zP) = cs := by
    have := range_get cs zP (g := id)
    simpa using this
  have k : cs.filter q = ((List.range cs.length).filter (fun i => q (cs.getD i zP))).map (fun i => cs.getD i zP) := by
    conv => lhs; rw [← e]
    rw [List.filter_map]; rfl
  rw [k, List.map_map]; rfl
def nD (n : (Int × Int) × Pl) : PyData := .tuple [rD n.1, pD n.2]
def hD (h : (Int × Int) × Rt) : PyData := .tuple [rD h.1, rD h.2]
theorem noL_n (n : (Int × Int) × Pl) : noL (nD n) = true := by simp [nD, pD, rD, noL, noLs]
theorem noL_h (n : (Int × Int) × Rt) : noL (hD n) = true := by simp [hD, rD, noL, noLs]
def normF : List Pl → List ((Int × Int) × Pl)
  | [c] => AX4.map fun d => (d, c)
  | [a, b] => [(norS a b, a), (ng2 (norS a b), a), (dirS a b, b), (ng2 (dirS a b), a)]
  | cs => (roundF cs).map fun s => (norS s.1 s.2, s.1)
theorem norm3 {cs : List Pl} (l3 : 3 ≤ cs.length) : normF cs = (roundF cs).map fun s => (norS s.1 s.2, s.1) := by
  match cs, l3 with
  | _ :: _ :: _ :: _, _ => rfl
theorem halves_norm (cs : List Pl) (ne : cs ≠ []) : halvesF cs = (normF cs).map fun n => (n.1, amt n.1 n.2) := by
  rcases cases3 ne with ⟨c, rfl⟩ | ⟨a, b, rfl⟩ | l3
  · unfold halvesF normF; rw [List.map_map]; rfl
  · rfl
  · rw [halves3 l3, norm3 l3, List.map_map]
    apply List.ext_getElem?
    intro k
    rw [List.getElem?_map, List.getElem?_map]
    rcases Nat.lt_or_ge k cs.length with h | h
    · have hx := getD_at h
      have hy := getD_at (cs := cs) (k := (k + 1) % cs.length) (Nat.mod_lt _ (by omega))
      rw [round_at.mpr ⟨hx, hy⟩, List.getElem?_range h]
      rfl
    · rw [List.getElem?_eq_none (by rw [List.length_range]; exact h), List.getElem?_eq_none (by rw [round_len]; exact h)]
      rfl
theorem pat_get {K : PySem.W.Frag} {H : Hp} {v : V} {cs : List Pl} (h : PatAt K H v cs) : ∃ a dx p xs, v = .ref a ∧ H a = some (.ins (cP K) dx [("corners", .ref p)]) ∧ SqT K H p xs ∧ DpAll K H xs (cs.map pD) ∧ xs.length = cs.length := by
  obtain ⟨a, dx, t, rfl, e, ht⟩ := h
  obtain ⟨p, xs, rfl, hS, hA⟩ := dp_tup ht
  exact ⟨a, dx, p, xs, rfl, e, hS, hA, by rw [DpAll_len hA, List.length_map]⟩
theorem pls_l {K : PySem.W.Frag} {H : Hp} {p : Addr} {xs : List V} {ps : List Pl} (hs : SqL K H p xs ∨ SqT K H p xs) (hA : DpAll K H xs (ps.map pD)) : Pls K H p xs ps :=
  ⟨hs, by rw [DpAll_len hA, List.length_map], fun i x q ex eq => pla_t (dp_pAt hA ex eq)⟩
def spPIn (K : PySem.W.Frag) : Sp := fun vs H Q _ => ∃ v t cs p, vs = [v, t] ∧ PatAt K H v cs ∧ PatG cs ∧ Pla K H t p ∧ GoodP 400 p ∧ ∀ (k : Bool) H', (k = true ↔ Lies cs p) → Same H H' → Q (.bl k) H'
def spPSides (K : PySem.W.Frag) : Sp := fun vs H Q _ => ∃ v cs, vs = [v] ∧ PatAt K H v cs ∧ cs.length ≤ 60 ∧ ∀ H' z, Same H H' → Dp K H' z (.tuple ((sidesF cs).map sD)) → Q z H'
def areaF (cs : List Pl) : Rt := sumR ((sidesF cs).map fun s => crossP (cs.headD zP) s.1 s.2)
def spPArea (K : PySem.W.Frag) : Sp := fun vs H Q _ => ∃ v cs, vs = [v] ∧ PatAt K H v cs ∧ PatG cs ∧ ∀ H' z, Same H H' → Dp K H' z (rD (areaF cs)) → Q z H'
def spPMid (K : PySem.W.Frag) : Sp := fun vs H Q _ => ∃ v cs, vs = [v] ∧ PatAt K H v cs ∧ PatG cs ∧ ∀ H' z, Same H H' → Dp K H' z (pD (meanP cs)) → Q z H'
def spMeanN (K : PySem.W.Frag) : Sp := fun vs H Q _ => ∃ p xs ps, vs = [.ref p] ∧ (SqL K H p xs ∨ SqT K H p xs) ∧ DpAll K H xs (ps.map pD) ∧ PatG ps ∧ ∀ H' z, Same H H' → Dp K H' z (pD (meanP ps)) → Q z H'
def spAmts (K : PySem.W.Frag) : Sp := fun vs H Q _ => ∃ v u cs d, vs = [v, u] ∧ PatAt K H v cs ∧ Dir K H u d ∧ SzR 600 d ∧ PatG cs ∧ ∀ H' D ys, Same H H' → H D = none → H' D = some (.lst ys) → DpAll K H' ys ((cs.map (amt d)).map rD) → Q (.ref D) H'
def spReach (K : PySem.W.Frag) (o : Int × Int → List Pl → Rt) : Sp := fun vs H Q _ => ∃ v u cs d, vs = [v, u] ∧ PatAt K H v cs ∧ Dir K H u d ∧ SzR 600 d ∧ PatG cs ∧ ∀ H' z, Same H H' → Dp K H' z (rD (o d cs)) → Q z H'
def onTop (d : Int × Int) (cs : List Pl) : List Pl := cs.filter fun c => decide (amt d c = topC d cs)
def spTouch (K : PySem.W.Frag) : Sp := fun vs H Q _ => ∃ v u cs d, vs = [v, u] ∧ PatAt K H v cs ∧ Dir K H u d ∧ SzR 600 d ∧ PatG cs ∧ ∀ H' z os, Same H H' → Srt (onTop d cs) os → PatAt K H' z (hullP os) → Q z H'
def spNorms (K : PySem.W.Frag) : Sp := fun vs H Q _ => ∃ v cs, vs = [v] ∧ PatAt K H v cs ∧ PatG cs ∧ ∀ H' D ys, Same H H' → H D = none → H' D = some (.lst ys) → DpAll K H' ys ((normF cs).map nD) → Q (.ref D) H'
def spHalves (K : PySem.W.Frag) : Sp := fun vs H Q _ => ∃ v cs, vs = [v] ∧ PatAt K H v cs ∧ PatG cs ∧ ∀ H' z, Same H H' → Dp K H' z (.tuple ((halvesF cs).map hD)) → Q z H'
/-- a property of the class, by its getter -/
def PPr (P : Program) (w : World) (K : PySem.W.Frag) (mg : Str → Option Value) (base : Heap) (x : Str) (k : Nat) (sp : Sp) : Prop := ∃ p g fd, PropOf K (cP K) x p g ∧ FnOk P w K mg base CX0 k g fd ["self"] sp ∧ L2.Binds K fd ["self"] []
structure PMq (P : Program) (w : World) (K : PySem.W.Frag) (mg : Str → Option Value) (base : Heap) : Prop where
  cl : Cls K (cP K)
  no : NoAttr K (cP K) "corners"
  i1 : PySem.W.findIn K (.ref (cP K)) "__contains__" = some (some (.ref (He.ma K (cP K) "__contains__")))
  i2 : PySem.W.isFn K (.ref (He.ma K (cP K) "__contains__")) = true
  ct : ∃ fd, FnOk P w K mg base CX0 6 (He.ma K (cP K) "__contains__") fd ["self", "place"] (spPIn K) ∧ L2.Binds K fd ["self", "place"] []
  sd : PPr P w K mg base "sides" 3 (spPSides K)
  ar : PPr P w K mg base "twice_area" 4 (spPArea K)
  md : PPr P w K mg base "middle" 5 (spPMid K)
section
variable {X : Cx}
theorem pe_propP {e : Expr} {x : Str} {pos : Pos} {k : Nat} {sp : Sp} {ta : TE} (c : Cls X.K (cP X.K)) (D : PPr X.prog X.w X.K X.mg X.base x k sp) (he : PE X e ta) (hr : Room (k + 1) X.A) (hab : attributeBase e x X.env (eval e X.env) = eval e X.env) : PE X (.Attribute e x pos) (tProp (cP X.K) sp [] E0 ta) := by
  obtain ⟨p, g, fd, hp, F, hb⟩ := D
  exact pe_prop he c hp F hr hb .nil (fun _ _ _ _ _ _ _ h => h.elim) hab
theorem op_inP (m : PMq X.prog X.w X.K X.mg X.base) (hr : Room 6 X.A) : OpR X (compareOp .In) (OW.rInO (cP X.K) (spPIn X.K)) := by
  obtain ⟨fd, F, b⟩ := m.ct
  exact OW.op_inO m.i1 m.i2 F b (fun _ _ _ _ _ _ _ h => h.elim) hr
end
section
variable {P : Program} {w : World} {K : PySem.W.Frag} {mg : Str → Option Value} {base : Heap}
abbrev sPin : Stmt := inClass (topS 52) 4
theorem scPin : FnScope ["self", "place"] ["self", "place"] (defScope sPin) := ⟨rfl, rfl, rfl, by decide +kernel, rfl, by decide +kernel, by decide +kernel⟩
theorem in_Pin {f : Addr} {fd : FuncData} (F : Fun K "__contains__" "Patch.__contains__" sPin f fd) (tC : Cls K (cP K)) (nC : NoAttr K (cP K) "corners") (Gcorners_hold : DefOk P w K mg base CX0 "corners_hold" 5 ["corners", "place"] (spHold K)) : FnOk P w K mg base CX0 6 f fd ["self", "place"] (spPIn K) := by
  refine F.ok scPin (fun vs H Q E h => ?_) (fun cdv A outer s H vs Q E hr h => ?_)
  · obtain ⟨v, t, cs, p, rfl, _⟩ := h; rfl
  · obtain ⟨v, t, cs, q, rfl, hv, hG, ht, gq, k⟩ := h
    refine ⟨_, (pss_one (ps_ret (pe_def Gcorners_hold (hr.mono (by decide)) (by rfl) (pa_cons (pe_fld (pv 0) rfl) (pa_cons (pv 1) pa_nil))))), ?_⟩
    obtain ⟨a, dx, p, xs, rfl, e, hS, hA, lx⟩ := pat_get hv
    exact ⟨_, rfl, a, cP K, dx, _, .ref p, rfl, e, tC, nC, rfl, _, rfl, .ref p, t, cs, q, rfl, .tup hS hA, hG.poly, Nat.le_trans hG.l (by decide), hG.g, ht, gq, k⟩
abbrev sPsides : Stmt := inClass (topS 52) 5
theorem scPsides : FnScope ["self"] ["self"] (defScope sPsides) := ⟨rfl, rfl, rfl, by decide +kernel, rfl, by decide +kernel, by decide +kernel⟩
theorem in_Psides {f : Addr} {fd : FuncData} (F : Fun K "sides" "Patch.sides" sPsides f fd) (tC : Cls K (cP K)) (nC : NoAttr K (cP K) "corners") (Gsides_of : DefOk P w K mg base CX0 "sides_of" 2 ["corners"] (spSides K)) : FnOk P w K mg base CX0 3 f fd ["self"] (spPSides K) := by
  refine F.ok scPsides (fun vs H Q E h => ?_) (fun cdv A outer s H vs Q E hr h => ?_)
  · obtain ⟨v, cs, rfl, _⟩ := h; rfl
  · obtain ⟨v, cs, rfl, hv, l6, k⟩ := h
    refine ⟨_, (pss_one (ps_ret (pe_def Gsides_of (hr.mono (by decide)) (by rfl) (pa_cons (pe_fld (pv 0) rfl) pa_nil)))), ?_⟩
    obtain ⟨a, dx, p, xs, rfl, e, hS, hA, lx⟩ := pat_get hv
    exact ⟨_, rfl, a, cP K, dx, _, .ref p, rfl, e, tC, nC, rfl, .ref p, cs, rfl, .tup hS hA, l6, k⟩
abbrev sParea : Stmt := inClass (topS 52) 6
theorem scParea : FnScope ["self", "first", "one", "other"] ["self"] (defScope sParea) := ⟨rfl, rfl, rfl, by decide +kernel, rfl, by decide +kernel, by decide +kernel⟩
theorem in_Parea {f : Addr} {fd : FuncData} (F : Fun K "twice_area" "Patch.twice_area" sParea f fd) (tC : Cls K (cP K)) (nC : NoAttr K (cP K) "corners") (Gsides_of : DefOk P w K mg base CX0 "sides_of" 2 ["corners"] (spSides K)) (Gcross_at : DefOk P w K mg base CX0 "cross_at" 3 ["first", "second", "third"] (spCross K crossP)) (Gsum_of : DefOk P w K mg base CX0 "sum_of" 3 ["row"] (spSumN K)) : FnOk P w K mg base CX0 4 f fd ["self"] (spPArea K) := by
  refine F.ok scParea (fun vs H Q E h => ?_) (fun cdv A outer s H vs Q E hr h => ?_)
  · obtain ⟨v, cs, rfl, _⟩ := h; rfl
  · obtain ⟨v, cs, rfl, hv, hG, k⟩ := h
    refine ⟨_, (pss_cons (ps_set (i := 1) scParea.nd rfl (.inr rfl) (pe_ix ix_tup (pe_fld (pv 0) rfl) pe_int (fun _ _ => rfl))) (pss_one (ps_ret (pe_def Gsum_of (hr.mono (by decide)) (by rfl) (pa_cons (pe_lc (own := [("one", 2), ("other", 3)]) rfl scParea.nd (pi_seq (pe_def Gsides_of (hr.mono (by decide)) (by rfl) (pa_cons (pe_fld (pv 0) rfl) pa_nil))) (blkOk_by (N := ["self", "first", "one", "other"]) (sc := defScope sParea) (by decide +kernel)) (fun _ _ _ _ _ => (pg_couK K rfl (pgs_cons (pg_name (i := 2) scParea.nd rfl (.inl rfl)) (pgs_cons (pg_name (i := 3) scParea.nd rfl (.inl rfl)) pgs_nil)))) (fun _ _ _ _ _ => pts_nil) (fun _ _ _ _ _ => (pe_def Gcross_at (hr.mono (by decide)) (by rfl) (pa_cons (pv 1) (pa_cons (pv 2) (pa_cons (pv 3) pa_nil)))))) pa_nil))))), ?_⟩
    obtain ⟨a, dx, p, xs, rfl, e, hS, hA, lx⟩ := pat_get hv
    have cne := hG.poly.ne
    have c0 : 0 < cs.length := List.length_pos_iff.mpr cne
    have x0 : xs[0]? = some (xs[0]'(by omega)) := List.getElem?_eq_getElem (by omega)
    generalize xs[0]'(by omega) = y0 at x0
    have ec := getD_at c0
    have h0 := dp_pAt hA x0 ec
    refine ⟨_, rfl, a, cP K, dx, _, .ref p, rfl, e, tC, nC, rfl, p, xs, 0, y0, rfl, rfl, hS, atI_nat (j := 0) x0, ?_⟩
    dsimp only [tSeq, tAsg, tCall, tCons, tNil, gName, tRet]
    refine .inr ⟨_, rfl, a, cP K, dx, _, .ref p, rfl, e, tC, nC, rfl, .ref p, cs, rfl, .tup hS hA, Nat.le_trans hG.l (by decide), fun H1 z s1 hz => ?_⟩
    obtain ⟨b, ys, rfl, hT, hB⟩ := dp_tup hz
    have ly : ys.length = (sidesF cs).length := by rw [DpAll_len hB, List.length_map]
    have l6 : (sidesF cs).length ≤ 30 := Nat.le_trans (sides_le cs) hG.l
    have hd0 : cs.headD zP = cs.getD 0 zP := by
      match cs, cne with
      | _ :: _, _ => rfl
    have mem : ∀ s ∈ sidesF cs, s.1 ∈ cs ∧ s.2 ∈ cs := fun s hs => by
      unfold sidesF at hs
      split at hs
      · exact ⟨(List.of_mem_zip hs).1, List.mem_of_mem_drop (List.of_mem_zip hs).2⟩
      · unfold roundF at hs
        refine ⟨(List.of_mem_zip hs).1, ?_⟩
        rcases List.mem_append.mp (List.of_mem_zip hs).2 with h | h
        · exact List.mem_of_mem_drop h
        · exact List.mem_of_mem_take h
    have m0 : cs.getD 0 zP ∈ cs := List.mem_of_getElem? ec
    have m6 := fun {q : Pl} (h : q ∈ cs) => (⟨szr_mono (hG.g q h).2.1 (by decide), szr_mono (hG.g q h).2.2 (by decide)⟩ : SzP 600 q)
    refine ⟨b, rfl, ⟨_, hT⟩, ?_⟩
    dsimp only
    refine lc_all (K := K) (Q := fun v H4 => spSumN K [v] H4 Q E0) (walk_tup (K := K) (a := b) (xs := ys)) (fun i => rD (crossP (cs.getD 0 zP) ((sidesF cs).getD i (zP, zP)).1 ((sidesF cs).getD i (zP, zP)).2)) (fun i => by simp [rD, noL, noLs]) (small1000 (by omega)) (fun H' s => same_t s hT) ZP.yat_same ?_ ?_
    · intro i x H0 H2 R il s2 hy hR
      obtain ⟨rfl, ex⟩ := hy
      obtain ⟨d, ed, hd⟩ := DpAll_at hB ex
      rw [List.getElem?_map] at ed
      cases es : (sidesF cs)[i]? with
      | none => rw [es] at ed; cases ed
      | some sd =>
        rw [es] at ed
        cases ed
        obtain ⟨pp, vx, vy, rfl, hc, h1, h2⟩ := dp_t2 (Dp_same s2 hd)
        obtain ⟨m1, m2⟩ := mem sd (List.mem_of_getElem? es)
        refine ⟨vx, vy, ⟨pp, rfl, .inl hc⟩, _, _, rfl, _, _, rfl, rfl, rfl, ?_⟩
        refine ⟨y0, rfl, _, rfl, _, rfl, y0, vx, vy, cs.getD 0 zP, sd.1, sd.2, rfl, pla_t (Dp_same (s1.trans s2) h0), pla_t h1, pla_t h2, (hG.g _ m0).1, (hG.g _ m1).1, (hG.g _ m2).1, m6 m0, m6 m1, m6 m2, fun H3 z s3 hz3 => hR z H3 s3 ?_⟩
        rw [show (sidesF cs).getD i (zP, zP) = sd by rw [List.getD_eq_getElem?_getD, es]; rfl]
        exact hz3
    · intro D H2 zs s2 nD eD hZ
      obtain ⟨N, n0, zN, hN⟩ := hG.N
      have eL : (List.range ys.length).map (fun i => rD (crossP (cs.getD 0 zP) ((sidesF cs).getD i (zP, zP)).1 ((sidesF cs).getD i (zP, zP)).2)) = (((sidesF cs).map fun s => crossP (cs.headD zP) s.1 s.2)).map rD := by
        rw [ly, hd0, List.map_map]
        exact range_get (sidesF cs) (zP, zP) (g := fun s => rD (crossP (cs.getD 0 zP) s.1 s.2))
      rw [eL] at hZ
      refine ⟨D, zs, _, N * N, rfl, .inl (.inl eD), hZ, by rw [List.length_map]; omega, sz_mono (sz_mul zN zN) (by decide), fun r hr => ?_, Int.mul_pos n0 n0, fun H3 z s3 hz => k H3 z ((s1.trans s2).trans s3) hz⟩
      obtain ⟨s_, hs, rfl⟩ := List.mem_map.mp hr
      obtain ⟨m1, m2⟩ := mem s_ hs
      rw [hd0]
      obtain ⟨b0, z0⟩ := hN _ m0
      obtain ⟨b1, z1⟩ := hN _ m1
      obtain ⟨b2, z2⟩ := hN _ m2
      refine ⟨_, cross_rep n0 b0 b1 b2, ?_⟩
      unfold G4.cr
      exact sz_mono (sz_sub (sz_mul (sz_sub z1.1 z0.1) (sz_sub z2.2 z0.2)) (sz_mul (sz_sub z1.2 z0.2) (sz_sub z2.1 z0.1))) (by decide)
end
end F3
set_option Elab.async false
set_option linter.all false
set_option maxRecDepth 100000
set_option maxHeartbeats 4000000
set_option exponentiation.threshold 3000
namespace F3
open PySem PySem.Spec PyProof.Rows L2 FX RM PB
section
variable {P : Program} {w : World} {K : PySem.W.Frag} {mg : Str → Option Value} {base : Heap}
abbrev smean_place : Stmt := topS 31
theorem scmean_place : FnScope ["places", "many", "x", "y", "place"] ["places"] (defScope smean_place) := ⟨rfl, rfl, rfl, by decide +kernel, rfl, by decide +kernel, by decide +kernel⟩
theorem okmean_place (T : Txt K mg "mean_place" smean_place) (Gsum_of : DefOk P w K mg base CX0 "sum_of" 3 ["row"] (spSum K)) (Gover : DefOk P w K mg base CX0 "over" 2 ["one", "other"] (spOver K)) (mlen : mg "len" = none) : DefOk P w K mg base CX0 "mean_place" 4 ["places"] (spMean K) := by
  obtain ⟨f, fd, F, gf⟩ := T
  refine ⟨f, fd, gf, F.kp, F.binds (fun _ _ _ _ _ _ us hl => match us, hl with | [_], _ => rfl), F.ok scmean_place (fun vs H Q E h => ?_) (fun cdv A outer s H vs Q E hr h => ?_)⟩
  · obtain ⟨p, xs, ps, rfl, _⟩ := h; rfl
  · obtain ⟨p, xs, ps, rfl, hS, hD, l0, l4, hr_, q⟩ := h
    refine ⟨_, (pss_cons (ps_set (i := 1) scmean_place.nd rfl (.inl rfl) (pe_tup (pa_cons (pe_callB call_len_seq (by rfl) mlen PySem.boot_len (pa_cons (pv 0) pa_nil)) (pa_cons pe_int pa_nil)))) (pss_cons (ps_set (i := 2) scmean_place.nd rfl (.inl rfl) (pe_def Gsum_of (hr.mono (by decide)) (by rfl) (pa_cons (pe_lc (own := [("place", 4)]) (g := gName 4) (tt := tYes) rfl scmean_place.nd (pi_seq (pv 0)) (blkOk_by (N := ["places", "many", "x", "y", "place"]) (sc := defScope smean_place) (by decide +kernel)) (fun _ _ _ _ _ => pg_name (i := 4) scmean_place.nd rfl (.inl rfl)) (fun _ _ _ _ _ => pts_nil) (fun _ _ _ _ _ => (pe_ix (ix_itK K) (pv 4) pe_int (fun _ _ => rfl)))) pa_nil))) (pss_cons (ps_set (i := 3) scmean_place.nd rfl (.inl rfl) (pe_def Gsum_of (hr.mono (by decide)) (by rfl) (pa_cons (pe_lc (own := [("place", 4)]) (g := gName 4) (tt := tYes) rfl scmean_place.nd (pi_seq (pv 0)) (blkOk_by (N := ["places", "many", "x", "y", "place"]) (sc := defScope smean_place) (by decide +kernel)) (fun _ _ _ _ _ => pg_name (i := 4) scmean_place.nd rfl (.inl rfl)) (fun _ _ _ _ _ => pts_nil) (fun _ _ _ _ _ => (pe_ix (ix_itK K) (pv 4) pe_int (fun _ _ => rfl)))) pa_nil))) (pss_one (ps_ret (pe_tup (pa_cons (pe_def Gover (hr.mono (by decide)) (by rfl) (pa_cons (pv 2) (pa_cons (pv 1) pa_nil))) (pa_cons (pe_def Gover (hr.mono (by decide)) (by rfl) (pa_cons (pv 3) (pa_cons (pv 1) pa_nil))) pa_nil)))))))), ?_⟩
    have lx : xs.length = ps.length := by rw [DpAll_len hD, List.length_map]
    have xz : xs.length < sizeLine := small1000 (by omega)
    have at_ : ∀ {i : Nat} {x : V} {H' : Hp}, Same H H' → xs[i]? = some x → ∃ r, ps[i]? = some r ∧ Dp K H' x (pD r) := fun {i x H'} s e => by
      obtain ⟨d, ed, hd⟩ := DpAll_at hD e
      rw [List.getElem?_map] at ed
      cases ep : ps[i]? with
      | none => rw [ep] at ed; cases ed
      | some r => rw [ep] at ed; cases ed; exact ⟨r, rfl, Dp_same s hd⟩
    have mapD : ∀ (k : Pl → Rt), (List.range xs.length).map (fun i => rD (k (ps.getD i ((0, 1), (0, 1))))) = (ps.map k).map rD := fun k => by
      rw [lx, List.map_map]
      apply List.ext_getElem
      · simp
      · intro i h1 h2
        simp at h1 h2
        simp [List.getD_eq_getElem?_getD, h2]
    refine ⟨.ref p, rfl, p, xs, rfl, hS, (by show 2 ≤ sizeLine; decide), fun m nm => ?_⟩
    have s0 : Same H (upd H m (.tup [.int (xs.length : Int), .int 1])) := PB.same_new nm
    have hm : Dp K (upd H m (.tup [.int (xs.length : Int), .int 1])) (.ref m) (rD ((xs.length : Int), 1)) := dp_mkr nm
    generalize upd H m (.tup [.int (xs.length : Int), .int 1]) = H0 at s0 hm ⊢
    have q0 : SqL K H0 p xs ∨ SqT K H0 p xs := hS.elim (fun z => .inl (s0.seq z)) fun z => .inr (same_t s0 z)
    dsimp only [tSeq, tAsg, tCall, tCons, tNil, gName]
    refine lc_map (K := K) (a := p) (xs := xs) (j := 0) (fun i => rD ((ps.getD i ((0, 1), (0, 1))).1)) (fun i => by simp [rD, noL, noLs]) (by rfl) q0 xz (fun i x H' R ex sx hR => ?_) fun D H1 ys s1 nD hys hdy => ?_
    · obtain ⟨r, er, hx⟩ := at_ (s0.trans sx) ex
      obtain ⟨a, b, c, ha, hb⟩ := pla_t hx
      refine ⟨rfl, x, rfl, a, b, 0, _, rfl, c, rfl, hR _ _ (fun _ _ z => z) ?_⟩
      have : ps.getD i ((0, 1), (0, 1)) = r := by rw [List.getD_eq_getElem?_getD, er]; rfl
      rw [this]; exact ha
    refine ⟨D, ys, ps.map (·.1), rfl, .inl (.inl hys), (by rw [← mapD]; exact hdy), (by rw [List.length_map]; exact l4), ?_, fun H2 z2 s2 h2 => ?_⟩
    · intro r hr
      obtain ⟨x, hx, rfl⟩ := List.mem_map.mp hr
      exact ⟨(hr_ x hx).1.1, (hr_ x hx).2.1⟩
    have s02 := s1.trans s2
    have q2 : SqL K H2 p xs ∨ SqT K H2 p xs := q0.elim (fun z => .inl (s02.seq z)) fun z => .inr (same_t s02 z)
    dsimp only [tSeq, tAsg, tCall, tCons, tNil, gName]
    refine lc_map (K := K) (a := p) (xs := xs) (j := 0) (fun i => rD ((ps.getD i ((0, 1), (0, 1))).2)) (fun i => by simp [rD, noL, noLs]) (by rfl) q2 xz (fun i x H' R ex sx hR => ?_) fun D3 H3 ys3 s3 nD3 hys3 hdy3 => ?_
    · obtain ⟨r, er, hx⟩ := at_ ((s0.trans s02).trans sx) ex
      obtain ⟨a, b, c, ha, hb⟩ := pla_t hx
      refine ⟨rfl, x, rfl, a, b, 1, _, rfl, c, rfl, hR _ _ (fun _ _ z => z) ?_⟩
      have : ps.getD i ((0, 1), (0, 1)) = r := by rw [List.getD_eq_getElem?_getD, er]; rfl
      rw [this]; exact hb
    refine ⟨D3, ys3, ps.map (·.2), rfl, .inl (.inl hys3), (by rw [← mapD]; exact hdy3), (by rw [List.length_map]; exact l4), ?_, fun H4 z4 s4 h4 => ?_⟩
    · intro r hr
      obtain ⟨x, hx, rfl⟩ := List.mem_map.mp hr
      exact ⟨(hr_ x hx).1.2, (hr_ x hx).2.2⟩
    have nx : Sz 2000 (ps.length : Int) := by
      show ((ps.length : Int)).natAbs < 2 ^ 2000
      rw [Int.natAbs_natCast]
      exact Nat.lt_of_le_of_lt l4 (Nat.lt_of_lt_of_le (by decide : 4 < 2 ^ 3) (Nat.pow_le_pow_right (by decide) (by decide)))
    rw [lx] at hm
    have sum2 : ∀ (k : Pl → Rt), (∀ r ∈ ps, IsRat (k r) ∧ SzR 300 (k r)) → IsRat (sumR (ps.map k)) ∧ SzR 2000 (sumR (ps.map k)) := fun k hk => by
      obtain ⟨a, b⟩ := sum_ok (n := 300) (rs := ps.map k) (fun r hr => by obtain ⟨x, hx, rfl⟩ := List.mem_map.mp hr; exact hk x hx)
      exact ⟨a, szr_mono b (by rw [List.length_map]; omega)⟩
    obtain ⟨i1, z1⟩ := sum2 (·.1) fun r hr => ⟨(hr_ r hr).1.1, (hr_ r hr).2.1⟩
    obtain ⟨i2, z2'⟩ := sum2 (·.2) fun r hr => ⟨(hr_ r hr).1.2, (hr_ r hr).2.2⟩
    have s24 := s3.trans s4
    refine ⟨z2, rfl, .ref m, rfl, _, _, _, _, rfl, Dp_same s24 h2, Dp_same (s02.trans s24) hm, by omega, i1, z1, nx, fun H5 z5 s5 h5 => ?_⟩
    refine ⟨z4, rfl, .ref m, rfl, _, _, _, _, rfl, Dp_same s5 h4, Dp_same ((s02.trans s24).trans s5) hm, by omega, i2, z2', nx, fun H6 z6 s6 h6 => ⟨(by show 2 ≤ sizeLine; decide), fun r nr => q _ _ ?_ (dp_mk2 nr (Dp_same s6 h5) h6)⟩⟩
    exact ((((s0.trans s02).trans s24).trans s5).trans s6).trans (PB.same_new nr)
end
end F3
set_option Elab.async false
set_option linter.all false
set_option maxRecDepth 100000
set_option maxHeartbeats 4000000
set_option exponentiation.threshold 10000
namespace F3
open PySem PySem.Spec PyProof.Rows L2 FX RM PB KD KS
theorem headD0 {cs : List Pl} (ne : cs ≠ []) : cs.headD zP = cs.getD 0 zP := by
  match cs, ne with
  | _ :: _, _ => rfl
theorem top_sz {d : Int × Int} {cs : List Pl} (h : PatG cs) (zd : SzR 600 d) : IsRat (topC d cs) ∧ SzR 2000 (topC d cs) := by
  obtain ⟨c, hc, e⟩ := top_mem (d := d) (fun c hc => (h.g c hc).1) h.poly.ne
  rw [e]
  exact ⟨amt_rat (h.g c hc).1, amt_sz zd (h.g c hc)⟩
theorem szr_ng {n : Nat} {d : Int × Int} (h : SzR n d) : SzR n (ng2 d) := ⟨sz_neg h.1, sz_neg h.2⟩
theorem low_sz {d : Int × Int} {cs : List Pl} (h : PatG cs) (zd : SzR 600 d) : IsRat (lowC d cs) ∧ SzR 2000 (lowC d cs) := by
  rw [lowC_eq (fun c hc => (h.g c hc).1) h.poly.ne]
  obtain ⟨a, b⟩ := top_sz h (szr_ng zd)
  exact ⟨rat_neg a, szr_neg b⟩
theorem amts0 {d : Int × Int} {cs : List Pl} (ne : cs ≠ []) : (cs.map (amt d))[0]? = some (amt d (cs.headD zP)) := by
  match cs, ne with
  | _ :: _, _ => rfl
theorem onTop_ne {d : Int × Int} {cs : List Pl} (h : PatG cs) : onTop d cs ≠ [] := by
  obtain ⟨c, hc, e⟩ := top_mem (d := d) (fun c hc => (h.g c hc).1) h.poly.ne
  have : c ∈ onTop d cs := List.mem_filter.mpr ⟨hc, decide_eq_true e.symm⟩
  intro z
  rw [z] at this
  cases this
theorem p6 {n : Nat} {q : Pl} (h : GoodP 400 q) (k : 400 ≤ n) : SzP n q := ⟨szr_mono h.2.1 k, szr_mono h.2.2 k⟩
theorem dpall_map {K : PySem.W.Frag} {H : Hp} {xs : List V} {f : Pl → PyData} : ∀ {cs : List Pl}, DpAll K H xs (cs.map f) → ∀ (i : Nat) (x : V), xs[i]? = some x → i < cs.length ∧ Dp K H x (f (cs.getD i zP)) := fun {cs} h i x ex => by
  obtain ⟨d, ed, hd⟩ := DpAll_at h ex
  rw [List.getElem?_map] at ed
  cases ec : cs[i]? with
  | none => rw [ec] at ed; cases ed
  | some c =>
    rw [ec] at ed
    cases ed
    exact ⟨(List.getElem?_eq_some_iff.mp ec).1, by rw [show cs.getD i zP = c by rw [List.getD_eq_getElem?_getD, ec]; rfl]; exact hd⟩
theorem op_eqDK {X : Cx} (K : PySem.W.Frag) (hu : X.A.units + 64 < cLine) (e : X.K = K := by rfl) : OpR X (compareOp .Eq) (rEqD K) := e ▸ op_eqD hu
theorem op_neDK {X : Cx} (K : PySem.W.Frag) (hu : X.A.units + 64 < cLine) (e : X.K = K := by rfl) : OpR X (compareOp .NotEq) (rNeD K) := e ▸ op_neD hu
section
variable {P : Program} {w : World} {K : PySem.W.Frag} {mg : Str → Option Value} {base : Heap}
theorem okNmean_place (T : Txt K mg "mean_place" smean_place) (Gsum_of : DefOk P w K mg base CX0 "sum_of" 3 ["row"] (spSumN K)) (Gover : DefOk P w K mg base CX0 "over" 2 ["one", "other"] (spOver K)) (mlen : mg "len" = none) : DefOk P w K mg base CX0 "mean_place" 4 ["places"] (spMeanN K) := by
  obtain ⟨f, fd, F, gf⟩ := T
  refine ⟨f, fd, gf, F.kp, F.binds (fun _ _ _ _ _ _ us hl => match us, hl with | [_], _ => rfl), F.ok scmean_place (fun vs H Q E h => ?_) (fun cdv A outer s H vs Q E hr h => ?_)⟩
  · obtain ⟨p, xs, ps, rfl, _⟩ := h; rfl
  · obtain ⟨p, xs, ps, rfl, hS, hD, hG, q⟩ := h
    have l0 : 0 < ps.length := List.length_pos_iff.mpr hG.poly.ne
    have l4 := hG.l
    obtain ⟨N, n0, zN, hN⟩ := hG.N
    refine ⟨_, (pss_cons (ps_set (i := 1) scmean_place.nd rfl (.inl rfl) (pe_tup (pa_cons (pe_callB call_len_seq (by rfl) mlen PySem.boot_len (pa_cons (pv 0) pa_nil)) (pa_cons pe_int pa_nil)))) (pss_cons (ps_set (i := 2) scmean_place.nd rfl (.inl rfl) (pe_def Gsum_of (hr.mono (by decide)) (by rfl) (pa_cons (pe_lc (own := [("place", 4)]) (g := gName 4) (tt := tYes) rfl scmean_place.nd (pi_seq (pv 0)) (blkOk_by (N := ["places", "many", "x", "y", "place"]) (sc := defScope smean_place) (by decide +kernel)) (fun _ _ _ _ _ => pg_name (i := 4) scmean_place.nd rfl (.inl rfl)) (fun _ _ _ _ _ => pts_nil) (fun _ _ _ _ _ => (pe_ix (ix_itK K) (pv 4) pe_int (fun _ _ => rfl)))) pa_nil))) (pss_cons (ps_set (i := 3) scmean_place.nd rfl (.inl rfl) (pe_def Gsum_of (hr.mono (by decide)) (by rfl) (pa_cons (pe_lc (own := [("place", 4)]) (g := gName 4) (tt := tYes) rfl scmean_place.nd (pi_seq (pv 0)) (blkOk_by (N := ["places", "many", "x", "y", "place"]) (sc := defScope smean_place) (by decide +kernel)) (fun _ _ _ _ _ => pg_name (i := 4) scmean_place.nd rfl (.inl rfl)) (fun _ _ _ _ _ => pts_nil) (fun _ _ _ _ _ => (pe_ix (ix_itK K) (pv 4) pe_int (fun _ _ => rfl)))) pa_nil))) (pss_one (ps_ret (pe_tup (pa_cons (pe_def Gover (hr.mono (by decide)) (by rfl) (pa_cons (pv 2) (pa_cons (pv 1) pa_nil))) (pa_cons (pe_def Gover (hr.mono (by decide)) (by rfl) (pa_cons (pv 3) (pa_cons (pv 1) pa_nil))) pa_nil)))))))), ?_⟩
    have lx : xs.length = ps.length := by rw [DpAll_len hD, List.length_map]
    have xz : xs.length < sizeLine := small1000 (by omega)
    have at_ : ∀ {i : Nat} {x : V} {H' : Hp}, Same H H' → xs[i]? = some x → ∃ r, ps[i]? = some r ∧ Dp K H' x (pD r) := fun {i x H'} s e => by
      obtain ⟨d, ed, hd⟩ := DpAll_at hD e
      rw [List.getElem?_map] at ed
      cases ep : ps[i]? with
      | none => rw [ep] at ed; cases ed
      | some r => rw [ep] at ed; cases ed; exact ⟨r, rfl, Dp_same s hd⟩
    have mapD : ∀ (k : Pl → Rt), (List.range xs.length).map (fun i => rD (k (ps.getD i ((0, 1), (0, 1))))) = (ps.map k).map rD := fun k => by
      rw [lx, List.map_map]
      apply List.ext_getElem
      · simp
      · intro i h1 h2
        simp at h1 h2
        simp [List.getD_eq_getElem?_getD, h2]
    refine ⟨.ref p, rfl, p, xs, rfl, hS, (by show 2 ≤ sizeLine; decide), fun m nm => ?_⟩
    have s0 : Same H (upd H m (.tup [.int (xs.length : Int), .int 1])) := PB.same_new nm
    have hm : Dp K (upd H m (.tup [.int (xs.length : Int), .int 1])) (.ref m) (rD ((xs.length : Int), 1)) := dp_mkr nm
    generalize upd H m (.tup [.int (xs.length : Int), .int 1]) = H0 at s0 hm ⊢
    have q0 : SqL K H0 p xs ∨ SqT K H0 p xs := hS.elim (fun z => .inl (s0.seq z)) fun z => .inr (same_t s0 z)
    dsimp only [tSeq, tAsg, tCall, tCons, tNil, gName]
    refine lc_map (K := K) (a := p) (xs := xs) (j := 0) (fun i => rD ((ps.getD i ((0, 1), (0, 1))).1)) (fun i => by simp [rD, noL, noLs]) (by rfl) q0 xz (fun i x H' R ex sx hR => ?_) fun D H1 ys s1 nD hys hdy => ?_
    · obtain ⟨r, er, hx⟩ := at_ (s0.trans sx) ex
      obtain ⟨a, b, c, ha, hb⟩ := pla_t hx
      refine ⟨rfl, x, rfl, a, b, 0, _, rfl, c, rfl, hR _ _ (fun _ _ z => z) ?_⟩
      have : ps.getD i ((0, 1), (0, 1)) = r := by rw [List.getD_eq_getElem?_getD, er]; rfl
      rw [this]; exact ha
    refine ⟨D, ys, ps.map (·.1), N, rfl, .inl (.inl hys), (by rw [← mapD]; exact hdy), (by rw [List.length_map]; omega), sz_mono zN (by decide), ?_, n0, fun H2 z2 s2 h2 => ?_⟩
    · intro r hr
      obtain ⟨x, hx, rfl⟩ := List.mem_map.mp hr
      exact ⟨_, (rep_c n0 (hN x hx).1).1, sz_mono (hN x hx).2.1 (by decide)⟩
    have s02 := s1.trans s2
    have q2 : SqL K H2 p xs ∨ SqT K H2 p xs := q0.elim (fun z => .inl (s02.seq z)) fun z => .inr (same_t s02 z)
    dsimp only [tSeq, tAsg, tCall, tCons, tNil, gName]
    refine lc_map (K := K) (a := p) (xs := xs) (j := 0) (fun i => rD ((ps.getD i ((0, 1), (0, 1))).2)) (fun i => by simp [rD, noL, noLs]) (by rfl) q2 xz (fun i x H' R ex sx hR => ?_) fun D3 H3 ys3 s3 nD3 hys3 hdy3 => ?_
    · obtain ⟨r, er, hx⟩ := at_ ((s0.trans s02).trans sx) ex
      obtain ⟨a, b, c, ha, hb⟩ := pla_t hx
      refine ⟨rfl, x, rfl, a, b, 1, _, rfl, c, rfl, hR _ _ (fun _ _ z => z) ?_⟩
      have : ps.getD i ((0, 1), (0, 1)) = r := by rw [List.getD_eq_getElem?_getD, er]; rfl
      rw [this]; exact hb
    refine ⟨D3, ys3, ps.map (·.2), N, rfl, .inl (.inl hys3), (by rw [← mapD]; exact hdy3), (by rw [List.length_map]; omega), sz_mono zN (by decide), ?_, n0, fun H4 z4 s4 h4 => ?_⟩
    · intro r hr
      obtain ⟨x, hx, rfl⟩ := List.mem_map.mp hr
      exact ⟨_, (rep_c n0 (hN x hx).1).2, sz_mono (hN x hx).2.2 (by decide)⟩
    have nx : Sz 2000 (ps.length : Int) := by
      show ((ps.length : Int)).natAbs < 2 ^ 2000
      rw [Int.natAbs_natCast]
      exact Nat.lt_of_le_of_lt l4 (Nat.lt_of_lt_of_le (by decide : 30 < 2 ^ 5) (Nat.pow_le_pow_right (by decide) (by decide)))
    rw [lx] at hm
    have sum2 : ∀ (k : Pl → Rt), (∀ r ∈ ps, ∃ t, Rep (k r) t N ∧ Sz 900 t) → IsRat (sumR (ps.map k)) ∧ SzR 2000 (sumR (ps.map k)) := fun k hk => by
      obtain ⟨a, b⟩ := sum_szr n0 (sz_mono zN (by decide)) (rs := ps.map k) (by rw [List.length_map]; omega) (fun r hr => by obtain ⟨x, hx, rfl⟩ := List.mem_map.mp hr; exact hk x hx)
      exact ⟨a, szr_mono b (by decide)⟩
    obtain ⟨i1, z1⟩ := sum2 (·.1) fun r hr => ⟨_, (rep_c n0 (hN r hr).1).1, sz_mono (hN r hr).2.1 (by decide)⟩
    obtain ⟨i2, z2'⟩ := sum2 (·.2) fun r hr => ⟨_, (rep_c n0 (hN r hr).1).2, sz_mono (hN r hr).2.2 (by decide)⟩
    have s24 := s3.trans s4
    refine ⟨z2, rfl, .ref m, rfl, _, _, _, _, rfl, Dp_same s24 h2, Dp_same (s02.trans s24) hm, by omega, i1, z1, nx, fun H5 z5 s5 h5 => ?_⟩
    refine ⟨z4, rfl, .ref m, rfl, _, _, _, _, rfl, Dp_same s5 h4, Dp_same ((s02.trans s24).trans s5) hm, by omega, i2, z2', nx, fun H6 z6 s6 h6 => ⟨(by show 2 ≤ sizeLine; decide), fun r nr => q _ _ ?_ (dp_mk2 nr (Dp_same s6 h5) h6)⟩⟩
    exact ((((s0.trans s02).trans s24).trans s5).trans s6).trans (PB.same_new nr)
abbrev sPmid : Stmt := inClass (topS 52) 7
theorem scPmid : FnScope ["self"] ["self"] (defScope sPmid) := ⟨rfl, rfl, rfl, by decide +kernel, rfl, by decide +kernel, by decide +kernel⟩
theorem in_Pmid {f : Addr} {fd : FuncData} (F : Fun K "middle" "Patch.middle" sPmid f fd) (tC : Cls K (cP K)) (nC : NoAttr K (cP K) "corners") (Gmean_place : DefOk P w K mg base CX0 "mean_place" 4 ["places"] (spMeanN K)) : FnOk P w K mg base CX0 5 f fd ["self"] (spPMid K) := by
  refine F.ok scPmid (fun vs H Q E h => ?_) (fun cdv A outer s H vs Q E hr h => ?_)
  · obtain ⟨v, cs, rfl, _⟩ := h; rfl
  · obtain ⟨v, cs, rfl, hv, hG, k⟩ := h
    refine ⟨_, (pss_one (ps_ret (pe_def Gmean_place (hr.mono (by decide)) (by rfl) (pa_cons (pe_fld (pv 0) rfl) pa_nil)))), ?_⟩
    obtain ⟨a, dx, p, xs, rfl, e, hS, hA, lx⟩ := pat_get hv
    exact ⟨_, rfl, a, cP K, dx, _, .ref p, rfl, e, tC, nC, rfl, p, xs, cs, rfl, .inr hS, hA, hG, k⟩
abbrev samounts_of : Stmt := topS 54
theorem scamounts_of : FnScope ["patch", "direction", "corner"] ["patch", "direction"] (defScope samounts_of) := ⟨rfl, rfl, rfl, by decide +kernel, rfl, by decide +kernel, by decide +kernel⟩
theorem okamounts_of (T : Txt K mg "amounts_of" samounts_of) (tC : Cls K (cP K)) (nC : NoAttr K (cP K) "corners") (Gamount_at : DefOk P w K mg base CX0 "amount_at" 2 ["direction", "place"] (spRawA K amt)) : DefOk P w K mg base CX0 "amounts_of" 3 ["patch", "direction"] (spAmts K) := by
  obtain ⟨f, fd, F, gf⟩ := T
  refine ⟨f, fd, gf, F.kp, F.binds (fun _ _ _ _ _ _ us hl => match us, hl with | [_, _], _ => rfl), F.ok scamounts_of (fun vs H Q E h => ?_) (fun cdv A outer s H vs Q E hr h => ?_)⟩
  · obtain ⟨v, u, cs, d, rfl, _⟩ := h; rfl
  · obtain ⟨v, u, cs, d, rfl, hv, hu, zd, hG, k⟩ := h
    refine ⟨_, (pss_one (ps_ret (pe_lc (own := [("corner", 2)]) rfl scamounts_of.nd (pi_seq (pe_fld (pv 0) rfl)) (blkOk_by (N := ["patch", "direction", "corner"]) (sc := defScope samounts_of) (by decide +kernel)) (fun _ _ _ _ _ => (pg_name (i := 2) scamounts_of.nd rfl (.inl rfl))) (fun _ _ _ _ _ => pts_nil) (fun _ _ _ _ _ => (pe_def Gamount_at (hr.mono (by decide)) (by rfl) (pa_cons (pv 1) (pa_cons (pv 2) pa_nil))))))), ?_⟩
    obtain ⟨a, dx, p, xs, rfl, e, hS, hA, lx⟩ := pat_get hv
    refine .inr ⟨_, rfl, a, cP K, dx, _, .ref p, rfl, e, tC, nC, rfl, p, rfl, ⟨_, hS⟩, ?_⟩
    dsimp only
    refine lc_all (K := K) (Q := Q) (walk_tup (K := K) (a := p) (xs := xs)) (fun i => rD (amt d (cs.getD i zP))) (fun i => by simp [rD, noL, noLs]) (small1000 (by have := hG.l; omega)) (fun H' s => same_t s hS) ZP.yat_same ?_ ?_
    · intro i x H0 H2 R il s2 hy hR
      obtain ⟨rfl, ex⟩ := hy
      obtain ⟨ic, hx⟩ := dpall_map hA i x ex
      have gc := hG.g _ (List.mem_of_getElem? (getD_at ic))
      exact ⟨rfl, u, rfl, x, rfl, u, x, d, _, rfl, hu.same s2, (pla_t hx).same s2, gc.1, zd, p6 gc (by decide), fun H3 z s3 hz => hR z H3 s3 hz⟩
    · intro D H2 zs s2 nD eD hZ
      refine k H2 D zs s2 nD eD ?_
      rw [lx] at hZ
      rw [List.map_map]
      have := range_get cs zP (g := fun c => rD (amt d c))
      rw [this] at hZ
      exact hZ
abbrev sreach_of : Stmt := topS 55
theorem screach_of : FnScope ["patch", "direction"] ["patch", "direction"] (defScope sreach_of) := ⟨rfl, rfl, rfl, by decide +kernel, rfl, by decide +kernel, by decide +kernel⟩
theorem okreach_of (T : Txt K mg "reach_of" sreach_of) (Gamounts_of : DefOk P w K mg base CX0 "amounts_of" 3 ["patch", "direction"] (spAmts K)) (Ggreatest_of : DefOk P w K mg base CX0 "greatest_of" 3 ["row"] (spBest K topF)) : DefOk P w K mg base CX0 "reach_of" 4 ["patch", "direction"] (spReach K topC) := by
  obtain ⟨f, fd, F, gf⟩ := T
  refine ⟨f, fd, gf, F.kp, F.binds (fun _ _ _ _ _ _ us hl => match us, hl with | [_, _], _ => rfl), F.ok screach_of (fun vs H Q E h => ?_) (fun cdv A outer s H vs Q E hr h => ?_)⟩
  · obtain ⟨v, u, cs, d, rfl, _⟩ := h; rfl
  · obtain ⟨v, u, cs, d, rfl, hv, hu, zd, hG, k⟩ := h
    refine ⟨_, (pss_one (ps_ret (pe_def Ggreatest_of (hr.mono (by decide)) (by rfl) (pa_cons (pe_def Gamounts_of (hr.mono (by decide)) (by rfl) (pa_cons (pv 0) (pa_cons (pv 1) pa_nil))) pa_nil)))), ?_⟩
    refine ⟨_, rfl, _, rfl, v, u, cs, d, rfl, hv, hu, zd, hG, fun H1 D ys s1 nD eD hY => ?_⟩
    refine ⟨D, ys, _, _, rfl, .inl (.inl eD), hY, amts0 hG.poly.ne, fun r hr => ?_, fun z hz => k H1 z s1 hz⟩
    obtain ⟨c, hc, rfl⟩ := List.mem_map.mp hr
    exact amt_sz zd (hG.g c hc)
abbrev slow_of : Stmt := topS 56
theorem sclow_of : FnScope ["patch", "direction"] ["patch", "direction"] (defScope slow_of) := ⟨rfl, rfl, rfl, by decide +kernel, rfl, by decide +kernel, by decide +kernel⟩
theorem oklow_of (T : Txt K mg "low_of" slow_of) (Gamounts_of : DefOk P w K mg base CX0 "amounts_of" 3 ["patch", "direction"] (spAmts K)) (Gleast_of : DefOk P w K mg base CX0 "least_of" 3 ["row"] (spBest K lowF)) : DefOk P w K mg base CX0 "low_of" 4 ["patch", "direction"] (spReach K lowC) := by
  obtain ⟨f, fd, F, gf⟩ := T
  refine ⟨f, fd, gf, F.kp, F.binds (fun _ _ _ _ _ _ us hl => match us, hl with | [_, _], _ => rfl), F.ok sclow_of (fun vs H Q E h => ?_) (fun cdv A outer s H vs Q E hr h => ?_)⟩
  · obtain ⟨v, u, cs, d, rfl, _⟩ := h; rfl
  · obtain ⟨v, u, cs, d, rfl, hv, hu, zd, hG, k⟩ := h
    refine ⟨_, (pss_one (ps_ret (pe_def Gleast_of (hr.mono (by decide)) (by rfl) (pa_cons (pe_def Gamounts_of (hr.mono (by decide)) (by rfl) (pa_cons (pv 0) (pa_cons (pv 1) pa_nil))) pa_nil)))), ?_⟩
    refine ⟨_, rfl, _, rfl, v, u, cs, d, rfl, hv, hu, zd, hG, fun H1 D ys s1 nD eD hY => ?_⟩
    refine ⟨D, ys, _, _, rfl, .inl (.inl eD), hY, amts0 hG.poly.ne, fun r hr => ?_, fun z hz => k H1 z s1 hz⟩
    obtain ⟨c, hc, rfl⟩ := List.mem_map.mp hr
    exact amt_sz zd (hG.g c hc)
abbrev sbreadth_of : Stmt := topS 57
theorem scbreadth_of : FnScope ["patch", "direction"] ["patch", "direction"] (defScope sbreadth_of) := ⟨rfl, rfl, rfl, by decide +kernel, rfl, by decide +kernel, by decide +kernel⟩
theorem okbreadth_of (T : Txt K mg "breadth_of" sbreadth_of) (Greach_of : DefOk P w K mg base CX0 "reach_of" 4 ["patch", "direction"] (spReach K topC)) (Glow_of : DefOk P w K mg base CX0 "low_of" 4 ["patch", "direction"] (spReach K lowC)) (Gminus : DefOk P w K mg base CX0 "minus" 3 ["one", "other"] (spBin K rsub)) : DefOk P w K mg base CX0 "breadth_of" 5 ["patch", "direction"] (spReach K fun d cs => rsub (topC d cs) (lowC d cs)) := by
  obtain ⟨f, fd, F, gf⟩ := T
  refine ⟨f, fd, gf, F.kp, F.binds (fun _ _ _ _ _ _ us hl => match us, hl with | [_, _], _ => rfl), F.ok scbreadth_of (fun vs H Q E h => ?_) (fun cdv A outer s H vs Q E hr h => ?_)⟩
  · obtain ⟨v, u, cs, d, rfl, _⟩ := h; rfl
  · obtain ⟨v, u, cs, d, rfl, hv, hu, zd, hG, k⟩ := h
    refine ⟨_, (pss_one (ps_ret (pe_def Gminus (hr.mono (by decide)) (by rfl) (pa_cons (pe_def Greach_of (hr.mono (by decide)) (by rfl) (pa_cons (pv 0) (pa_cons (pv 1) pa_nil))) (pa_cons (pe_def Glow_of (hr.mono (by decide)) (by rfl) (pa_cons (pv 0) (pa_cons (pv 1) pa_nil))) pa_nil))))), ?_⟩
    refine ⟨_, rfl, _, rfl, v, u, cs, d, rfl, hv, hu, zd, hG, fun H1 z1 s1 h1 => ?_⟩
    refine ⟨_, rfl, _, rfl, v, u, cs, d, rfl, hv.same s1, hu.same s1, zd, hG, fun H2 z2 s2 h2 => ?_⟩
    obtain ⟨a1, b1⟩ := top_sz hG zd
    obtain ⟨a2, b2⟩ := low_sz hG zd
    exact ⟨z1, z2, _, _, rfl, Dp_same s2 h1, h2, a1, a2, b1, b2, fun H3 z s3 hz => k H3 z ((s1.trans s2).trans s3) hz⟩
abbrev stouched_by : Stmt := topS 58
theorem sctouched_by : FnScope ["patch", "direction", "amounts", "reach", "corner", "amount"] ["patch", "direction"] (defScope stouched_by) := ⟨rfl, rfl, rfl, by decide +kernel, rfl, by decide +kernel, by decide +kernel⟩
theorem oktouched_by (T : Txt K mg "touched_by" stouched_by) (tC : Cls K (cP K)) (nC : NoAttr K (cP K) "corners") (Gamounts_of : DefOk P w K mg base CX0 "amounts_of" 3 ["patch", "direction"] (spAmts K)) (Ggreatest_of : DefOk P w K mg base CX0 "greatest_of" 3 ["row"] (spBest K topF)) (Xhull_of : DefOk P w K mg base (L2.CX P w) "hull_of" 9 ["places"] (spHullOf P w K)) (mzip : mg "zip" = none) : DefOk P w K mg base CX0 "touched_by" 10 ["patch", "direction"] (spTouch K) := by
  obtain ⟨f, fd, F, gf⟩ := T
  refine ⟨f, fd, gf, F.kp, F.binds (fun _ _ _ _ _ _ us hl => match us, hl with | [_, _], _ => rfl), F.ok sctouched_by (fun vs H Q E h => ?_) (fun cdv A outer s H vs Q E hr h => ?_)⟩
  · obtain ⟨v, u, cs, d, rfl, _⟩ := h; rfl
  · obtain ⟨v, u, cs, d, rfl, hv, hu, zd, hG, k⟩ := h
    refine ⟨_, (pss_cons (ps_set (i := 2) sctouched_by.nd rfl (.inl rfl) (pe_def Gamounts_of (hr.mono (by decide)) (by rfl) (pa_cons (pv 0) (pa_cons (pv 1) pa_nil)))) (pss_cons (ps_set (i := 3) sctouched_by.nd rfl (.inr rfl) (pe_def Ggreatest_of (hr.mono (by decide)) (by rfl) (pa_cons (pv 2) pa_nil))) (pss_one (ps_ret (pe_def Xhull_of (hr.mono (by decide)) (by rfl) (pa_cons (pe_lc (own := [("corner", 4), ("amount", 5)]) rfl sctouched_by.nd (ZP.pi_zipG (by rfl) mzip (pa_cons (pe_fld (pv 0) rfl) (pa_cons (pv 2) pa_nil))) (blkOk_by (N := ["patch", "direction", "amounts", "reach", "corner", "amount"]) (sc := defScope stouched_by) (by decide +kernel)) (fun _ _ _ _ _ => (pg_couK K rfl (pgs_cons (pg_name (i := 4) sctouched_by.nd rfl (.inl rfl)) (pgs_cons (pg_name (i := 5) sctouched_by.nd rfl (.inl rfl)) pgs_nil)))) (fun _ _ _ _ _ => (pts_one (pt_cmpR (op_eqDK K hr.units) (pv 5) (pv 3) (nomark _)))) (fun _ _ _ _ _ => (pv 4))) pa_nil)))))), ?_⟩
    refine ⟨_, rfl, _, rfl, v, u, cs, d, rfl, hv, hu, zd, hG, fun H1 D ys s1 nD eD hY => ?_⟩
    dsimp only [tSeq, tAsg, tCall, tCons, tNil, gName, tRet]
    refine ⟨_, rfl, D, ys, _, _, rfl, .inl (.inl eD), hY, amts0 hG.poly.ne, fun r hr => ?_, fun z hz => ?_⟩
    · obtain ⟨c, hc, rfl⟩ := List.mem_map.mp hr
      exact amt_sz zd (hG.g c hc)
    obtain ⟨a, dx, p, xs, rfl, e, hS, hA, lx⟩ := pat_get (hv.same s1)
    have hz : Dp K H1 z (rD (topC d cs)) := hz
    have ly : ys.length = cs.length := by rw [DpAll_len hY, List.length_map, List.length_map]
    refine ⟨_, rfl, a, cP K, dx, _, .ref p, rfl, e, tC, nC, rfl, _, rfl, p, D, true, false, xs, ys, rfl, hS, .inl (.inl eD), ?_⟩
    dsimp only
    have walk := ZP.walk_zipG (K := K) (ka := true) (kb := false) (a := p) (b := D) (xs := xs) (ys := ys) (n := cs.length) (by omega)
    refine ZP.lc_filter (K := K) (Q := fun v H4 => spHullOf P w K [v] H4 Q E0) walk (fun i => decide (amt d (cs.getD i zP) = topC d cs)) (fun i => pD (cs.getD i zP)) (fun i => noL_p _) (small1000 (by have := hG.l; omega)) (fun H' s => ⟨same_t s hS, s.seq (.inl (.inl eD))⟩) ZP.ypair_same ?_ ?_
    · intro i x H0 H2 R R0 il s2 hy yes no
      obtain ⟨T, vx, vy, rfl, nT, rfl, ex, ey⟩ := hy
      have sT := PB.same_new (o := .tup [vx, vy]) nT
      obtain ⟨ic, hx⟩ := dpall_map hA i vx ex
      rw [List.map_map] at hY
      obtain ⟨_, hy⟩ := dpall_map hY i vy ey
      have s3 := s2.trans sT
      refine ⟨vx, vy, ⟨T, rfl, .inl (.inl (.inl upd_same))⟩, _, _, rfl, _, _, rfl, rfl, rfl, ?_⟩
      refine ⟨vy, rfl, z, rfl, _, _, Dp_same s3 hy, Dp_same s3 hz, (shaped_r (amt d (cs.getD i zP))).1, (shaped_r _).1, ?_⟩
      refine ⟨_, rfl, ?_⟩
      have eq1 : PyData.eqv (rD (amt d (cs.getD i zP))) (rD (topC d cs)) = decide (amt d (cs.getD i zP) = topC d cs) := eqv_rt _ _
      by_cases c : amt d (cs.getD i zP) = topC d cs
      · exact itT (eq1.trans (decide_eq_true c)) ⟨vx, rfl, yes (decide_eq_true c) _ _ (fun _ _ z => z) (Dp_same s3 hx)⟩
      · exact itF (eq1.trans (decide_eq_false c)) (no (decide_eq_false c) _ (fun _ _ z => z))
    · intro D2 H2 zs s2 nD2 eD2 hZ
      rw [filt_get cs (fun c => decide (amt d c = topC d cs)) pD] at hZ
      have sub : ∀ q ∈ onTop d cs, q ∈ cs := fun q hq => (List.mem_filter.mp hq).1
      exact ⟨.ref D2, rfl, .inr (.inr ⟨D2, zs, onTop d cs, rfl, pls_l (.inl (.inl (.inl eD2))) hZ, onTop_ne hG, Nat.le_trans (List.length_filter_le _ _) hG.l, fun q hq => hG.g q (sub q hq), fun H4 z4 os s4 hO hz4 => k H4 z4 os ((s1.trans s2).trans s4) hO hz4⟩)⟩
end
end F3
set_option Elab.async false
set_option linter.all false
set_option maxRecDepth 100000
set_option maxHeartbeats 4000000
set_option exponentiation.threshold 10000
namespace F3
open PySem PySem.Spec PyProof.Rows L2 FX RM PB KD KS
theorem nor_sz {n : Nat} {x y : Pl} (h : SzR n (dirS x y)) : SzR n (norS x y) := ⟨h.2, sz_neg h.1⟩
theorem ax_sz : ∀ d ∈ AX4, SzR 600 d := by
  intro d hd
  have : SzR 1 d := by
    unfold AX4 at hd
    rcases List.mem_cons.mp hd with rfl | hd
    · exact ⟨by show (1 : Int).natAbs < 2; decide, by show (0 : Int).natAbs < 2; decide⟩
    rcases List.mem_cons.mp hd with rfl | hd
    · exact ⟨by show (0 : Int).natAbs < 2; decide, by show (1 : Int).natAbs < 2; decide⟩
    rcases List.mem_cons.mp hd with rfl | hd
    · exact ⟨by show (-1 : Int).natAbs < 2; decide, by show (0 : Int).natAbs < 2; decide⟩
    · rw [List.mem_singleton.mp hd]
      exact ⟨by show (0 : Int).natAbs < 2; decide, by show (-1 : Int).natAbs < 2; decide⟩
  exact szr_mono this (by decide)
theorem round_mem {cs : List Pl} {s : Pl × Pl} (h : s ∈ roundF cs) : s.1 ∈ cs ∧ s.2 ∈ cs := by
  unfold roundF at h
  refine ⟨(List.of_mem_zip h).1, ?_⟩
  rcases List.mem_append.mp (List.of_mem_zip h).2 with k | k
  · exact List.mem_of_mem_drop k
  · exact List.mem_of_mem_take k
theorem round_ne {cs : List Pl} (P : Poly cs) (l2 : 2 ≤ cs.length) {s : Pl × Pl} (h : s ∈ roundF cs) : s.1 ≠ s.2 := by
  obtain ⟨k, hk⟩ := List.getElem?_of_mem h
  obtain ⟨a, b⟩ := round_at.mp hk
  exact (P.side l2 k _ _ a b).1
/-- what the ways and places of a patch's halves are -/
theorem norm_ok {cs : List Pl} (h : PatG cs) : ∀ n ∈ normF cs, SzR 600 n.1 ∧ n.2 ∈ cs := by
  obtain ⟨N, n0, zN, hN⟩ := h.N
  have two : ∀ {x y : Pl}, x ∈ cs → y ∈ cs → x ≠ y → SzR 401 (dirS x y) := fun {x y} hx hy ne => (dir_sz2 n0 zN (hN x hx).1 (hN y hy).1 (hN x hx).2 (hN y hy).2 ne).1
  rcases cases3 h.poly.ne with ⟨c, rfl⟩ | ⟨a, b, rfl⟩ | l3
  · intro n hn
    obtain ⟨d, hd, rfl⟩ := List.mem_map.mp (show n ∈ AX4.map fun d => (d, c) from hn)
    exact ⟨ax_sz d hd, List.mem_singleton.mpr rfl⟩
  · have ne : a ≠ b := fun z => (List.nodup_cons.mp h.poly.nd).1 (by rw [z]; simp)
    have z := two (x := a) (y := b) (by simp) (by simp) ne
    intro n hn
    have hn : n ∈ [(norS a b, a), (ng2 (norS a b), a), (dirS a b, b), (ng2 (dirS a b), a)] := hn
    rcases List.mem_cons.mp hn with rfl | hn
    · exact ⟨szr_mono (nor_sz z) (by decide), by simp⟩
    rcases List.mem_cons.mp hn with rfl | hn
    · exact ⟨szr_mono (szr_ng (nor_sz z)) (by decide), by simp⟩
    rcases List.mem_cons.mp hn with rfl | hn
    · exact ⟨szr_mono z (by decide), by simp⟩
    · rw [List.mem_singleton.mp hn]
      exact ⟨szr_mono (szr_ng z) (by decide), by simp⟩
  · rw [norm3 l3]
    intro n hn
    obtain ⟨s, hs, rfl⟩ := List.mem_map.mp hn
    obtain ⟨m1, m2⟩ := round_mem hs
    exact ⟨szr_mono (nor_sz (two m1 m2 (round_ne h.poly (by omega) hs))) (by decide), m1⟩
theorem norm_len {cs : List Pl} (h : PatG cs) : (normF cs).length ≤ 60 := by
  have := h.l
  rcases cases3 h.poly.ne with ⟨c, rfl⟩ | ⟨a, b, rfl⟩ | l3
  · show (AX4.map _).length ≤ 60; rw [List.length_map]; decide
  · show 4 ≤ 60; decide
  · rw [norm3 l3, List.length_map, round_len]; omega
theorem getD_of {α : Type} {l : List α} {i : Nat} {x z : α} (h : l[i]? = some x) : l.getD i z = x := by rw [List.getD_eq_getElem?_getD, h]; rfl
theorem range_map {α β : Type} (us : List β) (z : β) {g : β → α} {n : Nat} (hn : n = us.length) : (List.range n).map (fun i => g (us.getD i z)) = us.map g := by rw [hn]; exact range_get us z
theorem dpall_at {α : Type} {K : PySem.W.Frag} {H : Hp} {xs : List V} {f : α → PyData} {cs : List α} {i : Nat} {x : V} (h : DpAll K H xs (cs.map f)) (ex : xs[i]? = some x) : ∃ c, cs[i]? = some c ∧ Dp K H x (f c) := by
  obtain ⟨d, ed, hd⟩ := DpAll_at h ex
  rw [List.getElem?_map] at ed
  cases ec : cs[i]? with
  | none => rw [ec] at ed; cases ed
  | some c => rw [ec] at ed; cases ed; exact ⟨c, rfl, hd⟩
section
variable {P : Program} {w : World} {K : PySem.W.Frag} {mg : Str → Option Value} {base : Heap}
abbrev snormals_of : Stmt := topS 59
theorem scnormals_of : FnScope ["patch", "corners", "one", "other", "normal", "along", "direction"] ["patch"] (defScope snormals_of) := ⟨rfl, rfl, rfl, by decide +kernel, rfl, by decide +kernel, by decide +kernel⟩
theorem oknormals_of (T : Txt K mg "normals_of" snormals_of) (tC : Cls K (cP K)) (nC : NoAttr K (cP K) "corners") (mQ : PPr P w K mg base "sides" 3 (spPSides K)) (Gside_normal : DefOk P w K mg base CX0 "side_normal" 5 ["one", "other"] (spNormal K)) (Gdirection_of : DefOk P w K mg base CX0 "direction_of" 2 ["step"] (spDirOf K)) (Gstep_from : DefOk P w K mg base CX0 "step_from" 4 ["one", "other"] (spPP K 2000 stepF)) (Gopposite : DefOk P w K mg base CX0 "opposite" 1 ["direction"] (spD1 K (fun d => (-d.1, -d.2)))) {axA : Addr} (gAx : mg "AXES" = some (.ref axA)) (hAx : ∀ H, Dp K H (.ref axA) (.tuple (AX4.map rD))) (mlen : mg "len" = none) : DefOk P w K mg base CX0 "normals_of" 6 ["patch"] (spNorms K) := by
  obtain ⟨f, fd, F, gf⟩ := T
  refine ⟨f, fd, gf, F.kp, F.binds (fun _ _ _ _ _ _ us hl => match us, hl with | [_], _ => rfl), F.ok scnormals_of (fun vs H Q E h => ?_) (fun cdv A outer s H vs Q E hr h => ?_)⟩
  · obtain ⟨v, cs, rfl, _⟩ := h; rfl
  · obtain ⟨v, cs, rfl, hv, hG, k⟩ := h
    refine ⟨_, (pss_cons (ps_set (i := 1) scnormals_of.nd rfl (.inr rfl) (pe_fld (pv 0) rfl)) (pss_cons (ps_if (pt_cmpR op_eq (pe_callB call_len_seq (by rfl) mlen PySem.boot_len (pa_cons (pv 1) pa_nil)) pe_int (nomark _)) (pss_one (ps_ret (pe_lc (own := [("direction", 6)]) rfl scnormals_of.nd (pi_seq (pe_glob (v := .ref axA) (by rfl) gAx rfl)) (blkOk_by (N := ["patch", "corners", "one", "other", "normal", "along", "direction"]) (sc := defScope snormals_of) (by decide +kernel)) (fun _ _ _ _ _ => (pg_name (i := 6) scnormals_of.nd rfl (.inl rfl))) (fun _ _ _ _ _ => pts_nil) (fun _ _ _ _ _ => (pe_tup (pa_cons (pv 6) (pa_cons (pe_ix (ix_tupK K) (pv 1) pe_int (fun _ _ => rfl)) pa_nil))))))) pss_nil) (pss_cons (ps_if (pt_cmpR op_eq (pe_callB call_len_seq (by rfl) mlen PySem.boot_len (pa_cons (pv 1) pa_nil)) pe_int (nomark _)) (pss_cons (ps_asg (pv 1) (pg_cou rfl (pgs_cons (pg_name (i := 2) scnormals_of.nd rfl (.inl rfl)) (pgs_cons (pg_name (i := 3) scnormals_of.nd rfl (.inl rfl)) pgs_nil)))) (pss_cons (ps_par (i := 4) (j := 5) rfl scnormals_of.nd rfl rfl (by decide) rfl rfl (pa_cons (pe_def Gside_normal (hr.mono (by decide)) (by rfl) (pa_cons (pv 2) (pa_cons (pv 3) pa_nil))) (pa_cons (pe_def Gdirection_of (hr.mono (by decide)) (by rfl) (pa_cons (pe_def Gstep_from (hr.mono (by decide)) (by rfl) (pa_cons (pv 2) (pa_cons (pv 3) pa_nil))) pa_nil)) pa_nil)) rfl) (pss_one (ps_ret (pe_lst (pa_cons (pe_tup (pa_cons (pv 4) (pa_cons (pv 2) pa_nil))) (pa_cons (pe_tup (pa_cons (pe_def Gopposite (hr.mono (by decide)) (by rfl) (pa_cons (pv 4) pa_nil)) (pa_cons (pv 2) pa_nil))) (pa_cons (pe_tup (pa_cons (pv 5) (pa_cons (pv 3) pa_nil))) (pa_cons (pe_tup (pa_cons (pe_def Gopposite (hr.mono (by decide)) (by rfl) (pa_cons (pv 5) pa_nil)) (pa_cons (pv 2) pa_nil))) pa_nil))))))))) pss_nil) (pss_one (ps_ret (pe_lc (own := [("one", 2), ("other", 3)]) rfl scnormals_of.nd (pi_seq (pe_propP tC mQ (pv 0) (hr.mono (by decide)) rfl)) (blkOk_by (N := ["patch", "corners", "one", "other", "normal", "along", "direction"]) (sc := defScope snormals_of) (by decide +kernel)) (fun _ _ _ _ _ => (pg_couK K rfl (pgs_cons (pg_name (i := 2) scnormals_of.nd rfl (.inl rfl)) (pgs_cons (pg_name (i := 3) scnormals_of.nd rfl (.inl rfl)) pgs_nil)))) (fun _ _ _ _ _ => pts_nil) (fun _ _ _ _ _ => (pe_tup (pa_cons (pe_def Gside_normal (hr.mono (by decide)) (by rfl) (pa_cons (pv 2) (pa_cons (pv 3) pa_nil))) (pa_cons (pv 2) pa_nil)))))))))), ?_⟩
    obtain ⟨a, dx, p, xs, rfl, e, hS, hA, lx⟩ := pat_get hv
    obtain ⟨N, n0, zN, hN⟩ := hG.N
    refine ⟨_, rfl, a, cP K, dx, _, .ref p, rfl, e, tC, nC, rfl, ?_⟩
    dsimp only [tSeq, tAsg, tCall, tCons, tNil, gName, tRet]
    refine ⟨_, rfl, p, xs, rfl, .inr hS, rfl, _, rfl, ite2 (fun e1 => ?_) (fun e1 => ?_)⟩
    · have l1 : cs.length = 1 := by have := V.int.inj (of_decide_eq_true e1); omega
      obtain ⟨c, rfl⟩ := List.length_eq_one_iff.mp l1
      obtain ⟨x, rfl⟩ := List.length_eq_one_iff.mp (lx.trans l1)
      have hx := dp_pAt hA (i := 0) (x := x) (p := c) rfl rfl
      obtain ⟨p', axs, ep, hAS, hAA⟩ := dp_tup (hAx H)
      cases ep
      have la : axs.length = 4 := by rw [DpAll_len hAA]; rfl
      refine .inr ⟨axA, rfl, ⟨_, hAS⟩, ?_⟩
      dsimp only
      refine lc_all (K := K) (Q := fun v H => Q v H) (walk_tup (K := K) (a := axA) (xs := axs)) (fun i => nD (AX4.getD i (0, 0), c)) (fun i => noL_n _) (small1000 (by omega)) (fun H' s => same_t s hAS) ZP.yat_same ?_ ?_
      · intro i y H0 H2 R il s2 hy hR
        obtain ⟨rfl, ey⟩ := hy
        obtain ⟨d, ed, hd⟩ := dpall_at hAA ey
        refine ⟨rfl, y, rfl, _, rfl, p, _, 0, x, rfl, rfl, same_t s2 hS, rfl, (by show 2 ≤ sizeLine; decide), fun t nt => ?_⟩
        have sn := PB.same_new (o := .tup [y, x]) nt
        refine hR _ _ sn ?_
        rw [getD_of ed]
        exact dp_mk2 nt (Dp_same s2 hd) (Dp_same s2 hx)
      · intro D H2 zs s2 nD2 eD hZ
        refine k H2 D zs s2 nD2 eD ?_
        rw [range_map AX4 (0, 0) (g := fun d => nD (d, c)) (by rw [la]; rfl)] at hZ
        show DpAll K H2 zs ((AX4.map fun d => (d, c)).map nD)
        rw [List.map_map]
        exact hZ
    have l1 : cs.length ≠ 1 := fun z => e1 (decide_eq_true (by rw [lx, z]; rfl))
    refine ⟨_, rfl, p, xs, rfl, .inr hS, rfl, _, rfl, ite2 (fun e2 => ?_) (fun e2 => ?_)⟩
    · have l2 : cs.length = 2 := by have := V.int.inj (of_decide_eq_true e2); omega
      obtain ⟨c, d, rfl⟩ := len_two' l2
      obtain ⟨x, y, rfl⟩ := len_two' (lx.trans l2)
      have hx := dp_pAt hA (i := 0) (x := x) (p := c) rfl rfl
      have hy := dp_pAt hA (i := 1) (x := y) (p := d) rfl rfl
      have gc := hG.g c (by simp)
      have gd := hG.g d (by simp)
      have ne : c ≠ d := fun z => (List.nodup_cons.mp hG.poly.nd).1 (by rw [z]; simp)
      have nz := step_nz gc.1 gd.1 ne
      obtain ⟨zd, zs⟩ := dir_sz2 n0 zN (hN c (by simp)).1 (hN d (by simp)).1 (hN c (by simp)).2 (hN d (by simp)).2 ne
      refine ⟨_, rfl, x, y, ⟨p, rfl, .inl hS⟩, ?_⟩
      refine ⟨_, _, rfl, _, _, rfl, rfl, ?_⟩
      refine ⟨x, rfl, y, rfl, x, y, c, d, rfl, pla_t hx, pla_t hy, gc.1, gd.1, p6 gc (by decide), p6 gd (by decide), nz, fun H1 u1 s1 h1 => ?_⟩
      rw [nor_eq] at h1
      refine ⟨x, rfl, y, rfl, x, y, c, d, rfl, (pla_t hx).same s1, (pla_t hy).same s1, gc.1, gd.1, p6 gc (by decide), p6 gd (by decide), fun H2 u2 s2 h2 => ?_⟩
      refine ⟨u2, stepF c d, rfl, pla_t h2, ⟨rat_sub gd.1.1 gc.1.1, rat_sub gd.1.2 gc.1.2⟩, ⟨szr_mono zs.1 (by decide), szr_mono zs.2 (by decide)⟩, nz, fun H3 u3 s3 h3 => ?_⟩
      have h1' := Dp_same (s2.trans s3) h1
      have s13 := (s1.trans s2).trans s3
      have hx3 := Dp_same s13 hx
      have hy3 := Dp_same s13 hy
      have h3 : Dp K H3 u3 (rD (dirS c d)) := h3
      generalize hn : norS c d = nn at h1'
      generalize hm : dirS c d = mm at h3
      refine ⟨_, _, rfl, ?_⟩
      refine ⟨u1, rfl, x, rfl, (by show 2 ≤ sizeLine; decide), fun t1 nt1 => ?_⟩
      have q1 := PB.same_new (o := .tup [u1, x]) nt1
      have d1 := dp_mk2 nt1 h1' hx3
      refine ⟨u1, rfl, u1, nn, rfl, Cou.same (dir_t h1') q1, fun H4 u4 s4 h4 => ?_⟩
      refine ⟨x, rfl, (by show 2 ≤ sizeLine; decide), fun t2 nt2 => ?_⟩
      have q2 := (q1.trans s4).trans (PB.same_new (o := .tup [u4, x]) nt2)
      have d2 := dp_mk2 nt2 h4 (Dp_same (q1.trans s4) hx3)
      refine ⟨u3, rfl, y, rfl, (by show 2 ≤ sizeLine; decide), fun t3 nt3 => ?_⟩
      have q3 := q2.trans (PB.same_new (o := .tup [u3, y]) nt3)
      have d3 := dp_mk2 nt3 (Dp_same q2 h3) (Dp_same q2 hy3)
      refine ⟨u3, rfl, u3, mm, rfl, Cou.same (dir_t h3) q3, fun H5 u5 s5 h5 => ?_⟩
      refine ⟨x, rfl, (by show 2 ≤ sizeLine; decide), fun t4 nt4 => ?_⟩
      have q4 := (q3.trans s5).trans (PB.same_new (o := .tup [u5, x]) nt4)
      have d4 := dp_mk2 nt4 h5 (Dp_same (q3.trans s5) hx3)
      refine ⟨(by show 4 ≤ sizeLine; decide), fun D nD3 => ?_⟩
      have q5 := q4.trans (PB.same_new (o := .lst [.ref t1, .ref t2, .ref t3, .ref t4]) nD3)
      have sn3 := PB.same_new (o := .tup [u3, y]) nt3
      have sn4 := PB.same_new (o := .tup [u5, x]) nt4
      have snD := PB.same_new (o := .lst [.ref t1, .ref t2, .ref t3, .ref t4]) nD3
      refine k _ D _ (s13.trans q5) ?_ upd_same ?_
      · cases eH : H D with
        | none => rfl
        | some o => rw [(s13.trans q4) _ _ eH] at nD3; cases nD3
      · show DpAll K _ _ ([(norS c d, c), (ng2 (norS c d), c), (dirS c d, d), (ng2 (dirS c d), c)].map nD)
        rw [hn, hm]
        have r2 := PB.same_new (o := .tup [u4, x]) nt2
        exact .cons (Dp_same (((((s4.trans r2).trans sn3).trans s5).trans sn4).trans snD) d1) (.cons (Dp_same (((sn3.trans s5).trans sn4).trans snD) d2) (.cons (Dp_same ((s5.trans sn4).trans snD) d3) (.cons (Dp_same snD d4) .nil)))
    · have l2 : cs.length ≠ 2 := fun z => e2 (decide_eq_true (by rw [lx, z]; rfl))
      have l0 : 0 < cs.length := List.length_pos_iff.mpr hG.poly.ne
      have l3 : 3 ≤ cs.length := by omega
      have eS : sidesF cs = roundF cs := if_neg (by omega)
      refine .inr ⟨_, rfl, a, dx, _, rfl, e, _, cs, rfl, ⟨a, dx, .ref p, rfl, e, .tup hS hA⟩, Nat.le_trans hG.l (by decide), fun H1 z s1 hz => ?_⟩
      obtain ⟨b, ys, rfl, hT, hB⟩ := dp_tup hz
      rw [eS] at hB
      have ly : ys.length = (roundF cs).length := by rw [DpAll_len hB, List.length_map]
      have l6 : (roundF cs).length ≤ 30 := by rw [round_len]; exact hG.l
      refine ⟨b, rfl, ⟨_, hT⟩, ?_⟩
      dsimp only
      refine lc_all (K := K) (Q := fun v H => Q v H) (walk_tup (K := K) (a := b) (xs := ys)) (fun i => nD (norS ((roundF cs).getD i (zP, zP)).1 ((roundF cs).getD i (zP, zP)).2, ((roundF cs).getD i (zP, zP)).1)) (fun i => noL_n _) (small1000 (by omega)) (fun H' s => same_t s hT) ZP.yat_same ?_ ?_
      · intro i x H0 H2 R il s2 hy hR
        obtain ⟨rfl, ex⟩ := hy
        obtain ⟨sd, es, hd⟩ := dpall_at hB ex
        obtain ⟨pp, vx, vy, rfl, hc, h1, h2⟩ := dp_t2 (Dp_same s2 hd)
        have ms := List.mem_of_getElem? es
        obtain ⟨m1, m2⟩ := round_mem ms
        have ne := round_ne hG.poly (by omega) ms
        have g1 := hG.g _ m1
        have g2 := hG.g _ m2
        refine ⟨vx, vy, ⟨pp, rfl, .inl hc⟩, _, _, rfl, _, _, rfl, rfl, rfl, ?_⟩
        refine ⟨vx, rfl, vy, rfl, vx, vy, sd.1, sd.2, rfl, pla_t h1, pla_t h2, g1.1, g2.1, p6 g1 (by decide), p6 g2 (by decide), step_nz g1.1 g2.1 ne, fun H3 z s3 hz3 => ?_⟩
        rw [nor_eq] at hz3
        refine ⟨vx, rfl, (by show 2 ≤ sizeLine; decide), fun t nt => ?_⟩
        have sn := PB.same_new (o := .tup [z, vx]) nt
        refine hR _ _ (s3.trans sn) ?_
        rw [getD_of es]
        exact dp_mk2 nt hz3 (Dp_same s3 h1)
      · intro D H2 zs s2 nD2 eD hZ
        have nH : H D = none := by
          cases eH : H D with
          | none => rfl
          | some o => rw [s1 _ _ eH] at nD2; cases nD2
        refine k H2 D zs (s1.trans s2) nH eD ?_
        rw [range_map (roundF cs) (zP, zP) (g := fun s => nD (norS s.1 s.2, s.1)) ly] at hZ
        rw [norm3 l3, List.map_map]
        exact hZ
abbrev shalves_of : Stmt := topS 60
theorem schalves_of : FnScope ["patch", "direction", "place"] ["patch"] (defScope shalves_of) := ⟨rfl, rfl, rfl, by decide +kernel, rfl, by decide +kernel, by decide +kernel⟩
theorem okhalves_of (T : Txt K mg "halves_of" shalves_of) (Gnormals_of : DefOk P w K mg base CX0 "normals_of" 6 ["patch"] (spNorms K)) (Gamount_at : DefOk P w K mg base CX0 "amount_at" 2 ["direction", "place"] (spRawA K amt)) (mtuple : mg "tuple" = none) : DefOk P w K mg base CX0 "halves_of" 7 ["patch"] (spHalves K) := by
  obtain ⟨f, fd, F, gf⟩ := T
  refine ⟨f, fd, gf, F.kp, F.binds (fun _ _ _ _ _ _ us hl => match us, hl with | [_], _ => rfl), F.ok schalves_of (fun vs H Q E h => ?_) (fun cdv A outer s H vs Q E hr h => ?_)⟩
  · obtain ⟨v, cs, rfl, _⟩ := h; rfl
  · obtain ⟨v, cs, rfl, hv, hG, k⟩ := h
    refine ⟨_, (pss_one (ps_ret (pe_callTy call_tuple_of (by rfl) mtuple (by decide +kernel) (pa_cons (pe_lc (own := [("direction", 1), ("place", 2)]) rfl schalves_of.nd (pi_seq (pe_def Gnormals_of (hr.mono (by decide)) (by rfl) (pa_cons (pv 0) pa_nil))) (blkOk_by (N := ["patch", "direction", "place"]) (sc := defScope shalves_of) (by decide +kernel)) (fun _ _ _ _ _ => (pg_couK K rfl (pgs_cons (pg_name (i := 1) schalves_of.nd rfl (.inl rfl)) (pgs_cons (pg_name (i := 2) schalves_of.nd rfl (.inl rfl)) pgs_nil)))) (fun _ _ _ _ _ => pts_nil) (fun _ _ _ _ _ => (pe_tup (pa_cons (pv 1) (pa_cons (pe_def Gamount_at (hr.mono (by decide)) (by rfl) (pa_cons (pv 1) (pa_cons (pv 2) pa_nil))) pa_nil))))) pa_nil)))), ?_⟩
    have ok := norm_ok hG
    refine .inl ⟨_, rfl, v, cs, rfl, hv, hG, fun H1 D ys s1 nD1 eD hY => ⟨D, rfl, ⟨_, .inl (.inl eD)⟩, ?_⟩⟩
    have ly : ys.length = (normF cs).length := by rw [DpAll_len hY, List.length_map]
    have hD1 : SqL K H1 D ys := .inl (.inl eD)
    dsimp only
    refine lc_all (K := K) (Q := fun v H4 => ∃ p ys, [v] = [V.ref p] ∧ ((SqL K H4 p ys ∧ ∀ l, H4 l = none → Q (.ref l) (upd H4 l (.tup ys))) ∨ (SqT K H4 p ys ∧ Q (.ref p) H4))) (walk_list (K := K) (a := D) (xs := ys)) (fun i => hD (((normF cs).getD i ((0, 0), zP)).1, amt ((normF cs).getD i ((0, 0), zP)).1 ((normF cs).getD i ((0, 0), zP)).2)) (fun i => noL_h _) (small1000 (by have := norm_len hG; omega)) (fun H' s => s.seq hD1) ZP.yat_same ?_ ?_
    · intro i x H0 H2 R il s2 hy hR
      obtain ⟨rfl, ex⟩ := hy
      obtain ⟨n, en, hd⟩ := dpall_at hY ex
      obtain ⟨zn, mn⟩ := ok n (List.mem_of_getElem? en)
      have gn := hG.g _ mn
      obtain ⟨pp, vx, vy, rfl, hc, h1, h2⟩ := dp_t2 (Dp_same s2 hd)
      refine ⟨vx, vy, ⟨pp, rfl, .inl hc⟩, _, _, rfl, _, _, rfl, rfl, rfl, ?_⟩
      refine ⟨vx, rfl, vx, rfl, vy, rfl, vx, vy, n.1, n.2, rfl, dir_t h1, pla_t h2, gn.1, zn, p6 gn (by decide), fun H3 z s3 hz => ⟨(by show 2 ≤ sizeLine; decide), fun t nt => ?_⟩⟩
      have sn := PB.same_new (o := .tup [vx, z]) nt
      refine hR _ _ (s3.trans sn) ?_
      rw [getD_of en]
      exact dp_mk2 nt (Dp_same s3 h1) hz
    · intro D2 H2 zs s2 nD2 eD2 hZ
      refine ⟨D2, zs, rfl, .inl ⟨.inl (.inl eD2), fun l nl => ?_⟩⟩
      have sn := PB.same_new (o := .tup zs) nl
      rw [range_map (normF cs) ((0, 0), zP) (g := fun n => hD (n.1, amt n.1 n.2)) ly] at hZ
      refine k _ _ ((s1.trans s2).trans sn) (.tup (.inl (.inl upd_same)) ?_)
      rw [halves_norm cs hG.poly.ne, List.map_map]
      exact DpAll_same sn hZ
end
end F3
set_option Elab.async false
set_option linter.all false
set_option maxRecDepth 100000
set_option maxHeartbeats 4000000
set_option exponentiation.threshold 10000
namespace F3
open PySem PySem.Spec PyProof.Rows L2 FX RM PB KD KS
theorem amtL_eq {d : Int × Int} {p : Pl} (h : RatP p) : amtL d p = amt d p := by
  obtain ⟨N, n0, hB⟩ := bots_for (l := [p]) (fun r hr => by rw [List.mem_singleton.mp hr]; exact h)
  have b := hB p (by simp)
  obtain ⟨c1, c2⟩ := rep_c n0 b
  have k1 : Rep (rmul (d.1, 1) p.1) (d.1 * (sc N p).1) (1 * N) := rep_mul (rep_self (rat_int d.1)) c1
  have k2 : Rep (rmul (d.2, 1) p.2) (d.2 * (sc N p).2) (1 * N) := rep_mul (rep_self (rat_int d.2)) c2
  have k := rep_add1 k1 k2
  exact rep_eq k (amt_dt n0 b d) (by unfold dt; grind)
def spBelow (K : PySem.W.Frag) : Sp := fun vs H Q _ => ∃ v u r s, vs = [v, u] ∧ Dp K H v (rD r) ∧ Dp K H u (rD s) ∧ SzR 2000 r ∧ SzR 2000 s ∧ Q (.bl (decide (ltR r s))) H
def spTopL (K : PySem.W.Frag) (o : Int × Int → List Pl → Rt) : Sp := fun vs H Q _ => ∃ v u cs d, vs = [v, u] ∧ Dp K H v (.tuple (cs.map pD)) ∧ Dp K H u (rD d) ∧ SzR 600 d ∧ PatG cs ∧ ∀ H' z, Same H H' → Dp K H' z (rD (o d cs)) → Q z H'
def spTwice (K : PySem.W.Frag) : Sp := fun vs H Q _ => ∃ v cs, vs = [v] ∧ Dp K H v (.tuple (cs.map pD)) ∧ PatG cs ∧ ∀ H' z, Same H H' → Dp K H' z (rD (areaF cs)) → Q z H'
theorem good3 {cs : List Pl} (h : PatG cs) : ∀ c ∈ cs, SzP 300 c := fun c hc => by
  obtain ⟨N, n0, zN, hN⟩ := h.N
  obtain ⟨b, z⟩ := hN c hc
  obtain ⟨r1, r2⟩ := rep_c n0 b
  obtain ⟨a1, b1⟩ := rep_sz r1 z.1 zN
  obtain ⟨a2, b2⟩ := rep_sz r2 z.2 zN
  exact ⟨⟨a1, sz_mono b1 (by decide)⟩, ⟨a2, sz_mono b2 (by decide)⟩⟩
theorem radd_zero {r : Rt} (h : IsRat r) : radd r (0, 1) = r := by
  have k := rep_add1 (b := r.2) (rep_self h) (rep_scale (rep_self rat_zero) h.1 (t' := 0) (by show (0 : Int) * r.2 = 0 * 1; omega))
  exact rep_eq k (rep_self h) (by rw [Int.add_zero])
theorem cross_zero {a b c : Pl} (ha : RatP a) (hb : RatP b) (hc : RatP c) (h : a = b ∨ a = c) : crossP a b c = (0, 1) := by
  obtain ⟨N, n0, hB⟩ := bots_for (l := [a, b, c]) (fun r hr => by
    rcases List.mem_cons.mp hr with e | hr
    · rw [e]; exact ha
    · rcases List.mem_cons.mp hr with e | hr
      · rw [e]; exact hb
      · rw [List.mem_singleton.mp hr]; exact hc)
  have k := cross_rep n0 (hB a (by simp)) (hB b (by simp)) (hB c (by simp))
  have z : G4.cr (sc N a) (sc N b) (sc N c) = 0 := by
    rcases h with e | e
    · rw [← e]; unfold G4.cr; grind
    · rw [← e]; unfold G4.cr; grind
  rw [z] at k
  exact rep_eq k (rep_self rat_zero) (by show (0 : Int) * 1 = 0 * (N * N); omega)
theorem fold_add {N : Int} (n0 : 0 < N) : ∀ {rs : List Rt} {s : Rt}, (∃ t, Rep s t N) → (∀ r ∈ rs, ∃ t, Rep r t N) → ∃ t, Rep (rs.foldl radd s) t N
  | [], s, h, _ => h
  | r :: rs, s, ⟨t, h⟩, k => by
    obtain ⟨t', h'⟩ := k r (List.mem_cons_self ..)
    exact fold_add n0 (s := radd s r) ⟨_, rep_add1 h h'⟩ fun x hx => k x (List.mem_cons_of_mem _ hx)
/-- the law's sum of the crosses: from the second corner to the last but one -/
def twiceF (cs : List Pl) : Rt := sumR ((List.range (cs.length - 2)).map fun j => crossP (cs.getD 0 zP) (cs.getD (j + 1) zP) (cs.getD (j + 2) zP))
theorem twice_eq {cs : List Pl} (h : PatG cs) : twiceF cs = areaF cs := by
  have hr := fun c hc => (h.g c hc).1
  have rz : radd (0, 1) (0, 1) = ((0, 1) : Rt) := radd_zero rat_zero
  rcases cases3 h.poly.ne with ⟨c, rfl⟩ | ⟨a, b, rfl⟩ | l3
  · rfl
  · have ra := hr a (by simp)
    have rb := hr b (by simp)
    show (0, 1) = sumR [crossP a a b]
    rw [cross_zero ra ra rb (.inl rfl)]
    exact rz.symm
  · unfold areaF twiceF
    have eS : sidesF cs = roundF cs := if_neg (by omega)
    rw [eS, headD0 h.poly.ne]
    obtain ⟨n, hn⟩ : ∃ n, cs.length = n + 2 := ⟨cs.length - 2, by omega⟩
    have g : ∀ k, k < cs.length → RatP (cs.getD k zP) := fun k hk => hr _ (List.mem_of_getElem? (getD_at hk))
    have g0 := g 0 (by omega)
    have e : (roundF cs).map (fun s => crossP (cs.getD 0 zP) s.1 s.2) = (0, 1) :: ((List.range n).map fun j => crossP (cs.getD 0 zP) (cs.getD (j + 1) zP) (cs.getD (j + 2) zP)) ++ [(0, 1)] := by
      apply List.ext_getElem?
      intro k
      rcases Nat.lt_or_ge k cs.length with hk | hk
      · rw [List.getElem?_map, round_at.mpr ⟨getD_at hk, getD_at (Nat.mod_lt _ (by omega))⟩]
        show some _ = _
        rcases Nat.eq_zero_or_pos k with k0 | k0
        · subst k0
          dsimp only
          rw [cross_zero g0 g0 (g _ (Nat.mod_lt _ (by omega))) (.inl rfl)]
          rfl
        · obtain ⟨j, rfl⟩ : ∃ j, k = j + 1 := ⟨k - 1, by omega⟩
          rw [List.cons_append, List.getElem?_cons_succ]
          rcases Nat.lt_or_ge j n with hj | hj
          · rw [List.getElem?_append_left (by rw [List.length_map, List.length_range]; exact hj), List.getElem?_map, List.getElem?_range hj, Nat.mod_eq_of_lt (by omega)]
            rfl
          · have ej : j = n := by omega
            subst ej
            rw [List.getElem?_append_right (by rw [List.length_map, List.length_range]; exact Nat.le_refl _), List.length_map, List.length_range, Nat.sub_self]
            rw [show (j + 1 + 1) % cs.length = 0 by rw [hn, Nat.mod_self]]
            dsimp only
            rw [cross_zero g0 (g _ hk) g0 (.inr rfl)]
            rfl
      · rw [List.getElem?_eq_none (by rw [List.length_map, round_len]; exact hk), List.getElem?_eq_none (by simp; omega)]
    rw [e, show cs.length - 2 = n by omega]
    obtain ⟨N, n0, zN, hN⟩ := h.N
    unfold sumR
    rw [List.cons_append, List.foldl_cons, rz, List.foldl_append]
    obtain ⟨t, ht⟩ := fold_add (Int.mul_pos n0 n0) (rs := (List.range n).map fun j => crossP (cs.getD 0 zP) (cs.getD (j + 1) zP) (cs.getD (j + 2) zP)) (s := (0, 1)) ⟨0, rat_zero, Int.mul_pos n0 n0, by show (0 : Int) * (N * N) = 0 * 1; omega⟩ (fun r hr => by
      obtain ⟨j, hj, rfl⟩ := List.mem_map.mp hr
      have hj := List.mem_range.mp hj
      have bt : ∀ k, k < cs.length → Bot N (cs.getD k zP) := fun k hk => (hN _ (List.mem_of_getElem? (getD_at hk))).1
      exact ⟨_, cross_rep n0 (bt 0 (by omega)) (bt _ (by omega)) (bt _ (by omega))⟩)
    exact (radd_zero ht.1).symm
/-! the law's ways of a patch -/
def wayF (cs : List Pl) : List (Int × Int) := if cs.length = 1 then AX4 else (roundF cs).flatMap fun s => if cs.length = 2 then [norS s.1 s.2, dirS s.1 s.2] else [norS s.1 s.2]
def topH (cs : List Pl) (d : Int × Int) : (Int × Int) × Rt := (d, topC d cs)
theorem halves_topH {cs : List Pl} (P : Poly cs) : (halvesF cs) = ((halvesF cs).map (·.1)).map (topH cs) := by
  rw [List.map_map]
  have : ∀ h ∈ halvesF cs, h = (topH cs ∘ fun x => x.1) h := fun h hh => Prod.ext rfl (halves_top P h hh)
  conv => lhs; rw [← List.map_id (halvesF cs)]
  exact List.map_congr_left this
theorem flat1 {α β : Type} (f : α → β) : ∀ l : List α, l.flatMap (fun x => [f x]) = l.map f
  | [] => rfl
  | a :: l => by rw [List.flatMap_cons, flat1 f l]; rfl
theorem way_not2 {cs : List Pl} (P : Poly cs) (l2 : cs.length ≠ 2) : (wayF cs).map (topH cs) = halvesF cs := by
  rw [halves_topH P]
  congr 1
  rcases cases3 P.ne with ⟨c, rfl⟩ | ⟨a, b, rfl⟩ | l3
  · show AX4 = (AX4.map fun d => (d, amt d c)).map (·.1)
    rw [List.map_map]
    rfl
  · exact absurd rfl l2
  · unfold wayF
    rw [if_neg (by omega), halves_norm cs P.ne, norm3 l3, List.map_map, List.map_map]
    simp only [if_neg l2]
    exact flat1 _ _
theorem way_2 {a b : Pl} (P : Poly [a, b]) : wayF [a, b] = [norS a b, dirS a b, ng2 (norS a b), ng2 (dirS a b)] := by
  have ra := P.rat a (by simp)
  have rb := P.rat b (by simp)
  have e1 : dirS b a = ng2 (dirS a b) := dir_anti ra rb
  have e2 : norS b a = ng2 (norS a b) := by
    unfold norS
    rw [e1]
    rfl
  show [norS a b, dirS a b, norS b a, dirS b a] = _
  rw [e1, e2]
theorem due_2 {a b : Pl} (P : Poly [a, b]) : halvesF [a, b] = [topH [a, b] (norS a b), topH [a, b] (ng2 (norS a b)), topH [a, b] (dirS a b), topH [a, b] (ng2 (dirS a b))] := by
  rw [halves_topH P]
  rfl
theorem way_sz {cs : List Pl} (h : PatG cs) : ∀ d ∈ wayF cs, SzR 600 d := by
  obtain ⟨N, n0, zN, hN⟩ := h.N
  unfold wayF
  split
  · exact ax_sz
  · intro d hd
    obtain ⟨s, hs, hd⟩ := List.mem_flatMap.mp hd
    obtain ⟨m1, m2⟩ := round_mem hs
    have l2 : 2 ≤ cs.length := by have := List.length_pos_iff.mpr h.poly.ne; omega
    have z := (dir_sz2 n0 zN (hN _ m1).1 (hN _ m2).1 (hN _ m1).2 (hN _ m2).2 (round_ne h.poly l2 hs)).1
    split at hd
    · rcases List.mem_cons.mp hd with rfl | hd
      · exact szr_mono (nor_sz z) (by decide)
      · rw [List.mem_singleton.mp hd]; exact szr_mono z (by decide)
    · rw [List.mem_singleton.mp hd]; exact szr_mono (nor_sz z) (by decide)
theorem way_len {cs : List Pl} (h : PatG cs) : (wayF cs).length ≤ 60 := by
  have := h.l
  have : ∀ (l : List (Pl × Pl)) (g : Pl × Pl → List (Int × Int)), (∀ s ∈ l, (g s).length ≤ 2) → (l.flatMap g).length ≤ 2 * l.length := fun l g hg => by
    induction l with
    | nil => simp
    | cons a l ih =>
      rw [List.flatMap_cons, List.length_append, List.length_cons]
      have := hg a (List.mem_cons_self ..)
      have := ih fun s hs => hg s (List.mem_cons_of_mem _ hs)
      omega
  unfold wayF
  split
  · decide
  · refine Nat.le_trans (this _ _ fun s _ => by split <;> simp) ?_
    rw [round_len]; omega
def spHalvesL (K : PySem.W.Frag) (o : List Pl → List ((Int × Int) × Rt)) : Sp := fun vs H Q _ => ∃ v cs, vs = [v] ∧ Dp K H v (.tuple (cs.map pD)) ∧ PatG cs ∧ ∀ H' D ys, Same H H' → H D = none → H' D = some (.lst ys) → DpAll K H' ys ((o cs).map hD) → Q (.ref D) H'
def spDueS (K : PySem.W.Frag) : Sp := fun vs H Q _ => ∃ v cs, vs = [v] ∧ Dp K H v (.tuple (cs.map pD)) ∧ PatG cs ∧ ∀ H' z, Same H H' → Dp K H' z (.tuple ((sidesF cs).map sD)) → Q z H'
theorem none_of {H H' : Hp} {D : Addr} (s : Same H H') (n : H' D = none) : H D = none := by
  cases e : H D with
  | none => rfl
  | some o => rw [s _ _ e] at n; cases n
theorem same_upd {H H' : Hp} {D : Addr} {o : HO} (s : Same H H') (n : H D = none) : Same H (upd H' D o) := fun b x e => by
  rw [upd_ne (ne_of_none e n)]; exact s b x e
theorem at0 {α : Type} {xs : List α} {i : Nat} {v : α} (h : xs[i]? = some v) : atI xs (0 + (i : Int)) = some v := by rw [Int.zero_add]; exact atI_nat h
section
variable {P : Program} {w : World} {K : PySem.W.Frag} {mg : Str → Option Value} {base : Heap}
theorem layA : Lay K (tCons (tTup (tCons (tC (.int 1)) (tCons (tC (.int 0)) tNil))) (tCons (tTup (tCons (tC (.int 0)) (tCons (tC (.int 1)) tNil))) (tCons (tTup (tCons (tUn (rU fun i => .int (-i)) (tC (.int 1))) (tCons (tC (.int 0)) tNil))) (tCons (tTup (tCons (tC (.int 0)) (tCons (tUn (rU fun i => .int (-i)) (tC (.int 1))) tNil))) (tNil))))) AX4 := (lay_cons (fun _ _ _ q => q) (lay_cons (fun _ _ _ q => q) (lay_cons (fun _ _ _ q => ⟨_, rfl, q⟩) (lay_cons (fun _ _ _ q => ⟨_, rfl, q⟩) lay_nil))))
abbrev s_law_below : Stmt := topS 70
theorem sc_law_below : FnScope ["_law_one", "_law_other"] ["_law_one", "_law_other"] (defScope s_law_below) := ⟨rfl, rfl, rfl, by decide +kernel, rfl, by decide +kernel, by decide +kernel⟩
theorem ok_law_below (T : Txt K mg "_law_below" s_law_below)  : DefOk P w K mg base CX0 "_law_below" 1 ["_law_one", "_law_other"] (spBelow K) := by
  obtain ⟨f, fd, F, gf⟩ := T
  refine ⟨f, fd, gf, F.kp, F.binds (fun _ _ _ _ _ _ us hl => match us, hl with | [_, _], _ => rfl), F.ok sc_law_below (fun vs H Q E h => ?_) (fun cdv A outer s H vs Q E hr h => ?_)⟩
  · obtain ⟨v, u, r, s_, rfl, _⟩ := h; rfl
  · obtain ⟨v, u, r, s_, rfl, hv, hu, zr, zs, q⟩ := h
    refine ⟨_, (pss_one (ps_ret (pe_cmpR op_lt (pe_op op_mulW (pe_ix ix_it (pv 0) pe_int (fun _ _ => rfl)) (pe_ix ix_it (pv 1) pe_int (fun _ _ => rfl))) (pe_op op_mulW (pe_ix ix_it (pv 1) pe_int (fun _ _ => rfl)) (pe_ix ix_it (pv 0) pe_int (fun _ _ => rfl))) (nomark _)))), ?_⟩
    have c1 := cou_r hv
    have c2 := cou_r hu
    exact ⟨v, rfl, _, _, 0, _, rfl, c1, rfl, u, rfl, _, _, 1, _, rfl, c2, rfl, _, _, rfl, rfl, wide_mul zr.1 zs.2 (by decide) (by decide) (by decide), u, rfl, _, _, 0, _, rfl, c2, rfl, v, rfl, _, _, 1, _, rfl, c1, rfl, _, _, rfl, rfl, wide_mul zs.1 zr.2 (by decide) (by decide) (by decide), _, _, rfl, rfl, q⟩
abbrev s_law_top : Stmt := topS 72
theorem sc_law_top : FnScope ["_law_corners", "_law_direction_here", "_law_best", "_law_corner", "_law_amount_here"] ["_law_corners", "_law_direction_here"] (defScope s_law_top) := ⟨rfl, rfl, rfl, by decide +kernel, rfl, by decide +kernel, by decide +kernel⟩
theorem ok_law_top (T : Txt K mg "_law_top" s_law_top) (G_law_amount : DefOk P w K mg base CX0 "_law_amount" 4 ["_law_direction_here", "_law_place_here"] (spAmtL K)) (G_law_below : DefOk P w K mg base CX0 "_law_below" 1 ["_law_one", "_law_other"] (spBelow K)) : DefOk P w K mg base CX0 "_law_top" 5 ["_law_corners", "_law_direction_here"] (spTopL K topC) := by
  obtain ⟨f, fd, F, gf⟩ := T
  refine ⟨f, fd, gf, F.kp, F.binds (fun _ _ _ _ _ _ us hl => match us, hl with | [_, _], _ => rfl), F.ok sc_law_top (fun vs H Q E h => ?_) (fun cdv A outer s H vs Q E hr h => ?_)⟩
  · obtain ⟨v, u, cs, d, rfl, _⟩ := h; rfl
  · obtain ⟨v, u, cs, d, rfl, hv, hu, zd, hG, k⟩ := h
    refine ⟨_, (pss_cons (ps_set (i := 2) sc_law_top.nd rfl (.inl rfl) (pe_def G_law_amount (hr.mono (by decide)) (by rfl) (pa_cons (pv 1) (pa_cons (pe_ix ix_tup (pv 0) pe_int (fun _ _ => rfl)) pa_nil)))) (pss_cons (ps_for PassesOwn.never rfl (pi_tup (pv 0)) (pg_name (i := 3) sc_law_top.nd rfl (.inl rfl)) (pss_cons (ps_set (i := 4) sc_law_top.nd rfl (.inl rfl) (pe_def G_law_amount (hr.mono (by decide)) (by rfl) (pa_cons (pv 1) (pa_cons (pv 3) pa_nil)))) (pss_one (ps_if (pt_val (pe_def G_law_below (hr.mono (by decide)) (by rfl) (pa_cons (pv 2) (pa_cons (pv 4) pa_nil)))) (pss_one (ps_set (i := 2) sc_law_top.nd rfl (.inl rfl) (pv 4))) pss_nil)))) (pss_one (ps_ret (pv 2))))), ?_⟩
    obtain ⟨p, xs, rfl, hS, hA⟩ := dp_tup hv
    have lx : xs.length = cs.length := by rw [DpAll_len hA, List.length_map]
    have l0 : 0 < cs.length := List.length_pos_iff.mpr hG.poly.ne
    have x0 : xs[0]? = some (xs[0]'(by omega)) := List.getElem?_eq_getElem (by omega)
    generalize xs[0]'(by omega) = y0 at x0
    have e0 := getD_at l0
    have h0 := dp_pAt hA x0 e0
    have g0 := hG.g _ (List.mem_of_getElem? e0)
    refine ⟨u, rfl, .ref p, rfl, p, xs, 0, y0, rfl, rfl, hS, atI_nat (j := 0) x0, u, y0, d, _, rfl, hu, h0, g0.1, zd, p6 g0 (by decide), fun H1 z s1 hz => ?_⟩
    rw [amtL_eq g0.1, ← headD0 hG.poly.ne] at hz
    refine ⟨.ref p, rfl, p, rfl, ⟨_, same_t s1 hS⟩, for_tup (K := K) (a := p) (xs := xs) (fun i σ H' => ∃ (t : V) (y3 y4 : Option V), σ = [some (.ref p), some u, some t, y3, y4] ∧ Same H H' ∧ Dp K H' t (rD (topF (amt d (cs.headD zP)) ((cs.map (amt d)).take i))))
      ⟨z, none, none, rfl, s1, hz⟩ (fun i σ H' _ ⟨_, _, _, _, s2, _⟩ => same_t s2 hS) ?_ ?_⟩
    · rintro i x σ H2 hi ⟨t, y3, y4, rfl, s2, ht⟩
      obtain ⟨ic, hx⟩ := dpall_map hA i x hi
      have ec := getD_at ic
      have gc := hG.g _ (List.mem_of_getElem? ec)
      have st : topF (amt d (cs.headD zP)) ((cs.map (amt d)).take (i + 1)) = if ltR (topF (amt d (cs.headD zP)) ((cs.map (amt d)).take i)) (amt d (cs.getD i zP)) then amt d (cs.getD i zP) else topF (amt d (cs.headD zP)) ((cs.map (amt d)).take i) := fold_snoc _ _ _ (by rw [List.getElem?_map, ec]; rfl)
      have zt : SzR 2000 (topF (amt d (cs.headD zP)) ((cs.map (amt d)).take i)) := by
        rcases mem_fold_top (r0 := amt d (cs.headD zP)) (rs := cs.map (amt d)) (.inl rfl) (l := (cs.map (amt d)).take i) (fun x hx => List.mem_of_mem_take hx) with h | h
        · rw [h, headD0 hG.poly.ne]; exact amt_sz zd g0
        · obtain ⟨c, hc, e⟩ := List.mem_map.mp h
          rw [← e]; exact amt_sz zd (hG.g c hc)
      refine ⟨u, rfl, x, rfl, u, x, d, _, rfl, Dp_same s2 hu, Dp_same s2 hx, gc.1, zd, p6 gc (by decide), fun H3 z3 s3 h3 => ?_⟩
      rw [amtL_eq gc.1] at h3
      rw [st]
      refine ⟨t, rfl, z3, rfl, t, z3, _, _, rfl, Dp_same s3 ht, h3, zt, amt_sz zd gc, _, rfl, ?_⟩
      by_cases c : ltR (topF (amt d (cs.headD zP)) ((cs.map (amt d)).take i)) (amt d (cs.getD i zP))
      · rw [if_pos c]
        exact itT (decide_eq_true c) ⟨z3, rfl, z3, some x, some z3, rfl, s2.trans s3, h3⟩
      · rw [if_neg c]
        exact itF (decide_eq_false c) ⟨t, some x, some z3, rfl, s2.trans s3, Dp_same s3 ht⟩
    · rintro σ H2 ⟨t, y3, y4, rfl, s2, ht⟩
      rw [show xs.length = (cs.map (amt d)).length by rw [lx, List.length_map], List.take_length] at ht
      exact ⟨t, rfl, k H2 t s2 ht⟩
abbrev s_law_bottom : Stmt := topS 73
theorem sc_law_bottom : FnScope ["_law_corners", "_law_direction_here", "_law_top_here"] ["_law_corners", "_law_direction_here"] (defScope s_law_bottom) := ⟨rfl, rfl, rfl, by decide +kernel, rfl, by decide +kernel, by decide +kernel⟩
theorem ok_law_bottom (T : Txt K mg "_law_bottom" s_law_bottom) (G_law_top : DefOk P w K mg base CX0 "_law_top" 5 ["_law_corners", "_law_direction_here"] (spTopL K topC)) : DefOk P w K mg base CX0 "_law_bottom" 6 ["_law_corners", "_law_direction_here"] (spTopL K lowC) := by
  obtain ⟨f, fd, F, gf⟩ := T
  refine ⟨f, fd, gf, F.kp, F.binds (fun _ _ _ _ _ _ us hl => match us, hl with | [_, _], _ => rfl), F.ok sc_law_bottom (fun vs H Q E h => ?_) (fun cdv A outer s H vs Q E hr h => ?_)⟩
  · obtain ⟨v, u, cs, d, rfl, _⟩ := h; rfl
  · obtain ⟨v, u, cs, d, rfl, hv, hu, zd, hG, k⟩ := h
    refine ⟨_, (pss_cons (ps_set (i := 2) sc_law_bottom.nd rfl (.inl rfl) (pe_def G_law_top (hr.mono (by decide)) (by rfl) (pa_cons (pv 0) (pa_cons (pe_tup (pa_cons (pe_un un_neg (pe_ix ix_it (pv 1) pe_int (fun _ _ => rfl))) (pa_cons (pe_un un_neg (pe_ix ix_it (pv 1) pe_int (fun _ _ => rfl))) pa_nil))) pa_nil)))) (pss_one (ps_ret (pe_tup (pa_cons (pe_un un_neg (pe_ix ix_it (pv 2) pe_int (fun _ _ => rfl))) (pa_cons (pe_ix ix_it (pv 2) pe_int (fun _ _ => rfl)) pa_nil)))))), ?_⟩
    have cu := cou_r hu
    refine ⟨v, rfl, u, rfl, _, _, 0, _, rfl, cu, rfl, _, rfl, u, rfl, _, _, 1, _, rfl, cu, rfl, _, rfl, (by show 2 ≤ sizeLine; decide), fun t nt => ?_⟩
    have st := PB.same_new (o := .tup [.int (-d.1), .int (-d.2)]) nt
    refine ⟨v, .ref t, cs, ng2 d, rfl, Dp_same st hv, dp_mkr nt, szr_ng zd, hG, fun H1 z s1 hz => ?_⟩
    have cz := cou_r hz
    refine ⟨z, rfl, _, _, 0, _, rfl, cz, rfl, _, rfl, z, rfl, _, _, 1, _, rfl, cz, rfl, (by show 2 ≤ sizeLine; decide), fun t2 nt2 => ?_⟩
    have s2 := PB.same_new (o := .tup [.int (-(topC (ng2 d) cs).1), .int (topC (ng2 d) cs).2]) nt2
    refine k _ _ ((st.trans s1).trans s2) ?_
    rw [lowC_eq (fun c hc => (hG.g c hc).1) hG.poly.ne]
    exact dp_mkr nt2
abbrev s_law_twice : Stmt := topS 80
theorem sc_law_twice : FnScope ["_law_corners", "_law_total", "_law_k"] ["_law_corners"] (defScope s_law_twice) := ⟨rfl, rfl, rfl, by decide +kernel, rfl, by decide +kernel, by decide +kernel⟩
theorem ok_law_twice (T : Txt K mg "_law_twice" s_law_twice) (G_law_plus : DefOk P w K mg base CX0 "_law_plus" 3 ["_law_one", "_law_other"] (spBin K radd)) (G_law_cross : DefOk P w K mg base CX0 "_law_cross" 4 ["_law_first", "_law_second", "_law_third"] (spCroL K)) (mlen : mg "len" = none) (mrange : mg "range" = none) : DefOk P w K mg base CX0 "_law_twice" 5 ["_law_corners"] (spTwice K) := by
  obtain ⟨f, fd, F, gf⟩ := T
  refine ⟨f, fd, gf, F.kp, F.binds (fun _ _ _ _ _ _ us hl => match us, hl with | [_], _ => rfl), F.ok sc_law_twice (fun vs H Q E h => ?_) (fun cdv A outer s H vs Q E hr h => ?_)⟩
  · obtain ⟨v, cs, rfl, _⟩ := h; rfl
  · obtain ⟨v, cs, rfl, hv, hG, k⟩ := h
    refine ⟨_, (pss_cons (ps_set (i := 1) sc_law_twice.nd rfl (.inl rfl) (pe_tup (pa_cons pe_int (pa_cons pe_int pa_nil)))) (pss_cons (ps_for PassesOwn.never rfl (pi_range2 (by rfl) mrange (pa_cons pe_int (pa_cons (pe_op op_sub (pe_callB call_len_seq (by rfl) mlen PySem.boot_len (pa_cons (pv 0) pa_nil)) pe_int) pa_nil))) (pg_name (i := 2) sc_law_twice.nd rfl (.inl rfl)) (pss_one (ps_set (i := 1) sc_law_twice.nd rfl (.inl rfl) (pe_def G_law_plus (hr.mono (by decide)) (by rfl) (pa_cons (pv 1) (pa_cons (pe_def G_law_cross (hr.mono (by decide)) (by rfl) (pa_cons (pe_ix ix_tup (pv 0) pe_int (fun _ _ => rfl)) (pa_cons (pe_ix ix_tup (pv 0) (pv 2) (fun _ _ => rfl)) (pa_cons (pe_ix ix_tup (pv 0) (pe_op op_add (pv 2) pe_int) (fun _ _ => rfl)) pa_nil)))) pa_nil)))))) (pss_one (ps_ret (pv 1))))), ?_⟩
    obtain ⟨p, xs, rfl, hS, hA⟩ := dp_tup hv
    have lx : xs.length = cs.length := by rw [DpAll_len hA, List.length_map]
    have l30 := hG.l
    have l0 : 0 < cs.length := List.length_pos_iff.mpr hG.poly.ne
    refine ⟨(by show 2 ≤ sizeLine; decide), fun t0 nt0 => ?_⟩
    have s0 := PB.same_new (o := .tup [.int 0, .int 1]) nt0
    have z0 : Dp K (upd H t0 (.tup [.int 0, .int 1])) (.ref t0) (rD (0, 1)) := dp_mkr nt0
    refine ⟨_, rfl, p, xs, rfl, .inr (same_t s0 hS), _, _, rfl, rfl, _, _, rfl, ⟨by omega, by omega, by omega, by omega⟩, for_range (lo := 1) (n := ((xs.length : Int) - 1 - 1).toNat) (fun i σ H' => ∃ (t : V) (y : Option V), σ = [some (.ref p), some t, y] ∧ Same H H' ∧ Dp K H' t (rD (sumR ((List.range i).map fun j => crossP (cs.getD 0 zP) (cs.getD (j + 1) zP) (cs.getD (j + 2) zP)))))
      ⟨.ref t0, none, rfl, s0, z0⟩ ?_ ?_⟩
    · rintro i σ H1 hi ⟨t, y, rfl, s1, ht⟩
      have i0 : 0 < cs.length := by omega
      have i1 : i + 1 < cs.length := by omega
      have i2 : i + 2 < cs.length := by omega
      have ga : ∀ j, j < cs.length → ∃ x, xs[j]? = some x ∧ Dp K H1 x (pD (cs.getD j zP)) ∧ cs.getD j zP ∈ cs := fun j hj => by
        have ex : xs[j]? = some (xs[j]'(by omega)) := List.getElem?_eq_getElem (by omega)
        exact ⟨_, ex, Dp_same s1 (dp_pAt hA ex (getD_at hj)), List.mem_of_getElem? (getD_at hj)⟩
      obtain ⟨x0, e0, h0, m0⟩ := ga 0 i0
      obtain ⟨x1, e1, h1, m1⟩ := ga (i + 1) i1
      obtain ⟨x2, e2, h2, m2⟩ := ga (i + 2) i2
      have hS1 := same_t s1 hS
      have z3 := good3 hG
      have b1 : atI xs (1 + (i : Int)) = some x1 := by rw [show (1 + (i : Int)) = ((i + 1 : Nat) : Int) by omega]; exact atI_nat e1
      have b2 : atI xs (1 + (i : Int) + 1) = some x2 := by rw [show (1 + (i : Int) + 1) = ((i + 2 : Nat) : Int) by omega]; exact atI_nat e2
      refine ⟨t, rfl, .ref p, rfl, p, xs, 0, x0, rfl, rfl, hS1, atI_nat (j := 0) e0, .ref p, rfl, _, rfl, p, xs, _, x1, rfl, rfl, hS1, b1, .ref p, rfl, _, rfl, _, _, rfl, rfl, p, xs, _, x2, rfl, rfl, hS1, b2, x0, x1, x2, _, _, _, rfl, h0, h1, h2, (hG.g _ m0).1, (hG.g _ m1).1, (hG.g _ m2).1, z3 _ m0, z3 _ m1, z3 _ m2, fun H2 z2 s2 hz2 => ?_⟩
      rw [cross_eq (hG.g _ m0).1 (hG.g _ m1).1 (hG.g _ m2).1] at hz2
      obtain ⟨N, n0, zN, hN⟩ := hG.N
      have cr : ∀ j, j + 2 < cs.length → ∃ t, Rep (crossP (cs.getD 0 zP) (cs.getD (j + 1) zP) (cs.getD (j + 2) zP)) t (N * N) ∧ Sz 900 t := fun j hj => by
        obtain ⟨_, _, _, ma⟩ := ga 0 i0
        obtain ⟨_, _, _, mb⟩ := ga (j + 1) (by omega)
        obtain ⟨_, _, _, mc⟩ := ga (j + 2) (by omega)
        obtain ⟨b0, z0⟩ := hN _ ma
        obtain ⟨b1, z1⟩ := hN _ mb
        obtain ⟨b2, z2⟩ := hN _ mc
        refine ⟨_, cross_rep n0 b0 b1 b2, ?_⟩
        unfold G4.cr
        exact sz_mono (sz_sub (sz_mul (sz_sub z1.1 z0.1) (sz_sub z2.2 z0.2)) (sz_mul (sz_sub z1.2 z0.2) (sz_sub z2.1 z0.1))) (by decide)
      have zNN : Sz 900 (N * N) := sz_mono (sz_mul zN zN) (by decide)
      obtain ⟨ia, za⟩ := sum_szr (Int.mul_pos n0 n0) zNN (rs := (List.range i).map fun j => crossP (cs.getD 0 zP) (cs.getD (j + 1) zP) (cs.getD (j + 2) zP)) (by rw [List.length_map, List.length_range]; omega) (fun r hr => by
        obtain ⟨j, hj, rfl⟩ := List.mem_map.mp hr
        exact cr j (by have := List.mem_range.mp hj; omega))
      obtain ⟨tc, rc, zc⟩ := cr i i2
      obtain ⟨ya, yb⟩ := rep_sz rc zc zNN
      refine ⟨t, z2, _, _, rfl, Dp_same s2 ht, hz2, ia, rc.1, szr_mono za (by decide), ⟨sz_mono ya (by decide), sz_mono yb (by decide)⟩, fun H3 z3 s3 hz3 => ⟨z3, _, rfl, (s1.trans s2).trans s3, ?_⟩⟩
      rw [List.range_succ, List.map_append]
      show Dp K H3 z3 (rD (sumR (_ ++ [_])))
      rw [sumR_snoc]; exact hz3
    · rintro σ H1 ⟨t, y, rfl, s1, ht⟩
      refine ⟨t, rfl, k H1 t s1 ?_⟩
      rw [← twice_eq hG]
      unfold twiceF
      rw [show ((xs.length : Int) - 1 - 1).toNat = cs.length - 2 by omega] at ht
      exact ht
end
end F3
set_option Elab.async false
set_option linter.all false
set_option maxRecDepth 100000
set_option maxHeartbeats 4000000
set_option exponentiation.threshold 10000
namespace F3
open PySem PySem.Spec PyProof.Rows L2 FX RM PB KD KS
theorem call_len_seqK {X : Cx} (K : PySem.W.Frag) (e : X.K = K := by rfl) : CallR X (.builtin "len") (fun xs H Q => ∃ p ys, xs = [V.ref p] ∧ (SqL K H p ys ∨ SqT K H p ys) ∧ Q (V.int ys.length) H) := e ▸ call_len_seq
theorem noLs_rD (ds : List (Int × Int)) : noLs (ds.map rD) = true := noLs_all fun d hd => by
  obtain ⟨x, _, rfl⟩ := List.mem_map.mp hd
  exact noL_r x
theorem app_dp {K : PySem.W.Frag} {H : Hp} {c : Addr} {zs : List V} {v : V} {d : PyData} {ds : List PyData} (e : H c = some (.lst zs)) (hZ : DpAll K H zs ds) (hv : Dp K H v d) (n : noLs (ds ++ [d]) = true) : DpAll K (upd H c (.lst (zs ++ [v]))) (zs ++ [v]) (ds ++ [d]) :=
  DpAll_but e (fun b u n e => by rw [upd_ne n]; exact e) n (DpAll_snoc hv hZ)
theorem mod_at {α : Type} {xs : List α} {i : Nat} {v : α} (h : xs[(i + 1) % xs.length]? = some v) : atI xs ((0 + (i : Int) + 1) % (xs.length : Int)) = some v := by
  have e : (0 + (i : Int) + 1) % (xs.length : Int) = (((i + 1) % xs.length : Nat) : Int) := by
    rw [Int.zero_add, Int.natCast_emod]; rfl
  rw [e]; exact atI_nat h
theorem step_ne0 {x y : Pl} (hx : RatP x) (hy : RatP y) (ne : x ≠ y) : (stepF x y).1.1 * (stepF x y).2.2 ≠ 0 ∨ (stepF x y).2.1 * (stepF x y).1.2 ≠ 0 := by
  have r1 : IsRat (stepF x y).1 := rat_sub hy.1 hx.1
  have r2 : IsRat (stepF x y).2 := rat_sub hy.2 hx.2
  have p1 := r1.1
  have p2 := r2.1
  rcases step_nz hx hy ne with h | h
  · exact .inl (Int.mul_ne_zero h (by omega))
  · exact .inr (Int.mul_ne_zero h (by omega))
def wayG (n : Nat) (s : Pl × Pl) : List (Int × Int) := if n = 2 then [norS s.1 s.2, dirS s.1 s.2] else [norS s.1 s.2]
theorem flat_snoc {α β : Type} (g : α → List β) (l : List α) {i : Nat} {x : α} (e : l[i]? = some x) : (l.take (i + 1)).flatMap g = (l.take i).flatMap g ++ g x := by
  rw [List.take_add_one, e, List.flatMap_append]; simp
section
variable {P : Program} {w : World} {K : PySem.W.Frag} {mg : Str → Option Value} {base : Heap}
abbrev s_law_halves : Stmt := topS 81
theorem sc_law_halves : FnScope ["_law_corners", "_law_rows", "_law_k", "_law_one", "_law_other", "_law_x", "_law_y", "_law_way_here", "_law_row"] ["_law_corners"] (defScope s_law_halves) := ⟨rfl, rfl, rfl, by decide +kernel, rfl, by decide +kernel, by decide +kernel⟩
theorem ok_law_halves (T : Txt K mg "_law_halves" s_law_halves) (G_law_less : DefOk P w K mg base CX0 "_law_less" 3 ["_law_one", "_law_other"] (spBin K rsub)) (G_law_direction : DefOk P w K mg base CX0 "_law_direction" 2 ["_law_x", "_law_y"] (spWd K)) (G_law_top : DefOk P w K mg base CX0 "_law_top" 5 ["_law_corners", "_law_direction_here"] (spTopL K topC)) (mlen : mg "len" = none) (mrange : mg "range" = none) : DefOk P w K mg base CX0 "_law_halves" 6 ["_law_corners"] (spHalvesL K fun cs => (wayF cs).map (topH cs)) := by
  obtain ⟨f, fd, F, gf⟩ := T
  refine ⟨f, fd, gf, F.kp, F.binds (fun _ _ _ _ _ _ us hl => match us, hl with | [_], _ => rfl), F.ok sc_law_halves (fun vs H Q E h => ?_) (fun cdv A outer s H vs Q E hr h => ?_)⟩
  · obtain ⟨v, cs, rfl, _⟩ := h; rfl
  · obtain ⟨v, cs, rfl, hv, hG, k⟩ := h
    refine ⟨_, (pss_cons (ps_set (i := 1) sc_law_halves.nd rfl (.inl rfl) (pe_lst pa_nil)) (pss_cons (ps_if (pt_cmpR op_eq (pe_callB call_len_seq (by rfl) mlen PySem.boot_len (pa_cons (pv 0) pa_nil)) pe_int (nomark _)) (pss_one (ps_set (i := 1) sc_law_halves.nd rfl (.inl rfl) (pe_lst (pa_cons (pe_tup (pa_cons pe_int (pa_cons pe_int pa_nil))) (pa_cons (pe_tup (pa_cons pe_int (pa_cons pe_int pa_nil))) (pa_cons (pe_tup (pa_cons (pe_un un_neg pe_int) (pa_cons pe_int pa_nil))) (pa_cons (pe_tup (pa_cons pe_int (pa_cons (pe_un un_neg pe_int) pa_nil))) pa_nil))))))) (pss_one (ps_for PassesOwn.never rfl (pi_range1 (by rfl) mrange (pa_cons (pe_callB call_len_seq (by rfl) mlen PySem.boot_len (pa_cons (pv 0) pa_nil)) pa_nil)) (pg_name (i := 2) sc_law_halves.nd rfl (.inl rfl)) (pss_cons (ps_par (i := 3) (j := 4) rfl sc_law_halves.nd rfl rfl (by decide) rfl rfl (pa_cons (pe_ix ix_tup (pv 0) (pv 2) (fun _ _ => rfl)) (pa_cons (pe_ix ix_tup (pv 0) (pe_op op_mod (pe_op op_add (pv 2) pe_int) (pe_callB call_len_seq (by rfl) mlen PySem.boot_len (pa_cons (pv 0) pa_nil))) (fun _ _ => rfl)) pa_nil)) rfl) (pss_cons (ps_par (i := 5) (j := 6) rfl sc_law_halves.nd rfl rfl (by decide) rfl rfl (pa_cons (pe_def G_law_less (hr.mono (by decide)) (by rfl) (pa_cons (pe_ix ix_it (pv 4) pe_int (fun _ _ => rfl)) (pa_cons (pe_ix ix_it (pv 3) pe_int (fun _ _ => rfl)) pa_nil))) (pa_cons (pe_def G_law_less (hr.mono (by decide)) (by rfl) (pa_cons (pe_ix ix_it (pv 4) pe_int (fun _ _ => rfl)) (pa_cons (pe_ix ix_it (pv 3) pe_int (fun _ _ => rfl)) pa_nil))) pa_nil)) rfl) (pss_cons (ps_set (i := 7) sc_law_halves.nd rfl (.inl rfl) (pe_def G_law_direction (hr.mono (by decide)) (by rfl) (pa_cons (pe_op op_mulW (pe_ix ix_it (pv 5) pe_int (fun _ _ => rfl)) (pe_ix ix_it (pv 6) pe_int (fun _ _ => rfl))) (pa_cons (pe_op op_mulW (pe_ix ix_it (pv 6) pe_int (fun _ _ => rfl)) (pe_ix ix_it (pv 5) pe_int (fun _ _ => rfl))) pa_nil)))) (pss_cons (ps_expr (pe_bm PySem.F.plainAttrs_list PySem.F.slot_list_append PySem.F.type_list_append mt_append (pv 1) (pa_cons (pe_tup (pa_cons (pe_ix ix_it (pv 7) pe_int (fun _ _ => rfl)) (pa_cons (pe_un un_neg (pe_ix ix_it (pv 7) pe_int (fun _ _ => rfl))) pa_nil))) pa_nil))) (pss_one (ps_if (pt_cmpR op_eq (pe_callB call_len_seq (by rfl) mlen PySem.boot_len (pa_cons (pv 0) pa_nil)) pe_int (nomark _)) (pss_one (ps_expr (pe_bm PySem.F.plainAttrs_list PySem.F.slot_list_append PySem.F.type_list_append mt_append (pv 1) (pa_cons (pv 7) pa_nil)))) pss_nil))))))))) (pss_one (ps_ret (pe_lc (own := [("_law_row", 8)]) rfl sc_law_halves.nd (pi_seq (pv 1)) (blkOk_by (N := ["_law_corners", "_law_rows", "_law_k", "_law_one", "_law_other", "_law_x", "_law_y", "_law_way_here", "_law_row"]) (sc := defScope s_law_halves) (by decide +kernel)) (fun _ _ _ _ _ => (pg_name (i := 8) sc_law_halves.nd rfl (.inl rfl))) (fun _ _ _ _ _ => pts_nil) (fun _ _ _ _ _ => (pe_tup (pa_cons (pv 8) (pa_cons (pe_def G_law_top (hr.mono (by decide)) (by rfl) (pa_cons (pv 0) (pa_cons (pv 8) pa_nil))) pa_nil))))))))), ?_⟩
    obtain ⟨p, xs, rfl, hS, hA⟩ := dp_tup hv
    have lx : xs.length = cs.length := by rw [DpAll_len hA, List.length_map]
    have l30 := hG.l
    have l0 : 0 < cs.length := List.length_pos_iff.mpr hG.poly.ne
    have wz := way_sz hG
    have wl := way_len hG
    have fin : ∀ (H1 : Hp) (D1 : Addr) (ys : List V) (y2 y3 y4 y5 y6 y7 y8 : Option V), Same H H1 → H1 D1 = some (.lst ys) → DpAll K H1 ys ((wayF cs).map rD) →
        tRet (tLc (iSeq K (tVar 1)) (gName 8) tYes (tTup (tCons (tVar 8) (tCons (tCall (spTopL K topC) [] E0 (tCons (tVar 0) (tCons (tVar 8) tNil))) tNil))) [8]) { nx := fun _ H' => Q .non H', rt := Q } [some (.ref p), some (.ref D1), y2, y3, y4, y5, y6, y7, y8] H1 := fun H1 D1 ys y2 y3 y4 y5 y6 y7 y8 s1 e1 hY => by
      have ly : ys.length = (wayF cs).length := by rw [DpAll_len hY, List.length_map]
      have hS1 : SqL K H1 D1 ys := .inl (.inl e1)
      refine .inl ⟨_, rfl, D1, rfl, ⟨_, hS1⟩, ?_⟩
      dsimp only
      refine lc_all (K := K) (Q := fun v H => Q v H) (walk_list (K := K) (a := D1) (xs := ys)) (fun i => hD (topH cs ((wayF cs).getD i (0, 0)))) (fun i => noL_h _) (small1000 (by omega)) (fun H' s => s.seq hS1) ZP.yat_same ?_ ?_
      · intro i x H0 H2 R il s2 hy hR
        obtain ⟨rfl, ex⟩ := hy
        obtain ⟨d, ed, hd⟩ := dpall_at hY ex
        refine ⟨rfl, x, rfl, .ref p, rfl, x, rfl, .ref p, x, cs, d, rfl, Dp_same (s1.trans s2) hv, Dp_same s2 hd, wz d (List.mem_of_getElem? ed), hG, fun H3 z s3 hz => ⟨(by show 2 ≤ sizeLine; decide), fun t nt => ?_⟩⟩
        have sn := PB.same_new (o := .tup [x, z]) nt
        refine hR _ _ (s3.trans sn) ?_
        rw [getD_of ed]
        exact dp_mk2 nt (Dp_same (s2.trans s3) hd) hz
      · intro D2 H2 zs s2 nD2 eD2 hZ
        refine k H2 D2 zs (s1.trans s2) (none_of s1 nD2) eD2 ?_
        rw [range_map (wayF cs) (0, 0) (g := fun d => hD (topH cs d)) ly] at hZ
        rw [List.map_map]
        exact hZ
    refine ⟨(by show 0 ≤ sizeLine; decide), fun c nc => ?_⟩
    have s0 := PB.same_new (o := .lst []) nc
    refine ⟨_, rfl, p, xs, rfl, .inr (same_t s0 hS), rfl, _, rfl, ite2 (fun e => ?_) (fun e => ?_)⟩
    · have l1 : cs.length = 1 := by have := V.int.inj (of_decide_eq_true e); omega
      have ew : wayF cs = AX4 := if_pos l1
      dsimp only [tSeq, tAsg, tLst, gName]
      refine layA (K := K) _ _ _ fun H1 vs s1 hvs => ⟨by rw [DpAll_len hvs]; decide, fun l nl => ?_⟩
      have sl := PB.same_new (o := .lst vs) nl
      refine fin _ l vs none none none none none none none ((s0.trans s1).trans sl) upd_same ?_
      rw [ew]
      exact DpAll_same sl hvs
    · have l1 : cs.length ≠ 1 := fun z => e (decide_eq_true (by rw [lx, z]; rfl))
      have l2 : 2 ≤ cs.length := by omega
      have ew : wayF cs = (roundF cs).flatMap (wayG cs.length) := if_neg l1
      refine ⟨_, rfl, p, xs, rfl, .inr (same_t s0 hS), _, rfl, by omega, by omega, for_range (lo := 0) (n := (xs.length : Int).toNat) (fun i σ H' => ∃ (ys : List V) (y2 y3 y4 y5 y6 y7 y8 : Option V), σ = [some (.ref p), some (.ref c), y2, y3, y4, y5, y6, y7, y8] ∧ Same H H' ∧ H' c = some (.lst ys) ∧ DpAll K H' ys ((((roundF cs).take i).flatMap (wayG cs.length)).map rD))
        ⟨[], none, none, none, none, none, none, none, rfl, s0, upd_same, .nil⟩ ?_ ?_⟩
      · rintro i σ H1 hi ⟨ys, y2, y3, y4, y5, y6, y7, y8, rfl, s1, eC, hY⟩
        have il : i < cs.length := by omega
        have er := round_at.mpr ⟨getD_at il, getD_at (cs := cs) (k := (i + 1) % cs.length) (Nat.mod_lt _ l0)⟩
        generalize cs.getD i zP = c1 at er
        generalize cs.getD ((i + 1) % cs.length) zP = c2 at er
        obtain ⟨e1, e2⟩ := round_at.mp er
        have ms := List.mem_of_getElem? er
        have ne := round_ne hG.poly l2 ms
        obtain ⟨N, n0, zN, hN⟩ := hG.N
        have m1 := List.mem_of_getElem? e1
        have m2 := List.mem_of_getElem? e2
        have g1 := hG.g _ m1
        have g2 := hG.g _ m2
        obtain ⟨zd, zs⟩ := dir_sz2 n0 zN (hN _ m1).1 (hN _ m2).1 (hN _ m1).2 (hN _ m2).2 ne
        have x1e : xs[i]? = some (xs[i]'(by omega)) := List.getElem?_eq_getElem (by omega)
        have jl : (i + 1) % cs.length < cs.length := Nat.mod_lt _ l0
        have x2e : xs[(i + 1) % xs.length]? = some (xs[(i + 1) % xs.length]'(by rw [lx]; exact jl)) := List.getElem?_eq_getElem (by rw [lx]; exact jl)
        generalize xs[i]'(by omega) = x1 at x1e
        generalize xs[(i + 1) % xs.length]'(by rw [lx]; exact jl) = x2 at x2e
        have h1 := Dp_same s1 (dp_pAt hA x1e e1)
        have h2 := Dp_same s1 (dp_pAt hA (by rw [← lx]; exact x2e) e2)
        have hS1 := same_t s1 hS
        refine ⟨_, rfl, _, rfl, p, xs, _, x1, rfl, rfl, hS1, at0 x1e, _, rfl, _, rfl, _, _, rfl, rfl, _, rfl, p, xs, rfl, .inr hS1, _, _, rfl, rfl, (by show (0 : Int) < _; omega), p, xs, _, x2, rfl, rfl, hS1, mod_at x2e, _, _, rfl, ?_⟩
        obtain ⟨a1, b1, k1, h1x, h1y⟩ := pla_t h1
        obtain ⟨a2, b2, k2, h2x, h2y⟩ := pla_t h2
        have q1 := p6 (n := 2000) g1 (by decide)
        have q2 := p6 (n := 2000) g2 (by decide)
        refine ⟨_, rfl, _, _, 0, _, rfl, k2, rfl, _, rfl, _, _, 0, _, rfl, k1, rfl, _, _, _, _, rfl, h2x, h1x, g2.1.1, g1.1.1, q2.1, q1.1, fun H2 ux s2 hx => ?_⟩
        refine ⟨_, rfl, _, _, 1, _, rfl, k2.same s2, rfl, _, rfl, _, _, 1, _, rfl, k1.same s2, rfl, _, _, _, _, rfl, Dp_same s2 h2y, Dp_same s2 h1y, g2.1.2, g1.1.2, q2.2, q1.2, fun H3 uy s3 hy => ⟨_, _, rfl, ?_⟩⟩
        have cx := cou_r (Dp_same s3 hx)
        have cy := cou_r hy
        have z1 : Sz 301 (rsub c2.1 c1.1).1 ∧ Sz 301 (rsub c2.1 c1.1).2 := zs.1
        have z2 : Sz 301 (rsub c2.2 c1.2).1 ∧ Sz 301 (rsub c2.2 c1.2).2 := zs.2
        refine ⟨_, rfl, _, _, 0, _, rfl, cx, rfl, _, rfl, _, _, 1, _, rfl, cy, rfl, _, _, rfl, rfl, wide_mul z1.1 z2.2 (by decide) (by decide) (by decide), _, rfl, _, _, 0, _, rfl, cy, rfl, _, rfl, _, _, 1, _, rfl, cx, rfl, _, _, rfl, rfl, wide_mul z2.1 z1.2 (by decide) (by decide) (by decide), _, _, rfl, step_ne0 g1.1 g2.1 ne, sz_mono (sz_mul z1.1 z2.2) (by decide), sz_mono (sz_mul z2.1 z1.2) (by decide), fun H4 uw s4 hw => ?_⟩
        have hw : Dp K H4 uw (rD (dirS c1 c2)) := hw
        have cw := cou_r hw
        have s14 := (s2.trans s3).trans s4
        have eC4 := s14 _ _ eC
        have hY4 := DpAll_same s14 hY
        have hS4 := same_t s14 hS1
        have sH4 := s1.trans s14
        have lys : ys.length ≤ 58 := by
          rw [DpAll_len hY, List.length_map]
          have : ∀ (l : List (Pl × Pl)), (l.flatMap (wayG cs.length)).length ≤ 2 * l.length := fun l => by
            induction l with
            | nil => simp
            | cons a l ih =>
              rw [List.flatMap_cons, List.length_append, List.length_cons]
              have : (wayG cs.length a).length ≤ 2 := by unfold wayG; split <;> simp
              omega
          have h := this ((roundF cs).take i)
          rw [List.length_take, round_len] at h
          omega
        have st := flat_snoc (wayG cs.length) (roundF cs) er
        rw [st]
        clear st cx cy hx hy k1 k2 h1x h1y h2x h2y h1 h2
        refine ⟨_, rfl, .inl ⟨rfl, _, .inl (.inl eC4)⟩, _, rfl, _, _, 1, _, rfl, cw, rfl, _, rfl, _, _, 0, _, rfl, cw, rfl, _, rfl, (by show 2 ≤ sizeLine; decide), fun t nt => ?_⟩
        have sn := PB.same_new (o := .tup [.int (dirS c1 c2).2, .int (-(dirS c1 c2).1)]) nt
        have eC5 := sn _ _ eC4
        have hn5 : Dp K (upd H4 t (.tup [.int (dirS c1 c2).2, .int (-(dirS c1 c2).1)])) (.ref t) (rD (norS c1 c2)) := dp_mkr nt
        have hw5 := Dp_same sn hw
        have hY5 := DpAll_same sn hY4
        have sH5 := sH4.trans sn
        have hS5 := same_t sn hS4
        generalize upd H4 t (.tup [.int (dirS c1 c2).2, .int (-(dirS c1 c2).1)]) = H5 at eC5 hn5 hw5 hY5 sH5 hS5 ⊢
        refine ⟨c, ys, .ref t, rfl, rfl, eC5, small1000 (by omega), ?_⟩
        have hY6 := app_dp eC5 hY5 hn5 (by have := noLs_rD ((((roundF cs).take i).flatMap (wayG cs.length)) ++ [norS c1 c2]); rw [List.map_append] at this; exact this)
        have sH6 : Same H (upd H5 c (.lst (ys ++ [.ref t]))) := same_upd sH5 nc
        have hw6 : Dp K (upd H5 c (.lst (ys ++ [.ref t]))) uw (rD (dirS c1 c2)) := Dp_but eC5 (fun b u n e => by rw [upd_ne n]; exact e) (noL_r _) hw5
        have eC6 : (upd H5 c (.lst (ys ++ [.ref t]))) c = some (.lst (ys ++ [.ref t])) := upd_same
        generalize upd H5 c (.lst (ys ++ [.ref t])) = H6 at hY6 sH6 hw6 eC6 ⊢
        refine ⟨_, rfl, p, xs, rfl, .inr (same_t sH6 hS), rfl, _, rfl, ite2 (fun e3 => ?_) (fun e3 => ?_)⟩
        · have n2 : cs.length = 2 := by have := V.int.inj (of_decide_eq_true e3); omega
          have eg : wayG cs.length (c1, c2) = [norS c1 c2, dirS c1 c2] := if_pos n2
          rw [eg]
          refine ⟨_, rfl, .inl ⟨rfl, _, .inl (.inl eC6)⟩, _, rfl, c, _, uw, rfl, rfl, eC6, small1000 (by rw [List.length_append]; simp; omega), _, _, _, _, _, _, _, _, rfl, same_upd sH6 nc, upd_same, ?_⟩
          have hY7 := app_dp eC6 hY6 hw6 (by have := noLs_rD (((((roundF cs).take i).flatMap (wayG cs.length)) ++ [norS c1 c2]) ++ [dirS c1 c2]); rw [List.map_append, List.map_append] at this; exact this)
          rw [List.map_append]
          rw [List.append_assoc (List.map rD _)] at hY7
          exact hY7
        · have n2 : cs.length ≠ 2 := fun z => e3 (decide_eq_true (by rw [lx, z]; rfl))
          have eg : wayG cs.length (c1, c2) = [norS c1 c2] := if_neg n2
          rw [eg]
          refine ⟨_, _, _, _, _, _, _, _, rfl, sH6, eC6, ?_⟩
          rw [List.map_append]
          exact hY6
      · rintro σ H1 ⟨ys, y2, y3, y4, y5, y6, y7, y8, rfl, s1, eC, hY⟩
        refine fin H1 c ys _ _ _ _ _ _ _ s1 eC ?_
        rw [List.take_of_length_le (by rw [round_len]; omega)] at hY
        rw [ew]; exact hY
abbrev s_law_due_halves : Stmt := topS 93
theorem sc_law_due_halves : FnScope ["_law_corners", "_law_rows"] ["_law_corners"] (defScope s_law_due_halves) := ⟨rfl, rfl, rfl, by decide +kernel, rfl, by decide +kernel, by decide +kernel⟩
theorem ok_law_due_halves (T : Txt K mg "_law_due_halves" s_law_due_halves) (G_law_halves : DefOk P w K mg base CX0 "_law_halves" 6 ["_law_corners"] (spHalvesL K fun cs => (wayF cs).map (topH cs))) (mlen : mg "len" = none) : DefOk P w K mg base CX0 "_law_due_halves" 7 ["_law_corners"] (spHalvesL K halvesF) := by
  obtain ⟨f, fd, F, gf⟩ := T
  refine ⟨f, fd, gf, F.kp, F.binds (fun _ _ _ _ _ _ us hl => match us, hl with | [_], _ => rfl), F.ok sc_law_due_halves (fun vs H Q E h => ?_) (fun cdv A outer s H vs Q E hr h => ?_)⟩
  · obtain ⟨v, cs, rfl, _⟩ := h; rfl
  · obtain ⟨v, cs, rfl, hv, hG, k⟩ := h
    refine ⟨_, (pss_cons (ps_set (i := 1) sc_law_due_halves.nd rfl (.inl rfl) (pe_def G_law_halves (hr.mono (by decide)) (by rfl) (pa_cons (pv 0) pa_nil))) (pss_one (ps_ret (pe_ifExp (pt_cmpR op_eq (pe_callB call_len_seq (by rfl) mlen PySem.boot_len (pa_cons (pv 0) pa_nil)) pe_int (nomark _)) (pe_lst (pa_cons (pe_ix ix_list (pv 1) pe_int (fun _ _ => rfl)) (pa_cons (pe_ix ix_list (pv 1) pe_int (fun _ _ => rfl)) (pa_cons (pe_ix ix_list (pv 1) pe_int (fun _ _ => rfl)) (pa_cons (pe_ix ix_list (pv 1) pe_int (fun _ _ => rfl)) pa_nil))))) (pv 1))))), ?_⟩
    obtain ⟨p, xs, rfl, hS, hA⟩ := dp_tup hv
    have lx : xs.length = cs.length := by rw [DpAll_len hA, List.length_map]
    refine ⟨_, rfl, .ref p, cs, rfl, hv, hG, fun H1 D ys s1 nD eD hY => ?_⟩
    refine ⟨_, rfl, p, xs, rfl, .inr (same_t s1 hS), rfl, _, rfl, ite2 (fun e => ?_) (fun e => ?_)⟩
    · have l2 : cs.length = 2 := by have := V.int.inj (of_decide_eq_true e); omega
      obtain ⟨a, b, rfl⟩ := len_two' l2
      dsimp only at hY
      rw [way_2 hG.poly] at hY
      obtain ⟨y0, y1, y2, y3, rfl⟩ : ∃ y0 y1 y2 y3, ys = [y0, y1, y2, y3] := by
        match ys, DpAll_len hY with
        | [y0, y1, y2, y3], _ => exact ⟨y0, y1, y2, y3, rfl⟩
      have dl : SqL K H1 D [y0, y1, y2, y3] := .inl (.inl eD)
      refine ⟨_, rfl, D, _, 0, y0, rfl, rfl, dl, rfl, _, rfl, D, _, 2, y2, rfl, rfl, dl, rfl, _, rfl, D, _, 1, y1, rfl, rfl, dl, rfl, _, rfl, D, _, 3, y3, rfl, rfl, dl, rfl, (by show 4 ≤ sizeLine; decide), fun l nl => ?_⟩
      have sl := PB.same_new (o := .lst [y0, y2, y1, y3]) nl
      refine k _ l _ (s1.trans sl) (none_of s1 nl) upd_same ?_
      rw [due_2 hG.poly]
      cases hY with
      | cons h0 hY => cases hY with
        | cons h1 hY => cases hY with
          | cons h2 hY => cases hY with
            | cons h3 hY => exact DpAll_same sl (.cons h0 (.cons h2 (.cons h1 (.cons h3 .nil))))
    · have l2 : cs.length ≠ 2 := fun z => e (decide_eq_true (by rw [lx, z]; rfl))
      dsimp only at hY
      rw [way_not2 hG.poly l2] at hY
      exact ⟨_, rfl, k H1 D ys s1 nD eD hY⟩
abbrev s_law_due_sides : Stmt := topS 94
theorem sc_law_due_sides : FnScope ["_law_corners", "_law_k"] ["_law_corners"] (defScope s_law_due_sides) := ⟨rfl, rfl, rfl, by decide +kernel, rfl, by decide +kernel, by decide +kernel⟩
theorem ok_law_due_sides (T : Txt K mg "_law_due_sides" s_law_due_sides) (mlen : mg "len" = none) (mrange : mg "range" = none) (mtuple : mg "tuple" = none) : DefOk P w K mg base CX0 "_law_due_sides" 1 ["_law_corners"] (spDueS K) := by
  obtain ⟨f, fd, F, gf⟩ := T
  refine ⟨f, fd, gf, F.kp, F.binds (fun _ _ _ _ _ _ us hl => match us, hl with | [_], _ => rfl), F.ok sc_law_due_sides (fun vs H Q E h => ?_) (fun cdv A outer s H vs Q E hr h => ?_)⟩
  · obtain ⟨v, cs, rfl, _⟩ := h; rfl
  · obtain ⟨v, cs, rfl, hv, hG, k⟩ := h
    refine ⟨_, (pss_cons (ps_if (pt_cmpR op_eq (pe_callB call_len_seq (by rfl) mlen PySem.boot_len (pa_cons (pv 0) pa_nil)) pe_int (nomark _)) (pss_one (ps_ret (pe_tup (pa_cons (pv 0) pa_nil)))) pss_nil) (pss_one (ps_ret (pe_callTy call_tuple_of (by rfl) mtuple (by decide +kernel) (pa_cons (pe_lc (own := [("_law_k", 1)]) rfl sc_law_due_sides.nd (pi_range1 (by rfl) mrange (pa_cons (pe_ifExp (pt_cmpR op_gt (pe_callB call_len_seq (by rfl) mlen PySem.boot_len (pa_cons (pv 0) pa_nil)) pe_int (nomark _)) (pe_callB call_len_seq (by rfl) mlen PySem.boot_len (pa_cons (pv 0) pa_nil)) pe_int) pa_nil)) (blkOk_by (N := ["_law_corners", "_law_k"]) (sc := defScope s_law_due_sides) (by decide +kernel)) (fun _ _ _ _ _ => (pg_name (i := 1) sc_law_due_sides.nd rfl (.inl rfl))) (fun _ _ _ _ _ => pts_nil) (fun _ _ _ _ _ => (pe_tup (pa_cons (pe_ix (ix_tupK K) (pv 0) (pv 1) (fun _ _ => rfl)) (pa_cons (pe_ix (ix_tupK K) (pv 0) (pe_op op_mod (pe_op op_add (pv 1) pe_int) (pe_callB (call_len_seqK K) (by rfl) mlen PySem.boot_len (pa_cons (pv 0) pa_nil))) (fun _ _ => rfl)) pa_nil))))) pa_nil))))), ?_⟩
    obtain ⟨p, xs, rfl, hS, hA⟩ := dp_tup hv
    have lx : xs.length = cs.length := by rw [DpAll_len hA, List.length_map]
    have l30 := hG.l
    have l0 : 0 < cs.length := List.length_pos_iff.mpr hG.poly.ne
    refine ⟨_, rfl, p, xs, rfl, .inr hS, rfl, _, rfl, ite2 (fun e => ?_) (fun e => ?_)⟩
    · have l2 : cs.length = 2 := by have := V.int.inj (of_decide_eq_true e); omega
      obtain ⟨a, b, rfl⟩ := len_two' l2
      refine ⟨_, rfl, (by show 1 ≤ sizeLine; decide), fun t nt => ?_⟩
      have sn := PB.same_new (o := .tup [.ref p]) nt
      exact k _ _ sn (.tup (.inl (.inl upd_same)) (.cons (Dp_same sn hv) .nil))
    · have l2 : cs.length ≠ 2 := fun z => e (decide_eq_true (by rw [lx, z]; rfl))
      refine ⟨_, rfl, p, xs, rfl, .inr hS, _, _, rfl, rfl, _, rfl, ite2 (fun e3 => ?_) (fun e3 => ?_)⟩
      · have l3 : 3 ≤ cs.length := by have := of_decide_eq_true e3; omega
        have eS : sidesF cs = roundF cs := if_neg (by omega)
        refine ⟨_, rfl, p, xs, rfl, .inr hS, _, rfl, by omega, by omega, ?_⟩
        dsimp only
        refine lc_all (K := K) (Q := fun v H1 => ∃ p ys, [v] = [V.ref p] ∧ ((SqL K H1 p ys ∧ ∀ l, H1 l = none → Q (.ref l) (upd H1 l (.tup ys))) ∨ (SqT K H1 p ys ∧ Q (.ref p) H1))) (walk_range (lo := 0) (n := (xs.length : Int).toNat)) (fun i => sD ((roundF cs).getD i (zP, zP))) (fun i => noL_s _) (small1000 (by omega)) (fun H' s => trivial) (fun i H0 x H' h => by rw [h.1]; exact fun _ _ z => z) ?_ ?_
        · intro i x H0 H2 R il s2 hy hR
          obtain ⟨rfl, rfl⟩ := hy
          have il : i < cs.length := by omega
          have er := round_at.mpr ⟨getD_at il, getD_at (cs := cs) (k := (i + 1) % cs.length) (Nat.mod_lt _ l0)⟩
          rw [getD_of er] at hR
          generalize cs.getD i zP = c1 at er hR
          generalize cs.getD ((i + 1) % cs.length) zP = c2 at er hR
          obtain ⟨e1, e2⟩ := round_at.mp er
          have x1e : xs[i]? = some (xs[i]'(by omega)) := List.getElem?_eq_getElem (by omega)
          have jl : (i + 1) % cs.length < cs.length := Nat.mod_lt _ l0
          have x2e : xs[(i + 1) % xs.length]? = some (xs[(i + 1) % xs.length]'(by rw [lx]; exact jl)) := List.getElem?_eq_getElem (by rw [lx]; exact jl)
          generalize xs[i]'(by omega) = x1 at x1e
          generalize xs[(i + 1) % xs.length]'(by rw [lx]; exact jl) = x2 at x2e
          have h1 := Dp_same s2 (dp_pAt hA x1e e1)
          have h2 := Dp_same s2 (dp_pAt hA (by rw [← lx]; exact x2e) e2)
          have hS1 := same_t s2 hS
          refine ⟨rfl, _, rfl, _, rfl, p, xs, _, x1, rfl, rfl, hS1, at0 x1e, _, rfl, _, rfl, _, _, rfl, rfl, _, rfl, p, xs, rfl, .inr hS1, _, _, rfl, rfl, (by show (0 : Int) < _; omega), p, xs, _, x2, rfl, rfl, hS1, mod_at x2e, (by show 2 ≤ sizeLine; decide), fun t nt => ?_⟩
          exact hR _ _ (PB.same_new nt) (dp_mk2 nt h1 h2)
        · intro D H2 zs s2 nD eD hZ
          refine ⟨D, zs, rfl, .inl ⟨.inl (.inl eD), fun l nl => ?_⟩⟩
          have sl := PB.same_new (o := .tup zs) nl
          rw [range_map (roundF cs) (zP, zP) (g := sD) (by rw [round_len]; omega)] at hZ
          refine k _ _ (s2.trans sl) (.tup (.inl (.inl upd_same)) ?_)
          rw [eS]
          exact DpAll_same sl hZ
      · have l1 : cs.length = 1 := by
          have : ¬ 2 < cs.length := fun z => e3 (decide_eq_true (by omega))
          omega
        obtain ⟨a, rfl⟩ := List.length_eq_one_iff.mp l1
        refine ⟨_, rfl, by omega, by omega, ?_⟩
        dsimp only
        refine lc_all (K := K) (Q := fun v H1 => ∃ p ys, [v] = [V.ref p] ∧ ((SqL K H1 p ys ∧ ∀ l, H1 l = none → Q (.ref l) (upd H1 l (.tup ys))) ∨ (SqT K H1 p ys ∧ Q (.ref p) H1))) (walk_range (lo := 0) (n := (0 : Int).toNat)) (fun i => .none) (fun i => rfl) (small1000 (by decide)) (fun H' s => trivial) (fun i H0 x H' h => by rw [h.1]; exact fun _ _ z => z) ?_ ?_
        · intro i x H0 H2 R il
          exact absurd il (Nat.not_lt_zero i)
        · intro D H2 zs s2 nD eD hZ
          refine ⟨D, zs, rfl, .inl ⟨.inl (.inl eD), fun l nl => ?_⟩⟩
          have sl := PB.same_new (o := .tup zs) nl
          exact k _ _ (s2.trans sl) (.tup (.inl (.inl upd_same)) (DpAll_same sl hZ))
end
end F3
set_option Elab.async false
set_option linter.all false
set_option maxRecDepth 100000
set_option maxHeartbeats 4000000
set_option exponentiation.threshold 10000
namespace F3
open PySem PySem.Spec PyProof.Rows L2 FX RM PB KD KS
/-! places in ascending order, each once: there is such a row -/
theorem ltP_tri {a b : Pl} (ha : RatP a) (hb : RatP b) : ltP a b ∨ a = b ∨ ltP b a := by
  unfold ltP
  rcases Int.lt_trichotomy (a.1.1 * b.1.2) (b.1.1 * a.1.2) with h | h | h
  · exact .inl (.inl h)
  · have e := rat_eq ha.1 hb.1 h
    rcases Int.lt_trichotomy (a.2.1 * b.2.2) (b.2.1 * a.2.2) with k | k | k
    · exact .inl (.inr ⟨e, k⟩)
    · exact .inr (.inl (Prod.ext e (rat_eq ha.2 hb.2 k)))
    · exact .inr (.inr (.inr ⟨e.symm, k⟩))
  · exact .inr (.inr (.inl h))
theorem lx_tr {a b c : G4.Pt} (h : G4.lx a b) (k : G4.lx b c) : G4.lx a c := by unfold G4.lx at *; omega
theorem lx_ir {a : G4.Pt} : ¬ G4.lx a a := by unfold G4.lx; omega
theorem ltP_tr {N : Int} (n0 : 0 < N) {a b c : Pl} (ha : Bot N a) (hb : Bot N b) (hc : Bot N c) (h : ltP a b) (k : ltP b c) : ltP a c := by
  have t := lx_tr (sc_lx n0 ha hb h) (sc_lx n0 hb hc k)
  rcases ltP_tri ha.1 hc.1 with z | z | z
  · exact z
  · subst z; exact absurd t lx_ir
  · exact absurd (lx_tr t (sc_lx n0 hc ha z)) lx_ir
theorem srt_ins {N : Int} (n0 : 0 < N) {p : Pl} (hp : Bot N p) : ∀ {os : List Pl}, (∀ q ∈ os, Bot N q) → os.Pairwise ltP → ∃ os' : List Pl, os'.Pairwise ltP ∧ ∀ r, r ∈ os' ↔ r = p ∨ r ∈ os
  | [], _, _ => ⟨[p], by simp, fun r => by simp⟩
  | a :: l, hb, h => by
    obtain ⟨h1, h2⟩ := List.pairwise_cons.mp h
    have ba := hb a (List.mem_cons_self ..)
    have bl := fun q hq => hb q (List.mem_cons_of_mem a hq)
    rcases ltP_tri hp.1 ba.1 with z | z | z
    · refine ⟨p :: a :: l, List.pairwise_cons.mpr ⟨fun r hr => ?_, h⟩, fun r => by simp⟩
      rcases List.mem_cons.mp hr with e | hr
      · rw [e]; exact z
      · exact ltP_tr n0 hp ba (bl r hr) z (h1 r hr)
    · exact ⟨a :: l, h, fun r => by rw [z]; simp⟩
    · obtain ⟨os', k1, k2⟩ := srt_ins n0 hp bl h2
      refine ⟨a :: os', List.pairwise_cons.mpr ⟨fun r hr => ?_, k1⟩, fun r => ?_⟩
      · rcases (k2 r).mp hr with e | hr
        · rw [e]; exact z
        · exact h1 r hr
      · rw [List.mem_cons, k2, List.mem_cons]
        constructor
        · rintro (e | e | e)
          · exact .inr (.inl e)
          · exact .inl e
          · exact .inr (.inr e)
        · rintro (e | e | e)
          · exact .inr (.inl e)
          · exact .inl e
          · exact .inr (.inr e)
theorem srt_ex {ps : List Pl} (h : ∀ p ∈ ps, RatP p) : ∃ os, Srt ps os := by
  obtain ⟨N, n0, hB⟩ := bots_for h
  clear h
  have : ∀ l : List Pl, (∀ q ∈ l, Bot N q) → ∃ os : List Pl, os.Pairwise ltP ∧ ∀ r, r ∈ os ↔ r ∈ l := by
    intro l
    induction l with
    | nil => exact fun _ => ⟨[], by simp, fun r => Iff.rfl⟩
    | cons a l ih =>
      intro hb
      obtain ⟨os, k1, k2⟩ := ih fun q hq => hb q (List.mem_cons_of_mem _ hq)
      obtain ⟨os', j1, j2⟩ := srt_ins n0 (hb a (List.mem_cons_self ..)) (fun q hq => hb q (List.mem_cons_of_mem _ ((k2 q).mp hq))) k1
      exact ⟨os', j1, fun r => by rw [j2, k2, List.mem_cons]⟩
  obtain ⟨os, a, b⟩ := this ps hB
  exact ⟨os, a, b⟩
theorem hull_same {ps os os' : List Pl} (h : Srt ps os) (h' : Srt ps os') (hr : ∀ p ∈ ps, RatP p) (ne : ps ≠ []) : hullP os' = hullP os :=
  hull_between h h' hr ne (fun _ z => z) fun r hr => (h.m r).mp (hull_sub r hr)
/-! the places of the grid -/
def byR : List Rt := [(1, 2), (-1, 1000), (1, 1000)]
theorem byR_ok : ∀ r ∈ byR, IsRat r ∧ SzR 10 r ∧ ∃ k : Int, 0 < k ∧ r.2 * k = 1000 ∧ (r.1 * k).natAbs ≤ 1000 := by
  intro r hr
  unfold byR at hr
  rcases List.mem_cons.mp hr with rfl | hr
  · exact ⟨⟨by decide, by decide⟩, ⟨by show (1 : Int).natAbs < 2 ^ 10; decide, by show (2 : Int).natAbs < 2 ^ 10; decide⟩, 500, by decide, by decide, by decide⟩
  rcases List.mem_cons.mp hr with rfl | hr
  · exact ⟨⟨by decide, by decide⟩, ⟨by show (-1 : Int).natAbs < 2 ^ 10; decide, by show (1000 : Int).natAbs < 2 ^ 10; decide⟩, 1, by decide, by decide, by decide⟩
  · rw [List.mem_singleton.mp hr]
    exact ⟨⟨by decide, by decide⟩, ⟨by show (1 : Int).natAbs < 2 ^ 10; decide, by show (1000 : Int).natAbs < 2 ^ 10; decide⟩, 1, by decide, by decide, by decide⟩
theorem coord_ok {N O T : Int} (n0 : 0 < N) (zN : Sz 100 N) (zO : Sz 300 O) (zT : Sz 320 T) {p s : Rt} (hp : Rep p O N) (hs : Rep s T (N * 1000)) : IsRat (radd p s) ∧ SzR 400 (radd p s) := by
  have k1 : Rep p (O * 1000) (N * 1000) := rep_scale hp (by omega) (by grind)
  have k := rep_add1 k1 hs
  have t3 : Sz 10 1000 := by show (1000 : Int).natAbs < 2 ^ 10; decide
  obtain ⟨a, b⟩ := rep_sz k (sz_add (sz_mono (sz_mul zO t3) (by decide : 310 ≤ 320)) zT) (sz_mul zN t3)
  exact ⟨k.1, sz_mono a (by decide), sz_mono b (by decide)⟩
theorem good_by {N : Int} (n0 : 0 < N) (zN : Sz 100 N) {c1 c2 : Pl} (b1 : Bot N c1) (b2 : Bot N c2) (z1 : SzT 300 (sc N c1)) (z2 : SzT 300 (sc N c2)) {r : Rt} (hr : r ∈ byR) : GoodP 400 (byP c1 (rmul r (stepF c1 c2).1, rmul r (stepF c1 c2).2)) := by
  obtain ⟨ir, zr, k, k0, e, zk⟩ := byR_ok r hr
  obtain ⟨p1, p2⟩ := rep_c n0 b1
  obtain ⟨q1, q2⟩ := rep_c n0 b2
  have zk' : Sz 10 (r.1 * k) := by show (r.1 * k).natAbs < 2 ^ 10; omega
  have part : ∀ {s : Rt} {S : Int}, Rep s S N → Sz 301 S → Rep (rmul r s) (r.1 * k * S) (N * 1000) ∧ Sz 320 (r.1 * k * S) := fun {s S} hs zS =>
    ⟨rep_scale (rep_mul (rep_self ir) hs) (by omega) (by
      have : r.1 * S * (N * 1000) = r.1 * S * (N * (r.2 * k)) := by rw [e]
      rw [this]; grind), sz_mono (sz_mul zk' zS) (by decide)⟩
  obtain ⟨a1, a2⟩ := part (rep_sub1 q1 p1) (sz_sub z2.1 z1.1)
  obtain ⟨c1', c2'⟩ := part (rep_sub1 q2 p2) (sz_sub z2.2 z1.2)
  obtain ⟨i1, s1⟩ := coord_ok n0 zN z1.1 a2 p1 a1
  obtain ⟨i2, s2⟩ := coord_ok n0 zN z1.2 c2' p2 c1'
  exact ⟨⟨i1, i2⟩, ⟨s1, s2⟩⟩
def bump : Pl := ((1, 1000), (0, 1))
theorem bump_ok : RatP bump ∧ SzP 10 bump := ⟨⟨⟨by decide, by decide⟩, ⟨by decide, by decide⟩⟩, ⟨⟨by show (1 : Int).natAbs < 2 ^ 10; decide, by show (1000 : Int).natAbs < 2 ^ 10; decide⟩, ⟨by show (0 : Int).natAbs < 2 ^ 10; decide, by show (1 : Int).natAbs < 2 ^ 10; decide⟩⟩⟩
theorem good_bump {N : Int} (n0 : 0 < N) (zN : Sz 100 N) {c1 : Pl} (b1 : Bot N c1) (z1 : SzT 300 (sc N c1)) : GoodP 400 (byP c1 bump) := by
  obtain ⟨p1, p2⟩ := rep_c n0 b1
  have h1 : Rep bump.1 N (N * 1000) := rep_scale (rep_self bump_ok.1.1) (by omega) (by show (1 : Int) * (N * 1000) = N * 1000; omega)
  have h2 : Rep bump.2 0 (N * 1000) := rep_scale (rep_self bump_ok.1.2) (by omega) (by show (0 : Int) * (N * 1000) = 0 * 1; omega)
  obtain ⟨i1, s1⟩ := coord_ok n0 zN z1.1 (sz_mono zN (by decide)) p1 h1
  obtain ⟨i2, s2⟩ := coord_ok n0 zN z1.2 (by show (0 : Int).natAbs < 2 ^ 320; exact Nat.two_pow_pos _) p2 h2
  exact ⟨⟨i1, i2⟩, ⟨s1, s2⟩⟩
theorem at_prev {α : Type} {xs : List α} {i : Nat} (h : i < xs.length) : ∃ v, v ∈ xs ∧ atI xs (0 + (i : Int) - 1) = some v := by
  rcases Nat.eq_zero_or_pos i with z | z
  · subst z
    have ne : xs ≠ [] := fun e => by rw [e] at h; cases h
    refine ⟨xs.getLast ne, List.getLast_mem ne, ?_⟩
    have e := atI_last xs.dropLast (xs.getLast ne)
    rw [List.dropLast_concat_getLast ne] at e
    exact e
  · have hl : i - 1 < xs.length := by omega
    refine ⟨xs[i - 1], List.getElem_mem hl, ?_⟩
    rw [show (0 + (i : Int) - 1) = ((i - 1 : Nat) : Int) by omega]
    exact atI_nat (List.getElem?_eq_getElem hl)
theorem dp_mem {K : PySem.W.Frag} {H : Hp} {xs : List V} {cs : List Pl} {x : V} (h : DpAll K H xs (cs.map pD)) (hx : x ∈ xs) : ∃ c ∈ cs, Dp K H x (pD c) := by
  obtain ⟨i, hi⟩ := List.getElem?_of_mem hx
  obtain ⟨c, ec, hd⟩ := dpall_at h hi
  exact ⟨c, List.mem_of_getElem? ec, hd⟩
theorem app_p {K : PySem.W.Frag} {H : Hp} {c : Addr} {zs : List V} {v : V} {q : Pl} {ps : List Pl} (e : H c = some (.lst zs)) (hZ : DpAll K H zs (ps.map pD)) (hv : Dp K H v (pD q)) : DpAll K (upd H c (.lst (zs ++ [v]))) (zs ++ [v]) ((ps ++ [q]).map pD) := by
  rw [List.map_append]
  exact app_dp e hZ hv (by have := noLs_p (ps ++ [q]); rw [List.map_append] at this; exact this)
theorem tlc_all {K : PySem.W.Frag} {J : It} {n : Nat} {G : Hp → Prop} {Y : Nat → Hp → V → Hp → Prop} {wi : TI} {g : TG} {te : TE} {vs : List Nat} {σ : L2.St} {H : Hp} {Q : VK} (hw : ∀ R : It → Hp → Prop, R J H → wi σ H R) (w : Walk J n G Y) (f : Nat → PyData) (hn : ∀ i, noL (f i) = true) (hz : n < sizeLine)
    (hG : ∀ H', Same H H' → G H') (hY : ∀ i H0 x H', Y i H0 x H' → Same H0 H')
    (hs : ∀ i x H0 H' (R : V → Hp → Prop), i < n → Same H H0 → Y i H0 x H' → (∀ y H4, Same H' H4 → Dp K H4 y (f i) → R y H4) → g x (wipe σ vs) H' fun σ2 H2 => wipe σ2 vs = wipe σ vs ∧ te σ2 H2 R)
    (hd : ∀ D H' ys, Same H H' → H D = none → H' D = some (.lst ys) → DpAll K H' ys ((List.range n).map f) → Q (.ref D) H') : tLc wi g tYes te vs σ H Q := hw _ (lc_all w f hn hz hG hY hs hd)
/-- for x in [couples of numbers] -/
theorem for_lay {K : PySem.W.Frag} {t : TA} {rs : List Rt} (lay : Lay K t rs) (hr : rs.length ≤ 1000) {g : TG} {tb : TS} {D : Ends} {σ : L2.St} {H : Hp} (h : ∀ (H1 : Hp) (l : Addr) (vs : List V), Same H H1 → H l = none → H1 l = some (.lst vs) → DpAll K H1 vs (rs.map rD) → ∃ Pv : Nat → L2.St → Hp → Prop, Pv 0 σ H1 ∧ (∀ j σ' H', Pv j σ' H' → H' l = some (.lst vs)) ∧
    (∀ j v σ' H', vs[j]? = some v → Pv j σ' H' → g v σ' H' fun σ2 H2 => tb { D with nx := Pv (j + 1), ct := Pv (j + 1), bk := D.nx } σ2 H2) ∧ (∀ σ' H', Pv vs.length σ' H' → D.nx σ' H')) : tFor (iList K (tLst t)) g tb D σ H := by
  refine lay _ _ _ fun H1 vs s1 hv => ⟨Nat.le_trans (by rw [DpAll_len hv, List.length_map]; exact hr) (by decide), fun l nl => ?_⟩
  have sl := PB.same_new (o := .lst vs) nl
  obtain ⟨Pv, p0, ps, pt, pe⟩ := h (upd H1 l (.lst vs)) l vs (s1.trans sl) (none_of s1 nl) upd_same (DpAll_same sl hv)
  exact ⟨l, rfl, ⟨vs, .inl (.inl upd_same)⟩, for_list (K := K) (a := l) (xs := vs) Pv p0 (fun j σ' H' _ hp => .inl (.inl (ps j σ' H' hp))) pt pe⟩
def spGrid (K : PySem.W.Frag) : Sp := fun vs H Q _ => ∃ p v cs, vs = [.ref p, v] ∧ HandAt H p ∧ Dp K H v (.tuple (cs.map pD)) ∧ PatG cs ∧ ∀ (H' : Hp) (D : Addr) (ys : List V) (ps : List Pl), H D = none → H' D = some (.lst ys) → DpAll K H' ys (ps.map pD) → ps.length ≤ 400 → (∀ q ∈ ps, GoodP 400 q) → HandAt H' p → SameBut p H H' → Q (.ref D) H'
def spAsked (K : PySem.W.Frag) : Sp := fun vs H Q _ => ∃ v u cs d, vs = [v, u] ∧ PatAt K H v cs ∧ Dp K H u (rD d) ∧ SzR 600 d ∧ PatG cs ∧ ∀ H', Same H H' → Q (.bl true) H'
section
variable {P : Program} {w : World} {K : PySem.W.Frag} {mg : Str → Option Value} {base : Heap}
theorem layB : Lay K (tCons (tTup (tCons (tC (.int 1)) (tCons (tC (.int 2)) tNil))) (tCons (tTup (tCons (tUn (rU fun i => .int (-i)) (tC (.int 1))) (tCons (tC (.int 1000)) tNil))) (tCons (tTup (tCons (tC (.int 1)) (tCons (tC (.int 1000)) tNil))) (tNil)))) byR := (lay_cons (fun _ _ _ q => q) (lay_cons (fun _ _ _ q => ⟨_, rfl, q⟩) (lay_cons (fun _ _ _ q => q) lay_nil)))
abbrev s_law_grid : Stmt := topS 95
theorem sc_law_grid : FnScope ["_law_hand_here", "_law_corners", "_law_share", "_law_shift", "_law_rows", "_law_k", "_law_one", "_law_other", "_law_step_here", "_law_by_here"] ["_law_hand_here", "_law_corners"] (defScope s_law_grid) := ⟨rfl, rfl, rfl, by decide +kernel, rfl, by decide +kernel, by decide +kernel⟩
theorem ok_law_grid (T : Txt K mg "_law_grid" s_law_grid) (G_law_take : DefOk P w K mg base CX0 "_law_take" 2 ["_law_hand_here", "_law_many"] spTake) (G_law_of : DefOk P w K mg base CX0 "_law_of" 3 ["_law_x", "_law_y", "_law_share"] (spOf K)) (G_law_step : DefOk P w K mg base CX0 "_law_step" 4 ["_law_one", "_law_other"] (spPT K stepF)) (G_law_by : DefOk P w K mg base CX0 "_law_by" 4 ["_law_place_here", "_law_step_here"] (spPT K byP)) (G_law_times : DefOk P w K mg base CX0 "_law_times" 3 ["_law_one", "_law_other"] (spBin K rmul)) (mlen : mg "len" = none) (mrange : mg "range" = none) (mint : mg "int" = none) : DefOk P w K mg base CX0 "_law_grid" 5 ["_law_hand_here", "_law_corners"] (spGrid K) := by
  obtain ⟨f, fd, F, gf⟩ := T
  refine ⟨f, fd, gf, F.kp, F.binds (fun _ _ _ _ _ _ us hl => match us, hl with | [_, _], _ => rfl), F.ok sc_law_grid (fun vs H Q E h => ?_) (fun cdv A outer s H vs Q E hr h => ?_)⟩
  · obtain ⟨p, v, cs, rfl, _⟩ := h; rfl
  · obtain ⟨p, v, cs, rfl, hH, hv, hG, k⟩ := h
    refine ⟨_, (pss_cons (ps_set (i := 2) sc_law_grid.nd rfl (.inr rfl) (pe_op op_add pe_int (pe_def G_law_take (hr.mono (by decide)) (by rfl) (pa_cons (pv 0) (pa_cons pe_int pa_nil))))) (pss_cons (ps_set (i := 3) sc_law_grid.nd rfl (.inr rfl) (pe_op op_sub (pe_def G_law_take (hr.mono (by decide)) (by rfl) (pa_cons (pv 0) (pa_cons pe_int pa_nil))) pe_int)) (pss_cons (ps_setLc (i := 4) (own := [("_law_k", 5)]) rfl sc_law_grid.nd rfl rfl (sw_true rfl rfl rfl (by decide +kernel)) (pi_range1 (by rfl) mrange (pa_cons pe_int pa_nil)) (blkOk_by (N := ["_law_hand_here", "_law_corners", "_law_share", "_law_shift", "_law_rows", "_law_k", "_law_one", "_law_other", "_law_step_here", "_law_by_here"]) (sc := defScope s_law_grid) (by decide +kernel)) (fun _ _ _ _ _ => (pg_name (i := 5) sc_law_grid.nd rfl (.inl rfl))) (fun _ _ _ _ _ => pts_nil) (fun _ _ _ _ _ => (pe_def G_law_of (hr.mono (by decide)) (by rfl) (pa_cons (pe_op op_add (pe_op op_fdivW (pv 5) pe_int) (pv 3)) (pa_cons (pe_op op_add (pe_op op_mod (pe_callTy call_int1 (by rfl) mint boot_int (pa_cons (pv 5) pa_nil)) pe_int) (pv 3)) (pa_cons (pv 2) pa_nil)))))) (pss_cons (ps_for PassesOwn.never rfl (pi_range1 (by rfl) mrange (pa_cons (pe_callB call_len_seq (by rfl) mlen PySem.boot_len (pa_cons (pv 1) pa_nil)) pa_nil)) (pg_name (i := 5) sc_law_grid.nd rfl (.inl rfl)) (pss_cons (ps_par (i := 6) (j := 7) rfl sc_law_grid.nd rfl rfl (by decide) rfl rfl (pa_cons (pe_ix ix_tup (pv 1) (pv 5) (fun _ _ => rfl)) (pa_cons (pe_ix ix_tup (pv 1) (pe_op op_sub (pv 5) pe_int) (fun _ _ => rfl)) pa_nil)) rfl) (pss_cons (ps_set (i := 8) sc_law_grid.nd rfl (.inl rfl) (pe_def G_law_step (hr.mono (by decide)) (by rfl) (pa_cons (pv 6) (pa_cons (pv 7) pa_nil)))) (pss_cons (ps_for PassesOwn.never rfl (pi_list (pe_lst (pa_cons (pe_tup (pa_cons pe_int (pa_cons pe_int pa_nil))) (pa_cons (pe_tup (pa_cons (pe_un un_neg pe_int) (pa_cons pe_int pa_nil))) (pa_cons (pe_tup (pa_cons pe_int (pa_cons pe_int pa_nil))) pa_nil))))) (pg_name (i := 9) sc_law_grid.nd rfl (.inl rfl)) (pss_one (ps_expr (pe_bm PySem.F.plainAttrs_list PySem.F.slot_list_append PySem.F.type_list_append mt_append (pv 4) (pa_cons (pe_def G_law_by (hr.mono (by decide)) (by rfl) (pa_cons (pv 6) (pa_cons (pe_tup (pa_cons (pe_def G_law_times (hr.mono (by decide)) (by rfl) (pa_cons (pv 9) (pa_cons (pe_ix ix_it (pv 8) pe_int (fun _ _ => rfl)) pa_nil))) (pa_cons (pe_def G_law_times (hr.mono (by decide)) (by rfl) (pa_cons (pv 9) (pa_cons (pe_ix ix_it (pv 8) pe_int (fun _ _ => rfl)) pa_nil))) pa_nil))) pa_nil))) pa_nil))))) (pss_cons (ps_expr (pe_bm PySem.F.plainAttrs_list PySem.F.slot_list_append PySem.F.type_list_append mt_append (pv 4) (pa_cons (pv 6) pa_nil))) (pss_one (ps_expr (pe_bm PySem.F.plainAttrs_list PySem.F.slot_list_append PySem.F.type_list_append mt_append (pv 4) (pa_cons (pe_def G_law_by (hr.mono (by decide)) (by rfl) (pa_cons (pv 6) (pa_cons (pe_tup (pa_cons (pe_tup (pa_cons pe_int (pa_cons pe_int pa_nil))) (pa_cons (pe_tup (pa_cons pe_int (pa_cons pe_int pa_nil))) pa_nil))) pa_nil))) pa_nil))))))))) (pss_one (ps_ret (pv 4))))))), ?_⟩
    refine ⟨.ref p, rfl, p, 2, rfl, hH, by decide, by decide, fun sh H1 sh0 sh2 h1 s1 => ⟨_, _, rfl, rfl, ?_⟩⟩
    refine ⟨.ref p, rfl, p, 3, rfl, h1, by decide, by decide, fun sf H2 sf0 sf3 h2 s2 => ⟨_, _, rfl, rfl, ?_⟩⟩
    have s12 := s1.trans s2
    have hv2 : Dp K H2 v (.tuple (cs.map pD)) := hH.dp s12 (noL_ps cs) hv
    obtain ⟨a, xs, rfl, hS, hA⟩ := dp_tup hv2
    have lx : xs.length = cs.length := by rw [DpAll_len hA, List.length_map]
    have l30 := hG.l
    obtain ⟨N, n0, zN, hN⟩ := hG.N
    have k2 : ∀ (H' : Hp) (D : Addr) (ys : List V) (ps : List Pl), H2 D = none → H' D = some (.lst ys) → DpAll K H' ys (ps.map pD) → ps.length ≤ 400 → (∀ q ∈ ps, GoodP 400 q) → Same H2 H' → Q (.ref D) H' := fun H' D ys ps nD eD hY lp gp sH => by
      refine k H' D ys ps ?_ eD hY lp gp (h2.same sH) (s12.trans (Same.but sH))
      cases e : H D with
      | none => rfl
      | some o =>
        have ne : D ≠ p := h2.neD nD
        rw [s12.1 D o ne e] at nD; cases nD
    clear k
    dsimp only [tSeq, tAsg, tCall, tCons, tNil, gName]
    have sh5 : Sz 5 (1 + sh) := by show (1 + sh).natAbs < 2 ^ 5; omega
    have z4 : Sz 4 (7 : Int) := by show (7 : Int).natAbs < 2 ^ 4; decide
    refine tlc_all (K := K) (fun R r => ⟨_, rfl, by decide, by decide, r⟩) (walk_range (lo := 0) (n := (49 : Int).toNat)) (fun i => pD (norm ((0 + (i : Int)) / 7 + (sf - 1)) (1 + sh), norm ((0 + (i : Int)) % 7 + (sf - 1)) (1 + sh))) (fun i => noL_p _) (small1000 (by decide)) (fun H' s => trivial) (fun i H0 x H' h => by rw [h.1]; exact fun _ _ z => z) ?_ ?_
    · intro i x H0 H3 R il s3 hy hR
      obtain ⟨rfl, rfl⟩ := hy
      have il : i < 49 := il
      refine ⟨rfl, _, rfl, _, _, rfl, rfl, wide_div (by decide) z4 (by decide) (by decide), _, rfl, _, _, rfl, rfl, _, rfl, .inl ⟨_, rfl, _, _, rfl, rfl, (by show (0 : Int) < _; decide), _, rfl, _, _, rfl, rfl, _, rfl, _, _, _, rfl, by omega, ?_, ?_, sh5, fun H4 z s4 hz => hR z H4 s4 hz⟩⟩
      · show (_ : Int).natAbs < 2 ^ 5
        omega
      · show (_ : Int).natAbs < 2 ^ 5
        omega
    · intro D H3 ys s3 nD eD hY
      have ne : D ≠ p := h2.neD nD
      obtain ⟨ps0, e0, l0, g0⟩ : ∃ ps0 : List Pl, ps0.map pD = (List.range (49 : Int).toNat).map (fun (i : Nat) => pD (norm ((0 + (i : Int)) / 7 + (sf - 1)) (1 + sh), norm ((0 + (i : Int)) % 7 + (sf - 1)) (1 + sh))) ∧ ps0.length = 49 ∧ ∀ q ∈ ps0, GoodP 400 q := by
        refine ⟨(List.range (49 : Int).toNat).map (fun (i : Nat) => (norm ((0 + (i : Int)) / 7 + (sf - 1)) (1 + sh), norm ((0 + (i : Int)) % 7 + (sf - 1)) (1 + sh))), by rw [List.map_map]; rfl, by rw [List.length_map, List.length_range]; rfl, fun q hq => ?_⟩
        obtain ⟨i, hi, rfl⟩ := List.mem_map.mp hq
        have hi : i < 49 := List.mem_range.mp hi
        have sp : 0 < 1 + sh := by omega
        have z1 : Sz 5 ((0 + (i : Int)) / 7 + (sf - 1)) := by show (_ : Int).natAbs < 2 ^ 5; omega
        have z2 : Sz 5 ((0 + (i : Int)) % 7 + (sf - 1)) := by show (_ : Int).natAbs < 2 ^ 5; omega
        exact ⟨⟨norm_rat sp, norm_rat sp⟩, ⟨szr_mono (szr_norm sp z1 sh5) (by decide), szr_mono (szr_norm sp z2 sh5) (by decide)⟩⟩
      rw [← e0] at hY
      clear e0
      refine ⟨.ref a, rfl, a, xs, rfl, .inr (same_t s3 hS), _, rfl, by omega, by omega, for_range (lo := 0) (n := (xs.length : Int).toNat) (fun i σ H' => ∃ (ys : List V) (ps : List Pl) (y5 y6 y7 y8 y9 : Option V), σ = [some (.ref p), some (.ref a), some (.int (1 + sh)), some (.int (sf - 1)), some (.ref D), y5, y6, y7, y8, y9] ∧ Same H2 H' ∧ H' D = some (.lst ys) ∧ DpAll K H' ys (ps.map pD) ∧ ps.length ≤ 49 + 5 * i ∧ ∀ q ∈ ps, GoodP 400 q)
        ⟨ys, ps0, none, none, none, none, none, rfl, s3, eD, hY, by omega, g0⟩ ?_ ?_⟩
      · clear hY eD s3 l0 g0 H3
        clear ys ps0
        rintro i σ H3 hi ⟨ys, ps, y5, y6, y7, y8, y9, rfl, s3, eD, hY, lp, gp⟩
        have il : i < cs.length := by omega
        have e1 := getD_at il
        have m1 := List.mem_of_getElem? e1
        have x1e : xs[i]? = some (xs[i]'(by omega)) := List.getElem?_eq_getElem (by omega)
        generalize xs[i]'(by omega) = x1 at x1e
        have h1 := Dp_same s3 (dp_pAt hA x1e e1)
        obtain ⟨x2, xm, x2e⟩ := at_prev (xs := xs) (i := i) (by omega)
        obtain ⟨c2, m2, h2'⟩ := dp_mem hA xm
        have h2' := Dp_same s3 h2'
        generalize cs.getD i zP = c1 at e1 m1 h1
        have g1 := hG.g _ m1
        have g2 := hG.g _ m2
        obtain ⟨b1, t1⟩ := hN _ m1
        obtain ⟨b2, t2⟩ := hN _ m2
        have hS1 := same_t s3 hS
        have lys : ys.length = ps.length := by rw [DpAll_len hY, List.length_map]
        refine ⟨_, rfl, _, rfl, a, xs, _, x1, rfl, rfl, hS1, at0 x1e, _, rfl, _, rfl, _, _, rfl, rfl, a, xs, _, x2, rfl, rfl, hS1, x2e, _, _, rfl, ?_⟩
        refine ⟨_, rfl, _, rfl, x1, x2, c1, c2, rfl, h1, h2', g1.1, g2.1, p6 g1 (by decide), p6 g2 (by decide), fun H4 z s4 hz => ?_⟩
        have h1 := Dp_same s4 h1
        have eD4 := s4 _ _ eD
        have hY4 := DpAll_same s4 hY
        have s24 := s3.trans s4
        clear hY eD hS1 h2'
        refine for_lay (K := K) layB (by decide) fun H6 l vs s45 nl eL hvs => ?_
        have h1 := Dp_same s45 h1
        have hz := Dp_same s45 hz
        have eD6 := s45 _ _ eD4
        have hY6 := DpAll_same s45 hY4
        have s26 := s24.trans s45
        have nlD : l ≠ D := fun e => by rw [e, eD4] at nl; cases nl
        clear hY4 eD4 s24 s45 nl
        obtain ⟨sx, sy, cs_, hsx, hsy⟩ := pla_t hz
        have nsx : noL (rD (stepF c1 c2).1) = true := noL_r _
        have rs : RatP (stepF c1 c2) := ⟨rat_sub g2.1.1 g1.1.1, rat_sub g2.1.2 g1.1.2⟩
        have zs : SzP 801 (stepF c1 c2) := ⟨szr_sub g2.1.1 g1.1.1 g2.2.1 g1.2.1, szr_sub g2.1.2 g1.1.2 g2.2.2 g1.2.2⟩
        have lv : vs.length = 3 := DpAll_len hvs
        refine ⟨fun j σ H' => ∃ (ys : List V) (ps : List Pl) (y9 : Option V), σ = [some (.ref p), some (.ref a), some (.int (1 + sh)), some (.int (sf - 1)), some (.ref D), some (.int (0 + (i : Int))), some x1, some x2, some z, y9] ∧ (∀ b o, b ≠ D → H6 b = some o → H' b = some o) ∧ H' D = some (.lst ys) ∧ DpAll K H' ys (ps.map pD) ∧ ps.length ≤ 49 + 5 * i + j ∧ ∀ q ∈ ps, GoodP 400 q, ⟨ys, ps, y9, rfl, fun _ _ _ e => e, eD6, hY6, by omega, gp⟩, (fun j σ H' ⟨_, _, _, _, sk, _⟩ => sk l _ nlD eL), ?_, ?_⟩
        · clear hY6 lys lp gp y9
          rintro j v σ H7 hj ⟨ys, ps, y9, rfl, sk, eD7, hY7, lp, gp⟩
          obtain ⟨r, er, hr'⟩ := dpall_at hvs hj
          have mr := List.mem_of_getElem? er
          obtain ⟨ir, zr, _⟩ := byR_ok r mr
          have jl : j < 3 := by rw [← lv]; exact (List.getElem?_eq_some_iff.mp hj).1
          have hv7 := Dp_but eD6 sk (noL_r r) hr'
          have hx7 := Dp_but eD6 sk (noL_r _) hsx
          have hy7 := Dp_but eD6 sk (noL_r _) hsy
          have h17 := Dp_but eD6 sk (noL_p c1) h1
          have hz7 := Dp_but eD6 sk (noL_p _) hz
          obtain ⟨sx, sy, cz, hsx', hsy'⟩ := pla_t hz7
          have lys : ys.length = ps.length := by rw [DpAll_len hY7, List.length_map]
          refine ⟨_, rfl, .inl ⟨rfl, _, .inl (.inl eD7)⟩, _, rfl, _, rfl, _, rfl, _, _, 0, _, rfl, cz, rfl, _, _, _, _, rfl, hv7, hsx', ir, rs.1, szr_mono zr (by decide), szr_mono zs.1 (by decide), fun H8 u1 s8 hu1 => ?_⟩
          refine ⟨_, rfl, _, rfl, _, _, 1, _, rfl, cz.same s8, rfl, _, _, _, _, rfl, Dp_same s8 hv7, Dp_same s8 hsy', ir, rs.2, szr_mono zr (by decide), szr_mono zs.2 (by decide), fun H9 u2 s9 hu2 => ⟨(by show 2 ≤ sizeLine; decide), fun t nt => ?_⟩⟩
          have st := PB.same_new (o := .tup [u1, u2]) nt
          have s79 := (s8.trans s9).trans st
          refine ⟨x1, .ref t, c1, (rmul r (stepF c1 c2).1, rmul r (stepF c1 c2).2), rfl, Dp_same s79 h17, dp_mk2 nt (Dp_same s9 hu1) hu2, g1.1, ⟨rat_mul ir rs.1, rat_mul ir rs.2⟩, p6 g1 (by decide), ⟨szr_mono (szr_mul ir rs.1 zr zs.1) (by decide), szr_mono (szr_mul ir rs.2 zr zs.2) (by decide)⟩, fun H10 u3 s10 hu3 => ?_⟩
          have s710 := s79.trans s10
          have eD10 := s710 _ _ eD7
          refine ⟨D, ys, u3, rfl, rfl, eD10, small1000 (by omega), _, ps ++ [_], _, rfl, fun b o nb e => ?_, upd_same, app_p eD10 (DpAll_same s710 hY7) hu3, by rw [List.length_append]; simp; omega, fun q hq => ?_⟩
          · rw [upd_ne nb]; exact s710 _ _ (sk b o nb e)
          · rcases List.mem_append.mp hq with h | h
            · exact gp q h
            · rw [List.mem_singleton.mp h]; exact good_by n0 zN b1 b2 t1 t2 mr
        · clear hY6 lys lp gp y9
          rintro σ H7 ⟨ys, ps, y9, rfl, sk, eD7, hY7, lp, gp⟩
          have lys : ys.length = ps.length := by rw [DpAll_len hY7, List.length_map]
          have h17 := Dp_but eD6 sk (noL_p c1) h1
          have s27 : Same H2 H7 := fun b o e => sk b o (ne_of_none e nD) (s26 b o e)
          refine ⟨_, rfl, .inl ⟨rfl, _, .inl (.inl eD7)⟩, _, rfl, D, ys, x1, rfl, rfl, eD7, small1000 (by omega), ?_⟩
          have hY8 := app_p eD7 hY7 h17
          have h18 : Dp K (upd H7 D (.lst (ys ++ [x1]))) x1 (pD c1) := Dp_but eD7 (fun b u n e => by rw [upd_ne n]; exact e) (noL_p c1) h17
          have s28 : Same H2 (upd H7 D (.lst (ys ++ [x1]))) := same_upd s27 nD
          have eD8 : (upd H7 D (.lst (ys ++ [x1]))) D = some (.lst (ys ++ [x1])) := upd_same
          generalize upd H7 D (.lst (ys ++ [x1])) = H8 at hY8 h18 s28 eD8 ⊢
          refine ⟨_, rfl, .inl ⟨rfl, _, .inl (.inl eD8)⟩, _, rfl, (by show 2 ≤ sizeLine; decide), fun ta na => ⟨(by show 2 ≤ sizeLine; decide), fun tb nb => ⟨(by show 2 ≤ sizeLine; decide), fun tc nc => ?_⟩⟩⟩
          have sa := PB.same_new (o := .tup [.int 1, .int 1000]) na
          have sb := PB.same_new (o := .tup [.int 0, .int 1]) nb
          have sc_ := PB.same_new (o := .tup [.ref ta, .ref tb]) nc
          have da := dp_mkr (K := K) (a := 1) (b := 1000) na
          have db := dp_mkr (K := K) (a := 0) (b := 1) nb
          have s8c := (sa.trans sb).trans sc_
          refine ⟨x1, .ref tc, c1, bump, rfl, Dp_same s8c h18, dp_mk2 nc (Dp_same sb da) db, g1.1, bump_ok.1, p6 g1 (by decide), ⟨szr_mono bump_ok.2.1 (by decide), szr_mono bump_ok.2.2 (by decide)⟩, fun H9 u s9 hu => ?_⟩
          have s89 := s8c.trans s9
          have eD9 := s89 _ _ eD8
          refine ⟨D, _, u, rfl, rfl, eD9, small1000 (by rw [List.length_append]; simp; omega), _, (ps ++ [c1]) ++ [byP c1 bump], _, _, _, _, _, rfl, same_upd (s28.trans s89) nD, upd_same, app_p eD9 (DpAll_same s89 hY8) hu, by rw [List.length_append, List.length_append]; simp; omega, fun q hq => ?_⟩
          rcases List.mem_append.mp hq with h | h
          · rcases List.mem_append.mp h with h | h
            · exact gp q h
            · rw [List.mem_singleton.mp h]; exact g1
          · rw [List.mem_singleton.mp h]; exact good_bump n0 zN b1 t1
      · rintro σ H3 ⟨ys, ps, y5, y6, y7, y8, y9, rfl, s3, eD, hY, lp, gp⟩
        exact ⟨_, rfl, k2 H3 D ys ps nD eD hY (by omega) gp s3⟩
end
end F3
set_option Elab.async false
set_option linter.all false
set_option maxRecDepth 100000
set_option maxHeartbeats 4000000
set_option exponentiation.threshold 10000
namespace F3
open PySem PySem.Spec PyProof.Rows L2 FX RM PB KD KS
theorem tlc_filt {K : PySem.W.Frag} {J : It} {n : Nat} {G : Hp → Prop} {Y : Nat → Hp → V → Hp → Prop} {wi : TI} {g : TG} {tt : TT} {te : TE} {vs : List Nat} {σ : L2.St} {H : Hp} {Q : VK} (hw : ∀ R : It → Hp → Prop, R J H → wi σ H R) (w : Walk J n G Y) (p : Nat → Bool) (f : Nat → PyData) (hn : ∀ i, noL (f i) = true) (hz : n < sizeLine)
    (hG : ∀ H', Same H H' → G H') (hY : ∀ i H0 x H', Y i H0 x H' → Same H0 H')
    (hs : ∀ i x H0 H' (R : V → Hp → Prop) (R0 : Hp → Prop), i < n → Same H H0 → Y i H0 x H' → (p i = true → ∀ y H4, Same H' H4 → Dp K H4 y (f i) → R y H4) → (p i = false → ∀ H4, Same H' H4 → R0 H4) →
      g x (wipe σ vs) H' fun σ2 H2 => wipe σ2 vs = wipe σ vs ∧ tt σ2 H2 fun b H3 => if b = true then te σ2 H3 R else R0 H3)
    (hd : ∀ D H' ys, Same H H' → H D = none → H' D = some (.lst ys) → DpAll K H' ys (((List.range n).filter p).map f) → Q (.ref D) H') : tLc wi g tt te vs σ H Q := hw _ (ZP.lc_filter w p f hn hz hG hY hs hd)
theorem bot_m {N : Int} {q : Pl} (h : Bot N q) : BotM N.natAbs q := ⟨Int.natAbs_dvd_natAbs.mpr h.2.1, Int.natAbs_dvd_natAbs.mpr h.2.2⟩
section
variable {P : Program} {w : World} {K : PySem.W.Frag} {mg : Str → Option Value} {base : Heap}
abbrev s_law_asked : Stmt := topS 96
theorem sc_law_asked : FnScope ["_law_patch", "_law_way_here", "_law_corners", "_law_top_here", "_law_low", "_law_due", "_law_corner"] ["_law_patch", "_law_way_here"] (defScope s_law_asked) := ⟨rfl, rfl, rfl, by decide +kernel, rfl, by decide +kernel, by decide +kernel⟩
theorem ok_law_asked (T : Txt K mg "_law_asked" s_law_asked) (tC : Cls K (cP K)) (nC : NoAttr K (cP K) "corners") (G_law_top : DefOk P w K mg base CX0 "_law_top" 5 ["_law_corners", "_law_direction_here"] (spTopL K topC)) (G_law_bottom : DefOk P w K mg base CX0 "_law_bottom" 6 ["_law_corners", "_law_direction_here"] (spTopL K lowC)) (G_law_plain : DefOk P w K mg base CX0 "_law_plain" 1 ["_law_told", "_law_due"] (spPlain K)) (Greach_of : DefOk P w K mg base CX0 "reach_of" 4 ["patch", "direction"] (spReach K topC)) (Glow_of : DefOk P w K mg base CX0 "low_of" 4 ["patch", "direction"] (spReach K lowC)) (Gbreadth_of : DefOk P w K mg base CX0 "breadth_of" 5 ["patch", "direction"] (spReach K fun d cs => rsub (topC d cs) (lowC d cs))) (G_law_less : DefOk P w K mg base CX0 "_law_less" 3 ["_law_one", "_law_other"] (spBin K rsub)) (G_law_hull : DefOk P w K mg base CX0 "_law_hull" 3 ["_law_places"] (spHullL K)) (G_law_amount : DefOk P w K mg base CX0 "_law_amount" 4 ["_law_direction_here", "_law_place_here"] (spAmtL K)) (Gtouched_by : DefOk P w K mg base CX0 "touched_by" 10 ["patch", "direction"] (spTouch K)) (mlist : mg "list" = none) : DefOk P w K mg base CX0 "_law_asked" 11 ["_law_patch", "_law_way_here"] (spAsked K) := by
  obtain ⟨f, fd, F, gf⟩ := T
  refine ⟨f, fd, gf, F.kp, F.binds (fun _ _ _ _ _ _ us hl => match us, hl with | [_, _], _ => rfl), F.ok sc_law_asked (fun vs H Q E h => ?_) (fun cdv A outer s H vs Q E hr h => ?_)⟩
  · obtain ⟨v, u, cs, d, rfl, _⟩ := h; rfl
  · obtain ⟨v, u, cs, d, rfl, hv, hu, zd, hG, k⟩ := h
    refine ⟨_, (pss_cons (ps_set (i := 2) sc_law_asked.nd rfl (.inl rfl) (pe_fld (pv 0) rfl)) (pss_cons (ps_asg (pe_tup (pa_cons (pe_def G_law_top (hr.mono (by decide)) (by rfl) (pa_cons (pv 2) (pa_cons (pv 1) pa_nil))) (pa_cons (pe_def G_law_bottom (hr.mono (by decide)) (by rfl) (pa_cons (pv 2) (pa_cons (pv 1) pa_nil))) pa_nil))) (pg_cou rfl (pgs_cons (pg_name (i := 3) sc_law_asked.nd rfl (.inr rfl)) (pgs_cons (pg_name (i := 4) sc_law_asked.nd rfl (.inl rfl)) pgs_nil)))) (pss_cons (ps_if (PW.pt (pw_or (pt_not (pt_val (pe_def G_law_plain (hr.mono (by decide)) (by rfl) (pa_cons (pe_def Greach_of (hr.mono (by decide)) (by rfl) (pa_cons (pv 0) (pa_cons (pv 1) pa_nil))) (pa_cons (pv 3) pa_nil))))) (pw_or1 (pt_not (pt_val (pe_def G_law_plain (hr.mono (by decide)) (by rfl) (pa_cons (pe_def Glow_of (hr.mono (by decide)) (by rfl) (pa_cons (pv 0) (pa_cons (pe_callTy call_list_of (by rfl) mlist (by decide +kernel) (pa_cons (pv 1) pa_nil)) pa_nil))) (pa_cons (pv 4) pa_nil)))))))) (pss_one (ps_ret pe_bl)) pss_nil) (pss_cons (ps_if (pt_not (pt_val (pe_def G_law_plain (hr.mono (by decide)) (by rfl) (pa_cons (pe_def Gbreadth_of (hr.mono (by decide)) (by rfl) (pa_cons (pv 0) (pa_cons (pv 1) pa_nil))) (pa_cons (pe_def G_law_less (hr.mono (by decide)) (by rfl) (pa_cons (pv 3) (pa_cons (pv 4) pa_nil))) pa_nil))))) (pss_one (ps_ret pe_bl)) pss_nil) (pss_cons (ps_set (i := 5) sc_law_asked.nd rfl (.inl rfl) (pe_def G_law_hull (hr.mono (by decide)) (by rfl) (pa_cons (pe_lc (own := [("_law_corner", 6)]) rfl sc_law_asked.nd (pi_seq (pv 2)) (blkOk_by (N := ["_law_patch", "_law_way_here", "_law_corners", "_law_top_here", "_law_low", "_law_due", "_law_corner"]) (sc := defScope s_law_asked) (by decide +kernel)) (fun _ _ _ _ _ => (pg_name (i := 6) sc_law_asked.nd rfl (.inl rfl))) (fun _ _ _ _ _ => (pts_one (pt_cmpR (op_eqDK K hr.units) (pe_def G_law_amount (hr.mono (by decide)) (by rfl) (pa_cons (pv 1) (pa_cons (pv 6) pa_nil))) (pv 3) (nomark _)))) (fun _ _ _ _ _ => (pv 6))) pa_nil))) (pss_one (ps_ret (pe_cmpR (op_eqD hr.units) (pe_fld (pe_def Gtouched_by (hr.mono (by decide)) (by rfl) (pa_cons (pv 0) (pa_cons (pv 1) pa_nil))) rfl) (pv 5) (nomark _))))))))), ?_⟩
    obtain ⟨a, dx, p, xs, rfl, e, hS, hA, lx⟩ := pat_get hv
    have hc : Dp K H (.ref p) (.tuple (cs.map pD)) := .tup hS hA
    refine ⟨_, rfl, a, cP K, dx, _, .ref p, rfl, e, tC, nC, rfl, ?_⟩
    refine ⟨_, rfl, _, rfl, .ref p, u, cs, d, rfl, hc, hu, zd, hG, fun H1 z1 s1 h1 => ?_⟩
    refine ⟨_, rfl, _, rfl, .ref p, u, cs, d, rfl, Dp_same s1 hc, Dp_same s1 hu, zd, hG, fun H2 z2 s2 h2 => ⟨(by show 2 ≤ sizeLine; decide), fun t nt => ?_⟩⟩
    have st := PB.same_new (o := .tup [z1, z2]) nt
    have s3 := (s1.trans s2).trans st
    have h1 := Dp_same (s2.trans st) h1
    have h2 := Dp_same st h2
    refine ⟨_, _, ⟨t, rfl, .inl (.inl (.inl upd_same))⟩, _, _, rfl, _, _, rfl, rfl, ?_⟩
    have hv3 := hv.same s3
    have hu3 := Dp_same s3 hu
    have hc3 := Dp_same s3 hc
    generalize upd H2 t (.tup [z1, z2]) = H3 at s3 h1 h2 hv3 hu3 hc3 ⊢
    have k : ∀ H', Same H3 H' → Q (.bl true) H' := fun H' s => k H' (s3.trans s)
    obtain ⟨up, rfl, hT⟩ := dp_r hu3
    refine ⟨_, rfl, _, rfl, _, _, cs, d, rfl, hv3, dir_t hu3, zd, hG, fun H4 y4 s4 h4 => ⟨_, rfl, y4, z1, topC d cs, rfl, h4, Dp_same s4 h1, ⟨_, rfl, ?_⟩⟩⟩
    refine itF rfl ?_
    refine ⟨_, rfl, _, rfl, up, _, rfl, .inr (same_t s4 hT), fun l nl => ?_⟩
    have sl := PB.same_new (o := .lst [.int d.1, .int d.2]) nl
    have s5 := s4.trans sl
    refine ⟨_, .ref l, cs, d, rfl, hv3.same s5, ⟨l, rfl, .inr (.inl (.inl upd_same))⟩, zd, hG, fun H6 y6 s6 h6 => ⟨_, rfl, y6, z2, lowC d cs, rfl, h6, Dp_same (s5.trans s6) h2, ⟨_, rfl, itF rfl ?_⟩⟩⟩
    have s7 := s5.trans s6
    refine ⟨_, rfl, _, rfl, _, _, cs, d, rfl, hv3.same s7, (dir_t hu3).same s7, zd, hG, fun H8 y8 s8 h8 => ?_⟩
    have s9 := s7.trans s8
    obtain ⟨i1, q1⟩ := top_sz hG zd
    obtain ⟨i2, q2⟩ := low_sz hG zd
    refine ⟨_, rfl, _, rfl, z1, z2, _, _, rfl, Dp_same s9 h1, Dp_same s9 h2, i1, i2, q1, q2, fun H10 y10 s10 h10 => ⟨y8, y10, _, rfl, Dp_same s10 h8, h10, ⟨_, rfl, itF rfl ?_⟩⟩⟩
    have s11 := s9.trans s10
    obtain ⟨N, n0, zN, hN⟩ := hG.N
    have sub : ∀ q ∈ onTop d cs, q ∈ cs := fun q hq => (List.mem_filter.mp hq).1
    obtain ⟨os, hO⟩ := srt_ex (ps := onTop d cs) fun q hq => (hG.g q (sub q hq)).1
    dsimp only [tNext, tSeq, tAsg, tCall, tCons, tNil, gName]
    obtain ⟨p', xs', ep, hS', hA'⟩ := dp_tup (Dp_same s11 hc3)
    cases ep
    have lx' : xs'.length = cs.length := by rw [DpAll_len hA', List.length_map]
    refine tlc_filt (K := K) (fun R r => .inr ⟨_, rfl, p, rfl, ⟨_, hS'⟩, r⟩) (walk_tup (K := K) (a := p) (xs := xs')) (fun i => decide (amt d (cs.getD i zP) = topC d cs)) (fun i => pD (cs.getD i zP)) (fun i => noL_p _) (small1000 (by have := hG.l; omega)) (fun H' s => same_t s hS') ZP.yat_same ?_ ?_
    · intro i x H12 H13 R R0 il s12 hy yes no
      obtain ⟨rfl, ex⟩ := hy
      obtain ⟨ic, hx⟩ := dpall_map hA' i x ex
      have gc := hG.g _ (List.mem_of_getElem? (getD_at ic))
      have hx := Dp_same s12 hx
      refine ⟨rfl, _, rfl, x, rfl, _, x, d, _, rfl, Dp_same (s11.trans s12) hu3, hx, gc.1, zd, p6 gc (by decide), fun H14 y14 s14 h14 => ?_⟩
      rw [amtL_eq gc.1] at h14
      have eq1 : PyData.eqv (rD (amt d (cs.getD i zP))) (rD (topC d cs)) = decide (amt d (cs.getD i zP) = topC d cs) := eqv_rt _ _
      refine ⟨z1, rfl, _, _, h14, Dp_same ((s11.trans s12).trans s14) h1, (shaped_r (amt d (cs.getD i zP))).1, (shaped_r _).1, _, rfl, ?_⟩
      by_cases c : amt d (cs.getD i zP) = topC d cs
      · exact itT (eq1.trans (decide_eq_true c)) ⟨x, rfl, yes (decide_eq_true c) _ _ s14 (Dp_same s14 hx)⟩
      · exact itF (eq1.trans (decide_eq_false c)) (no (decide_eq_false c) _ s14)
    · intro D H12 zs s12 nD eD hZ
      rw [lx', filt_get cs (fun c => decide (amt d c = topC d cs)) pD] at hZ
      have lt : (onTop d cs).length ≤ 30 := Nat.le_trans (List.length_filter_le _ _) hG.l
      refine ⟨D, zs, onTop d cs, os, N.natAbs, rfl, ⟨.inl (.inl (.inl eD)), hZ⟩, onTop_ne hG, by omega, by omega, Nat.lt_of_lt_of_le (show N.natAbs < 2 ^ 100 from zN) (Nat.pow_le_pow_right (by decide) (by decide)), fun q hq => ⟨hG.g q (sub q hq), bot_m (hN q (sub q hq)).1⟩, hO, fun H14 y14 s14 h14 => ?_⟩
      have s15 := (s11.trans s12).trans s14
      refine ⟨_, rfl, _, rfl, _, _, cs, d, rfl, hv3.same s15, (dir_t hu3).same s15, zd, hG, fun H16 y16 os' s16 hO' h16 => ?_⟩
      obtain ⟨b, dy, t2, rfl, e2, h2'⟩ := h16
      have eh : hullP os' = hullP os := hull_same hO hO' (fun q hq => (hG.g q (sub q hq)).1) (onTop_ne hG)
      have e1 : PyData.eqv (.tuple ((hullP os').map pD)) (.tuple ((hullP os).map pD)) = true := by rw [eqv_ps]; exact decide_eq_true eh
      refine ⟨b, cP K, dy, _, t2, rfl, e2, tC, nC, rfl, _, rfl, _, _, h2', Dp_same s16 h14, shaped_ps _, shaped_ps _, ?_⟩
      rw [e1]
      exact k H16 (s15.trans s16)
end
end F3
set_option Elab.async false
set_option linter.all false
set_option maxRecDepth 100000
set_option maxHeartbeats 4000000
set_option exponentiation.threshold 10000
namespace F3
open PySem PySem.Spec PyProof.Rows L2 FX RM PB KD KS
theorem lay_s : ∀ ss : List (Pl × Pl), PyData.canLayAll0 (ss.map sD) = true ∧ PyData.depthAll (ss.map sD) ≤ 3
  | [] => ⟨rfl, by simp [PyData.depthAll]⟩
  | o :: os => by
    obtain ⟨a, b⟩ := lay_s os
    constructor
    · rw [List.map_cons, PyData.canLayAll0, a]
      simp [sD, pD, rD, PyData.canLay0, PyData.canLayAll0]
    · rw [List.map_cons, PyData.depthAll]
      simp [sD, pD, rD, PyData.depth, PyData.depthAll] at b ⊢
      omega
theorem shaped_ss (ss : List (Pl × Pl)) : SeqAt.shaped (.tuple (ss.map sD)) = true ∧ PyData.canLay0 (.tuple (ss.map sD)) = true := by
  obtain ⟨a, b⟩ := lay_s ss
  have c : PyData.canLay0 (.tuple (ss.map sD)) = true := by rw [PyData.canLay0, a]
  refine ⟨?_, c⟩
  unfold SeqAt.shaped
  rw [c, PyData.depth]
  simp; omega
theorem lay_h : ∀ hs : List ((Int × Int) × Rt), PyData.canLayAll0 (hs.map hD) = true ∧ PyData.depthAll (hs.map hD) ≤ 2
  | [] => ⟨rfl, by simp [PyData.depthAll]⟩
  | o :: os => by
    obtain ⟨a, b⟩ := lay_h os
    constructor
    · rw [List.map_cons, PyData.canLayAll0, a]
      simp [hD, rD, PyData.canLay0, PyData.canLayAll0]
    · rw [List.map_cons, PyData.depthAll]
      simp [hD, rD, PyData.depth, PyData.depthAll] at b ⊢
      omega
theorem shaped_hs (hs : List ((Int × Int) × Rt)) : (SeqAt.shaped (.tuple (hs.map hD)) = true ∧ PyData.canLay0 (.tuple (hs.map hD)) = true) ∧ (SeqAt.shaped (.list (hs.map hD)) = true ∧ PyData.canLay0 (.list (hs.map hD)) = true) := by
  obtain ⟨a, b⟩ := lay_h hs
  have c : PyData.canLay0 (.tuple (hs.map hD)) = true := by rw [PyData.canLay0, a]
  have c' : PyData.canLay0 (.list (hs.map hD)) = true := by rw [PyData.canLay0, a]
  refine ⟨⟨?_, c⟩, ?_, c'⟩
  · unfold SeqAt.shaped
    rw [c, PyData.depth]
    simp; omega
  · unfold SeqAt.shaped
    rw [c', PyData.depth]
    simp; omega
theorem shaped_pp (p : Pl) : SeqAt.shaped (pD p) = true ∧ PyData.canLay0 (pD p) = true := by
  have c : PyData.canLay0 (pD p) = true := by simp [pD, rD, PyData.canLay0, PyData.canLayAll0]
  refine ⟨?_, c⟩
  unfold SeqAt.shaped
  rw [c]
  simp [pD, rD, PyData.depth, PyData.depthAll]
theorem shaped_pc (cs : List Pl) : SeqAt.shaped (.tuple (cs.map pD)) = true ∧ PyData.canLay0 (.tuple (cs.map pD)) = true :=
  ⟨shaped_ps cs, by rw [PyData.canLay0, (lay_ps cs).1]⟩
theorem noL_hs (hs : List ((Int × Int) × Rt)) : noL (.tuple (hs.map hD)) = true := by
  rw [noL]
  exact noLs_all fun d hd => by
    obtain ⟨x, _, rfl⟩ := List.mem_map.mp hd
    exact noL_h x
theorem noLs_hs (hs : List ((Int × Int) × Rt)) : noLs (hs.map hD) = true := noLs_all fun d hd => by
  obtain ⟨x, _, rfl⟩ := List.mem_map.mp hd
  exact noL_h x
theorem tup_hs (hs : List ((Int × Int) × Rt)) : tupOk 3 (.tuple (hs.map hD)) := by
  intro d hd
  obtain ⟨h, _, rfl⟩ := List.mem_map.mp hd
  intro e he
  rcases List.mem_cons.mp he with e1 | he
  · rw [e1]; exact tup_r _
  · rw [List.mem_singleton.mp he]; exact tup_r _
/-- what stands while the law goes on -/
structure LS (K : PySem.W.Frag) (H : Hp) (hd pa dx : Addr) (t : V) (D : Addr) (ys : List V) (tv : V) (cs : List Pl) : Prop where
  hand : HandAt H hd
  pat : H pa = some (.ins (cP K) dx [("corners", t)])
  cor : Dp K H t (.tuple (cs.map pD))
  eD : H D = some (.lst ys)
  due : DpAll K H ys ((halvesF cs).map hD)
  neD : D ≠ hd
  told : Dp K H tv (.tuple ((halvesF cs).map hD))
  good : PatG cs
theorem LS.same {K : PySem.W.Frag} {H H' : Hp} {hd pa dx D : Addr} {t tv : V} {ys : List V} {cs : List Pl} (h : LS K H hd pa dx t D ys tv cs) (s : Same H H') : LS K H' hd pa dx t D ys tv cs :=
  ⟨h.hand.same s, s _ _ h.pat, Dp_same s h.cor, s _ _ h.eD, DpAll_same s h.due, h.neD, Dp_same s h.told, h.good⟩
theorem LS.ph {K : PySem.W.Frag} {H : Hp} {hd pa dx D : Addr} {t tv : V} {ys : List V} {cs : List Pl} (h : LS K H hd pa dx t D ys tv cs) : pa ≠ hd := fun e => by
  obtain ⟨c, cs, i, r, t, a, _⟩ := h.hand
  have := h.pat
  rw [e, a] at this; cases this
theorem LS.but {K : PySem.W.Frag} {H H' : Hp} {hd pa dx D : Addr} {t tv : V} {ys : List V} {cs : List Pl} (h : LS K H hd pa dx t D ys tv cs) (s : SameBut hd H H') (h' : HandAt H' hd) : LS K H' hd pa dx t D ys tv cs := by
  refine ⟨h', s.1 _ _ h.ph h.pat, h.hand.dp s (noL_ps cs) h.cor, s.1 _ _ h.neD h.eD, ?_, h.neD, h.hand.dp s (noL_hs _) h.told, h.good⟩
  obtain ⟨c, cs, i, r, t, a, _⟩ := h.hand
  exact DpAll_but a s.1 (noLs_hs _) h.due
theorem LS.pa_ {K : PySem.W.Frag} {H : Hp} {hd pa dx D : Addr} {t tv : V} {ys : List V} {cs : List Pl} (h : LS K H hd pa dx t D ys tv cs) : PatAt K H (.ref pa) cs := ⟨pa, dx, t, rfl, h.pat, h.cor⟩
theorem LS.upd {K : PySem.W.Frag} {H H' : Hp} {hd pa dx D e : Addr} {t tv : V} {ys : List V} {cs : List Pl} {o : HO} (h : LS K H hd pa dx t D ys tv cs) (n : H e = none) (s : Same H H') : LS K (upd H' e o) hd pa dx t D ys tv cs := h.same (same_upd s n)
/-- ways drawn from the hand -/
theorem lc_handR {K : PySem.W.Frag} {ok : Rt → Prop} {ta : TA} {g : TG} {te : TE} {vs : List Nat} {σ : L2.St} {H : Hp} {Q : VK} {p : Addr} (n : Nat) (hn : n ≤ 9) (hta : ∀ R : List V → Hp → Prop, R [.int (n : Int)] H → ta σ H R) (hH : HandAt H p)
    (hs : ∀ (i : Nat) H' (R : VK), HandAt H' p → (∀ q v H2, ok q → Dp K H2 v (rD q) → HandAt H2 p → SameBut p H' H2 → R v H2) → g (.int (0 + i)) (wipe σ vs) H' fun σ2 H2 => wipe σ2 vs = wipe σ vs ∧ te σ2 H2 R)
    (hd : ∀ (D : Addr) (H' : Hp) (ys : List V) (ps : List Rt), ps.length = n → (∀ q ∈ ps, ok q) → H D = none → H' D = some (.lst ys) → DpAll K H' ys (ps.map rD) → HandAt H' p → SameBut p H H' → Q (.ref D) H') : tLc (iRng1 ta) g tYes te vs σ H Q := by
  refine hta _ ⟨_, rfl, by omega, by omega, fun D nD => ?_⟩
  have ne := hH.neD nD
  refine lc_range (n := n) (fun i H' => HandAt H' p ∧ SameBut p H H' ∧ ∃ (ys : List V) (ps : List Rt), H' D = some (.lst ys) ∧ ps.length = i ∧ (∀ q ∈ ps, ok q) ∧ DpAll K H' ys (ps.map rD)) ⟨hH.same (PB.same_new nD), Same.but (PB.same_new nD), [], [], upd_same, rfl, (fun q hq => by cases hq), .nil⟩ ?_ ?_
  · rintro i H' hi ⟨h1, s1, ys, ps, eD, pl, pg, hA⟩
    refine hs i H' _ h1 fun q v H4 gq hv h4 s4 => ?_
    have eD4 := s4.1 _ _ ne eD
    have yl : ys.length = ps.length := by rw [DpAll_len hA, List.length_map]
    have A4 : DpAll K H4 ys (ps.map rD) := by
      obtain ⟨c, cs, a, b, t, e, _⟩ := h1
      exact DpAll_but e s4.1 (noLs_rD ps) hA
    have sb : ∀ b o, b ≠ D → H4 b = some o → (upd H4 D (.lst (ys ++ [v]))) b = some o := fun b o n e => by rw [upd_ne n]; exact e
    refine ⟨ys, eD4, small1000 (by omega), HandAt.updD hH nD (s1.trans s4) h4, ?_, ys ++ [v], ps ++ [q], upd_same, by rw [List.length_append, pl]; rfl, ?_, ?_⟩
    · refine ⟨fun b o n e => ?_, fun c l e => ?_⟩
      · rw [upd_ne (ne_of_none e nD)]; exact (s1.trans s4).1 b o n e
      · rw [upd_ne (Ne.symm ne)]; exact (s1.trans s4).2 c l e
    · intro z hz
      rcases List.mem_append.mp hz with hz | hz
      · exact pg z hz
      · rw [List.mem_singleton.mp hz]; exact gq
    · rw [List.map_append]
      refine DpAll_but eD4 sb ?_ (DpAll_snoc hv A4)
      have := noLs_rD (ps ++ [q])
      rw [List.map_append] at this
      exact this
  · rintro H' ⟨h1, s1, ys, ps, eD, pl, pg, hA⟩
    exact hd D H' ys ps pl pg nD eD hA h1 s1
theorem halves_sz {cs : List Pl} (h : PatG cs) : ∀ x ∈ halvesF cs, SzR 600 x.1 := fun x hx => by
  rw [halves_norm cs h.poly.ne] at hx
  obtain ⟨n, hn, rfl⟩ := List.mem_map.mp hx
  exact (norm_ok h n hn).1
theorem halves_len {cs : List Pl} (h : PatG cs) : (halvesF cs).length ≤ 60 := by
  rw [halves_norm cs h.poly.ne, List.length_map]; exact norm_len h
theorem halves_ne {cs : List Pl} (h : PatG cs) : halvesF cs ≠ [] := by
  rw [halves_norm cs h.poly.ne]
  rcases cases3 h.poly.ne with ⟨c, rfl⟩ | ⟨a, b, rfl⟩ | l3
  · intro z; cases z
  · intro z; cases z
  · rw [norm3 l3]
    intro z
    have := congrArg List.length z
    rw [List.length_map, List.length_map, round_len] at this
    have : cs.length = 0 := this
    omega
theorem half2 {cs : List Pl} (h : PatG cs) : ∀ x ∈ halvesF cs, SzR 2000 x.2 := fun x hx => by
  rw [halves_norm cs h.poly.ne] at hx
  obtain ⟨n, hn, rfl⟩ := List.mem_map.mp hx
  obtain ⟨a, b⟩ := norm_ok h n hn
  exact amt_sz a (h.g _ b)
theorem nodup_len {α : Type} [DecidableEq α] : ∀ {l m : List α}, l.Nodup → (∀ x ∈ l, x ∈ m) → l.length ≤ m.length
  | [], _, _, _ => Nat.zero_le _
  | a :: l, m, h, k => by
    rw [List.nodup_cons] at h
    have am := k a (List.mem_cons_self ..)
    have i := nodup_len (m := m.erase a) h.2 fun x hx => (List.mem_erase_of_ne (fun e => h.1 (by rw [← e]; exact hx))).mpr (k x (List.mem_cons_of_mem _ hx))
    rw [List.length_erase_of_mem am] at i
    have : 0 < m.length := List.length_pos_of_mem am
    rw [List.length_cons]
    omega
theorem good4 {q : Pl} (h : GoodL q) : GoodP 400 q := ⟨h.1.1, ⟨szr_mono h.1.2.1 (by decide), szr_mono h.1.2.2 (by decide)⟩⟩
/-- the patch of drawn places -/
theorem patG_of {ps os : List Pl} (h : Srt ps os) (hg : ∀ q ∈ ps, GoodL q) (ne : ps ≠ []) (l9 : ps.length ≤ 9) : PatG (hullP os) := by
  have hr := fun q hq => (hg q hq).1.1
  have sub : ∀ c ∈ hullP os, c ∈ ps := fun c hc => (h.m c).mp (hull_sub c hc)
  refine ⟨poly_of h hr ne, Nat.le_trans (nodup_len (hull_nodup h hr) sub) (by omega), fun c hc => good4 (hg c (sub c hc)), 420, by decide, by show (420 : Int).natAbs < 2 ^ 100; decide, fun c hc => ?_⟩
  obtain ⟨⟨r, z⟩, b1, b2⟩ := hg c (sub c hc)
  refine ⟨⟨r, Int.natAbs_dvd_natAbs.mp (by simpa using b1), Int.natAbs_dvd_natAbs.mp (by simpa using b2)⟩, ?_⟩
  have k : ∀ {b : Int}, Sz 9 (420 / b) := fun {b} => Nat.lt_of_le_of_lt (Int.natAbs_ediv_le_natAbs _ _) (by decide)
  exact ⟨sz_mono (sz_mul z.1.1 k) (by decide), sz_mono (sz_mul z.2.1 k) (by decide)⟩
def spLaw (K : PySem.W.Frag) : Sp := fun vs H Q _ => ∃ (a : Addr) (ns : List Int), vs = [.ref a] ∧ SqL K H a (ns.map V.int) ∧ ns.length ≤ 63 ∧ ∀ H', Q (.bl true) H'
abbrev slaw : Stmt := topS 97
theorem sclaw : FnScope ["_law_script", "_law_hand_here", "_law_patch", "_law_corners", "_law_due", "_law_told", "_law_place_here", "_law_lies", "_law_ways", "_law_way_here", "_law_x", "_law_y", "_law_corner", "_law_half_here", "_law_turn"] ["_law_script"] (defScope slaw) := ⟨rfl, rfl, rfl, by decide +kernel, rfl, by decide +kernel, by decide +kernel⟩
section
variable {P : Program} {w : World} {K : PySem.W.Frag} {mg : Str → Option Value} {base : Heap}
theorem lawE (G_law_hand : DefOk P w K mg base CX0 "_law_hand" 1 ["_law_script"] (spHand K)) (G_law_spots : DefOk P w K mg base CX0 "_law_spots" 5 ["_law_hand_here", "_law_most"] (spSpots K)) (Xhull_of : DefOk P w K mg base (L2.CX P w) "hull_of" 9 ["places"] (spHullOf P w K)) (G_law_due_halves : DefOk P w K mg base CX0 "_law_due_halves" 7 ["_law_corners"] (spHalvesL K halvesF)) (Ghalves_of : DefOk P w K mg base CX0 "halves_of" 7 ["patch"] (spHalves K)) (G_law_tuples : DefOk P w K mg base CX0 "_law_tuples" 4 ["_law_thing"] (spTup K 3)) (G_law_grid : DefOk P w K mg base CX0 "_law_grid" 5 ["_law_hand_here", "_law_corners"] (spGrid K)) (G_law_below : DefOk P w K mg base CX0 "_law_below" 1 ["_law_one", "_law_other"] (spBelow K)) (G_law_amount : DefOk P w K mg base CX0 "_law_amount" 4 ["_law_direction_here", "_law_place_here"] (spAmtL K)) (G_law_any_way : DefOk P w K mg base CX0 "_law_any_way" 4 ["_law_hand_here"] (spDraw K (SzR 151))) (G_law_asked : DefOk P w K mg base CX0 "_law_asked" 11 ["_law_patch", "_law_way_here"] (spAsked K)) (G_law_due_sides : DefOk P w K mg base CX0 "_law_due_sides" 1 ["_law_corners"] (spDueS K)) (G_law_twice : DefOk P w K mg base CX0 "_law_twice" 5 ["_law_corners"] (spTwice K)) (G_law_plain : DefOk P w K mg base CX0 "_law_plain" 1 ["_law_told", "_law_due"] (spPlain K)) (G_law_plus : DefOk P w K mg base CX0 "_law_plus" 3 ["_law_one", "_law_other"] (spBin K radd)) (G_law_times : DefOk P w K mg base CX0 "_law_times" 3 ["_law_one", "_law_other"] (spBin K rmul)) (mQ : PMq P w K mg base) (mlen : mg "len" = none) (mrange : mg "range" = none) (mlist : mg "list" = none) (mtuple : mg "tuple" = none) (misinstance : mg "isinstance" = none) {f : Addr} {cdv : Value} {A : Around} {outer : List Env} {s : Shared} {H0 : Hp} {E : XK} (hr : Room 11 (A.deeper (envOfC "law" (defScope slaw) s.heap.objs.size f cdv))) : ∃ t, PSs (cxOf CX0 P w K mg base ["_law_script", "_law_hand_here", "_law_patch", "_law_corners", "_law_due", "_law_told", "_law_place_here", "_law_lies", "_law_ways", "_law_way_here", "_law_x", "_law_y", "_law_corner", "_law_half_here", "_law_turn"] "law" (defScope slaw) f cdv A outer s H0 E).nox (List.drop 10 (defBody slaw)) t ∧
    ∀ (hd pa dx D : Addr) (t_ tv sv : V) (ys : List V) (cs : List Pl) (y6 y7 y8 y9 y10 y11 y12 y13 y14 : Option V) (DE : Ends) (H : Hp), LS K H hd pa dx t_ D ys tv cs → (∀ H', DE.rt (.bl true) H') → t DE [some sv, some (.ref hd), some (.ref pa), some t_, some (.ref D), some tv, y6, y7, y8, y9, y10, y11, y12, y13, y14] H := by
  refine ⟨_, (pss_cons (ps_if (PW.pt (pw_or (pt_cmpR (op_neD hr.units) (pe_propP mQ.cl mQ.sd (pv 2) (hr.mono (by decide)) rfl) (pe_def G_law_due_sides (hr.mono (by decide)) (by rfl) (pa_cons (pv 3) pa_nil)) (nomark _)) (pw_or1 (pt_not (pt_val (pe_def G_law_plain (hr.mono (by decide)) (by rfl) (pa_cons (pe_propP mQ.cl mQ.ar (pv 2) (hr.mono (by decide)) rfl) (pa_cons (pe_def G_law_twice (hr.mono (by decide)) (by rfl) (pa_cons (pv 3) pa_nil)) pa_nil)))))))) (pss_one (ps_ret pe_bl)) pss_nil) (pss_cons (ps_asg (pe_tup (pa_cons (pe_tup (pa_cons pe_int (pa_cons pe_int pa_nil))) (pa_cons (pe_tup (pa_cons pe_int (pa_cons pe_int pa_nil))) pa_nil))) (pg_cou rfl (pgs_cons (pg_name (i := 10) sclaw.nd rfl (.inl rfl)) (pgs_cons (pg_name (i := 11) sclaw.nd rfl (.inl rfl)) pgs_nil)))) (pss_cons (ps_for PassesOwn.never rfl (pi_tup (pv 3)) (pg_name (i := 12) sclaw.nd rfl (.inl rfl)) (pss_one (ps_par (i := 10) (j := 11) rfl sclaw.nd rfl rfl (by decide) rfl rfl (pa_cons (pe_def G_law_plus (hr.mono (by decide)) (by rfl) (pa_cons (pv 10) (pa_cons (pe_ix ix_it (pv 12) pe_int (fun _ _ => rfl)) pa_nil))) (pa_cons (pe_def G_law_plus (hr.mono (by decide)) (by rfl) (pa_cons (pv 11) (pa_cons (pe_ix ix_it (pv 12) pe_int (fun _ _ => rfl)) pa_nil))) pa_nil)) rfl))) (pss_one (ps_ret (pe_and (pe_cmpR (op_eqD hr.units) (pe_propP mQ.cl mQ.md (pv 2) (hr.mono (by decide)) rfl) (pe_tup (pa_cons (pe_def G_law_times (hr.mono (by decide)) (by rfl) (pa_cons (pv 10) (pa_cons (pe_tup (pa_cons pe_int (pa_cons (pe_callB call_len_seq (by rfl) mlen PySem.boot_len (pa_cons (pv 3) pa_nil)) pa_nil))) pa_nil))) (pa_cons (pe_def G_law_times (hr.mono (by decide)) (by rfl) (pa_cons (pv 11) (pa_cons (pe_tup (pa_cons pe_int (pa_cons (pe_callB call_len_seq (by rfl) mlen PySem.boot_len (pa_cons (pv 3) pa_nil)) pa_nil))) pa_nil))) pa_nil))) (nomark _)) (pe_and (pe_cmpR (op_eqD hr.units) (pe_fld (pv 2) rfl) (pv 3) (nomark _)) (pe_one (pe_cmpR (op_eqD hr.units) (pe_def Ghalves_of (hr.mono (by decide)) (by rfl) (pa_cons (pv 2) pa_nil)) (pv 5) (nomark _)))))))))), ?_⟩
  intro hd pa dx D t_ tv sv ys cs y6 y7 y8 y9 y10 y11 y12 y13 y14 DE H hL q
  have hG := hL.good
  refine ⟨_, rfl, pa, dx, _, rfl, hL.pat, _, cs, rfl, hL.pa_, Nat.le_trans hG.l (by decide), fun H1 z1 s1 h1 => ?_⟩
  refine ⟨_, rfl, _, cs, rfl, Dp_same s1 hL.cor, hG, fun H2 z2 s2 h2 => ne_same (shaped_ss _) (Dp_same s2 h1) h2 ⟨_, rfl, itF rfl ?_⟩⟩
  have hL := hL.same (s1.trans s2)
  refine ⟨_, rfl, pa, dx, _, rfl, hL.pat, _, cs, rfl, hL.pa_, hG, fun H3 z3 s3 h3 => ?_⟩
  refine ⟨_, rfl, _, cs, rfl, Dp_same s3 hL.cor, hG, fun H4 z4 s4 h4 => ⟨z3, z4, areaF cs, rfl, Dp_same s4 h3, h4, ⟨_, rfl, itF rfl ?_⟩⟩⟩
  have hL := hL.same (s3.trans s4)
  clear h1 h2 h3 h4
  refine ⟨(by show 2 ≤ sizeLine; decide), fun ta na => ⟨(by show 2 ≤ sizeLine; decide), fun tb nb => ⟨(by show 2 ≤ sizeLine; decide), fun tc nc => ?_⟩⟩⟩
  have sa := PB.same_new (o := .tup [.int 0, .int 1]) na
  have sb := PB.same_new (o := .tup [.int 0, .int 1]) nb
  have sc_ := PB.same_new (o := .tup [.ref ta, .ref tb]) nc
  have da := dp_mkr (K := K) (a := 0) (b := 1) na
  have db := dp_mkr (K := K) (a := 0) (b := 1) nb
  have da := Dp_same (sb.trans sc_) da
  have db := Dp_same sc_ db
  have hL := hL.same ((sa.trans sb).trans sc_)
  refine ⟨_, _, ⟨tc, rfl, .inl (.inl (.inl upd_same))⟩, _, _, rfl, _, _, rfl, rfl, ?_⟩
  generalize upd (upd (upd H4 ta (.tup [.int 0, .int 1])) tb (.tup [.int 0, .int 1])) tc (.tup [.ref ta, .ref tb]) = H5 at hL da db ⊢
  clear sa sb sc_ na nb nc
  obtain ⟨p, xs, rfl, hS, hA⟩ := dp_tup hL.cor
  have lx : xs.length = cs.length := by rw [DpAll_len hA, List.length_map]
  have l30 := hG.l
  have l0 : 0 < cs.length := List.length_pos_iff.mpr hG.poly.ne
  obtain ⟨N, n0, zN, hN⟩ := hG.N
  have zN9 : Sz 900 N := sz_mono zN (by decide)
  have sm : ∀ (k : Pl → Rt) (l : List Pl), (∀ c ∈ l, ∃ t, Rep (k c) t N ∧ Sz 900 t) → l.length ≤ 60 → IsRat (sumR (l.map k)) ∧ SzR 2000 (sumR (l.map k)) := fun k l hk ll => by
    obtain ⟨a, b⟩ := sum_szr n0 zN9 (rs := l.map k) (by rw [List.length_map]; exact ll) (fun r hr => by obtain ⟨x, hx, rfl⟩ := List.mem_map.mp hr; exact hk x hx)
    exact ⟨a, szr_mono b (by decide)⟩
  have r1 : ∀ c ∈ cs, ∃ t, Rep c.1 t N ∧ Sz 900 t := fun c hc => ⟨_, (rep_c n0 (hN c hc).1).1, sz_mono (hN c hc).2.1 (by decide)⟩
  have r2 : ∀ c ∈ cs, ∃ t, Rep c.2 t N ∧ Sz 900 t := fun c hc => ⟨_, (rep_c n0 (hN c hc).1).2, sz_mono (hN c hc).2.2 (by decide)⟩
  refine ⟨_, rfl, p, rfl, ⟨_, hS⟩, for_tup (K := K) (a := p) (xs := xs) (fun i σ H' => ∃ (vx vy : V) (y12 : Option V), σ = [some sv, some (.ref hd), some (.ref pa), some (.ref p), some (.ref D), some tv, y6, y7, y8, y9, some vx, some vy, y12, y13, y14] ∧ Same H5 H' ∧ Dp K H' vx (rD (sumR ((cs.take i).map (·.1)))) ∧ Dp K H' vy (rD (sumR ((cs.take i).map (·.2)))))
    ⟨_, _, y12, rfl, (fun _ _ z => z), da, db⟩ (fun i σ H' _ ⟨_, _, _, _, s, _⟩ => same_t s hS) ?_ ?_⟩
  · rintro i x σ H6 hi ⟨vx, vy, y, rfl, s6, hx, hy⟩
    obtain ⟨c, ec, hc⟩ := dpall_at hA hi
    have mc := List.mem_of_getElem? ec
    have gc := hG.g c mc
    obtain ⟨ax, ay, kc, hcx, hcy⟩ := pla_t (Dp_same s6 hc)
    have ll : (cs.take i).length ≤ 60 := by rw [List.length_take]; omega
    obtain ⟨i1, w1⟩ := sm (·.1) (cs.take i) (fun c hc => r1 c (List.mem_of_mem_take hc)) ll
    obtain ⟨i2, w2⟩ := sm (·.2) (cs.take i) (fun c hc => r2 c (List.mem_of_mem_take hc)) ll
    have q1 := p6 (n := 2000) gc (by decide)
    refine ⟨_, rfl, _, rfl, _, _, 0, _, rfl, kc, rfl, _, _, _, _, rfl, hx, hcx, i1, gc.1.1, w1, q1.1, fun H7 z7 s7 h7 => ?_⟩
    refine ⟨_, rfl, _, rfl, _, _, 1, _, rfl, kc.same s7, rfl, _, _, _, _, rfl, Dp_same s7 hy, Dp_same s7 hcy, i2, gc.1.2, w2, q1.2, fun H8 z8 s8 h8 => ⟨_, _, rfl, _, _, _, rfl, (s6.trans s7).trans s8, ?_, ?_⟩⟩
    · rw [List.take_add_one, ec, List.map_append]
      show Dp K H8 z7 (rD (sumR (_ ++ [_])))
      rw [sumR_snoc]; exact Dp_same s8 h7
    · rw [List.take_add_one, ec, List.map_append]
      show Dp K H8 z8 (rD (sumR (_ ++ [_])))
      rw [sumR_snoc]; exact h8
  · rintro σ H6 ⟨vx, vy, y, rfl, s6, hx, hy⟩
    rw [lx, List.take_length] at hx hy
    have hL := hL.same s6
    obtain ⟨i1, w1⟩ := sm (·.1) cs r1 (by omega)
    obtain ⟨i2, w2⟩ := sm (·.2) cs r2 (by omega)
    have nr : IsRat ((1, (cs.length : Int)) : Rt) := ⟨by show (0 : Int) < cs.length; omega, by show Nat.gcd 1 _ = 1; exact Nat.gcd_one_left _⟩
    have nz : SzR 2000 ((1, (cs.length : Int)) : Rt) := ⟨by show (1 : Int).natAbs < 2 ^ 2000; exact Nat.one_lt_two_pow (by decide), by
      show ((cs.length : Int)).natAbs < 2 ^ 2000
      rw [Int.natAbs_natCast]
      exact Nat.lt_of_le_of_lt l30 (Nat.lt_of_lt_of_le (by decide : 30 < 2 ^ 5) (Nat.pow_le_pow_right (by decide) (by decide)))⟩
    refine ⟨_, rfl, pa, dx, _, rfl, hL.pat, _, cs, rfl, hL.pa_, hG, fun H7 z7 s7 h7 => ?_⟩
    have hS7 := same_t (s6.trans s7) hS
    refine ⟨_, rfl, _, rfl, p, xs, rfl, .inr hS7, (by show 2 ≤ sizeLine; decide), fun t1 n1 => ?_⟩
    have s8 := PB.same_new (o := .tup [.int 1, .int (xs.length : Int)]) n1
    have d1 : Dp K (upd H7 t1 (.tup [.int 1, .int (xs.length : Int)])) (.ref t1) (rD (1, (cs.length : Int))) := by rw [lx]; exact dp_mkr n1
    refine ⟨vx, .ref t1, _, _, rfl, Dp_same (s7.trans s8) hx, d1, i1, nr, w1, nz, fun H9 z9 s9 h9 => ?_⟩
    have s79 := (s7.trans s8).trans s9
    refine ⟨_, rfl, _, rfl, p, xs, rfl, .inr (same_t (s8.trans s9) hS7), (by show 2 ≤ sizeLine; decide), fun t2 n2 => ?_⟩
    have s10 := PB.same_new (o := .tup [.int 1, .int (xs.length : Int)]) n2
    have d2 : Dp K (upd H9 t2 (.tup [.int 1, .int (xs.length : Int)])) (.ref t2) (rD (1, (cs.length : Int))) := by rw [lx]; exact dp_mkr n2
    refine ⟨vy, .ref t2, _, _, rfl, Dp_same (s79.trans s10) hy, d2, i2, nr, w2, nz, fun H11 z11 s11 h11 => ⟨(by show 2 ≤ sizeLine; decide), fun t3 n3 => ?_⟩⟩
    have s12 := PB.same_new (o := .tup [z9, z11]) n3
    have d3 := dp_mk2 n3 (Dp_same (s10.trans s11) h9) h11
    have s912 := (s10.trans s11).trans s12
    have s712 := (s8.trans s9).trans s912
    have eM : rEqD K z7 (.ref t3) (upd H11 t3 (.tup [z9, z11])) = rEqD K z7 (.ref t3) (upd H11 t3 (.tup [z9, z11])) := rfl
    refine eq_same (d := pD (meanP cs)) (shaped_pp _) (Dp_same s712 h7) d3 ⟨true, rfl, itT rfl ?_⟩
    have hL := hL.same (s7.trans s712)
    refine ⟨_, rfl, pa, cP K, dx, _, .ref p, rfl, hL.pat, mQ.cl, mQ.no, rfl, _, rfl, eq_same (shaped_pc cs) hL.cor hL.cor ⟨true, rfl, itT rfl ?_⟩⟩
    refine ⟨_, rfl, _, cs, rfl, hL.pa_, hG, fun H13 z13 s13 h13 => ⟨_, rfl, eq_same (shaped_hs _).1 h13 (Dp_same s13 hL.told) (q _)⟩⟩
end
end F3
set_option Elab.async false
set_option linter.all false
set_option maxRecDepth 100000
set_option maxHeartbeats 4000000
set_option exponentiation.threshold 10000
namespace F3
open PySem PySem.Spec PyProof.Rows L2 FX RM PB KD KS
section
variable {P : Program} {w : World} {K : PySem.W.Frag} {mg : Str → Option Value} {base : Heap}
theorem lawW (G_law_hand : DefOk P w K mg base CX0 "_law_hand" 1 ["_law_script"] (spHand K)) (G_law_spots : DefOk P w K mg base CX0 "_law_spots" 5 ["_law_hand_here", "_law_most"] (spSpots K)) (Xhull_of : DefOk P w K mg base (L2.CX P w) "hull_of" 9 ["places"] (spHullOf P w K)) (G_law_due_halves : DefOk P w K mg base CX0 "_law_due_halves" 7 ["_law_corners"] (spHalvesL K halvesF)) (Ghalves_of : DefOk P w K mg base CX0 "halves_of" 7 ["patch"] (spHalves K)) (G_law_tuples : DefOk P w K mg base CX0 "_law_tuples" 4 ["_law_thing"] (spTup K 3)) (G_law_grid : DefOk P w K mg base CX0 "_law_grid" 5 ["_law_hand_here", "_law_corners"] (spGrid K)) (G_law_below : DefOk P w K mg base CX0 "_law_below" 1 ["_law_one", "_law_other"] (spBelow K)) (G_law_amount : DefOk P w K mg base CX0 "_law_amount" 4 ["_law_direction_here", "_law_place_here"] (spAmtL K)) (G_law_any_way : DefOk P w K mg base CX0 "_law_any_way" 4 ["_law_hand_here"] (spDraw K (SzR 151))) (G_law_asked : DefOk P w K mg base CX0 "_law_asked" 11 ["_law_patch", "_law_way_here"] (spAsked K)) (G_law_due_sides : DefOk P w K mg base CX0 "_law_due_sides" 1 ["_law_corners"] (spDueS K)) (G_law_twice : DefOk P w K mg base CX0 "_law_twice" 5 ["_law_corners"] (spTwice K)) (G_law_plain : DefOk P w K mg base CX0 "_law_plain" 1 ["_law_told", "_law_due"] (spPlain K)) (G_law_plus : DefOk P w K mg base CX0 "_law_plus" 3 ["_law_one", "_law_other"] (spBin K radd)) (G_law_times : DefOk P w K mg base CX0 "_law_times" 3 ["_law_one", "_law_other"] (spBin K rmul)) (mQ : PMq P w K mg base) (mlen : mg "len" = none) (mrange : mg "range" = none) (mlist : mg "list" = none) (mtuple : mg "tuple" = none) (misinstance : mg "isinstance" = none) {f : Addr} {cdv : Value} {A : Around} {outer : List Env} {s : Shared} {H0 : Hp} {E : XK} (hr : Room 11 (A.deeper (envOfC "law" (defScope slaw) s.heap.objs.size f cdv))) : ∃ t, PSs (cxOf CX0 P w K mg base ["_law_script", "_law_hand_here", "_law_patch", "_law_corners", "_law_due", "_law_told", "_law_place_here", "_law_lies", "_law_ways", "_law_way_here", "_law_x", "_law_y", "_law_corner", "_law_half_here", "_law_turn"] "law" (defScope slaw) f cdv A outer s H0 E).nox (List.drop 7 (defBody slaw)) t ∧
    ∀ (hd pa dx D : Addr) (t_ tv sv : V) (ys : List V) (cs : List Pl) (y6 y7 y8 y9 y10 y11 y12 y13 y14 : Option V) (DE : Ends) (H : Hp), LS K H hd pa dx t_ D ys tv cs → (∀ H', DE.rt (.bl true) H') → t DE [some sv, some (.ref hd), some (.ref pa), some t_, some (.ref D), some tv, y6, y7, y8, y9, y10, y11, y12, y13, y14] H := by
  obtain ⟨tn, dn, kn⟩ := lawE G_law_hand G_law_spots Xhull_of G_law_due_halves Ghalves_of G_law_tuples G_law_grid G_law_below G_law_amount G_law_any_way G_law_asked G_law_due_sides G_law_twice G_law_plain G_law_plus G_law_times mQ mlen mrange mlist mtuple misinstance (outer := outer) (f := f) (cdv := cdv) (s := s) (H0 := H0) (E := E) (A := A) (K := K) (mg := mg) (base := base) (P := P) (w := w) hr
  refine ⟨_, (pss_cons (ps_set (i := 8) sclaw.nd rfl (.inl rfl) (pe_op op_cat (pe_lc (own := [("_law_half_here", 13)]) rfl sclaw.nd (pi_seq (pv 4)) (blkOk_by (N := ["_law_script", "_law_hand_here", "_law_patch", "_law_corners", "_law_due", "_law_told", "_law_place_here", "_law_lies", "_law_ways", "_law_way_here", "_law_x", "_law_y", "_law_corner", "_law_half_here", "_law_turn"]) (sc := defScope slaw) (by decide +kernel)) (fun _ _ _ _ _ => (pg_name (i := 13) sclaw.nd rfl (.inl rfl))) (fun _ _ _ _ _ => pts_nil) (fun _ _ _ _ _ => (pe_ix (ix_itK K) (pv 13) pe_int (fun _ _ => rfl)))) (pe_lc (own := [("_law_turn", 14)]) rfl sclaw.nd (pi_range1 (by rfl) mrange (pa_cons pe_int pa_nil)) (blkOk_by (N := ["_law_script", "_law_hand_here", "_law_patch", "_law_corners", "_law_due", "_law_told", "_law_place_here", "_law_lies", "_law_ways", "_law_way_here", "_law_x", "_law_y", "_law_corner", "_law_half_here", "_law_turn"]) (sc := defScope slaw) (by decide +kernel)) (fun _ _ _ _ _ => (pg_name (i := 14) sclaw.nd rfl (.inl rfl))) (fun _ _ _ _ _ => pts_nil) (fun _ _ _ _ _ => (pe_def G_law_any_way (hr.mono (by decide)) (by rfl) (pa_cons (pv 1) pa_nil)))))) (pss_cons (ps_expr (pe_bm PySem.F.plainAttrs_list PySem.F.slot_list_append PySem.F.type_list_append mt_append (pv 8) (pa_cons (pe_tup (pa_cons (pe_un un_neg (pe_ix ix_it (pe_ix ix_list (pv 8) pe_int (fun _ _ => rfl)) pe_int (fun _ _ => rfl))) (pa_cons (pe_un un_neg (pe_ix ix_it (pe_ix ix_list (pv 8) pe_int (fun _ _ => rfl)) pe_int (fun _ _ => rfl))) pa_nil))) pa_nil))) (pss_cons (ps_for PassesOwn.never rfl (pi_list (pv 8)) (pg_name (i := 9) sclaw.nd rfl (.inl rfl)) (pss_one (ps_if (pt_not (pt_val (pe_def G_law_asked (hr.mono (by decide)) (by rfl) (pa_cons (pv 2) (pa_cons (pv 9) pa_nil))))) (pss_one (ps_ret pe_bl)) pss_nil))) dn))), ?_⟩
  intro hd pa dx D t_ tv sv ys cs y6 y7 y8 y9 y10 y11 y12 y13 y14 DE H hL q
  have hG := hL.good
  have dl : SqL K H D ys := .inl (.inl hL.eD)
  have ly : ys.length = (halvesF cs).length := by rw [DpAll_len hL.due, List.length_map]
  have lh := halves_len hG
  dsimp only [tSeq, tAsg, tOp, gName]
  refine tlc_all (K := K) (fun R r => .inl ⟨_, rfl, D, rfl, ⟨_, dl⟩, r⟩) (walk_list (K := K) (a := D) (xs := ys)) (fun i => rD ((halvesF cs).getD i ((0, 0), (0, 1))).1) (fun i => noL_r _) (small1000 (by omega)) (fun H' s => s.seq dl) ZP.yat_same ?_ ?_
  · intro i x H1 H2 R il s1 hy hR
    obtain ⟨rfl, ex⟩ := hy
    obtain ⟨h, eh, hd_⟩ := dpall_at hL.due ex
    obtain ⟨pp, v1, v2, rfl, hc, d1, d2⟩ := dp_t2 (Dp_same s1 hd_)
    refine ⟨rfl, _, rfl, v1, v2, 0, _, rfl, ⟨pp, rfl, .inl hc⟩, rfl, hR _ _ (fun _ _ z => z) ?_⟩
    rw [getD_of eh]; exact d1
  intro D1 H1 zs s1 nD1 eD1 hZ
  rw [range_map (halvesF cs) ((0, 0), (0, 1)) (g := fun h => rD h.1) ly] at hZ
  have neD1 : D1 ≠ hd := hL.hand.neD nD1
  have hL1 := hL.same s1
  refine lc_handR (K := K) (ok := SzR 151) (p := hd) 3 (by decide) (fun R hR => hR) hL1.hand (fun i G R hG_ hR => ⟨rfl, .ref hd, rfl, hd, rfl, hG_, fun r v G1 gr hv g1 t1 => hR r v G1 gr hv g1 t1⟩) (fun D2 H2 us rs rl rg nD2 eD2 hU h2 s2 => ?_)
  have eD1' := s2.1 _ _ neD1 eD1
  have hZ2 : DpAll K H2 zs ((halvesF cs).map fun h => rD h.1) := by
    obtain ⟨c, cs', i, r, t, a, _⟩ := hL1.hand
    refine DpAll_but a s2.1 ?_ hZ
    have := noLs_rD ((halvesF cs).map (·.1))
    rw [List.map_map] at this; exact this
  have lz : zs.length = (halvesF cs).length := by rw [DpAll_len hZ, List.length_map]
  have lu : us.length = 3 := by rw [DpAll_len hU, List.length_map, rl]
  have hL2 := hL1.but s2 h2
  refine ⟨D1, D2, zs, us, rfl, rfl, eD1', eD2, Nat.le_trans (show zs.length + us.length ≤ 1000 by omega) (by decide), fun W nW => ?_⟩
  have sW := PB.same_new (o := .lst (zs ++ us)) nW
  have hL3 := hL2.same sW
  have hW : DpAll K (upd H2 W (.lst (zs ++ us))) (zs ++ us) (((halvesF cs).map (·.1) ++ rs).map rD) := by
    rw [List.map_append, List.map_map]
    exact DpAll_same sW (dp_app hZ2 hU)
  have wz : ∀ d ∈ (halvesF cs).map (·.1) ++ rs, SzR 600 d := fun d hd => by
    rcases List.mem_append.mp hd with h | h
    · obtain ⟨x, hx, rfl⟩ := List.mem_map.mp h
      exact halves_sz hG x hx
    · exact szr_mono (rg d h) (by decide)
  have wl : ((halvesF cs).map (·.1) ++ rs).length ≤ 70 := by rw [List.length_append, List.length_map, rl]; omega
  have wn : 0 < ((halvesF cs).map (·.1) ++ rs).length := by
    rw [List.length_append, List.length_map]
    have := List.length_pos_iff.mpr (halves_ne hG)
    omega
  have eW : (upd H2 W (.lst (zs ++ us))) W = some (.lst (zs ++ us)) := upd_same
  have nWp : W ≠ pa := fun e => by rw [e, hL2.pat] at nW; cases nW
  have nWD : W ≠ D := fun e => by rw [e, hL2.eD] at nW; cases nW
  have neW : W ≠ hd := hL2.hand.neD nW
  have hh2 := hL2.hand
  generalize (halvesF cs).map (·.1) ++ rs = ws at hW wz wl wn
  generalize zs ++ us = vs at hW eW hL3 sW ⊢
  generalize upd H2 W (.lst vs) = H3 at hW eW hL3 sW ⊢
  have lv : vs.length = ws.length := by rw [DpAll_len hW, List.length_map]
  clear hL hL1 hL2 hZ hZ2 hU eD1 eD1' eD2 s1 s2
  have v0e : vs[0]? = some (vs[0]'(by omega)) := List.getElem?_eq_getElem (by omega)
  generalize vs[0]'(by omega) = v0 at v0e
  obtain ⟨d0, ed0, hd0⟩ := dpall_at hW v0e
  have hWl : SqL K H3 W vs := .inl (.inl eW)
  have k0 := cou_r hd0
  have m0 := List.mem_of_getElem? ed0
  refine ⟨_, rfl, .inl ⟨rfl, _, hWl⟩, _, rfl, W, vs, 0, v0, rfl, rfl, hWl, atI_nat (j := 0) v0e, _, _, 0, _, rfl, k0, rfl, _, rfl, _, rfl, W, vs, 0, v0, rfl, rfl, hWl, atI_nat (j := 0) v0e, _, _, 1, _, rfl, k0, rfl, _, rfl, (by show 2 ≤ sizeLine; decide), fun t nt => ?_⟩
  have st := PB.same_new (o := .tup [.int (-d0.1), .int (-d0.2)]) nt
  have dt_ : Dp K (upd H3 t (.tup [.int (-d0.1), .int (-d0.2)])) (.ref t) (rD (ng2 d0)) := dp_mkr nt
  have eW4 := st _ _ eW
  have hW4 := DpAll_same st hW
  have hL4 := hL3.same st
  have s24 := sW.trans st
  generalize upd H3 t (.tup [.int (-d0.1), .int (-d0.2)]) = H4 at dt_ eW4 hW4 hL4 s24 ⊢
  refine ⟨W, vs, .ref t, rfl, rfl, eW4, small1000 (by omega), ?_⟩
  have hW5 := app_dp eW4 hW4 dt_ (by have := noLs_rD (ws ++ [ng2 d0]); rw [List.map_append] at this; exact this)
  have hL5 : LS K (upd H4 W (.lst (vs ++ [.ref t]))) hd pa dx t_ D ys tv cs := by
    refine ⟨?_, ?_, ?_, ?_, ?_, hL4.neD, ?_, hG⟩
    · exact HandAt.updD hh2 nW (Same.but s24) hL4.hand
    · rw [upd_ne (Ne.symm nWp)]; exact hL4.pat
    · exact Dp_but eW4 (fun b u n e => by rw [upd_ne n]; exact e) (noL_ps cs) hL4.cor
    · rw [upd_ne (Ne.symm nWD)]; exact hL4.eD
    · exact DpAll_but eW4 (fun b u n e => by rw [upd_ne n]; exact e) (noLs_hs _) hL4.due
    · exact Dp_but eW4 (fun b u n e => by rw [upd_ne n]; exact e) (noL_hs _) hL4.told
  have eW5 : (upd H4 W (.lst (vs ++ [.ref t]))) W = some (.lst (vs ++ [.ref t])) := upd_same
  have wz5 : ∀ d ∈ ws ++ [ng2 d0], SzR 600 d := fun d hd => by
    rcases List.mem_append.mp hd with h | h
    · exact wz d h
    · rw [List.mem_singleton.mp h]; exact szr_ng (wz _ m0)
  rw [show ws.map rD ++ [rD (ng2 d0)] = (ws ++ [ng2 d0]).map rD by rw [List.map_append]; rfl] at hW5
  generalize upd H4 W (.lst (vs ++ [.ref t])) = H5 at hW5 hL5 eW5 ⊢
  generalize vs ++ [V.ref t] = vs5 at hW5 eW5 ⊢
  generalize ws ++ [ng2 d0] = ws5 at hW5 wz5
  refine ⟨_, rfl, W, rfl, ⟨_, .inl (.inl eW5)⟩, for_list (K := K) (a := W) (xs := vs5) (fun i σ H' => ∃ (y9 : Option V), σ = [some sv, some (.ref hd), some (.ref pa), some t_, some (.ref D), some tv, y6, y7, some (.ref W), y9, y10, y11, y12, y13, y14] ∧ Same H5 H') ⟨y9, rfl, fun _ _ z => z⟩ (fun i σ H' _ ⟨_, _, s⟩ => s.seq (.inl (.inl eW5))) ?_ ?_⟩
  · rintro i x σ H6 hi ⟨y, rfl, s6⟩
    obtain ⟨d, ed, hd_⟩ := dpall_at hW5 hi
    have hL6 := hL5.same s6
    exact ⟨_, rfl, _, rfl, .ref pa, x, cs, d, rfl, hL6.pa_, Dp_same s6 hd_, wz5 d (List.mem_of_getElem? ed), hG, fun H7 s7 => ⟨_, rfl, itF rfl ⟨_, rfl, s6.trans s7⟩⟩⟩
  · rintro σ H6 ⟨y, rfl, s6⟩
    exact kn hd pa dx D t_ tv sv ys cs _ _ _ _ _ _ _ _ _ DE H6 (hL5.same s6) q
end
end F3
set_option Elab.async false
set_option linter.all false
set_option maxRecDepth 100000
set_option maxHeartbeats 4000000
set_option exponentiation.threshold 10000
namespace F3
open PySem PySem.Spec PyProof.Rows L2 FX RM PB KD KS
section
variable {P : Program} {w : World} {K : PySem.W.Frag} {mg : Str → Option Value} {base : Heap}
theorem lawP (G_law_hand : DefOk P w K mg base CX0 "_law_hand" 1 ["_law_script"] (spHand K)) (G_law_spots : DefOk P w K mg base CX0 "_law_spots" 5 ["_law_hand_here", "_law_most"] (spSpots K)) (Xhull_of : DefOk P w K mg base (L2.CX P w) "hull_of" 9 ["places"] (spHullOf P w K)) (G_law_due_halves : DefOk P w K mg base CX0 "_law_due_halves" 7 ["_law_corners"] (spHalvesL K halvesF)) (Ghalves_of : DefOk P w K mg base CX0 "halves_of" 7 ["patch"] (spHalves K)) (G_law_tuples : DefOk P w K mg base CX0 "_law_tuples" 4 ["_law_thing"] (spTup K 3)) (G_law_grid : DefOk P w K mg base CX0 "_law_grid" 5 ["_law_hand_here", "_law_corners"] (spGrid K)) (G_law_below : DefOk P w K mg base CX0 "_law_below" 1 ["_law_one", "_law_other"] (spBelow K)) (G_law_amount : DefOk P w K mg base CX0 "_law_amount" 4 ["_law_direction_here", "_law_place_here"] (spAmtL K)) (G_law_any_way : DefOk P w K mg base CX0 "_law_any_way" 4 ["_law_hand_here"] (spDraw K (SzR 151))) (G_law_asked : DefOk P w K mg base CX0 "_law_asked" 11 ["_law_patch", "_law_way_here"] (spAsked K)) (G_law_due_sides : DefOk P w K mg base CX0 "_law_due_sides" 1 ["_law_corners"] (spDueS K)) (G_law_twice : DefOk P w K mg base CX0 "_law_twice" 5 ["_law_corners"] (spTwice K)) (G_law_plain : DefOk P w K mg base CX0 "_law_plain" 1 ["_law_told", "_law_due"] (spPlain K)) (G_law_plus : DefOk P w K mg base CX0 "_law_plus" 3 ["_law_one", "_law_other"] (spBin K radd)) (G_law_times : DefOk P w K mg base CX0 "_law_times" 3 ["_law_one", "_law_other"] (spBin K rmul)) (mQ : PMq P w K mg base) (mlen : mg "len" = none) (mrange : mg "range" = none) (mlist : mg "list" = none) (mtuple : mg "tuple" = none) (misinstance : mg "isinstance" = none) {f : Addr} {cdv : Value} {A : Around} {outer : List Env} {s : Shared} {H0 : Hp} {E : XK} (hr : Room 11 (A.deeper (envOfC "law" (defScope slaw) s.heap.objs.size f cdv))) : ∃ t, PSs (cxOf CX0 P w K mg base ["_law_script", "_law_hand_here", "_law_patch", "_law_corners", "_law_due", "_law_told", "_law_place_here", "_law_lies", "_law_ways", "_law_way_here", "_law_x", "_law_y", "_law_corner", "_law_half_here", "_law_turn"] "law" (defScope slaw) f cdv A outer s H0 E).nox (List.drop 6 (defBody slaw)) t ∧
    ∀ (hd pa dx D : Addr) (t_ tv sv : V) (ys : List V) (cs : List Pl) (y6 y7 y8 y9 y10 y11 y12 y13 y14 : Option V) (DE : Ends) (H : Hp), LS K H hd pa dx t_ D ys tv cs → (∀ H', DE.rt (.bl true) H') → t DE [some sv, some (.ref hd), some (.ref pa), some t_, some (.ref D), some tv, y6, y7, y8, y9, y10, y11, y12, y13, y14] H := by
  obtain ⟨tn, dn, kn⟩ := lawW G_law_hand G_law_spots Xhull_of G_law_due_halves Ghalves_of G_law_tuples G_law_grid G_law_below G_law_amount G_law_any_way G_law_asked G_law_due_sides G_law_twice G_law_plain G_law_plus G_law_times mQ mlen mrange mlist mtuple misinstance (outer := outer) (f := f) (cdv := cdv) (s := s) (H0 := H0) (E := E) (A := A) (K := K) (mg := mg) (base := base) (P := P) (w := w) hr
  refine ⟨_, (pss_cons (ps_for PassesOwn.never rfl (pi_list (pe_def G_law_grid (hr.mono (by decide)) (by rfl) (pa_cons (pv 1) (pa_cons (pv 3) pa_nil)))) (pg_name (i := 6) sclaw.nd rfl (.inr rfl)) (pss_cons (ps_set (i := 7) sclaw.nd rfl (.inl rfl) (pe_notT (pe_lc (own := [("_law_half_here", 13)]) rfl sclaw.nd (pi_seq (pv 4)) (blkOk_by (N := ["_law_script", "_law_hand_here", "_law_patch", "_law_corners", "_law_due", "_law_told", "_law_place_here", "_law_lies", "_law_ways", "_law_way_here", "_law_x", "_law_y", "_law_corner", "_law_half_here", "_law_turn"]) (sc := defScope slaw) (by decide +kernel)) (fun _ _ _ _ _ => (pg_name (i := 13) sclaw.nd rfl (.inl rfl))) (fun _ _ _ _ _ => (pts_one (pt_val (pe_def G_law_below (hr.mono (by decide)) (by rfl) (pa_cons (pe_ix (ix_itK K) (pv 13) pe_int (fun _ _ => rfl)) (pa_cons (pe_def G_law_amount (hr.mono (by decide)) (by rfl) (pa_cons (pe_ix (ix_itK K) (pv 13) pe_int (fun _ _ => rfl)) (pa_cons (pv 6) pa_nil))) pa_nil)))))) (fun _ _ _ _ _ => pe_int)))) (pss_one (ps_if (PW.pt (pw_or (pt_cmpR op_ne (pe_cmpR (op_inP mQ (hr.mono (by decide))) (pv 6) (pv 2) (by with_unfolding_all rfl)) (pv 7) (nomark _)) (pw_or1 (pt_cmpR op_ne (pe_cmpR (op_inP mQ (hr.mono (by decide))) (pe_callTy call_list_of (by rfl) mlist (by decide +kernel) (pa_cons (pv 6) pa_nil)) (pv 2) (by with_unfolding_all rfl)) (pv 7) (nomark _))))) (pss_one (ps_ret pe_bl)) pss_nil)))) dn), ?_⟩
  intro hd pa dx D t_ tv sv ys cs y6 y7 y8 y9 y10 y11 y12 y13 y14 DE H hL q
  have hG := hL.good
  have lh := halves_len hG
  refine ⟨_, rfl, _, rfl, hd, t_, cs, rfl, hL.hand, hL.cor, hG, fun H1 G gs ps nG eG hGs lp gp h1 s1 => ?_⟩
  have neG : G ≠ hd := hL.hand.neD nG
  have hL1 := hL.but s1 h1
  have gl : SqL K H1 G gs := .inl (.inl eG)
  refine ⟨G, rfl, ⟨_, gl⟩, for_list (K := K) (a := G) (xs := gs) (fun i σ H' => ∃ (y6 y7 : Option V), σ = [some sv, some (.ref hd), some (.ref pa), some t_, some (.ref D), some tv, y6, y7, y8, y9, y10, y11, y12, y13, y14] ∧ Same H1 H') ⟨y6, y7, rfl, fun _ _ z => z⟩ (fun i σ H' _ ⟨_, _, _, s⟩ => s.seq gl) ?_ ?_⟩
  · rintro i x σ H2 hi ⟨y, y', rfl, s2⟩
    obtain ⟨pl, epl, hpl⟩ := dpall_at hGs hi
    have hpl := Dp_same s2 hpl
    have gpl := gp pl (List.mem_of_getElem? epl)
    have hL2 := hL1.same s2
    have dl : SqL K H2 D ys := .inl (.inl hL2.eD)
    have ly : ys.length = (halvesF cs).length := by rw [DpAll_len hL2.due, List.length_map]
    dsimp only [tSeq, tAsg, tNotT, gName]
    refine tlc_filt (K := K) (fun R r => .inl ⟨_, rfl, D, rfl, ⟨_, dl⟩, r⟩) (walk_list (K := K) (a := D) (xs := ys)) (fun i => decide (ltR ((halvesF cs).getD i ((0, 0), (0, 1))).2 (amt ((halvesF cs).getD i ((0, 0), (0, 1))).1 pl))) (fun i => .int 1) (fun i => rfl) (small1000 (by omega)) (fun H' s => s.seq dl) ZP.yat_same ?_ ?_
    · intro i z H3 H4 R R0 il s3 hy yes no
      obtain ⟨rfl, ex⟩ := hy
      obtain ⟨h, eh, hd_⟩ := dpall_at hL2.due ex
      rw [getD_of eh] at yes no
      have mh := List.mem_of_getElem? eh
      obtain ⟨pp, v1, v2, rfl, hc, d1, d2⟩ := dp_t2 (Dp_same s3 hd_)
      have kc : Cou K _ (.ref pp) v1 v2 := ⟨pp, rfl, .inl hc⟩
      refine ⟨rfl, _, rfl, v1, v2, 1, _, rfl, kc, rfl, _, rfl, v1, v2, 0, _, rfl, kc, rfl, _, rfl, v1, x, h.1, pl, rfl, d1, Dp_same s3 hpl, gpl.1, halves_sz hG h mh, p6 gpl (by decide), fun H5 u s5 hu => ?_⟩
      rw [amtL_eq gpl.1] at hu
      refine ⟨v2, u, _, _, rfl, Dp_same s5 d2, hu, half2 hG h mh, amt_sz (halves_sz hG h mh) gpl, ⟨_, rfl, ?_⟩⟩
      by_cases c : ltR h.2 (amt h.1 pl)
      · exact itT (decide_eq_true c) (yes (decide_eq_true c) _ _ s5 (.int 1))
      · exact itF (decide_eq_false c) (no (decide_eq_false c) _ s5)
    · intro E1 H3 zs s3 nE eE hZ
      have el : SqL K H3 E1 zs := .inl (.inl eE)
      have hL3 := hL2.same s3
      have lies : (!(!zs.isEmpty)) = true ↔ Lies cs pl := by
        rw [Bool.not_not, List.isEmpty_iff, ← List.length_eq_zero_iff, DpAll_len hZ, List.length_map, List.length_eq_zero_iff, List.filter_eq_nil_iff]
        constructor
        · intro h z hz c
          obtain ⟨j, ej⟩ := List.getElem?_of_mem hz
          have jl := (List.getElem?_eq_some_iff.mp ej).1
          refine h j (List.mem_range.mpr (by rw [ly]; exact jl)) (decide_eq_true ?_)
          rw [getD_of ej]; exact c
        · intro h j hj c
          have jl : j < (halvesF cs).length := by rw [← ly]; exact List.mem_range.mp hj
          have ej : (halvesF cs)[j]? = some ((halvesF cs)[j]) := List.getElem?_eq_getElem jl
          have c := of_decide_eq_true c
          rw [getD_of ej] at c
          exact h _ (List.getElem_mem jl) c
      refine ⟨!zs.isEmpty, .inl ⟨zs, el, rfl⟩, ?_⟩
      generalize (!(!zs.isEmpty)) = lb at lies ⊢
      have hp3 := Dp_same s3 hpl
      refine ⟨_, rfl, _, rfl, pa, dx, _, rfl, hL3.pat, .ref pa, x, cs, pl, rfl, hL3.pa_, hG, pla_t hp3, gpl, fun k H4 hk s4 => ⟨k, rfl, _, rfl, ⟨rfl, _, rfl, ?_⟩⟩⟩
      have ek : k = lb := Bool.eq_iff_iff.mpr (hk.trans lies.symm)
      subst ek
      refine itF (by cases k <;> rfl) ?_
      have hL4 := hL3.same s4
      obtain ⟨tp, xs, rfl, hT, hX⟩ := dp_tup (Dp_same s4 hp3)
      refine ⟨_, rfl, tp, xs, rfl, .inr hT, fun l nl => ?_⟩
      have sl := PB.same_new (o := .lst xs) nl
      have hl : Dp K (upd H4 l (.lst xs)) (.ref l) (plD pl) := .lst (.inl (.inl upd_same)) (DpAll_same sl hX)
      have hL5 := hL4.same sl
      refine ⟨_, rfl, pa, dx, _, rfl, hL5.pat, .ref pa, .ref l, cs, pl, rfl, hL5.pa_, hG, pla_l hl, gpl, fun k2 H6 hk2 s6 => ⟨k2, rfl, _, rfl, ⟨rfl, _, rfl, ?_⟩⟩⟩
      have ek : k2 = k := Bool.eq_iff_iff.mpr (hk2.trans lies.symm)
      subst ek
      refine itF (by cases k2 <;> rfl) ?_
      exact ⟨_, _, rfl, (((s2.trans s3).trans s4).trans sl).trans s6⟩
  · rintro σ H2 ⟨y, y', rfl, s2⟩
    exact kn hd pa dx D t_ tv sv ys cs _ _ _ _ _ _ _ _ _ DE H2 (hL1.same s2) q
end
end F3
set_option Elab.async false
set_option linter.all false
set_option maxRecDepth 100000
set_option maxHeartbeats 4000000
set_option exponentiation.threshold 10000
namespace F3
open PySem PySem.Spec PyProof.Rows L2 FX RM PB KD KS
section
variable {P : Program} {w : World} {K : PySem.W.Frag} {mg : Str → Option Value} {base : Heap}
theorem ok_law {f : Addr} {fd : FuncData} (F : Fun K "law" "law" slaw f fd) (G_law_hand : DefOk P w K mg base CX0 "_law_hand" 1 ["_law_script"] (spHand K)) (G_law_spots : DefOk P w K mg base CX0 "_law_spots" 5 ["_law_hand_here", "_law_most"] (spSpots K)) (Xhull_of : DefOk P w K mg base (L2.CX P w) "hull_of" 9 ["places"] (spHullOf P w K)) (G_law_due_halves : DefOk P w K mg base CX0 "_law_due_halves" 7 ["_law_corners"] (spHalvesL K halvesF)) (Ghalves_of : DefOk P w K mg base CX0 "halves_of" 7 ["patch"] (spHalves K)) (G_law_tuples : DefOk P w K mg base CX0 "_law_tuples" 4 ["_law_thing"] (spTup K 3)) (G_law_grid : DefOk P w K mg base CX0 "_law_grid" 5 ["_law_hand_here", "_law_corners"] (spGrid K)) (G_law_below : DefOk P w K mg base CX0 "_law_below" 1 ["_law_one", "_law_other"] (spBelow K)) (G_law_amount : DefOk P w K mg base CX0 "_law_amount" 4 ["_law_direction_here", "_law_place_here"] (spAmtL K)) (G_law_any_way : DefOk P w K mg base CX0 "_law_any_way" 4 ["_law_hand_here"] (spDraw K (SzR 151))) (G_law_asked : DefOk P w K mg base CX0 "_law_asked" 11 ["_law_patch", "_law_way_here"] (spAsked K)) (G_law_due_sides : DefOk P w K mg base CX0 "_law_due_sides" 1 ["_law_corners"] (spDueS K)) (G_law_twice : DefOk P w K mg base CX0 "_law_twice" 5 ["_law_corners"] (spTwice K)) (G_law_plain : DefOk P w K mg base CX0 "_law_plain" 1 ["_law_told", "_law_due"] (spPlain K)) (G_law_plus : DefOk P w K mg base CX0 "_law_plus" 3 ["_law_one", "_law_other"] (spBin K radd)) (G_law_times : DefOk P w K mg base CX0 "_law_times" 3 ["_law_one", "_law_other"] (spBin K rmul)) (mQ : PMq P w K mg base) (mlen : mg "len" = none) (mrange : mg "range" = none) (mlist : mg "list" = none) (mtuple : mg "tuple" = none) (misinstance : mg "isinstance" = none) : FnOk P w K mg base CX0 12 f fd ["_law_script"] (spLaw K) := by
  refine F.ok sclaw (fun vs H Q E h => ?_) (fun cdv A outer s H vs Q E hr h => ?_)
  · obtain ⟨a, ns, rfl, _⟩ := h; rfl
  · obtain ⟨sa, ns, rfl, hS, hlen, q⟩ := h
    obtain ⟨tn, dn, kn⟩ := lawP G_law_hand G_law_spots Xhull_of G_law_due_halves Ghalves_of G_law_tuples G_law_grid G_law_below G_law_amount G_law_any_way G_law_asked G_law_due_sides G_law_twice G_law_plain G_law_plus G_law_times mQ mlen mrange mlist mtuple misinstance (outer := outer) (f := f) (cdv := cdv) (s := s) (H0 := H) (E := E) (A := A) (K := K) (mg := mg) (base := base) (P := P) (w := w) hr
    refine ⟨_, (pss_cons (ps_set (i := 1) sclaw.nd rfl (.inr rfl) (pe_def G_law_hand (hr.mono (by decide)) (by rfl) (pa_cons (pv 0) pa_nil))) (pss_cons (ps_set (i := 2) sclaw.nd rfl (.inl rfl) (pe_def Xhull_of (hr.mono (by decide)) (by rfl) (pa_cons (pe_def G_law_spots (hr.mono (by decide)) (by rfl) (pa_cons (pv 1) (pa_cons pe_int pa_nil))) pa_nil))) (pss_cons (ps_set (i := 3) sclaw.nd rfl (.inl rfl) (pe_fld (pv 2) rfl)) (pss_cons (ps_set (i := 4) sclaw.nd rfl (.inl rfl) (pe_def G_law_due_halves (hr.mono (by decide)) (by rfl) (pa_cons (pv 3) pa_nil))) (pss_cons (ps_set (i := 5) sclaw.nd rfl (.inl rfl) (pe_def Ghalves_of (hr.mono (by decide)) (by rfl) (pa_cons (pv 2) pa_nil))) (pss_cons (ps_if (PW.pt (pw_or (pt_not (pt_val (pe_callB call_isi (by rfl) misinstance boot_isinstance (pa_cons (pv 5) (pa_cons (pe_bltn (v := .ty "tuple") (by rfl) mtuple (by decide +kernel) rfl) pa_nil))))) (pw_or (pt_not (pt_val (pe_def G_law_tuples (hr.mono (by decide)) (by rfl) (pa_cons (pv 5) pa_nil)))) (pw_or1 (pt_cmpR (op_neD hr.units) (pe_callTy call_list_of (by rfl) mlist (by decide +kernel) (pa_cons (pv 5) pa_nil)) (pv 4) (nomark _)))))) (pss_one (ps_ret pe_bl)) pss_nil) dn)))))), ?_⟩
    refine ⟨.ref sa, rfl, sa, ns, rfl, hS, hlen, fun H1 p s1 np h1 => ?_⟩
    refine ⟨.ref p, rfl, p, 9, rfl, by decide, by decide, h1, fun H2 PL ys ps pn pl pg nP eP hP h2 s2 => ?_⟩
    refine ⟨_, rfl, .inr (.inr ⟨PL, ys, ps, rfl, pls_l (.inl (.inl (.inl eP))) hP, pn, by omega, fun r hr => good4 (pg r hr), fun H3 z os s3 ho hz => ?_⟩)⟩
    have hG := patG_of ho pg pn pl
    obtain ⟨a, dx, t, rfl, ea, ht⟩ := hz
    have h3 := h2.same s3
    refine ⟨.ref a, rfl, a, cP K, dx, _, t, rfl, ea, mQ.cl, mQ.no, rfl, ?_⟩
    generalize hullP os = cs at hG ht
    refine ⟨_, rfl, t, cs, rfl, ht, hG, fun H4 D zs s4 nD eD hY => ?_⟩
    refine ⟨_, rfl, .ref a, cs, rfl, ⟨a, dx, t, rfl, s4 _ _ ea, Dp_same s4 ht⟩, hG, fun H5 tv s5 hT => ?_⟩
    have s45 := s4.trans s5
    refine ⟨tv, rfl, tv, _, _, _, _, rfl, .ty _, dp_tyx hT, kit_ty (kit_tuple (.tuple ((halvesF cs).map hD))), _, rfl, itF rfl ?_⟩
    refine ⟨tv, rfl, tv, _, rfl, hT, tup_hs _, fun H6 s6 => ⟨_, rfl, itF rfl ?_⟩⟩
    obtain ⟨tp, xs, rfl, hTS, hX⟩ := dp_tup (Dp_same s6 hT)
    refine ⟨_, rfl, tp, xs, rfl, .inr hTS, fun l nl => ?_⟩
    have sl := PB.same_new (o := .lst xs) nl
    have s6l := s6.trans sl
    have s5l := s5.trans s6l
    refine ⟨_, rfl, ne_same (d := .list ((halvesF cs).map hD)) (shaped_hs _).2 (.lst (.inl (.inl upd_same)) (DpAll_same sl hX)) (.lst (.inl (.inl (s5l _ _ eD))) (DpAll_same s5l hY)) ⟨_, rfl, itF rfl ?_⟩⟩
    have s4l := s4.trans s5l
    exact kn p a dx D t (.ref tp) (.ref sa) zs cs _ _ _ _ _ _ _ _ _ _ _ ⟨h3.same s4l, s4l _ _ ea, Dp_same s4l ht, s5l _ _ eD, DpAll_same s5l hY, h3.neD nD, Dp_same s6l hT, hG⟩ q
end
end F3
set_option Elab.async false
set_option linter.all false
set_option maxRecDepth 100000
set_option maxHeartbeats 4000000
/-! properties of an own class, constant tuples of tuples: as the head finds them -/
namespace PR
open PySem PySem.Spec PyProof.Rows L2 FX RM PB
variable {K : PySem.W.Frag} {C : Addr} {x : Str}
/-- where the property stands -/
def prP (K : PySem.W.Frag) (C : Addr) (x : Str) : Addr := match PySem.W.findIn K (.ref C) x with
  | some (some (.ref p)) => p
  | _ => 0
/-- where its getter stands -/
def prG (K : PySem.W.Frag) (C : Addr) (x : Str) : Addr := match PySem.W.recIn K (prP K C x) "property" with
  | some (.ref b :: _) => b
  | _ => 0
def firstB (l : Option (List Value)) (b : Addr) : Bool := match l with
  | some (.ref c :: _) => decide (c = b)
  | _ => false
theorem firstB_ok {l : Option (List Value)} {b : Addr} (h : firstB l b = true) : ∃ r, l = some (.ref b :: r) := by
  unfold firstB at h
  split at h
  · rename_i c r
    rw [of_decide_eq_true h]; exact ⟨r, rfl⟩
  · cases h
def prB (K : PySem.W.Frag) (C : Addr) (x : Str) : Bool := He.eqO (PySem.W.findIn K (.ref C) x) (some (some (.ref (prP K C x)))) &&
  (He.eqO (PySem.W.specialIn K (.ref (prP K C x)) "__get__") (some (some (.builtin "property.__get__"))) && (decide (PySem.W.takesIn K (.ref (prP K C x)) = some true) && firstB (PySem.W.recIn K (prP K C x) "property") (prG K C x)))
theorem prB_ok (h : prB K C x = true) : PropOf K C x (prP K C x) (prG K C x) := by
  obtain ⟨a, h⟩ := He.ba h
  obtain ⟨b, h⟩ := He.ba h
  obtain ⟨c, d⟩ := He.ba h
  exact ⟨He.eqO_ok a, He.eqO_ok b, of_decide_eq_true c, firstB_ok d⟩
/-- what a function object at an address holds -/
def fnAt (K : PySem.W.Frag) (b : Addr) : He.FnW := match K.lookup b with
  | some ⟨_, _, .func d, _⟩ => some (d.name, d.qualname, d.params, d.body, d.scope, d.globals, d.closure, d.builtins)
  | _ => none
def fnAtB (K : PySem.W.Frag) (b : Addr) (t : Str) : Bool := match K.lookup b with
  | some ⟨_, _, .func d, _⟩ => PySem.W.codeIn K d.code t && (He.dflB K d.defaults [] && He.kwdB K d.kwdefaults [])
  | _ => false
theorem fnAt_ok {b : Addr} {nm t : Str} {ps : Arguments} {bd : List Stmt} {sc : Scope} (e : fnAt K b = some (nm, t, ps, .stmts bd, sc, mainGlobals, [], builtinsNs)) (c : fnAtB K b t = true) : ∃ fd, FunD K nm t ps bd sc [] [] b fd := by
  unfold fnAt at e
  unfold fnAtB at c
  rcases hq : K.lookup b with _ | ⟨oc, od, dt, sl⟩
  · rw [hq] at e; cases e
  · rw [hq] at e c
    cases dt with
    | func d =>
      rcases d with ⟨z1, z2, z3, z4, z5, z6, z7, z8, z9, z10, z11, z12, z13, z14, z15⟩
      dsimp only at e c
      simp only [Option.some.injEq, Prod.mk.injEq] at e
      rcases e with ⟨rfl, rfl, rfl, rfl, rfl, rfl, rfl, rfl⟩
      obtain ⟨c1, c2⟩ := He.ba c
      obtain ⟨c2, c3⟩ := He.ba c2
      have kp : PySem.W.keepIn K (.ref b) = true := by unfold PySem.W.keepIn; dsimp only; rw [hq]
      exact ⟨_, ⟨oc, od, z8, z9, z10, z11, z12, z13, z14, sl, rfl, hq, c1, He.dflB_ok c2, He.kwdB_ok c3⟩, kp⟩
    | _ => cases c
/-- the i-th entry of the module's tuple x -/
def itP (x : Str) (i : Nat) (K : PySem.W.Frag) : Addr := match K.lookup (He.ga K x) with
  | some ⟨_, _, .seq ws _, _⟩ => (match ws.toList[i]? with
    | some (.ref b) => b
    | _ => 0)
  | _ => 0
def tupAt (K : PySem.W.Frag) (b : Addr) (vs : List V) : Bool := match K.lookup b with
  | some ⟨.type c, _, .seq ws _, _⟩ => decide (c = "tuple") && (decide (ws.size ≤ sizeLine) && He.relAll vs ws.toList)
  | _ => false
theorem tupAt_ok {b : Addr} {vs : List V} (h : tupAt K b vs = true) (H : Hp) : SqT K H b vs := by
  unfold tupAt at h
  split at h
  · rename_i c od ws n sl hq
    obtain ⟨h1, h⟩ := He.ba h
    obtain ⟨h2, h3⟩ := He.ba h
    exact .inr ⟨_, ws, n, hq, congrArg Value.type (of_decide_eq_true h1), rfl, of_decide_eq_true h2, He.relAll_ok h3⟩
  · cases h
def cousB (K : PySem.W.Frag) (x : Str) : Nat → List Rt → Bool
  | _, [] => true
  | i, r :: rs => tupAt K (itP x i K) [.int r.1, .int r.2] && cousB K x (i + 1) rs
theorem cousB_ok {H : Hp} : ∀ {rs : List Rt} {i : Nat}, cousB K x i rs = true → DpAll K H ((List.range' i rs.length).map fun j => V.ref (itP x j K)) (rs.map rD)
  | [], _, _ => .nil
  | r :: rs, i, h => by
    obtain ⟨a, b⟩ := He.ba h
    exact .cons (.tup (tupAt_ok a H) (.cons (.int _) (.cons (.int _) .nil))) (cousB_ok b)
/-- the module's x is a tuple of these couples of numbers -/
def rowsB (K : PySem.W.Frag) (x : Str) (rs : List Rt) : Bool := tupAt K (He.ga K x) ((List.range' 0 rs.length).map fun j => V.ref (itP x j K)) && cousB K x 0 rs
theorem rowsB_ok {rs : List Rt} (h : rowsB K x rs = true) (H : Hp) : Dp K H (.ref (He.ga K x)) (.tuple (rs.map rD)) := by
  obtain ⟨a, b⟩ := He.ba h
  exact .tup (tupAt_ok a H) (cousB_ok b)
end PR
set_option Elab.async false
set_option linter.all false
set_option maxRecDepth 100000
set_option maxHeartbeats 4000000
/-! the head's look at the heap: what is reached in n steps, each place once, by marks in one number -/
namespace HB
open PySem PySem.Spec PyProof.Rows L2
def seen (s a : Nat) : Bool := Nat.beq (Nat.land (Nat.shiftRight s a) 1) 1
/-- the places that are not marked yet, the last first -/
def news (s : Nat) (acc : List Addr) : List Addr → Nat × List Addr
  | [] => (s, acc)
  | a :: r => match seen s a with
    | true => news s acc r
    | false => news (Nat.lor s (Nat.shiftLeft 1 a)) (a :: acc) r
def kids (g : Addr → Option Obj) (a : Addr) : List Addr := match g a with
  | some o => He.refsD o
  | none => []
def walk (g : Addr → Option Obj) : Nat → Nat → List Addr → List Addr → List Addr
  | 0, _, _, acc => acc.reverse
  | n + 1, s, fr, acc => match news s [] (fr.flatMap (kids g)) with
    | (s2, nw) => walk g n s2 nw.reverse (nw ++ acc)
def reach (g : Addr → Option Obj) (n : Nat) : List Addr := walk g n (Nat.shiftLeft 1 mainGlobals) [mainGlobals] [mainGlobals]
def frag (g : Addr → Option Obj) (n : Nat) : PySem.W.Frag := He.frG g (reach g n)
/-- two looks at one run -/
theorem map_more {α β γ δ : Type} {o : Option α} {f : α → β} {g : α → γ} {k : α → δ} {b : β} {c : γ} {d : δ} (h1 : o.map (fun x => (f x, g x)) = some (b, c)) (h2 : o.map k = some d) : o.map (fun x => (f x, g x, k x)) = some (b, c, d) := by
  cases o with
  | none => cases h1
  | some x =>
    have e1 : (f x, g x) = (b, c) := Option.some.inj h1
    have e2 : k x = d := Option.some.inj h2
    show some (f x, g x, k x) = some (b, c, d)
    rw [← e2, ← (Prod.mk.inj e1).1, ← (Prod.mk.inj e1).2]
/-- the run's equation at a world, without the hook's look -/
def RunA (r : PySem.W.OpenRow) (q : Program) (M : Nat) (loose : List Str) (w : World) : Prop :=
  (HandSHeadRun.wholeF (fun p => HandSHeadRun.stepQ (HandSHeadRun.denQ HandSHeadRun.tabQ) p w) HandSHeadRun.fenceQ M r.prog).map (fun x => (HandSHeadRun.looksF r.prog x.1.heap x.2.abs, HandSHeadRun.seenQ q loose (importedModules r.prog.main.body) (fun s => PySem.W.xlAt q [] s && PySem.W.recOk r.toRowW.records s) x.2.abs)) = some (true, PySem.W.openGood q loose)
/-- the hook's look alone -/
def RunB (r : PySem.W.OpenRow) (H : PySem.W.Hook) (ob : PySem.W.SharedT → H.α) (M : Nat) (w : World) : Prop :=
  (HandSHeadRun.wholeF (fun p => HandSHeadRun.stepQ (HandSHeadRun.denQ HandSHeadRun.tabQ) p w) HandSHeadRun.fenceQ M r.prog).map (fun x => ob x.2) = some (H.val w)
theorem run_of {r : PySem.W.OpenRow} {q : Program} {H : PySem.W.Hook} {ob : PySem.W.SharedT → H.α} {M : Nat} {loose : List Str} {w : World} (a : RunA r q M loose w) (b : RunB r H ob M w) : HandSHeadRun.RunEqI r q H ob M loose w := map_more a b
end HB
set_option Elab.async false
set_option linter.all false
set_option maxRecDepth 100000
set_option maxHeartbeats 0
namespace F3
open PySem PySem.Spec PyProof.Rows L2 FX RM PB KD KS
def dD (x : Str) (i : Nat) : He.DefD := ⟨(x, none), x, x, defArgs (topS i), defBody (topS i), defScope (topS i), [], []⟩
def dW (x : Str) (i : Nat) : He.DefD := ⟨(x, none), x, x, defArgs (topS i), defBody (topS i), defScope (topS i), [.non, .non], []⟩
def dM (x m t : Str) (i k : Nat) : He.DefD := ⟨(x, some m), m, t, defArgs (inClass (topS i) k), defBody (inClass (topS i) k), defScope (inClass (topS i) k), [], []⟩
def gW (m t : Str) (i k : Nat) : He.FnW := some (m, t, defArgs (inClass (topS i) k), .stmts (defBody (inClass (topS i) k)), defScope (inClass (topS i) k), mainGlobals, [], builtinsNs)
def fn : List He.DefD := [dD "is_row" 8, dW "is_whole" 9, dD "is_ratio" 10, dD "lowest_terms" 11, dD "plus" 12, dD "minus" 13, dD "over" 14, dD "negative" 15, dD "sign_of" 16, dD "compare" 17, dD "sum_of" 18, dD "least_of" 19, dD "greatest_of" 20, dD "is_place" 23, dD "whole_direction" 24, dD "direction_of" 25, dD "opposite" 26, dD "scaled_floor" 27, dD "raw_amount" 28, dD "amount_at" 29, dD "step_from" 30, dD "mean_place" 31, dD "whole_row" 32, dD "raw_step" 33, dD "raw_cross" 34, dD "cross_at" 35, dD "turn_at" 36, dD "side_normal" 37, dD "compare_places" 38, dD "rough_place" 39, dD "are_told_apart" 40, dD "order_places" 41, dD "rough_turn" 43, dD "turns_left" 44, dD "left_chain" 45, dD "hull_corners" 46, dD "couples_round" 47, dD "sides_of" 48, dD "is_between" 49, dD "corners_hold" 50, dD "hull_of" 53, dD "amounts_of" 54, dD "reach_of" 55, dD "low_of" 56, dD "breadth_of" 57, dD "touched_by" 58, dD "normals_of" 59, dD "halves_of" 60, dD "_law_hand" 62, dD "_law_mixed" 63, dD "_law_take" 64, dD "_law_gcd" 65, dD "_law_ratio" 66, dD "_law_plus" 67, dD "_law_less" 68, dD "_law_times" 69, dD "_law_below" 70, dD "_law_amount" 71, dD "_law_top" 72, dD "_law_bottom" 73, dD "_law_direction" 74, dD "_law_bottoms" 75, dD "_law_wholes" 76, dD "_law_half" 77, dD "_law_hull" 78, dD "_law_cross" 79, dD "_law_twice" 80, dD "_law_halves" 81, dD "_law_of" 82, dD "_law_way" 83, dD "_law_number" 84, dD "_law_plain" 85, dD "_law_small" 86, dD "_law_place" 87, dD "_law_spots" 88, dD "_law_any_way" 89, dD "_law_by" 90, dD "_law_step" 91, dD "_law_tuples" 92, dD "_law_due_halves" 93, dD "_law_due_sides" 94, dD "_law_grid" 95, dD "_law_asked" 96, dD "law" 97, dM "BadPatch" "__init__" "BadPatch.__init__" 5 0, dM "Patch" "__init__" "Patch.__init__" 52 0, dM "Patch" "__contains__" "Patch.__contains__" 52 4]
def fa : List He.Fa := [.glo "is_row", .glo "is_whole", .glo "is_ratio", .glo "lowest_terms", .glo "plus", .glo "minus", .glo "over", .glo "negative", .glo "sign_of", .glo "compare", .glo "sum_of", .glo "least_of", .glo "greatest_of", .glo "is_place", .glo "whole_direction", .glo "direction_of", .glo "opposite", .glo "scaled_floor", .glo "raw_amount", .glo "amount_at", .glo "step_from", .glo "mean_place", .glo "whole_row", .glo "raw_step", .glo "raw_cross", .glo "cross_at", .glo "turn_at", .glo "side_normal", .glo "compare_places", .glo "rough_place", .glo "are_told_apart", .glo "order_places", .glo "rough_turn", .glo "turns_left", .glo "left_chain", .glo "hull_corners", .glo "couples_round", .glo "sides_of", .glo "is_between", .glo "corners_hold", .glo "hull_of", .glo "amounts_of", .glo "reach_of", .glo "low_of", .glo "breadth_of", .glo "touched_by", .glo "normals_of", .glo "halves_of", .glo "_law_hand", .glo "_law_mixed", .glo "_law_take", .glo "_law_gcd", .glo "_law_ratio", .glo "_law_plus", .glo "_law_less", .glo "_law_times", .glo "_law_below", .glo "_law_amount", .glo "_law_top", .glo "_law_bottom", .glo "_law_direction", .glo "_law_bottoms", .glo "_law_wholes", .glo "_law_half", .glo "_law_hull", .glo "_law_cross", .glo "_law_twice", .glo "_law_halves", .glo "_law_of", .glo "_law_way", .glo "_law_number", .glo "_law_plain", .glo "_law_small", .glo "_law_place", .glo "_law_spots", .glo "_law_any_way", .glo "_law_by", .glo "_law_step", .glo "_law_tuples", .glo "_law_due_halves", .glo "_law_due_sides", .glo "_law_grid", .glo "_law_asked", .glo "law", .free "len", .free "int", .free "abs", .free "isinstance", .free "tuple", .free "list", .free "bool", .free "range", .free "max", .free "sorted", .free "zip", .free "all", .glo "ZERO", .glo "AXES"]
def ck0 (K : PySem.W.Frag) : Bool := clsB K "BadPatch" ["what"] && (He.eqO (PySem.W.nsIn K mainGlobals "gcd") (some (some (.builtin "math.gcd"))) &&
  ((He.Fa.glo "Patch").ok K && ((He.Fa.cls "Patch").ok K && ((He.Fa.noat "Patch" "corners").ok K && ((He.Fa.mkr "Patch").ok K && ((He.Fa.meth "Patch" "__contains__").ok K && (He.tupB K "ZERO" [.int 0, .int 1] && PR.rowsB K "AXES" AX4)))))))
def ck1 (K : PySem.W.Frag) : Bool := (PR.prB K (cP K) "sides" && PR.fnAtB K (PR.prG K (cP K) "sides") "Patch.sides") && ((PR.prB K (cP K) "twice_area" && PR.fnAtB K (PR.prG K (cP K) "twice_area") "Patch.twice_area") && ((PR.prB K (cP K) "middle" && PR.fnAtB K (PR.prG K (cP K) "middle") "Patch.middle")))
def gets (K : PySem.W.Frag) : List He.FnW := [PR.fnAt K (PR.prG K (cP K) "sides"), PR.fnAt K (PR.prG K (cP K) "twice_area"), PR.fnAt K (PR.prG K (cP K) "middle")]
def getV : List He.FnW := [gW "sides" "Patch.sides" 52 5, gW "twice_area" "Patch.twice_area" 52 6, gW "middle" "Patch.middle" 52 7]
def ck (K : PySem.W.Frag) : Bool := ck0 K && ck1 K
abbrev AL : Type := Bool × He.AlD × List He.FnW
def says (K : PySem.W.Frag) : Prop := ck K = true ∧ He.SaysD fa fn K ∧ gets K = getV
def obsM (n : Nat) (g : Addr → Option Obj) : AL := (ck (HB.frag g n), He.obsD fa fn (HB.frag g n), gets (HB.frag g n))
def hookM (n : Nat) : PySem.W.Hook where
  α := AL
  obs := fun s => obsM n s.heap.get?
  val := fun _ => (true, He.valD fn, getV)
  says := fun _ h => ∃ K : PySem.W.Frag, K.In h ∧ says K
  of := fun _ _ e => ⟨_, He.frG_in, congrArg (fun z : AL => z.1) e, congrArg (fun z : AL => z.2.1) e, congrArg (fun z : AL => z.2.2) e⟩
  keeps := fun _ _ _ ⟨K, hK, c⟩ k => ⟨K, PySem.W.Frag.In.keeps hK k, c⟩
theorem obsM_eq {n : Nat} {g : Addr → Option Obj} {s : Shared} (h : ∀ a, g a = s.heap.get? a) : obsM n g = (hookM n).obs s := by
  have e : g = s.heap.get? := funext h
  rw [e] <;> rfl
abbrev R : PySem.W.OpenRow := PySem.W.OpenLaw.row PySem.Challenge.rw_feltstone_k05_whole_patches_asked
def ob (s : PySem.W.SharedT) : AL := obsM 6 (HandSHeadRun.getT s)
theorem ob_eq (s : PySem.W.SharedT) : ob s = (hookM 6).obs s.abs := obsM_eq (HandSHeadRun.getT_eq s)
def n0 : List Str := ["FeltError", "BadRatio", "BadDirection", "BadPatch", "ZERO", "is_row", "is_whole", "is_ratio", "lowest_terms", "plus", "minus", "over", "negative", "sign_of", "compare", "sum_of", "least_of", "greatest_of", "AXES", "is_place", "whole_direction", "direction_of", "opposite", "scaled_floor", "raw_amount", "amount_at", "step_from", "mean_place", "whole_row", "raw_step"]
def n1 : List Str := ["raw_cross", "cross_at", "turn_at", "side_normal", "compare_places", "rough_place", "are_told_apart", "order_places", "rough_turn", "turns_left", "left_chain", "hull_corners", "couples_round", "sides_of", "is_between", "corners_hold", "Patch", "hull_of", "amounts_of", "reach_of", "low_of", "breadth_of", "touched_by", "normals_of", "halves_of", "_law_hand", "_law_mixed", "_law_take", "_law_gcd", "_law_ratio"]
def n2 : List Str := ["_law_plus", "_law_less", "_law_times", "_law_below", "_law_amount", "_law_top", "_law_bottom", "_law_direction", "_law_bottoms", "_law_wholes", "_law_half", "_law_hull", "_law_cross", "_law_twice", "_law_halves", "_law_of", "_law_way", "_law_number", "_law_plain", "_law_small", "_law_place", "_law_spots", "_law_any_way", "_law_by", "_law_step", "_law_tuples", "_law_due_halves", "_law_due_sides", "_law_grid", "_law_asked"]
def names : List Str := n0 ++ n1 ++ n2
theorem runA (w : World) : HB.RunA R (PySem.W.view R.prog [0, 97]) 60000 names w := by
  unfold HB.RunA
  kernel_rfl
theorem runB (w : World) : HB.RunB R (hookM 6) ob 60000 w := by
  unfold HB.RunB
  kernel_rfl
theorem run (w : World) : HandSHeadRun.RunEqI R (PySem.W.view R.prog [0, 97]) (hookM 6) ob 60000 names w := HB.run_of (runA w) (runB w)
end F3
set_option Elab.async false
set_option linter.all false
set_option maxRecDepth 100000
set_option maxHeartbeats 0
namespace F3
open PySem PySem.Spec PyProof.Rows L2 FX RM PB KD KS
theorem def_at {K : PySem.W.Frag} (c : He.SaysD fa fn K) {x : Str} {st : Stmt} (i : Nat) {d : He.DefD} (h : fn[i]? = some d) (e : d = ⟨(x, none), x, x, defArgs st, defBody st, defScope st, [], []⟩) : ∃ fd, FunD K x x (defArgs st) (defBody st) (defScope st) [] [] (He.ga K x) fd := by
  obtain ⟨fd, F⟩ := c.def_ i h
  subst e
  exact ⟨fd, F⟩
theorem def_atW {K : PySem.W.Frag} (c : He.SaysD fa fn K) {x : Str} {st : Stmt} (i : Nat) {d : He.DefD} (h : fn[i]? = some d) (e : d = ⟨(x, none), x, x, defArgs st, defBody st, defScope st, [.non, .non], []⟩) : ∃ fd, FunD K x x (defArgs st) (defBody st) (defScope st) [.non, .non] [] (He.ga K x) fd := by
  obtain ⟨fd, F⟩ := c.def_ i h
  subst e
  exact ⟨fd, F⟩
theorem met_at {K : PySem.W.Frag} (c : He.SaysD fa fn K) {x m q : Str} {st : Stmt} (i : Nat) {d : He.DefD} (h : fn[i]? = some d) (e : d = ⟨(x, some m), m, q, defArgs st, defBody st, defScope st, [], []⟩) :
    ∃ fd, FunD K m q (defArgs st) (defBody st) (defScope st) [] [] (He.ma K (He.ga K x) m) fd := by
  obtain ⟨fd, F⟩ := c.def_ i h
  subst e
  exact ⟨fd, F⟩
theorem init1 {K : PySem.W.Frag} {C : Addr} {g : Str} {H : Hp} {Q : VK} {E : XK} {vs : List V} (T : OexC K C) (n0 : PySem.W.findIn K (.ref C) g = some none) (h : spInit C [g] vs H Q E) :
    tOst K g (tVar 0) (tVar 1) { nx := fun _ H' => Q .non H', rt := Q } (start ["self", g] vs) H := by
  obtain ⟨a, ws, rfl, l, ha, q⟩ := h
  obtain ⟨v, rfl⟩ := len_one l
  refine ⟨v, rfl, .ref a, rfl, a, C, rfl, T, n0, .inl ⟨ha, fun dx nx ne => q _ dx (fun b o nb e => ?_) upd_same ?_ nx⟩⟩
  · rw [upd_ne nb, upd_ne (ne_of_none e nx)]; exact e
  · rw [upd_ne ne, upd_same]; rfl
section
variable {P : Program} {w : World} {K : PySem.W.Frag} {mg : Str → Option Value} {base h : Heap}
theorem in_BadPatch {f : Addr} {fd : FuncData} {C : Addr} (F : Fun K "__init__" "BadPatch.__init__" (inClass (topS 5) 0) f fd) (T : OexC K C) (no : ∀ f ∈ (["what"] : List Str), PySem.W.findIn K (.ref C) f = some none) : FnOk P w K mg base CX0 1 f fd ["self", "what"] (spInit C ["what"]) := by
  refine F.ok (N := ["self", "what"]) ⟨rfl, rfl, rfl, by decide +kernel, rfl, by decide +kernel, by decide +kernel⟩ (fun vs H Q E h => ?_) (fun cdv A outer s H vs Q E hr h => ?_)
  · obtain ⟨a, ws, rfl, l, _⟩ := h; exact congrArg (· + 1) l
  · exact ⟨_, pss_one (ps_ost (pv 0) (pv 1)), init1 T (no _ (List.mem_cons_self ..)) h⟩
theorem facts (X : K.In h) (G : h.Ns mainGlobals mg) {f : Addr} (hfa : mg ("law" : Str) = some (.ref f)) (c : says K) :
    ∃ fd : FuncData, (∀ (s : Shared) (v : Value), BindsTo s fd ⟨[v], []⟩ [("_law_script", v)]) ∧ ∀ base : Heap, K.In base → base.Ns mainGlobals mg → FnOk P w K mg base CX0 12 f fd ["_law_script"] (spLaw K) := by
  obtain ⟨c1, c2, c3⟩ := c
  obtain ⟨c1, cg⟩ := He.ba c1
  obtain ⟨k1, c1⟩ := He.ba c1
  obtain ⟨k2, c1⟩ := He.ba c1
  obtain ⟨k3, c1⟩ := He.ba c1
  obtain ⟨k4, c1⟩ := He.ba c1
  obtain ⟨k5, c1⟩ := He.ba c1
  obtain ⟨k6, c1⟩ := He.ba c1
  obtain ⟨k7, c1⟩ := He.ba c1
  obtain ⟨k8, k9⟩ := He.ba c1
  have cB := clsB_ok k1
  have gBP := He.glo_ok X G cB.glo
  have mgcd : mg "gcd" = some (.builtin "math.gcd") := PySem.W.mg_of X G (He.eqO_ok k2)
  have gP : mg "Patch" = some (.ref (cP K)) := He.glo_ok X G k3
  have tC : Cls K (cP K) := He.cls_ok k4
  have nC : NoAttr K (cP K) "corners" := He.noat_ok k5
  have mkP : Mk K (cP K) (He.ma K (cP K) "__init__") := He.mkr_ok k6
  obtain ⟨i1, i0⟩ := He.ba k7
  obtain ⟨i2, _⟩ := He.ba i0
  have i1 : PySem.W.findIn K (.ref (cP K)) "__contains__" = some (some (.ref (He.ma K (cP K) "__contains__"))) := He.eqO_ok i1
  have i2 : PySem.W.isFn K (.ref (He.ma K (cP K) "__contains__")) = true := i2
  have hZ : ∀ H, SqT K H (He.ga K "ZERO") [.int 0, .int 1] := fun H => He.tupB_ok k8 H
  have hAx : ∀ H, Dp K H (.ref (He.ga K "AXES")) (.tuple (AX4.map rD)) := fun H => PR.rowsB_ok k9 H
  have mlen := He.free_ok X G (c2.fact 84 (f := .free "len") rfl)
  have mint := He.free_ok X G (c2.fact 85 (f := .free "int") rfl)
  have mabs := He.free_ok X G (c2.fact 86 (f := .free "abs") rfl)
  have misinstance := He.free_ok X G (c2.fact 87 (f := .free "isinstance") rfl)
  have mtuple := He.free_ok X G (c2.fact 88 (f := .free "tuple") rfl)
  have mlist := He.free_ok X G (c2.fact 89 (f := .free "list") rfl)
  have mbool := He.free_ok X G (c2.fact 90 (f := .free "bool") rfl)
  have mrange := He.free_ok X G (c2.fact 91 (f := .free "range") rfl)
  have mmax := He.free_ok X G (c2.fact 92 (f := .free "max") rfl)
  have msorted := He.free_ok X G (c2.fact 93 (f := .free "sorted") rfl)
  have mzip := He.free_ok X G (c2.fact 94 (f := .free "zip") rfl)
  have mall := He.free_ok X G (c2.fact 95 (f := .free "all") rfl)
  have gZ := He.glo_ok X G (c2.fact 96 (f := .glo "ZERO") rfl)
  have gAx := He.glo_ok X G (c2.fact 97 (f := .glo "AXES") rfl)
  obtain ⟨fdis_row, Fis_row⟩ := def_at c2 (x := "is_row") (st := topS 8) 0 rfl rfl
  have gis_row := He.glo_ok X G (c2.fact 0 (f := .glo "is_row") rfl)
  have tis_row : Txt K mg "is_row" (topS 8) := ⟨_, _, fun_of Fis_row, gis_row⟩
  obtain ⟨fdis_whole, Fis_whole⟩ := def_atW c2 (x := "is_whole") (st := topS 9) 1 rfl rfl
  have gis_whole := He.glo_ok X G (c2.fact 1 (f := .glo "is_whole") rfl)
  obtain ⟨fdis_ratio, Fis_ratio⟩ := def_at c2 (x := "is_ratio") (st := topS 10) 2 rfl rfl
  have gis_ratio := He.glo_ok X G (c2.fact 2 (f := .glo "is_ratio") rfl)
  have tis_ratio : Txt K mg "is_ratio" (topS 10) := ⟨_, _, fun_of Fis_ratio, gis_ratio⟩
  obtain ⟨fdlowest_terms, Flowest_terms⟩ := def_at c2 (x := "lowest_terms") (st := topS 11) 3 rfl rfl
  have glowest_terms := He.glo_ok X G (c2.fact 3 (f := .glo "lowest_terms") rfl)
  have tlowest_terms : Txt K mg "lowest_terms" (topS 11) := ⟨_, _, fun_of Flowest_terms, glowest_terms⟩
  obtain ⟨fdplus, Fplus⟩ := def_at c2 (x := "plus") (st := topS 12) 4 rfl rfl
  have gplus := He.glo_ok X G (c2.fact 4 (f := .glo "plus") rfl)
  have tplus : Txt K mg "plus" (topS 12) := ⟨_, _, fun_of Fplus, gplus⟩
  obtain ⟨fdminus, Fminus⟩ := def_at c2 (x := "minus") (st := topS 13) 5 rfl rfl
  have gminus := He.glo_ok X G (c2.fact 5 (f := .glo "minus") rfl)
  have tminus : Txt K mg "minus" (topS 13) := ⟨_, _, fun_of Fminus, gminus⟩
  obtain ⟨fdover, Fover⟩ := def_at c2 (x := "over") (st := topS 14) 6 rfl rfl
  have gover := He.glo_ok X G (c2.fact 6 (f := .glo "over") rfl)
  have tover : Txt K mg "over" (topS 14) := ⟨_, _, fun_of Fover, gover⟩
  obtain ⟨fdnegative, Fnegative⟩ := def_at c2 (x := "negative") (st := topS 15) 7 rfl rfl
  have gnegative := He.glo_ok X G (c2.fact 7 (f := .glo "negative") rfl)
  have tnegative : Txt K mg "negative" (topS 15) := ⟨_, _, fun_of Fnegative, gnegative⟩
  obtain ⟨fdsign_of, Fsign_of⟩ := def_at c2 (x := "sign_of") (st := topS 16) 8 rfl rfl
  have gsign_of := He.glo_ok X G (c2.fact 8 (f := .glo "sign_of") rfl)
  have tsign_of : Txt K mg "sign_of" (topS 16) := ⟨_, _, fun_of Fsign_of, gsign_of⟩
  obtain ⟨fdcompare, Fcompare⟩ := def_at c2 (x := "compare") (st := topS 17) 9 rfl rfl
  have gcompare := He.glo_ok X G (c2.fact 9 (f := .glo "compare") rfl)
  have tcompare : Txt K mg "compare" (topS 17) := ⟨_, _, fun_of Fcompare, gcompare⟩
  obtain ⟨fdsum_of, Fsum_of⟩ := def_at c2 (x := "sum_of") (st := topS 18) 10 rfl rfl
  have gsum_of := He.glo_ok X G (c2.fact 10 (f := .glo "sum_of") rfl)
  have tsum_of : Txt K mg "sum_of" (topS 18) := ⟨_, _, fun_of Fsum_of, gsum_of⟩
  obtain ⟨fdleast_of, Fleast_of⟩ := def_at c2 (x := "least_of") (st := topS 19) 11 rfl rfl
  have gleast_of := He.glo_ok X G (c2.fact 11 (f := .glo "least_of") rfl)
  have tleast_of : Txt K mg "least_of" (topS 19) := ⟨_, _, fun_of Fleast_of, gleast_of⟩
  obtain ⟨fdgreatest_of, Fgreatest_of⟩ := def_at c2 (x := "greatest_of") (st := topS 20) 12 rfl rfl
  have ggreatest_of := He.glo_ok X G (c2.fact 12 (f := .glo "greatest_of") rfl)
  have tgreatest_of : Txt K mg "greatest_of" (topS 20) := ⟨_, _, fun_of Fgreatest_of, ggreatest_of⟩
  obtain ⟨fdis_place, Fis_place⟩ := def_at c2 (x := "is_place") (st := topS 23) 13 rfl rfl
  have gis_place := He.glo_ok X G (c2.fact 13 (f := .glo "is_place") rfl)
  have tis_place : Txt K mg "is_place" (topS 23) := ⟨_, _, fun_of Fis_place, gis_place⟩
  obtain ⟨fdwhole_direction, Fwhole_direction⟩ := def_at c2 (x := "whole_direction") (st := topS 24) 14 rfl rfl
  have gwhole_direction := He.glo_ok X G (c2.fact 14 (f := .glo "whole_direction") rfl)
  have twhole_direction : Txt K mg "whole_direction" (topS 24) := ⟨_, _, fun_of Fwhole_direction, gwhole_direction⟩
  obtain ⟨fddirection_of, Fdirection_of⟩ := def_at c2 (x := "direction_of") (st := topS 25) 15 rfl rfl
  have gdirection_of := He.glo_ok X G (c2.fact 15 (f := .glo "direction_of") rfl)
  have tdirection_of : Txt K mg "direction_of" (topS 25) := ⟨_, _, fun_of Fdirection_of, gdirection_of⟩
  obtain ⟨fdopposite, Fopposite⟩ := def_at c2 (x := "opposite") (st := topS 26) 16 rfl rfl
  have gopposite := He.glo_ok X G (c2.fact 16 (f := .glo "opposite") rfl)
  have topposite : Txt K mg "opposite" (topS 26) := ⟨_, _, fun_of Fopposite, gopposite⟩
  obtain ⟨fdscaled_floor, Fscaled_floor⟩ := def_at c2 (x := "scaled_floor") (st := topS 27) 17 rfl rfl
  have gscaled_floor := He.glo_ok X G (c2.fact 17 (f := .glo "scaled_floor") rfl)
  have tscaled_floor : Txt K mg "scaled_floor" (topS 27) := ⟨_, _, fun_of Fscaled_floor, gscaled_floor⟩
  obtain ⟨fdraw_amount, Fraw_amount⟩ := def_at c2 (x := "raw_amount") (st := topS 28) 18 rfl rfl
  have graw_amount := He.glo_ok X G (c2.fact 18 (f := .glo "raw_amount") rfl)
  have traw_amount : Txt K mg "raw_amount" (topS 28) := ⟨_, _, fun_of Fraw_amount, graw_amount⟩
  obtain ⟨fdamount_at, Famount_at⟩ := def_at c2 (x := "amount_at") (st := topS 29) 19 rfl rfl
  have gamount_at := He.glo_ok X G (c2.fact 19 (f := .glo "amount_at") rfl)
  have tamount_at : Txt K mg "amount_at" (topS 29) := ⟨_, _, fun_of Famount_at, gamount_at⟩
  obtain ⟨fdstep_from, Fstep_from⟩ := def_at c2 (x := "step_from") (st := topS 30) 20 rfl rfl
  have gstep_from := He.glo_ok X G (c2.fact 20 (f := .glo "step_from") rfl)
  have tstep_from : Txt K mg "step_from" (topS 30) := ⟨_, _, fun_of Fstep_from, gstep_from⟩
  obtain ⟨fdmean_place, Fmean_place⟩ := def_at c2 (x := "mean_place") (st := topS 31) 21 rfl rfl
  have gmean_place := He.glo_ok X G (c2.fact 21 (f := .glo "mean_place") rfl)
  have tmean_place : Txt K mg "mean_place" (topS 31) := ⟨_, _, fun_of Fmean_place, gmean_place⟩
  obtain ⟨fdwhole_row, Fwhole_row⟩ := def_at c2 (x := "whole_row") (st := topS 32) 22 rfl rfl
  have gwhole_row := He.glo_ok X G (c2.fact 22 (f := .glo "whole_row") rfl)
  have twhole_row : Txt K mg "whole_row" (topS 32) := ⟨_, _, fun_of Fwhole_row, gwhole_row⟩
  obtain ⟨fdraw_step, Fraw_step⟩ := def_at c2 (x := "raw_step") (st := topS 33) 23 rfl rfl
  have graw_step := He.glo_ok X G (c2.fact 23 (f := .glo "raw_step") rfl)
  have traw_step : Txt K mg "raw_step" (topS 33) := ⟨_, _, fun_of Fraw_step, graw_step⟩
  obtain ⟨fdraw_cross, Fraw_cross⟩ := def_at c2 (x := "raw_cross") (st := topS 34) 24 rfl rfl
  have graw_cross := He.glo_ok X G (c2.fact 24 (f := .glo "raw_cross") rfl)
  have traw_cross : Txt K mg "raw_cross" (topS 34) := ⟨_, _, fun_of Fraw_cross, graw_cross⟩
  obtain ⟨fdcross_at, Fcross_at⟩ := def_at c2 (x := "cross_at") (st := topS 35) 25 rfl rfl
  have gcross_at := He.glo_ok X G (c2.fact 25 (f := .glo "cross_at") rfl)
  have tcross_at : Txt K mg "cross_at" (topS 35) := ⟨_, _, fun_of Fcross_at, gcross_at⟩
  obtain ⟨fdturn_at, Fturn_at⟩ := def_at c2 (x := "turn_at") (st := topS 36) 26 rfl rfl
  have gturn_at := He.glo_ok X G (c2.fact 26 (f := .glo "turn_at") rfl)
  have tturn_at : Txt K mg "turn_at" (topS 36) := ⟨_, _, fun_of Fturn_at, gturn_at⟩
  obtain ⟨fdside_normal, Fside_normal⟩ := def_at c2 (x := "side_normal") (st := topS 37) 27 rfl rfl
  have gside_normal := He.glo_ok X G (c2.fact 27 (f := .glo "side_normal") rfl)
  have tside_normal : Txt K mg "side_normal" (topS 37) := ⟨_, _, fun_of Fside_normal, gside_normal⟩
  obtain ⟨fdcompare_places, Fcompare_places⟩ := def_at c2 (x := "compare_places") (st := topS 38) 28 rfl rfl
  have gcompare_places := He.glo_ok X G (c2.fact 28 (f := .glo "compare_places") rfl)
  have tcompare_places : Txt K mg "compare_places" (topS 38) := ⟨_, _, fun_of Fcompare_places, gcompare_places⟩
  obtain ⟨fdrough_place, Frough_place⟩ := def_at c2 (x := "rough_place") (st := topS 39) 29 rfl rfl
  have grough_place := He.glo_ok X G (c2.fact 29 (f := .glo "rough_place") rfl)
  have trough_place : Txt K mg "rough_place" (topS 39) := ⟨_, _, fun_of Frough_place, grough_place⟩
  obtain ⟨fdare_told_apart, Fare_told_apart⟩ := def_at c2 (x := "are_told_apart") (st := topS 40) 30 rfl rfl
  have gare_told_apart := He.glo_ok X G (c2.fact 30 (f := .glo "are_told_apart") rfl)
  have tare_told_apart : Txt K mg "are_told_apart" (topS 40) := ⟨_, _, fun_of Fare_told_apart, gare_told_apart⟩
  obtain ⟨fdorder_places, Forder_places⟩ := def_at c2 (x := "order_places") (st := topS 41) 31 rfl rfl
  have gorder_places := He.glo_ok X G (c2.fact 31 (f := .glo "order_places") rfl)
  have torder_places : Txt K mg "order_places" (topS 41) := ⟨_, _, fun_of Forder_places, gorder_places⟩
  obtain ⟨fdrough_turn, Frough_turn⟩ := def_at c2 (x := "rough_turn") (st := topS 43) 32 rfl rfl
  have grough_turn := He.glo_ok X G (c2.fact 32 (f := .glo "rough_turn") rfl)
  have trough_turn : Txt K mg "rough_turn" (topS 43) := ⟨_, _, fun_of Frough_turn, grough_turn⟩
  obtain ⟨fdturns_left, Fturns_left⟩ := def_at c2 (x := "turns_left") (st := topS 44) 33 rfl rfl
  have gturns_left := He.glo_ok X G (c2.fact 33 (f := .glo "turns_left") rfl)
  have tturns_left : Txt K mg "turns_left" (topS 44) := ⟨_, _, fun_of Fturns_left, gturns_left⟩
  obtain ⟨fdleft_chain, Fleft_chain⟩ := def_at c2 (x := "left_chain") (st := topS 45) 34 rfl rfl
  have gleft_chain := He.glo_ok X G (c2.fact 34 (f := .glo "left_chain") rfl)
  have tleft_chain : Txt K mg "left_chain" (topS 45) := ⟨_, _, fun_of Fleft_chain, gleft_chain⟩
  obtain ⟨fdhull_corners, Fhull_corners⟩ := def_at c2 (x := "hull_corners") (st := topS 46) 35 rfl rfl
  have ghull_corners := He.glo_ok X G (c2.fact 35 (f := .glo "hull_corners") rfl)
  have thull_corners : Txt K mg "hull_corners" (topS 46) := ⟨_, _, fun_of Fhull_corners, ghull_corners⟩
  obtain ⟨fdcouples_round, Fcouples_round⟩ := def_at c2 (x := "couples_round") (st := topS 47) 36 rfl rfl
  have gcouples_round := He.glo_ok X G (c2.fact 36 (f := .glo "couples_round") rfl)
  have tcouples_round : Txt K mg "couples_round" (topS 47) := ⟨_, _, fun_of Fcouples_round, gcouples_round⟩
  obtain ⟨fdsides_of, Fsides_of⟩ := def_at c2 (x := "sides_of") (st := topS 48) 37 rfl rfl
  have gsides_of := He.glo_ok X G (c2.fact 37 (f := .glo "sides_of") rfl)
  have tsides_of : Txt K mg "sides_of" (topS 48) := ⟨_, _, fun_of Fsides_of, gsides_of⟩
  obtain ⟨fdis_between, Fis_between⟩ := def_at c2 (x := "is_between") (st := topS 49) 38 rfl rfl
  have gis_between := He.glo_ok X G (c2.fact 38 (f := .glo "is_between") rfl)
  have tis_between : Txt K mg "is_between" (topS 49) := ⟨_, _, fun_of Fis_between, gis_between⟩
  obtain ⟨fdcorners_hold, Fcorners_hold⟩ := def_at c2 (x := "corners_hold") (st := topS 50) 39 rfl rfl
  have gcorners_hold := He.glo_ok X G (c2.fact 39 (f := .glo "corners_hold") rfl)
  have tcorners_hold : Txt K mg "corners_hold" (topS 50) := ⟨_, _, fun_of Fcorners_hold, gcorners_hold⟩
  obtain ⟨fdhull_of, Fhull_of⟩ := def_at c2 (x := "hull_of") (st := topS 53) 40 rfl rfl
  have ghull_of := He.glo_ok X G (c2.fact 40 (f := .glo "hull_of") rfl)
  have thull_of : Txt K mg "hull_of" (topS 53) := ⟨_, _, fun_of Fhull_of, ghull_of⟩
  obtain ⟨fdamounts_of, Famounts_of⟩ := def_at c2 (x := "amounts_of") (st := topS 54) 41 rfl rfl
  have gamounts_of := He.glo_ok X G (c2.fact 41 (f := .glo "amounts_of") rfl)
  have tamounts_of : Txt K mg "amounts_of" (topS 54) := ⟨_, _, fun_of Famounts_of, gamounts_of⟩
  obtain ⟨fdreach_of, Freach_of⟩ := def_at c2 (x := "reach_of") (st := topS 55) 42 rfl rfl
  have greach_of := He.glo_ok X G (c2.fact 42 (f := .glo "reach_of") rfl)
  have treach_of : Txt K mg "reach_of" (topS 55) := ⟨_, _, fun_of Freach_of, greach_of⟩
  obtain ⟨fdlow_of, Flow_of⟩ := def_at c2 (x := "low_of") (st := topS 56) 43 rfl rfl
  have glow_of := He.glo_ok X G (c2.fact 43 (f := .glo "low_of") rfl)
  have tlow_of : Txt K mg "low_of" (topS 56) := ⟨_, _, fun_of Flow_of, glow_of⟩
  obtain ⟨fdbreadth_of, Fbreadth_of⟩ := def_at c2 (x := "breadth_of") (st := topS 57) 44 rfl rfl
  have gbreadth_of := He.glo_ok X G (c2.fact 44 (f := .glo "breadth_of") rfl)
  have tbreadth_of : Txt K mg "breadth_of" (topS 57) := ⟨_, _, fun_of Fbreadth_of, gbreadth_of⟩
  obtain ⟨fdtouched_by, Ftouched_by⟩ := def_at c2 (x := "touched_by") (st := topS 58) 45 rfl rfl
  have gtouched_by := He.glo_ok X G (c2.fact 45 (f := .glo "touched_by") rfl)
  have ttouched_by : Txt K mg "touched_by" (topS 58) := ⟨_, _, fun_of Ftouched_by, gtouched_by⟩
  obtain ⟨fdnormals_of, Fnormals_of⟩ := def_at c2 (x := "normals_of") (st := topS 59) 46 rfl rfl
  have gnormals_of := He.glo_ok X G (c2.fact 46 (f := .glo "normals_of") rfl)
  have tnormals_of : Txt K mg "normals_of" (topS 59) := ⟨_, _, fun_of Fnormals_of, gnormals_of⟩
  obtain ⟨fdhalves_of, Fhalves_of⟩ := def_at c2 (x := "halves_of") (st := topS 60) 47 rfl rfl
  have ghalves_of := He.glo_ok X G (c2.fact 47 (f := .glo "halves_of") rfl)
  have thalves_of : Txt K mg "halves_of" (topS 60) := ⟨_, _, fun_of Fhalves_of, ghalves_of⟩
  obtain ⟨fd_law_hand, F_law_hand⟩ := def_at c2 (x := "_law_hand") (st := topS 62) 48 rfl rfl
  have g_law_hand := He.glo_ok X G (c2.fact 48 (f := .glo "_law_hand") rfl)
  have t_law_hand : Txt K mg "_law_hand" (topS 62) := ⟨_, _, fun_of F_law_hand, g_law_hand⟩
  obtain ⟨fd_law_mixed, F_law_mixed⟩ := def_at c2 (x := "_law_mixed") (st := topS 63) 49 rfl rfl
  have g_law_mixed := He.glo_ok X G (c2.fact 49 (f := .glo "_law_mixed") rfl)
  have t_law_mixed : Txt K mg "_law_mixed" (topS 63) := ⟨_, _, fun_of F_law_mixed, g_law_mixed⟩
  obtain ⟨fd_law_take, F_law_take⟩ := def_at c2 (x := "_law_take") (st := topS 64) 50 rfl rfl
  have g_law_take := He.glo_ok X G (c2.fact 50 (f := .glo "_law_take") rfl)
  have t_law_take : Txt K mg "_law_take" (topS 64) := ⟨_, _, fun_of F_law_take, g_law_take⟩
  obtain ⟨fd_law_gcd, F_law_gcd⟩ := def_at c2 (x := "_law_gcd") (st := topS 65) 51 rfl rfl
  have g_law_gcd := He.glo_ok X G (c2.fact 51 (f := .glo "_law_gcd") rfl)
  have t_law_gcd : Txt K mg "_law_gcd" (topS 65) := ⟨_, _, fun_of F_law_gcd, g_law_gcd⟩
  obtain ⟨fd_law_ratio, F_law_ratio⟩ := def_at c2 (x := "_law_ratio") (st := topS 66) 52 rfl rfl
  have g_law_ratio := He.glo_ok X G (c2.fact 52 (f := .glo "_law_ratio") rfl)
  have t_law_ratio : Txt K mg "_law_ratio" (topS 66) := ⟨_, _, fun_of F_law_ratio, g_law_ratio⟩
  obtain ⟨fd_law_plus, F_law_plus⟩ := def_at c2 (x := "_law_plus") (st := topS 67) 53 rfl rfl
  have g_law_plus := He.glo_ok X G (c2.fact 53 (f := .glo "_law_plus") rfl)
  have t_law_plus : Txt K mg "_law_plus" (topS 67) := ⟨_, _, fun_of F_law_plus, g_law_plus⟩
  obtain ⟨fd_law_less, F_law_less⟩ := def_at c2 (x := "_law_less") (st := topS 68) 54 rfl rfl
  have g_law_less := He.glo_ok X G (c2.fact 54 (f := .glo "_law_less") rfl)
  have t_law_less : Txt K mg "_law_less" (topS 68) := ⟨_, _, fun_of F_law_less, g_law_less⟩
  obtain ⟨fd_law_times, F_law_times⟩ := def_at c2 (x := "_law_times") (st := topS 69) 55 rfl rfl
  have g_law_times := He.glo_ok X G (c2.fact 55 (f := .glo "_law_times") rfl)
  have t_law_times : Txt K mg "_law_times" (topS 69) := ⟨_, _, fun_of F_law_times, g_law_times⟩
  obtain ⟨fd_law_below, F_law_below⟩ := def_at c2 (x := "_law_below") (st := topS 70) 56 rfl rfl
  have g_law_below := He.glo_ok X G (c2.fact 56 (f := .glo "_law_below") rfl)
  have t_law_below : Txt K mg "_law_below" (topS 70) := ⟨_, _, fun_of F_law_below, g_law_below⟩
  obtain ⟨fd_law_amount, F_law_amount⟩ := def_at c2 (x := "_law_amount") (st := topS 71) 57 rfl rfl
  have g_law_amount := He.glo_ok X G (c2.fact 57 (f := .glo "_law_amount") rfl)
  have t_law_amount : Txt K mg "_law_amount" (topS 71) := ⟨_, _, fun_of F_law_amount, g_law_amount⟩
  obtain ⟨fd_law_top, F_law_top⟩ := def_at c2 (x := "_law_top") (st := topS 72) 58 rfl rfl
  have g_law_top := He.glo_ok X G (c2.fact 58 (f := .glo "_law_top") rfl)
  have t_law_top : Txt K mg "_law_top" (topS 72) := ⟨_, _, fun_of F_law_top, g_law_top⟩
  obtain ⟨fd_law_bottom, F_law_bottom⟩ := def_at c2 (x := "_law_bottom") (st := topS 73) 59 rfl rfl
  have g_law_bottom := He.glo_ok X G (c2.fact 59 (f := .glo "_law_bottom") rfl)
  have t_law_bottom : Txt K mg "_law_bottom" (topS 73) := ⟨_, _, fun_of F_law_bottom, g_law_bottom⟩
  obtain ⟨fd_law_direction, F_law_direction⟩ := def_at c2 (x := "_law_direction") (st := topS 74) 60 rfl rfl
  have g_law_direction := He.glo_ok X G (c2.fact 60 (f := .glo "_law_direction") rfl)
  have t_law_direction : Txt K mg "_law_direction" (topS 74) := ⟨_, _, fun_of F_law_direction, g_law_direction⟩
  obtain ⟨fd_law_bottoms, F_law_bottoms⟩ := def_at c2 (x := "_law_bottoms") (st := topS 75) 61 rfl rfl
  have g_law_bottoms := He.glo_ok X G (c2.fact 61 (f := .glo "_law_bottoms") rfl)
  have t_law_bottoms : Txt K mg "_law_bottoms" (topS 75) := ⟨_, _, fun_of F_law_bottoms, g_law_bottoms⟩
  obtain ⟨fd_law_wholes, F_law_wholes⟩ := def_at c2 (x := "_law_wholes") (st := topS 76) 62 rfl rfl
  have g_law_wholes := He.glo_ok X G (c2.fact 62 (f := .glo "_law_wholes") rfl)
  have t_law_wholes : Txt K mg "_law_wholes" (topS 76) := ⟨_, _, fun_of F_law_wholes, g_law_wholes⟩
  obtain ⟨fd_law_half, F_law_half⟩ := def_at c2 (x := "_law_half") (st := topS 77) 63 rfl rfl
  have g_law_half := He.glo_ok X G (c2.fact 63 (f := .glo "_law_half") rfl)
  have t_law_half : Txt K mg "_law_half" (topS 77) := ⟨_, _, fun_of F_law_half, g_law_half⟩
  obtain ⟨fd_law_hull, F_law_hull⟩ := def_at c2 (x := "_law_hull") (st := topS 78) 64 rfl rfl
  have g_law_hull := He.glo_ok X G (c2.fact 64 (f := .glo "_law_hull") rfl)
  have t_law_hull : Txt K mg "_law_hull" (topS 78) := ⟨_, _, fun_of F_law_hull, g_law_hull⟩
  obtain ⟨fd_law_cross, F_law_cross⟩ := def_at c2 (x := "_law_cross") (st := topS 79) 65 rfl rfl
  have g_law_cross := He.glo_ok X G (c2.fact 65 (f := .glo "_law_cross") rfl)
  have t_law_cross : Txt K mg "_law_cross" (topS 79) := ⟨_, _, fun_of F_law_cross, g_law_cross⟩
  obtain ⟨fd_law_twice, F_law_twice⟩ := def_at c2 (x := "_law_twice") (st := topS 80) 66 rfl rfl
  have g_law_twice := He.glo_ok X G (c2.fact 66 (f := .glo "_law_twice") rfl)
  have t_law_twice : Txt K mg "_law_twice" (topS 80) := ⟨_, _, fun_of F_law_twice, g_law_twice⟩
  obtain ⟨fd_law_halves, F_law_halves⟩ := def_at c2 (x := "_law_halves") (st := topS 81) 67 rfl rfl
  have g_law_halves := He.glo_ok X G (c2.fact 67 (f := .glo "_law_halves") rfl)
  have t_law_halves : Txt K mg "_law_halves" (topS 81) := ⟨_, _, fun_of F_law_halves, g_law_halves⟩
  obtain ⟨fd_law_of, F_law_of⟩ := def_at c2 (x := "_law_of") (st := topS 82) 68 rfl rfl
  have g_law_of := He.glo_ok X G (c2.fact 68 (f := .glo "_law_of") rfl)
  have t_law_of : Txt K mg "_law_of" (topS 82) := ⟨_, _, fun_of F_law_of, g_law_of⟩
  obtain ⟨fd_law_way, F_law_way⟩ := def_at c2 (x := "_law_way") (st := topS 83) 69 rfl rfl
  have g_law_way := He.glo_ok X G (c2.fact 69 (f := .glo "_law_way") rfl)
  have t_law_way : Txt K mg "_law_way" (topS 83) := ⟨_, _, fun_of F_law_way, g_law_way⟩
  obtain ⟨fd_law_number, F_law_number⟩ := def_at c2 (x := "_law_number") (st := topS 84) 70 rfl rfl
  have g_law_number := He.glo_ok X G (c2.fact 70 (f := .glo "_law_number") rfl)
  have t_law_number : Txt K mg "_law_number" (topS 84) := ⟨_, _, fun_of F_law_number, g_law_number⟩
  obtain ⟨fd_law_plain, F_law_plain⟩ := def_at c2 (x := "_law_plain") (st := topS 85) 71 rfl rfl
  have g_law_plain := He.glo_ok X G (c2.fact 71 (f := .glo "_law_plain") rfl)
  have t_law_plain : Txt K mg "_law_plain" (topS 85) := ⟨_, _, fun_of F_law_plain, g_law_plain⟩
  obtain ⟨fd_law_small, F_law_small⟩ := def_at c2 (x := "_law_small") (st := topS 86) 72 rfl rfl
  have g_law_small := He.glo_ok X G (c2.fact 72 (f := .glo "_law_small") rfl)
  have t_law_small : Txt K mg "_law_small" (topS 86) := ⟨_, _, fun_of F_law_small, g_law_small⟩
  obtain ⟨fd_law_place, F_law_place⟩ := def_at c2 (x := "_law_place") (st := topS 87) 73 rfl rfl
  have g_law_place := He.glo_ok X G (c2.fact 73 (f := .glo "_law_place") rfl)
  have t_law_place : Txt K mg "_law_place" (topS 87) := ⟨_, _, fun_of F_law_place, g_law_place⟩
  obtain ⟨fd_law_spots, F_law_spots⟩ := def_at c2 (x := "_law_spots") (st := topS 88) 74 rfl rfl
  have g_law_spots := He.glo_ok X G (c2.fact 74 (f := .glo "_law_spots") rfl)
  have t_law_spots : Txt K mg "_law_spots" (topS 88) := ⟨_, _, fun_of F_law_spots, g_law_spots⟩
  obtain ⟨fd_law_any_way, F_law_any_way⟩ := def_at c2 (x := "_law_any_way") (st := topS 89) 75 rfl rfl
  have g_law_any_way := He.glo_ok X G (c2.fact 75 (f := .glo "_law_any_way") rfl)
  have t_law_any_way : Txt K mg "_law_any_way" (topS 89) := ⟨_, _, fun_of F_law_any_way, g_law_any_way⟩
  obtain ⟨fd_law_by, F_law_by⟩ := def_at c2 (x := "_law_by") (st := topS 90) 76 rfl rfl
  have g_law_by := He.glo_ok X G (c2.fact 76 (f := .glo "_law_by") rfl)
  have t_law_by : Txt K mg "_law_by" (topS 90) := ⟨_, _, fun_of F_law_by, g_law_by⟩
  obtain ⟨fd_law_step, F_law_step⟩ := def_at c2 (x := "_law_step") (st := topS 91) 77 rfl rfl
  have g_law_step := He.glo_ok X G (c2.fact 77 (f := .glo "_law_step") rfl)
  have t_law_step : Txt K mg "_law_step" (topS 91) := ⟨_, _, fun_of F_law_step, g_law_step⟩
  obtain ⟨fd_law_tuples, F_law_tuples⟩ := def_at c2 (x := "_law_tuples") (st := topS 92) 78 rfl rfl
  have g_law_tuples := He.glo_ok X G (c2.fact 78 (f := .glo "_law_tuples") rfl)
  have t_law_tuples : Txt K mg "_law_tuples" (topS 92) := ⟨_, _, fun_of F_law_tuples, g_law_tuples⟩
  obtain ⟨fd_law_due_halves, F_law_due_halves⟩ := def_at c2 (x := "_law_due_halves") (st := topS 93) 79 rfl rfl
  have g_law_due_halves := He.glo_ok X G (c2.fact 79 (f := .glo "_law_due_halves") rfl)
  have t_law_due_halves : Txt K mg "_law_due_halves" (topS 93) := ⟨_, _, fun_of F_law_due_halves, g_law_due_halves⟩
  obtain ⟨fd_law_due_sides, F_law_due_sides⟩ := def_at c2 (x := "_law_due_sides") (st := topS 94) 80 rfl rfl
  have g_law_due_sides := He.glo_ok X G (c2.fact 80 (f := .glo "_law_due_sides") rfl)
  have t_law_due_sides : Txt K mg "_law_due_sides" (topS 94) := ⟨_, _, fun_of F_law_due_sides, g_law_due_sides⟩
  obtain ⟨fd_law_grid, F_law_grid⟩ := def_at c2 (x := "_law_grid") (st := topS 95) 81 rfl rfl
  have g_law_grid := He.glo_ok X G (c2.fact 81 (f := .glo "_law_grid") rfl)
  have t_law_grid : Txt K mg "_law_grid" (topS 95) := ⟨_, _, fun_of F_law_grid, g_law_grid⟩
  obtain ⟨fd_law_asked, F_law_asked⟩ := def_at c2 (x := "_law_asked") (st := topS 96) 82 rfl rfl
  have g_law_asked := He.glo_ok X G (c2.fact 82 (f := .glo "_law_asked") rfl)
  have t_law_asked : Txt K mg "_law_asked" (topS 96) := ⟨_, _, fun_of F_law_asked, g_law_asked⟩
  obtain ⟨fdlaw, Flaw⟩ := def_at c2 (x := "law") (st := topS 97) 83 rfl rfl
  have glaw := He.glo_ok X G (c2.fact 83 (f := .glo "law") rfl)
  have tlaw : Txt K mg "law" (topS 97) := ⟨_, _, fun_of Flaw, glaw⟩
  obtain ⟨fdM0, FM0⟩ := met_at c2 (x := "BadPatch") (m := "__init__") (q := "BadPatch.__init__") (st := inClass (topS 5) 0) 84 rfl rfl
  obtain ⟨fdM1, FM1⟩ := met_at c2 (x := "Patch") (m := "__init__") (q := "Patch.__init__") (st := inClass (topS 52) 0) 85 rfl rfl
  obtain ⟨fdM2, FM2⟩ := met_at c2 (x := "Patch") (m := "__contains__") (q := "Patch.__contains__") (st := inClass (topS 52) 4) 86 rfl rfl
  obtain ⟨cg0, cr0⟩ := He.ba cg
  obtain ⟨pr0, fb0⟩ := He.ba cg0
  obtain ⟨fdG0, FG0⟩ := PR.fnAt_ok (List.cons.inj c3).1 fb0
  obtain ⟨cg1, cr1⟩ := He.ba cr0
  obtain ⟨pr1, fb1⟩ := He.ba cg1
  obtain ⟨fdG1, FG1⟩ := PR.fnAt_ok (List.cons.inj (List.cons.inj c3).2).1 fb1
  obtain ⟨pr2, fb2⟩ := He.ba cr1
  obtain ⟨fdG2, FG2⟩ := PR.fnAt_ok (List.cons.inj (List.cons.inj (List.cons.inj c3).2).2).1 fb2
  have e := hfa.symm.trans glaw
  cases e
  have bl := FunD.bindsA (ps := ["_law_script"]) Flaw fun _ _ _ _ _ _ us hl => match us, hl with | [_], _ => rfl
  refine ⟨fdlaw, fun s v => bl s [v] rfl, fun base _ _ => ?_⟩
  have cBP : CT P w K mg base "BadPatch" ["what"] := ⟨cB, gBP, fun _ => ⟨fdM0, ["self", "what"], in_BadPatch (fun_of FM0) cB.o cB.no, FM0.bindsN fun _ _ _ _ _ _ us hl => match us, hl with | [_, _], _ => rfl⟩⟩
  have Gw1 := okis_whole1 (P := P) (w := w) (base := base) gis_whole Fis_whole misinstance mint mbool
  have Gw2 := okis_whole2 (P := P) (w := w) (base := base) gis_whole Fis_whole misinstance mint mbool
  have G1lowest_terms := oklowest_terms (P := P) (w := w) (base := base) tlowest_terms mgcd
  have G1plus := okplus (P := P) (w := w) (base := base) tplus G1lowest_terms
  have G1negative := oknegative (P := P) (w := w) (base := base) tnegative
  have G1minus := okminus (P := P) (w := w) (base := base) tminus G1plus G1negative
  have G1over := okover (P := P) (w := w) (base := base) tover G1lowest_terms
  have G1sum_of := oksum_of (P := P) (w := w) (base := base) tsum_of G1plus gZ hZ
  have G1whole_direction := okwhole_direction (P := P) (w := w) (base := base) twhole_direction mgcd
  have G1direction_of := okdirection_of (P := P) (w := w) (base := base) tdirection_of G1whole_direction
  have G1raw_amount := okraw_amount (P := P) (w := w) (base := base) traw_amount
  have G1amount_at := okamount_at (P := P) (w := w) (base := base) tamount_at G1lowest_terms G1raw_amount
  have G1step_from := okstep_from (P := P) (w := w) (base := base) tstep_from G1minus
  have G1whole_row := okwhole_row (P := P) (w := w) (base := base) twhole_row
  have G1raw_cross := okraw_cross (P := P) (w := w) (base := base) traw_cross G1whole_row
  have G1cross_at := okcross_at (P := P) (w := w) (base := base) tcross_at G1lowest_terms G1raw_cross
  have G1raw_step := okraw_step (P := P) (w := w) (base := base) traw_step G1whole_row
  have G1side_normal := okside_normal (P := P) (w := w) (base := base) tside_normal G1raw_step G1whole_direction
  have G1is_ratio := okis_ratio (P := P) (w := w) (base := base) tis_ratio Gw1 Gw2 misinstance mtuple mlen mgcd
  have G1is_row := okis_row (P := P) (w := w) (base := base) tis_row misinstance mtuple mlist
  have G1is_place := okis_place (P := P) (w := w) (base := base) tis_place G1is_row G1is_ratio mlen
  have G1sign_of := oksign_of (P := P) (w := w) (base := base) tsign_of
  have G1opposite := okopposite (P := P) (w := w) (base := base) topposite
  have G1scaled_floor := okscaled_floor (P := P) (w := w) (base := base) tscaled_floor
  have G1rough_place := okrough_place (P := P) (w := w) (base := base) trough_place
  have G1are_told_apart := okare_told_apart (P := P) (w := w) (base := base) tare_told_apart
  have G1order_places := okorder_places (P := P) (w := w) (base := base) torder_places G1scaled_floor G1rough_place G1are_told_apart mlist mmax msorted mzip mall
  have G1turn_at := okturn_at (P := P) (w := w) (base := base) tturn_at G1raw_cross G1sign_of
  have G1rough_turn := okrough_turn (P := P) (w := w) (base := base) trough_turn G1sign_of mabs
  have G1turns_left := okturns_left (P := P) (w := w) (base := base) tturns_left G1rough_turn G1turn_at
  have G1left_chain := okleft_chain (P := P) (w := w) (base := base) tleft_chain G1turns_left mlen
  have G1hull_corners := okhull_corners (P := P) (w := w) (base := base) thull_corners G1order_places G1rough_place G1left_chain mlen mtuple
  have G2is_row := okVis_row (P := P) (w := w) (base := base) tis_row misinstance mtuple mlist
  have G1_law_gcd := ok_law_gcd (P := P) (w := w) (base := base) t_law_gcd mint mabs
  have G1_law_ratio := ok_law_ratio (P := P) (w := w) (base := base) t_law_ratio G1_law_gcd
  have G1_law_plus := ok_law_plus (P := P) (w := w) (base := base) t_law_plus G1_law_ratio
  have G1_law_less := ok_law_less (P := P) (w := w) (base := base) t_law_less G1_law_ratio
  have G1_law_times := ok_law_times (P := P) (w := w) (base := base) t_law_times G1_law_ratio
  have G1_law_amount := ok_law_amount (P := P) (w := w) (base := base) t_law_amount G1_law_plus G1_law_times
  have G1_law_direction := ok_law_direction (P := P) (w := w) (base := base) t_law_direction G1_law_gcd
  have G1_law_by := ok_law_by (P := P) (w := w) (base := base) t_law_by G1_law_plus
  have G1_law_step := ok_law_step (P := P) (w := w) (base := base) t_law_step G1_law_less
  have G1_law_plain := ok_law_plain (P := P) (w := w) (base := base) t_law_plain misinstance mtuple mint mbool
  have G1_law_cross := ok_law_cross (P := P) (w := w) (base := base) t_law_cross G1_law_less G1_law_times
  have G1_law_hand := dkHand (P := P) (w := w) (base := base) t_law_hand mint mlen
  have G1_law_take := dkTake (P := P) (w := w) (base := base) t_law_take t_law_mixed mint mlen
  have G1_law_number := ok_law_number (P := P) (w := w) (base := base) t_law_number G1_law_take mrange
  have G1_law_way := ok_law_way (P := P) (w := w) (base := base) t_law_way G1_law_take
  have G1_law_small := ok_law_small (P := P) (w := w) (base := base) t_law_small G1_law_take G1_law_ratio
  have G1_law_place := ok_law_place (P := P) (w := w) (base := base) t_law_place G1_law_take G1_law_small G1_law_number G1_law_ratio
  have G1_law_any_way := ok_law_any_way (P := P) (w := w) (base := base) t_law_any_way G1_law_take G1_law_way G1_law_number G1_law_direction
  have G2_law_small := okL_law_small (P := P) (w := w) (base := base) t_law_small G1_law_take G1_law_ratio
  have G2_law_place := okL_law_place (P := P) (w := w) (base := base) t_law_place G1_law_take G2_law_small G1_law_number G1_law_ratio
  have G1_law_of := ok_law_of (P := P) (w := w) (base := base) t_law_of G1_law_ratio
  have G1_law_spots := ok_law_spots (P := P) (w := w) (base := base) t_law_spots G1_law_take G2_law_place G1_law_of mrange
  have G1_law_bottoms := ok_law_bottoms (P := P) (w := w) (base := base) t_law_bottoms G1_law_gcd
  have G1_law_wholes := ok_law_wholes (P := P) (w := w) (base := base) t_law_wholes
  have G1_law_half := ok_law_half (P := P) (w := w) (base := base) t_law_half mlen
  have G1_law_hull := ok_law_hull (P := P) (w := w) (base := base) t_law_hull G1_law_bottoms G1_law_wholes G1_law_half G1_law_ratio mlen mrange mtuple msorted
  have G1_law_tuples := ok_law_tuples (P := P) (w := w) (base := base) t_law_tuples misinstance mtuple mint mbool
  have G2_law_tuples := okL1_law_tuples (P := P) (w := w) (base := base) t_law_tuples G1_law_tuples misinstance mtuple mint mbool
  have G3_law_tuples := okL2_law_tuples (P := P) (w := w) (base := base) t_law_tuples G2_law_tuples misinstance mtuple mint mbool
  have G4_law_tuples := okL3_law_tuples (P := P) (w := w) (base := base) t_law_tuples G3_law_tuples misinstance mtuple mint mbool
  have G1compare := okcompare (P := P) (w := w) (base := base) tcompare G1sign_of
  have G1least_of := okleast_of (P := P) (w := w) (base := base) tleast_of G1compare
  have G1greatest_of := okgreatest_of (P := P) (w := w) (base := base) tgreatest_of G1compare
  have G2sum_of := okNsum_of (P := P) (w := w) (base := base) tsum_of G1plus gZ hZ
  have G1compare_places := okcompare_places (P := P) (w := w) (base := base) tcompare_places G1compare
  have G1couples_round := okcouples_round (P := P) (w := w) (base := base) tcouples_round mlist mzip
  have G1sides_of := oksides_of (P := P) (w := w) (base := base) tsides_of G1couples_round mlen mtuple mzip
  have G1is_between := okis_between (P := P) (w := w) (base := base) tis_between G1turn_at G1compare_places
  have G1corners_hold := okcorners_hold (P := P) (w := w) (base := base) tcorners_hold G1turn_at G1is_between G1sides_of mlen
  have G1mean_place := okNmean_place (P := P) (w := w) (base := base) tmean_place G2sum_of G1over mlen
  have G1amounts_of := okamounts_of (P := P) (w := w) (base := base) tamounts_of tC nC G1amount_at
  have G1reach_of := okreach_of (P := P) (w := w) (base := base) treach_of G1amounts_of G1greatest_of
  have G1low_of := oklow_of (P := P) (w := w) (base := base) tlow_of G1amounts_of G1least_of
  have G1breadth_of := okbreadth_of (P := P) (w := w) (base := base) tbreadth_of G1reach_of G1low_of G1minus
  have G1_law_below := ok_law_below (P := P) (w := w) (base := base) t_law_below
  have G1_law_top := ok_law_top (P := P) (w := w) (base := base) t_law_top G1_law_amount G1_law_below
  have G1_law_bottom := ok_law_bottom (P := P) (w := w) (base := base) t_law_bottom G1_law_top
  have G1_law_twice := ok_law_twice (P := P) (w := w) (base := base) t_law_twice G1_law_plus G1_law_cross mlen mrange
  have G1_law_halves := ok_law_halves (P := P) (w := w) (base := base) t_law_halves G1_law_less G1_law_direction G1_law_top mlen mrange
  have G1_law_due_halves := ok_law_due_halves (P := P) (w := w) (base := base) t_law_due_halves G1_law_halves mlen
  have G1_law_due_sides := ok_law_due_sides (P := P) (w := w) (base := base) t_law_due_sides mlen mrange mtuple
  have G1_law_grid := ok_law_grid (P := P) (w := w) (base := base) t_law_grid G1_law_take G1_law_of G1_law_step G1_law_by G1_law_times mlen mrange mint
  have cP_ : PCt P w K mg base := ⟨mkP, gP, tC, nC, ⟨fdM1, in_Pinit (fun_of FM1) cBP tC nC G1is_row G1is_place G1hull_corners mlen mtuple, FM1.bindsN fun _ _ _ _ _ _ us hl => match us, hl with | [_, _], _ => rfl⟩⟩
  have pp0 : PPr P w K mg base "sides" 3 (spPSides K) := ⟨_, _, fdG0, PR.prB_ok pr0, in_Psides (fun_of FG0) tC nC G1sides_of, FG0.bindsN fun _ _ _ _ _ _ us hl => match us, hl with | [_], _ => rfl⟩
  have pp1 : PPr P w K mg base "twice_area" 4 (spPArea K) := ⟨_, _, fdG1, PR.prB_ok pr1, in_Parea (fun_of FG1) tC nC G1sides_of G1cross_at G2sum_of, FG1.bindsN fun _ _ _ _ _ _ us hl => match us, hl with | [_], _ => rfl⟩
  have pp2 : PPr P w K mg base "middle" 5 (spPMid K) := ⟨_, _, fdG2, PR.prB_ok pr2, in_Pmid (fun_of FG2) tC nC G1mean_place, FG2.bindsN fun _ _ _ _ _ _ us hl => match us, hl with | [_], _ => rfl⟩
  have mQ : PMq P w K mg base := ⟨tC, nC, i1, i2, ⟨fdM2, in_Pin (fun_of FM2) tC nC G1corners_hold, FM2.bindsN fun _ _ _ _ _ _ us hl => match us, hl with | [_, _], _ => rfl⟩, pp0, pp1, pp2⟩
  have G1hull_of := okhull_of (P := P) (w := w) (base := base) thull_of cBP cP_ G2is_row G1hull_corners mlen
  have G1touched_by := oktouched_by (P := P) (w := w) (base := base) ttouched_by tC nC G1amounts_of G1greatest_of G1hull_of mzip
  have G1normals_of := oknormals_of (P := P) (w := w) (base := base) tnormals_of tC nC pp0 G1side_normal G1direction_of G1step_from G1opposite gAx hAx mlen
  have G1halves_of := okhalves_of (P := P) (w := w) (base := base) thalves_of G1normals_of G1amount_at mtuple
  have G1_law_asked := ok_law_asked (P := P) (w := w) (base := base) t_law_asked tC nC G1_law_top G1_law_bottom G1_law_plain G1reach_of G1low_of G1breadth_of G1_law_less G1_law_hull G1_law_amount G1touched_by mlist
  exact ok_law (fun_of Flaw) G1_law_hand G1_law_spots G1hull_of G1_law_due_halves G1halves_of G4_law_tuples G1_law_grid G1_law_below G1_law_amount G1_law_any_way G1_law_asked G1_law_due_sides G1_law_twice G1_law_plain G1_law_plus G1_law_times mQ mlen mrange mlist mtuple misinstance
end
end F3
open PySem PySem.W PySem.Calls PyProof.Rows
theorem PySem.Challenge.cw_feltstone_k05_whole_patches_asked_holds : PySem.Challenge.rw_feltstone_k05_whole_patches_asked.Holds := by
  w_on; o_law
  refine HandSHeadRun.head_imp (r := OpenLaw.row PySem.Challenge.rw_feltstone_k05_whole_patches_asked) (q := view (OpenLaw.row PySem.Challenge.rw_feltstone_k05_whole_patches_asked).prog [0, 97]) (H := F3.hookM 6) (ob := F3.ob) (M := 60000) (loose := F3.names)
    (d := HandSHeadRun.topDef (OpenLaw.row PySem.Challenge.rw_feltstone_k05_whole_patches_asked).prog 97) (kwd := []) F3.ob_eq F3.run
    (by kernel_rfl) (by kernel_rfl) (by kernel_rfl) (by rfl) (by first | assumption | decide +kernel) (by decide +kernel) ⟨rfl, rfl, rfl, rfl, rfl, by decide +kernel⟩ ?hw ?hc
  case hw => w_witness2
  case hc =>
    refine L2.walk_ofE (l := PySem.Challenge.rw_feltstone_k05_whole_patches_asked) (n := 63) (k := 12) (x := "_law_script") (CX := L2.CX0) rfl (by decide) (by kernel_rfl) ⟨rfl, by decide, by decide⟩ ?F (fun _ _ _ _ z => z)
    intro w mg fa h Y G hmg0
    obtain ⟨K, KX, c⟩ := Y
    have hmg : mg ("law" : PySem.Str) = some (.ref fa) := by
      have e : (HandSHeadRun.topDef (OpenLaw.row PySem.Challenge.rw_feltstone_k05_whole_patches_asked).prog 97).name = ("law" : PySem.Str) := by kernel_rfl
      rw [← e]
      exact hmg0
    obtain ⟨fd, hb, hF⟩ := F3.facts (P := (PySem.Challenge.rw_feltstone_k05_whole_patches_asked).prog) (w := w) KX G hmg c
    exact ⟨K, fd, F3.spLaw K, KX, hb, fun H a ns hl _ hS => ⟨a, ns, rfl, hS, hl, fun _ => rfl⟩, hF⟩
