import PyProof.Rows.All
import Wide.All
import OpenK.AllK
import Wide.FinOn
import HandS.ForMost
import HandS.WordsExc
import HandS.ExcInit
import HandS.ExcIs
import HandS.ExcField
import HandS.ExcValue
import HandS.IsInst
import KE.KExcIs
import HandS.Defaults
import HandS.HeadHook1
import HandS.HeadHook2
import HandS.ExcBuiltin
import KE.KStateDown
import HandS.Head0
import HandS.Head1
import HandS.Head2
import HandS.HeadEnd
import PySem.Challenge.RW_feltstone_k00_errors_side_by_side
set_option Elab.async false
set_option linter.all false
set_option maxRecDepth 100000
set_option maxHeartbeats 4000000
/-! exceptions of own classes as values: made, read, asked for their class -/
namespace FX
open PySem PySem.Spec PyProof.Rows L2
/-- at e an exception of the class at C, with these fields -/
def ExAt (H : Hp) (e C : Addr) (fs : List (Str × V)) : Prop :=
  (fs = [] ∧ H e = some (exo e C none)) ∨ ∃ d, H e = some (exo e C (some d)) ∧ H d = some (exd d fs)
theorem ExAt.same {H H' : Hp} {e C : Addr} {fs : List (Str × V)} (x : ExAt H e C fs) (s : Same H H') : ExAt H' e C fs := by
  rcases x with ⟨a, b⟩ | ⟨d, a, b⟩
  · exact .inl ⟨a, s _ _ b⟩
  · exact .inr ⟨d, s _ _ a, s _ _ b⟩
/-- what an exception class's own constructor does -/
def spInit (C : Addr) (names : List Str) : Sp := fun vs H Q _ => ∃ (a : Addr) (ws : List V), vs = .ref a :: ws ∧ ws.length = names.length ∧ H a = some (exo a C none) ∧
  ∀ H' d, (∀ b o, b ≠ a → H b = some o → H' b = some o) → H' a = some (exo a C (some d)) → H' d = some (exd d (names.zip ws).reverse) → H d = none → Q .non H'
/-- the text's facts of an exception class, as one look -/
def oexB (K : PySem.W.Frag) (C : Addr) : Bool := (match K.lookup C with
    | some ⟨.type "type", _, .cls cd, sl⟩ => (match cd.mro, sl.toList with
      | .ref D :: bm, [_, _, _, _, some (.builtin n), _] => decide (D = C) && (decide (n = "ValueError.__new__") && (!cd.hasDel && (cd.hasDict && PySem.HandSPX.refsVE bm)))
      | _, _ => false)
    | _ => false) && (He.eqO (PySem.W.findIn K (.ref C) "__setattr__") (some (some (.builtin "object.__setattr__"))) && (decide (PySem.W.subIn K (.ref C) (.type "BaseException") = some true) && (decide (PySem.W.typeIn K (.ref C) = some (.type "type")) && PySem.W.keepIn K (.ref C))))
theorem oexB_ok {K : PySem.W.Frag} {C : Addr} (h : oexB K C = true) : OexC K C := by
  obtain ⟨h0, h⟩ := He.ba h
  obtain ⟨h1, h⟩ := He.ba h
  obtain ⟨h2, h⟩ := He.ba h
  obtain ⟨h3, h4⟩ := He.ba h
  refine ⟨?_, He.eqO_ok h1, of_decide_eq_true h2, of_decide_eq_true h3, h4⟩
  split at h0
  · rename_i dd cd sl lk
    split at h0
    · rename_i D bm k0 k1 k2 k3 n k5 em es
      obtain ⟨a, h0⟩ := He.ba h0
      obtain ⟨b, h0⟩ := He.ba h0
      obtain ⟨c, h0⟩ := He.ba h0
      obtain ⟨d, e⟩ := He.ba h0
      obtain rfl := of_decide_eq_true a
      obtain rfl := of_decide_eq_true b
      obtain ⟨nm, bs, mro, ns, qn, hd, sn, sub, ab, col, del⟩ := cd
      obtain ⟨l⟩ := sl
      dsimp only at em es c d
      subst em es d
      have c' : del = false := by simpa using c
      subst c'
      exact ⟨nm, qn, ns, bs, bm, sn, sub, ab, col, dd, k0, k1, k2, k3, k5, lk, e⟩
    · cases h0
  · cases h0
def isB (K : PySem.W.Frag) (D : Addr) : Bool := He.eqO (PySem.W.findIn K (.ref D) "__getattribute__") (some (some (.builtin "BaseException.__getattribute__"))) && (He.eqO (PySem.W.findIn K (.ref D) "__getattr__") (some none) &&
  (decide (PySem.W.subIn K (.ref D) (.type "BaseException") = some true) && (PySem.W.hasDictIn K D && (He.eqO (PySem.W.findIn K (.ref D) "__class__") (some (some (.builtin "object.__class__"))) &&
  (He.eqO (PySem.W.specialIn K (.builtin "object.__class__") "__get__") (some (some (.builtin "getset_descriptor.__get__"))) && (decide (PySem.W.takesIn K (.builtin "object.__class__") = some true) && decide (PySem.W.mroIn K D (.type "object") = some true)))))))
theorem isB_ok {K : PySem.W.Frag} {D : Addr} (h : isB K D = true) : ExcC K D := by
  obtain ⟨h1, h⟩ := He.ba h
  obtain ⟨h2, h⟩ := He.ba h
  obtain ⟨h3, h⟩ := He.ba h
  obtain ⟨h4, h⟩ := He.ba h
  obtain ⟨h5, h⟩ := He.ba h
  obtain ⟨h6, h⟩ := He.ba h
  obtain ⟨h7, h8⟩ := He.ba h
  exact ⟨He.eqO_ok h1, He.eqO_ok h2, of_decide_eq_true h3, h4, He.eqO_ok h5, He.eqO_ok h6, of_decide_eq_true h7, of_decide_eq_true h8⟩
/-- a class with its own constructor (the fields' names), or without one -/
def clsB (K : PySem.W.Frag) (x : Str) (names : List Str) : Bool := (He.Fa.glo x).ok K && (oexB K (He.ga K x) && (isB K (He.ga K x) && (names.all (fun f => (He.Fa.noat x f).ok K) && (if names = [] then PySem.W.excIn K (He.ga K x) He.veBase "ValueError.__new__" else
  (He.eqO (PySem.W.findIn K (.ref (He.ga K x)) "__init__") (some (some (.ref (He.ma K (He.ga K x) "__init__")))) && decide (PySem.W.typeIn K (.ref (He.ma K (He.ga K x) "__init__")) = some (.type "function")))))))
structure ClsOk (K : PySem.W.Frag) (x : Str) (names : List Str) : Prop where
  glo : (He.Fa.glo x).ok K = true
  o : OexC K (He.ga K x)
  is : ExcC K (He.ga K x)
  no : ∀ f ∈ names, PySem.W.findIn K (.ref (He.ga K x)) f = some none
  xin : names = [] → PySem.W.excIn K (He.ga K x) [.type "ValueError", .type "Exception", .type "BaseException", .type "object"] "ValueError.__new__" = true
  ini : names ≠ [] → PySem.W.findIn K (.ref (He.ga K x)) "__init__" = some (some (.ref (He.ma K (He.ga K x) "__init__")))
  ity : names ≠ [] → PySem.W.typeIn K (.ref (He.ma K (He.ga K x) "__init__")) = some (.type "function")
theorem clsB_ok {K : PySem.W.Frag} {x : Str} {names : List Str} (h : clsB K x names = true) : ClsOk K x names := by
  obtain ⟨h1, h⟩ := He.ba h
  obtain ⟨h2, h⟩ := He.ba h
  obtain ⟨h3, h⟩ := He.ba h
  obtain ⟨h4, h5⟩ := He.ba h
  refine ⟨h1, oexB_ok h2, isB_ok h3, fun f hf => He.noat_ok (List.all_eq_true.mp h4 f hf), fun e => ?_, fun e => ?_, fun e => ?_⟩
  · rw [if_pos e] at h5; exact h5
  · rw [if_neg e] at h5; exact He.eqO_ok (He.ba h5).1
  · rw [if_neg e] at h5; exact of_decide_eq_true (He.ba h5).2
theorem fun_of {K : PySem.W.Frag} {x q : Str} {st : Stmt} {f : Addr} {fd : FuncData} (F : FunD K x q (defArgs st) (defBody st) (defScope st) [] [] f fd) : Fun K x q st f fd := by
  obtain ⟨oc, od, dV, kV, doc, pm, an, cdv, ct, osl, rfl, lk, hcd, hD, hK⟩ := F.ex
  rcases hD with ⟨_, rfl⟩ | ⟨e, _⟩
  · exact ⟨⟨oc, od, kV, doc, pm, an, cdv, ct, osl, rfl, lk, hcd⟩, F.kp⟩
  · exact absurd rfl e
section
variable {X : Cx} {pins : List (Addr × Obj)} {σ : L2.St} {H : Hp} {s : Shared}
/-- the exception as the library sees it -/
theorem ExAt.inst {e C : Addr} {fs : List (Str × V)} (I : Inv X pins σ H s) (x : ExAt H e C fs) :
    ∃ (oe : Obj) (od : Option Obj), PySem.W.InstAt s.heap e oe C od ∧ (∀ f v, fs.lookup f = some v → ∃ oo u, od = some oo ∧ PySem.W.lookIn f oo = some (some u) ∧ RelV v u) := by
  rcases x with ⟨rfl, a⟩ | ⟨d, a, b⟩
  · obtain ⟨t1, h1⟩ := exo_at I.hok a
    exact ⟨_, none, ⟨h1, rfl, rfl, trivial⟩, fun f v l => by cases l⟩
  · obtain ⟨t1, h1⟩ := exo_at I.hok a
    obtain ⟨mA, hns, rel⟩ := exd_at I.hok b
    obtain ⟨od, ho, hl⟩ := lookIn_ns hns
    refine ⟨_, some od, ⟨h1, rfl, rfl, ho⟩, fun f v l => ?_⟩
    obtain ⟨u, hu, ru⟩ := RelO.some_of (v := v) (o := mA f) (by rw [← l]; exact rel f)
    exact ⟨od, u, rfl, by rw [hl, hu], ru⟩
/-- isinstance of such a value -/
def rIsX (K : PySem.W.Frag) : List V → Hp → VK → Prop := fun xs H Q => ∃ (e C : Addr) (fs : List (Str × V)) (c : V) (cv : Value) (b : Bool),
  xs = [.ref e, c] ∧ ExAt H e C fs ∧ ExcC K C ∧ ClsV c cv ∧ PySem.W.kitOne K (.ref C) cv = some b ∧ Q (.bl b) H
theorem call_isX : CallR X (.builtin "isinstance") (rIsX X.K) := by
  intro pins s σ H xs us Q I r h
  obtain ⟨e, C, fs, c, cv, b, rfl, x, T, k, hk, q⟩ := h
  obtain ⟨u1, u2, rfl, r1, r2⟩ := vals2 r
  obtain rfl := k.eq r2
  cases (show u1 = Value.ref e from r1)
  obtain ⟨oe, od, J, _⟩ := ExAt.inst I x
  obtain ⟨cd, hcd, _⟩ := PySem.W.any_some T.hd
  exact PySem.W.kia_one (PySem.W.kitx_exc (by rw [hcd]; rfl) T.hg T.hk T.hs T.ha T.hn T.ht T.hm) I.kIn J hk (fun z => nomatch z) fun tk => ⟨.bl b, H, I.tok tk, rfl, q⟩
/-- e.f -/
def tXv (K : PySem.W.Frag) (f : Str) (te : TE) : TE := fun σ H Q => te σ H fun x H1 => ∃ (e C : Addr) (fs : List (Str × V)) (v : V), x = .ref e ∧ ExAt H1 e C fs ∧ ExcC K C ∧ PySem.W.findIn K (.ref C) f = some none ∧ fs.lookup f = some v ∧ Q v H1
theorem pe_xv {e : Expr} {te : TE} {f : Str} {pos : Pos} (he : PE X e te) (hb : attributeBase e f X.env (eval e X.env) = eval e X.env := by rfl) : PE X (.Attribute e f pos) (tXv X.K f te) := by
  refine ⟨fun pins s σ H Q I h => ?_⟩
  refine attr_of hb (thn (he.run pins s σ H _ I h) fun u s1 hh => ?_)
  obtain ⟨x, H1, I1, rx, a, C, fs, v, rfl, ex, T, hno, l, q⟩ := hh
  cases (show u = Value.ref a from rx)
  obtain ⟨oe, od, J, hl⟩ := ExAt.inst I1 ex
  obtain ⟨oo, u, rfl, hu, ru⟩ := hl f v l
  exact PySem.HandSPX.exc_get I1.kIn J T.hg T.hk T.hs (PySem.W.findObj_own T.hd hno rfl hu) (handed_of ru) ⟨v, H1, I1.tok _, ru, q⟩
/-- C(..) as a value -/
def tEx (C : Addr) (names : List Str) (ta : TA) : TE := fun σ H Q => ta σ H fun vs H1 => vs.length = names.length ∧ vs.length ≤ 1000 ∧ ∀ e H', H1 e = none → Same H1 H' → ExAt H' e C (names.zip vs).reverse → Q (.ref e) H'
theorem pe_ex {x : Str} {C fI : Addr} {k : Nat} {fd : FuncData} {ps names : List Str} {e : Expr} {es : List Expr} {ta : TA} {p pos : Pos} (T : OexC X.K C) (iC : PySem.W.findIn X.K (.ref C) "__init__" = some (some (.ref fI))) (tI : PySem.W.typeIn X.K (.ref fI) = some (.type "function"))
    (F1 : FnOk X.prog X.w X.K X.mg X.base CX0 k fI fd ps (spInit C names)) (hr : Room (k + 1) X.A) (hb : Binds X.K fd ps []) (hg : Gl X x) (hm : X.mg x = some (.ref C)) (ha : PA X (e :: es) ta)
    (hdb : (x == ("__debug__" : Str)) = false := by decide) (he : starEach (e :: es) X.env = (false, eval e X.env) :: starEach es X.env := by rfl) (hpl : (backTo pos (starEach es X.env)).any (·.1) = false := by rfl) :
    PE X (.Call (.Name x p) (e :: es) [] pos) (tEx C names ta) := by
  refine ⟨fun pins s σ H Q I h => ?_⟩
  obtain ⟨nm, q, N, bs, bm, sn, sub, ab, col, dd, k0, k1, k2, k3, k5, hC, hbm⟩ := T.cls
  refine wpAny_Call_Name_kw (ld_glob I hg hm ?_ hdb)
  refine PySem.W.callWith_K (h₀ := X.base) I.ok.mod.kin T.kC (thn (ha.run pos pins s σ H _ I h) fun us s1 ⟨vs, H1, I1, r1, hl, hz, q1⟩ => ⟨I1.kIn, ?_⟩) he hpl
  show wpAny _ _ (call (.ref C) us) _ _ _
  obtain ⟨hp, g, dr, tk, os⟩ := s1
  have hsz : hp.objs.size ≤ hp.objs.size + 1 := Nat.le_succ _
  have hn : H1 (hp.objs.size + 1) = none := I1.hok.fresh hsz
  have kk : ∀ b o, hp.get? b = some o → ((hp.push (PySem.W.kdv_tup us)).push (PySem.HandSPX.excO C hp.objs.size)).get? b = some o := fun b o e => Heap.get?_push_of_some _ (Heap.get?_push_of_some _ e)
  have hget : ((hp.push (PySem.W.kdv_tup us)).push (PySem.HandSPX.excO C hp.objs.size)).get? (hp.objs.size + 1) = some (PySem.HandSPX.excO C hp.objs.size) := by heap_get
  have I2 : Inv X pins σ (upd H1 (hp.objs.size + 1) (exo (hp.objs.size + 1) C none)) ⟨(hp.push (PySem.W.kdv_tup us)).push (PySem.HandSPX.excO C hp.objs.size), g, dr, tk, os⟩ :=
    I1.laid (t' := tk) (a := hp.objs.size + 1) (o := exo (hp.objs.size + 1) C none) (h' := (hp.push (PySem.W.kdv_tup us)).push (PySem.HandSPX.excO C hp.objs.size)) kk hsz (exo_ok hget)
  have r2 : Vals (V.ref (hp.objs.size + 1) :: vs) (Value.ref (hp.objs.size + 1) :: us) := .cons rfl r1
  have hq : spInit C names (V.ref (hp.objs.size + 1) :: vs) (upd H1 (hp.objs.size + 1) (exo (hp.objs.size + 1) C none)) (fun v H2 => v = .non ∧ Q (.ref (hp.objs.size + 1)) H2) E0 := by
    refine ⟨_, vs, rfl, hl, upd_same, fun H' d keep ea ed _ => ⟨rfl, q1 _ H' hn (fun b o z => ?_) (.inr ⟨d, ea, ed⟩)⟩⟩
    have nb : b ≠ hp.objs.size + 1 := ne_of_none z hn
    exact keep b o nb (by rw [upd_ne nb]; exact z)
  have hlen : (Value.ref (hp.objs.size + 1) :: us).length = ps.length := by
    have e := r2.length
    rw [F1.len _ _ _ _ hq] at e
    exact e.symm
  have hus : us.length ≤ sizeLine := by
    rw [← Paired.length r1, sizeLine_eq]
    omega
  have bb : BindsTo ⟨(hp.push (PySem.W.kdv_tup us)).push (PySem.HandSPX.excO C hp.objs.size), g, dr, tk, os⟩ fd ⟨Value.ref (hp.objs.size + 1) :: us, []⟩ (ps.zip (Value.ref (hp.objs.size + 1) :: us)) := by
    have z := hb ⟨(hp.push (PySem.W.kdv_tup us)).push (PySem.HandSPX.excO C hp.objs.size), g, dr, tk, os⟩ (Value.ref (hp.objs.size + 1) :: us) I2.kIn (by rw [List.append_nil]; exact hlen)
    rw [List.append_nil] at z
    exact z
  refine wpAny_call (PySem.HandSPX.call_own F.excBase_ValueError (fun Y => PySem.HandSPX.refsVE_contains Y bm hbm) (I1.kIn _ _ hC) (PySem.W.looks_findIn I1.kIn iC) (fun self => PySem.W.bind_fn I1.kIn self tI) hus
    (codeAny_mono (F1.run _ X.stack _ _ ⟨Value.ref (hp.objs.size + 1) :: us, []⟩ (Value.ref (hp.objs.size + 1) :: us) _ _ E0 (hr.make C us []) (I2.env0.make C us []) bb r2 hq) fun r s' hq' => ?_))
  cases r with
  | error er => exact False.elim hq'
  | ok fl =>
    cases fl with
    | ret u =>
      obtain ⟨v, H', I3, rv, ev, q3⟩ := I2.after hq'
      subst ev
      exact ⟨rv, ⟨V.ref (hp.objs.size + 1), H', I3, rfl, q3⟩⟩
    | next => exact False.elim hq'
    | brk => exact False.elim hq'
    | cont => exact False.elim hq'
theorem pe_ex0 {x : Str} {C : Addr} {p pos : Pos} (T : OexC X.K C) (q : PySem.W.excIn X.K C [.type "ValueError", .type "Exception", .type "BaseException", .type "object"] "ValueError.__new__" = true) (hg : Gl X x) (hm : X.mg x = some (.ref C))
    (hdb : (x == ("__debug__" : Str)) = false := by decide) : PE X (.Call (.Name x p) [] [] pos) (tEx C [] tNil) := by
  refine ⟨fun pins s σ H Q I h => ?_⟩
  refine wpAny_Call_Name_kw (ld_glob I hg hm ?_ hdb)
  refine PySem.W.callWith_K0 I.kIn T.kC ?_
  obtain ⟨_, _, q1⟩ := h
  obtain ⟨hp, g, dr, tk, os⟩ := s
  obtain ⟨bm, N, nm, qn, bs, hdct, sn, sub, ab, col, dd, k0, k1, k2, k3, k5, mN, hC, hN, hni, Tl⟩ := exc_obj I.kIn q
  refine wpAny_call_exc_subT F.excBase_ValueError Tl hC hN hni (fun h' a hm => ?_) (by show 0 ≤ sizeLine; exact Nat.zero_le _)
  have hn : H a = none := I.hok.gone hm.new
  obtain ⟨t, ht, _, _⟩ := hm.there
  refine ⟨.ref a, upd H a (exo a C none), I.laidN hm.keeps hm.new hn (exo_ok ht), rfl, q1 a _ hn (fun b o z => ?_) (.inl ⟨rfl, upd_same⟩)⟩
  rw [upd_ne (ne_of_none z hn)]; exact z
end
end FX
set_option Elab.async false
set_option linter.all false
set_option maxRecDepth 100000
set_option maxHeartbeats 4000000
/-! a try with several clauses, each with a name for the error or without one; what a suite asks of the error -/
namespace FX
open PySem PySem.Spec PyProof.Rows L2
abbrev Clau := Value × Option Nat × (Addr → Value → Option Addr → TS)
def endsAs (o : Option Nat) (D : Ends) : Ends := match o with
  | none => D
  | some i => ⟨fun st hp => D.nx (st.set i none) hp, D.rt, fun st hp => D.bk (st.set i none) hp, fun st hp => D.ct (st.set i none) hp⟩
def inAs (o : Option Nat) (a : Addr) (st : L2.St) : L2.St := match o with
  | none => st
  | some i => st.set i (some (.ref a))
def wNm (K : PySem.W.Frag) (Wout : WX) (D : Ends) : List Clau → WX
  | [] => Wout
  | (c, o, ts) :: r => fun cls d st hp => ∃ b, PySem.W.exmOne K cls c = some b ∧ (b = true → ∀ a, hp a = none → ts a cls d (endsAs o D) (inAs o a st) hp) ∧ (b = false → wNm K Wout D r cls d st hp)
inductive HdsN (X : Cx) : List ExceptHandler → List Clau → Prop
  | nil : HdsN X [] []
  | plain {x : Str} {c : Value} {ts : Addr → Value → Option Addr → TS} {b0 : Stmt} {su : List Stmt} {np ps : Pos} {hl : List ExceptHandler} {l : List Clau} (hc : Names X x c)
      (hsu : ∀ (a : Addr) (oe : Obj) (cls : Value) (d : Option Addr) (pn : List (Addr × Obj)), Zc cls d oe → (∃ vs, oe.data = .fields vs) → PSs (X.suite a ((a, oe) :: pn)) (b0 :: su) (ts a cls d)) (r : HdsN X hl l) :
      HdsN X (.ExceptHandler (some (.Name x np)) none (b0 :: su) ps :: hl) ((c, none, ts) :: l)
  | named {x n : Str} {c : Value} {i : Nat} {ts : Addr → Value → Option Addr → TS} {b0 : Stmt} {su : List Stmt} {np ps : Pos} {hl : List ExceptHandler} {l : List Clau} (hc : Names X x c) (hN : X.N.Nodup) (hi : X.N[i]? = some n) (hln : X.env.kindOf n = some .local)
      (hsu : ∀ (a : Addr) (oe : Obj) (cls : Value) (d : Option Addr) (pn : List (Addr × Obj)), Zc cls d oe → (∃ vs, oe.data = .fields vs) → PSs (X.suite a ((a, oe) :: pn)) (b0 :: su) (ts a cls d)) (r : HdsN X hl l) :
      HdsN X (.ExceptHandler (some (.Name x np)) (some n) (b0 :: su) ps :: hl) ((c, some i, ts) :: l)
section
variable {X : Cx}
theorem names_own {x : Str} {C : Addr} (hg : Gl X x) (hm : X.mg x = some (.ref C)) (hd : (x == ("__debug__" : Str)) = false := by decide) : Names X x (.ref C) := ⟨hg, hd, .inl hm⟩
/-- the class that a clause names is asked for -/
theorem ask_class {x : Str} {np : Pos} {c : Value} {a : Addr} {oe : Obj} {pl : List (Addr × Obj)} {st : L2.St} {hp : Hp} {s : Shared} (hc : Names X x c) (J : Inv (X.suite a ((a, oe) :: pl)) [] st hp s) {Q : Value → Shared → Prop} {E : Value → Shared → Prop} (q : Q c s) :
    wpAny (model X.prog X.w) (X.A.mark (some (.ref a))) (eval (.Name x np) X.env) Q E s := by
  rcases hc with ⟨hg, hb, hm | ⟨hm, hv, hnn⟩⟩
  · exact ld_glob (X := X.suite a ((a, oe) :: pl)) J hg hm q hb
  · exact ld_blt (X := X.suite a ((a, oe) :: pl)) J hg hm hv q hnn hb
theorem ps_try_nm {body : List Stmt} {h0 : ExceptHandler} {hl : List ExceptHandler} {l : List Clau} {pos : Pos} {tb : WX → TS} {Wout : WX} (stk : X.stack = X.env :: X.outer) (fra : X.env.frame = some X.env.locals) (tk : Takes X Wout)
    (hb : ∀ (W : WX) (pn : List (Addr × Obj)) (xe : Value → Shared → Prop), Takes (X.tr pn xe) W → PassesOwn (model X.prog X.w) X.A X.env xe → PSs (X.tr pn xe) body (tb W)) (hh : HdsN X (h0 :: hl) l) :
    PS X (.Try body (h0 :: hl) [] [] pos) (fun D st hp => tb (wNm X.K Wout D l) D st hp) := by
  refine ⟨fun pins s σ H D I h => ?_⟩
  have fine := I.ok
  have frs2 : X.A.frames = some (X.env :: X.outer) := fine.frames.trans (congrArg some stk)
  refine wpAny_Try_except (wpAny_mono ((hb (wNm X.K Wout D l) (X.pn ++ pins) (fun x z => wpAny (model X.prog X.w) X.A (noteFrame x X.env) (fun _ z2 => wpAny (model X.prog X.w) X.A (setFlight x none) (fun _ z3 =>
    wpAny (model X.prog X.w) X.A (handleBy x X.env (h0 :: hl)) (SP X pins D) X.xe z3) X.xe z2) X.xe z) (fun u t0 air => ?_) PassesOwn.looking).run [] s σ H D (I.toTry _) h) (fun f t0 got => ?_) (fun _ _ bad => bad))
  · obtain ⟨ad, gr, sI, pp, st, hp, cls, d, rfl, J1, nb, up, sky, na, os, ag, w⟩ := air
    have J : Inv X pins st hp sI := J1.ofTry fine
    have sky2 : Sky gr (X.env :: X.outer) ad (Zc cls d) X.env.locals t0.heap := stk ▸ sky
    show wpAny (model X.prog X.w) X.A (noteFrame (.ref ad) X.env) _ _ _
    refine Sky.land Zc.steady frs2 fra sky2 fun hA flA upA => ?_
    have JA : Inv X pins st hp { t0 with heap := hA } := J.landed nb flA.1 (up.trans upA) os ag
    obtain ⟨oA, vA, gA, zA, dA⟩ := flA.there
    have off : ad ∉ frs (X.env :: X.outer) := fun mem => by
      obtain ⟨_, o2, g2, bad⟩ := flA.2.2.1.mem mem
      rw [gA] at g2
      cases g2
      exact bad _ dA
    have offL : ad ≠ X.env.locals := fun z => off (List.mem_filterMap.mpr ⟨X.env, List.mem_cons_self, by rw [fra, z]⟩)
    have offF : ad ∉ X.fs := fun mem => by
      obtain ⟨v, hv, z⟩ := List.mem_filterMap.mp mem
      exact off (List.mem_filterMap.mpr ⟨v, List.mem_cons_of_mem _ hv, z⟩)
    have SA := JA.suite gA dA na offL offF
    have all : ∀ {hq : List ExceptHandler} {lq : List Clau}, HdsN X hq lq → wNm X.K Wout D lq cls d st hp → wpAny (model X.prog X.w) X.A (handleBy (.ref ad) X.env hq) (SP X pins D) X.xe { t0 with heap := hA } := by
      intro hq lq k
      induction k with
      | nil =>
        intro w
        refine wpAny_handleBy_nil ?_
        obtain ⟨_, _, _, oe, vs, tb2, _, _, he, _, hd, h1, _⟩ := id flA
        unfold PySem.passOn
        refine wpAny_bind (wpAny_field he hd h1 ?_)
        rw [if_neg (show ¬ ((Value.ref tb2 == Value.none) = true) by simp)]
        have fin : wpAny (model X.prog X.w) X.A (setFlight (.ref ad) X.env.frame) (fun _ z4 => wpAny (model X.prog X.w) X.A (throw (.ref ad) : Sem Flow) (SP X pins D) X.xe z4) X.xe { t0 with heap := hA } := by
          rw [fra]
          refine HandSPX.setFlight_upZ flA fun hB hhB upB => wpAny_throw (tk _ _ ?_)
          exact ⟨ad, gr, sI, pins, st, hp, cls, d, rfl, J, nb, (up.trans upA).trans upB, .inr (.inr (stk ▸ hhB)), na, os, ag, w⟩
        first
          | exact wpAny_bind (wpAny_pure (wpAny_bind fin))
          | exact wpAny_bind fin
      | plain hc hsu r ih =>
        intro w
        obtain ⟨b, hb1, yes, no⟩ := w
        refine wpAny_handleBy_cons (codeAny_handlers_test ?_) (by intro q; cases q)
        have look := PySem.W.exm_one (M := model X.prog X.w) JA.kIn (fun A Q E s k q => wpAny_typeOf_ref (k _ _ gA) (by rw [zA.1]; exact q)) hb1
        refine ask_class hc SA (look.here ?_)
        cases b with
        | false => exact ih (no rfl)
        | true =>
          refine codeAny_handlers_suite (HandSPX.lands_againZ flA fun hB flB upB => ?_)
          have JB : Inv X pins st hp { t0 with heap := hB } := J.landed nb flB.1 ((up.trans upA).trans upB) os ag
          obtain ⟨oB, vB, gB, zB, dB⟩ := flB.there
          refine wpAny_mono ((hsu ad oB cls d (X.pn ++ pins) zB ⟨_, dB⟩).run [] _ _ hp _ (JB.suite gB dB na offL offF) (yes rfl ad na)) (fun f z6 got => ?_) (fun _ _ z => False.elim z)
          cases f with
          | ret u => obtain ⟨v6, st6, hp6, S6, r6, q6⟩ := got; exact ⟨_, _, _, S6.unsuite fine, r6, q6⟩
          | next => obtain ⟨st6, hp6, S6, q6⟩ := got; exact ⟨_, _, S6.unsuite fine, q6⟩
          | brk => obtain ⟨st6, hp6, S6, q6⟩ := got; exact ⟨_, _, S6.unsuite fine, q6⟩
          | cont => obtain ⟨st6, hp6, S6, q6⟩ := got; exact ⟨_, _, S6.unsuite fine, q6⟩
      | @named x n c i ts b0 su np ps hl2 l2 hc hN hi hln hsu r ih =>
        intro w
        obtain ⟨b, hb1, yes, no⟩ := w
        refine wpAny_handleBy_cons (codeAny_handlers_test ?_) (by intro q; cases q)
        have look := PySem.W.exm_one (M := model X.prog X.w) JA.kIn (fun A Q E s k q => wpAny_typeOf_ref (k _ _ gA) (by rw [zA.1]; exact q)) hb1
        refine ask_class hc SA (look.here ?_)
        cases b with
        | false => exact ih (no rfl)
        | true =>
          refine codeAny_handlers_suite_as (HandSPX.lands_againZ flA fun hB flB upB => ?_)
          have JB : Inv X pins st hp { t0 with heap := hB } := J.landed nb flB.1 ((up.trans upA).trans upB) os ag
          obtain ⟨oB, vB, gB, zB, dB⟩ := flB.there
          refine store_ok (X := X.suite ad ((ad, oB) :: (X.pn ++ pins))) (v := .ref ad) (JB.suite gB dB na offL offF) hN hi (.inl hln) rfl (fun z5 S5 => ?_) (.inr hln)
          refine wpAny_mono ((hsu ad oB cls d (X.pn ++ pins) zB ⟨_, dB⟩).run [] z5 _ hp _ S5 (yes rfl ad na)) (fun f z6 got => ?_) (fun _ _ z => False.elim z)
          have gone : ∀ {st6 : L2.St} {hp6 : Hp} {Q : Shared → Prop}, Inv (X.suite ad ((ad, oB) :: (X.pn ++ pins))) [] st6 hp6 z6 → (∀ z7, Inv X pins (st6.set i none) hp6 z7 → Q z7) →
              wpAny (model X.prog X.w) X.A (do bindName X.env n .none; unbindBehindTheSuite X.env n ps) (fun _ z7 => Q z7) X.xe z6 := fun S6 hq => gone_ok (S6.unsuite fine) hN hi hln hq
          cases f with
          | ret u => obtain ⟨v6, st6, hp6, S6, r6, q6⟩ := got; exact gone S6 fun z7 J7 => ⟨_, _, _, J7, r6, q6⟩
          | next => obtain ⟨st6, hp6, S6, q6⟩ := got; exact gone S6 fun z7 J7 => ⟨_, _, J7, q6⟩
          | brk => obtain ⟨st6, hp6, S6, q6⟩ := got; exact gone S6 fun z7 J7 => ⟨_, _, J7, q6⟩
          | cont => obtain ⟨st6, hp6, S6, q6⟩ := got; exact gone S6 fun z7 J7 => ⟨_, _, J7, q6⟩
    exact all hh w
  · cases f with
    | ret u => obtain ⟨v, st, hp, J, r, q⟩ := got; exact ⟨v, st, hp, J.ofTry fine, r, q⟩
    | next => obtain ⟨st, hp, J, q⟩ := got; exact wpAny_execs_nil ⟨st, hp, J.ofTry fine, q⟩
    | brk => obtain ⟨st, hp, J, q⟩ := got; exact ⟨st, hp, J.ofTry fine, q⟩
    | cont => obtain ⟨st, hp, J, q⟩ := got; exact ⟨st, hp, J.ofTry fine, q⟩
/-- isinstance of the error that the suite holds -/
def rIsP (K : PySem.W.Frag) (a : Addr) (cls : Value) (d : Option Addr) : List V → Hp → VK → Prop := fun xs hp Q => ∃ (C : Addr) (c : V) (cv : Value) (b : Bool), xs = [.ref a, c] ∧ cls = .ref C ∧ ExcC K C ∧
  (d = none ∨ ∃ dd fs, d = some dd ∧ hp dd = some (.xd fs)) ∧ ClsV c cv ∧ PySem.W.kitOne K (.ref C) cv = some b ∧ Q (.bl b) hp
theorem call_isP {a : Addr} {oe : Obj} {cls : Value} {d : Option Addr} {pn : List (Addr × Obj)} (hz : Zc cls d oe) (hf : ∃ vs, oe.data = .fields vs) : CallR (X.suite a ((a, oe) :: pn)) (.builtin "isinstance") (rIsP X.K a cls d) := by
  intro pins s σ H xs us Q I r h
  obtain ⟨C, c, cv, b, rfl, rfl, T, hd, k, hk, q⟩ := h
  obtain ⟨u1, u2, rfl, r1, r2⟩ := vals2 r
  obtain rfl := k.eq r2
  cases (show u1 = Value.ref a from r1)
  obtain ⟨got, _⟩ := I.pin (a, oe) (List.mem_append_left _ List.mem_cons_self)
  obtain ⟨vs, hv⟩ := hf
  have J : ∃ od, PySem.W.InstAt s.heap a oe C od := by
    rcases hd with rfl | ⟨dd, fs, rfl, e⟩
    · exact ⟨none, got, hz.1, by unfold PySem.W.notCls; rw [hv] <;> rfl, by rw [hz.2]; trivial⟩
    · have hx : ObjOk X.prog X.w H s.heap dd (.xd fs) := I.hok dd _ e
      obtain ⟨mA, hns, _⟩ := hx
      obtain ⟨od, ho, _⟩ := lookIn_ns hns
      exact ⟨some od, got, hz.1, by unfold PySem.W.notCls; rw [hv] <;> rfl, by rw [hz.2]; exact ho⟩
  obtain ⟨od, J⟩ := J
  obtain ⟨cd, hcd, _⟩ := PySem.W.any_some T.hd
  exact PySem.W.kia_one (PySem.W.kitx_exc (by rw [hcd]; rfl) T.hg T.hk T.hs T.ha T.hn T.ht T.hm) I.kIn J hk (fun z => nomatch z) fun tk => ⟨.bl b, H, I.tok tk, rfl, q⟩
/-- an own error without a constructor, made to be raised -/
theorem pmk_ex0 {x : Str} {C : Addr} {p pos : Pos} (H0 : Hp) (e0 : X.H_0 = H0) (hx : X.ex = []) (T : OexC X.K C) (q : PySem.W.excIn X.K C [.type "ValueError", .type "Exception", .type "BaseException", .type "object"] "ValueError.__new__" = true) (hg : Gl X x) (hm : X.mg x = some (.ref C))
    (hdb : (x == ("__debug__" : Str)) = false := by decide) : PMk X (.Call (.Name x p) [] [] pos) (fun st hp Q => (∀ a, hp a = none → H0 a = none) ∧ Q (.ref C) none hp) := by
  have he : PE X (.Call (.Name x p) [] [] pos) (fun _ hp Q => ∀ a, hp a = none → Q (.ref a) (upd hp a (ExO (.ref C) a))) := by
    refine ⟨fun pins s σ H Q I h => ?_⟩
    refine wpAny_Call_Name_kw (ld_glob I hg hm ?_ hdb)
    refine PySem.W.callWith_K0 I.kIn T.kC ?_
    obtain ⟨h0, g, dr, tk, os⟩ := s
    obtain ⟨bm, N, nm, qn, bs, hdct, sn, sub, ab, col, dd, k0, k1, k2, k3, k5, mN, hC, hN, hni, Tl⟩ := exc_obj I.kIn q
    refine wpAny_call_exc_subT F.excBase_ValueError Tl hC hN hni (fun h' a hm => ?_) (by show 0 ≤ sizeLine; exact Nat.zero_le _)
    have hn : H a = none := I.hok.gone hm.new
    obtain ⟨t, ht, _, _⟩ := hm.there
    exact ⟨.ref a, upd H a (ExO (.ref C) a), I.laidN hm.keeps hm.new hn (exO_ok ht ⟨rfl, rfl⟩ rfl rfl rfl (show 4 < 6 by decide)), rfl, h a hn⟩
  intro pins s σ H Q I h
  obtain ⟨h0, hq⟩ := h
  refine pmk_ret hx he pins s σ H Q I fun a na => ⟨a, .ref C, rfl, upd_same, fr0_none (by rw [e0]; exact h0 a na), raises_own T.exC T.tyC, ?_⟩
  rw [delH_new na]
  exact hq
end
end FX
set_option Elab.async false
set_option linter.all false
set_option maxRecDepth 100000
set_option maxHeartbeats 4000000
/-! an error beside its fields and what they should be: the rows that the law makes -/
namespace FX
open PySem PySem.Spec PyProof.Rows L2
theorem same_new {H : Hp} {p : Addr} {o : HO} (h : H p = none) : Same H (upd H p o) := fun b x e => by
  rw [upd_ne (ne_of_none e h)]; exact e
theorem len_one {α : Type} : ∀ {l : List α}, l.length = 1 → ∃ a, l = [a]
  | [a], _ => ⟨a, rfl⟩
theorem len_two {α : Type} : ∀ {l : List α}, l.length = 2 → ∃ a b, l = [a, b]
  | [a, b], _ => ⟨a, b, rfl⟩
/-- what a class of errors gives: its facts, its name's value, its constructor -/
structure CT (P : Program) (w : World) (K : PySem.W.Frag) (mg : Str → Option Value) (base : Heap) (x : Str) (fs : List Str) : Prop where
  ok : ClsOk K x fs
  g : mg x = some (.ref (He.ga K x))
  con : fs ≠ [] → ∃ fd ps, FnOk P w K mg base CX0 1 (He.ma K (He.ga K x) "__init__") fd ps (spInit (He.ga K x) fs) ∧ Binds K fd ps []
section
variable {X : Cx}
theorem pe_exC {x : Str} {fs : List Str} {e : Expr} {es : List Expr} {ta : TA} {p pos : Pos} (c : CT X.prog X.w X.K X.mg X.base x fs) (hr : Room 2 X.A) (hg : Gl X x) (ha : PA X (e :: es) ta) (hne : fs ≠ [] := by exact List.cons_ne_nil _ _)
    (hdb : (x == ("__debug__" : Str)) = false := by decide) (he : starEach (e :: es) X.env = (false, eval e X.env) :: starEach es X.env := by rfl) (hpl : (backTo pos (starEach es X.env)).any (·.1) = false := by rfl) :
    PE X (.Call (.Name x p) (e :: es) [] pos) (tEx (He.ga X.K x) fs ta) := by
  obtain ⟨fd, ps, F, b⟩ := c.con hne
  exact pe_ex c.ok.o (c.ok.ini hne) (c.ok.ity hne) F hr b hg c.g ha hdb he hpl
theorem pe_exC0 {x : Str} {p pos : Pos} (c : CT X.prog X.w X.K X.mg X.base x []) (hg : Gl X x) (hdb : (x == ("__debug__" : Str)) = false := by decide) :
    PE X (.Call (.Name x p) [] [] pos) (tEx (He.ga X.K x) [] tNil) := pe_ex0 c.ok.o (c.ok.xin rfl) hg c.g hdb
end
/-- one row: the error, what was read of it, what is due -/
def EntF (K : PySem.W.Frag) (H : Hp) (v : V) (x : Str) (ws : List V) : Prop := ∃ t e l1 l2 fs, v = .ref t ∧ H t = some (.tup [.ref e, .ref l1, .ref l2]) ∧ ExAt H e (He.ga K x) fs ∧ H l1 = some (.lst ws) ∧ H l2 = some (.lst ws)
def Ent (K : PySem.W.Frag) (H : Hp) (p : Addr) (v : V) (x : Str) (ws : List V) : Prop := ∃ t e l1 l2 fs, v = .ref t ∧ H t = some (.tup [.ref e, .ref l1, .ref l2]) ∧ ExAt H e (He.ga K x) fs ∧ H l1 = some (.lst ws) ∧ H l2 = some (.lst ws) ∧ l1 ≠ p ∧ l2 ≠ p
def Ents (K : PySem.W.Frag) (H : Hp) (p : Addr) : List V → List (Str × List V) → Prop
  | [], [] => True
  | v :: vs, (x, ws) :: r => Ent K H p v x ws ∧ Ents K H p vs r
  | _, _ => False
def EntsF (K : PySem.W.Frag) (H : Hp) : List V → List (Str × List V) → Prop
  | [], [] => True
  | v :: vs, (x, ws) :: r => EntF K H v x ws ∧ EntsF K H vs r
  | _, _ => False
section
variable {K : PySem.W.Frag} {H H' : Hp} {p : Addr}
theorem EntF.same {v : V} {x : Str} {ws : List V} (h : EntF K H v x ws) (s : Same H H') : EntF K H' v x ws := by
  obtain ⟨t, e, l1, l2, fs, a, b, c, d, f⟩ := h
  exact ⟨t, e, l1, l2, fs, a, s _ _ b, c.same s, s _ _ d, s _ _ f⟩
theorem EntsF.same : ∀ {vs : List V} {es : List (Str × List V)}, EntsF K H vs es → Same H H' → EntsF K H' vs es
  | [], [], _, _ => trivial
  | v :: vs, (x, ws) :: r, ⟨a, b⟩, s => ⟨a.same s, EntsF.same b s⟩
  | [], _ :: _, h, _ => h.elim
  | _ :: _, [], h, _ => h.elim
theorem EntsF.app : ∀ {vs us : List V} {es rs : List (Str × List V)}, EntsF K H vs es → EntsF K H us rs → EntsF K H (vs ++ us) (es ++ rs)
  | [], _, [], _, _, h => h
  | v :: vs, _, (x, ws) :: r, _, ⟨a, b⟩, h => ⟨a, EntsF.app b h⟩
  | [], _, _ :: _, _, h, _ => h.elim
  | _ :: _, _, [], _, h, _ => h.elim
theorem EntsF.len : ∀ {vs : List V} {es : List (Str × List V)}, EntsF K H vs es → vs.length = es.length
  | [], [], _ => rfl
  | v :: vs, (x, ws) :: r, ⟨_, b⟩ => congrArg (· + 1) (EntsF.len b)
  | [], _ :: _, h => h.elim
  | _ :: _, [], h => h.elim
theorem EntsF.at : ∀ {vs : List V} {es : List (Str × List V)} {i : Nat} {x : Str} {ws : List V}, EntsF K H vs es → es[i]? = some (x, ws) → ∃ v, vs[i]? = some v ∧ EntF K H v x ws
  | v :: vs, (y, us) :: r, 0, x, ws, ⟨a, _⟩, e => by
    have z := Option.some.inj e
    cases z
    exact ⟨v, rfl, a⟩
  | v :: vs, _ :: r, i + 1, x, ws, ⟨_, b⟩, e => EntsF.at (i := i) b e
  | [], [], _, _, _, _, e => by cases e
  | [], _ :: _, _, _, _, h, _ => h.elim
  | _ :: _, [], _, _, _, h, _ => h.elim
theorem Ents.free : ∀ {vs : List V} {es : List (Str × List V)}, Ents K H p vs es → EntsF K H vs es
  | [], [], _ => trivial
  | v :: vs, (x, ws) :: r, ⟨⟨t, e, l1, l2, fs, a, b, c, d, f, _⟩, q⟩ => ⟨⟨t, e, l1, l2, fs, a, b, c, d, f⟩, Ents.free q⟩
  | [], _ :: _, h => h.elim
  | _ :: _, [], h => h.elim
theorem Ent.but {v : V} {x : Str} {ws ys : List V} (hp : H p = some (.lst ys)) (s : ∀ b o, b ≠ p → H b = some o → H' b = some o) (h : Ent K H p v x ws) : Ent K H' p v x ws := by
  obtain ⟨t, e, l1, l2, fs, a, b, c, d, f, n1, n2⟩ := h
  have ne : ∀ {q : Addr} {o : HO}, H q = some o → o ≠ .lst ys → q ≠ p := fun {q o} z n z2 => by
    rw [z2, hp] at z
    exact n (Option.some.inj z).symm
  have nx : ∀ (φ : Heap → Prop), HO.ext φ ≠ .lst ys := fun φ z => by cases z
  refine ⟨t, e, l1, l2, fs, a, s _ _ (ne b (fun z => by cases z)) b, ?_, s _ _ n1 d, s _ _ n2 f, n1, n2⟩
  rcases c with ⟨c1, c2⟩ | ⟨dd, c1, c2⟩
  · exact .inl ⟨c1, s _ _ (ne c2 (nx _)) c2⟩
  · exact .inr ⟨dd, s _ _ (ne c1 (nx _)) c1, s _ _ (ne c2 (nx _)) c2⟩
theorem Ents.but {ys : List V} (hp : H p = some (.lst ys)) (s : ∀ b o, b ≠ p → H b = some o → H' b = some o) : ∀ {vs : List V} {es : List (Str × List V)}, Ents K H p vs es → Ents K H' p vs es
  | [], [], _ => trivial
  | v :: vs, (x, ws) :: r, ⟨a, b⟩ => ⟨a.but hp s, Ents.but hp s b⟩
  | [], _ :: _, h => h.elim
  | _ :: _, [], h => h.elim
theorem Ents.snoc {v : V} {x : Str} {ws : List V} : ∀ {vs : List V} {es : List (Str × List V)}, Ents K H p vs es → Ent K H p v x ws → Ents K H p (vs ++ [v]) (es ++ [(x, ws)])
  | [], [], _, h => ⟨h, trivial⟩
  | u :: vs, (y, us) :: r, ⟨a, b⟩, h => ⟨a, Ents.snoc b h⟩
  | [], _ :: _, h, _ => h.elim
  | _ :: _, [], h, _ => h.elim
end
/-- between two rows -/
def StF (K : PySem.W.Frag) (H0 : Hp) (p : Addr) (v0 v1 v2 v3 : V) (es : List (Str × List V)) (σ : L2.St) (H : Hp) : Prop := ∃ y xs, σ = [some v0, some v1, some v2, some v3, some (.ref p), y] ∧ Same H0 H ∧ H0 p = none ∧ H p = some (.lst xs) ∧ xs.length = es.length ∧ Ents K H p xs es
abbrev tApp (K : PySem.W.Frag) (ta : TA) : TS := tDrop (tBM K "list" rAppend (tVar 4) ta)
abbrev tRow (K : PySem.W.Frag) (te : TE) (t1 t2 : TA) : TA := tCons (tTup (tCons te (tCons (tLst t1) (tCons (tLst t2) tNil)))) tNil
section
variable {K : PySem.W.Frag} {H0 : Hp} {p : Addr} {v0 v1 v2 v3 : V} {es : List (Str × List V)} {D : Ends}
/-- the end of a row: the tuple is made and put behind the others -/
theorem row_end {x : Str} {ws : List V} {fs : List (Str × V)} {y : Option V} {xs : List V} {H H1 : Hp} {e l1 l2 t : Addr} (sm : Same H0 H) (np : H0 p = none) (hp : H p = some (.lst xs)) (hl : xs.length = es.length) (he : Ents K H p xs es) (hs : es.length < 1000)
    (s1 : Same H H1) (hx : ExAt H1 e (He.ga K x) fs) (n1 : H1 l1 = none) (n2 : upd H1 l1 (.lst ws) l2 = none) (n3 : upd (upd H1 l1 (.lst ws)) l2 (.lst ws) t = none)
    (next : ∀ σ' H', StF K H0 p v0 v1 v2 v3 (es ++ [(x, ws)]) σ' H' → D.nx σ' H') :
    rAppend (.ref p) [.ref t] (upd (upd (upd H1 l1 (.lst ws)) l2 (.lst ws)) t (.tup [.ref e, .ref l1, .ref l2])) (fun _ H2 => D.nx [some v0, some v1, some v2, some v3, some (.ref p), y] H2) := by
  have sa : Same H1 (upd H1 l1 (.lst ws)) := same_new n1
  have sb : Same (upd H1 l1 (.lst ws)) (upd (upd H1 l1 (.lst ws)) l2 (.lst ws)) := same_new n2
  have sc : Same (upd (upd H1 l1 (.lst ws)) l2 (.lst ws)) (upd (upd (upd H1 l1 (.lst ws)) l2 (.lst ws)) t (.tup [.ref e, .ref l1, .ref l2])) := same_new n3
  have s2 : Same H (upd (upd (upd H1 l1 (.lst ws)) l2 (.lst ws)) t (.tup [.ref e, .ref l1, .ref l2])) := ((s1.trans sa).trans sb).trans sc
  have hp1 := s1 _ _ hp
  have hp2 := sa _ _ hp1
  have hp3 := s2 _ _ hp
  refine ⟨p, xs, .ref t, rfl, rfl, hp3, small1000 (by omega), next _ _ ⟨y, xs ++ [.ref t], rfl, fun b o z => ?_, np, upd_same, by rw [List.length_append, List.length_append, hl]; rfl, ?_⟩⟩
  · rw [upd_ne (ne_of_none z np)]
    exact s2 _ _ (sm _ _ z)
  · refine Ents.but hp3 (fun b o nb z => by rw [upd_ne nb]; exact z) (Ents.snoc (Ents.but hp (fun b o _ z => s2 _ _ z) he) ⟨t, e, l1, l2, fs, rfl, upd_same, ?_, sc _ _ (sb _ _ upd_same), sc _ _ upd_same, (ne_of_none hp1 n1).symm, (ne_of_none hp2 n2).symm⟩)
    exact hx.same ((sa.trans sb).trans sc)
theorem step0 {x : Str} {σ : L2.St} {H : Hp} (h : StF K H0 p v0 v1 v2 v3 es σ H) (hs : es.length < 1000) (next : ∀ σ' H', StF K H0 p v0 v1 v2 v3 (es ++ [(x, [])]) σ' H' → D.nx σ' H') :
    tApp K (tRow K (tEx (He.ga K x) [] tNil) tNil tNil) D σ H := by
  obtain ⟨y, xs, rfl, sm, np, hp, hl, he⟩ := h
  refine ⟨.ref p, rfl, .inl ⟨rfl, _, .inl (.inl hp)⟩, rfl, Nat.zero_le _, fun e H1 ne s1 hx => ⟨Nat.zero_le _, fun l1 n1 => ⟨Nat.zero_le _, fun l2 n2 => ⟨(by show 3 ≤ sizeLine; decide), fun t n3 => ?_⟩⟩⟩⟩
  exact row_end sm np hp hl he hs s1 hx n1 n2 n3 next
theorem step1 {x f : Str} {j : Nat} {v : V} {σ : L2.St} {H : Hp} {rest : TS} (c : ClsOk K x [f]) (hj : ∀ y, [some v0, some v1, some v2, some v3, some (.ref p), y][j]? = some (some v)) (h : StF K H0 p v0 v1 v2 v3 es σ H) (hs : es.length < 1000)
    (next : ∀ σ' H', StF K H0 p v0 v1 v2 v3 (es ++ [(x, [v])]) σ' H' → rest D σ' H') :
    tSeq (tAsg (tEx (He.ga K x) [f] (tCons (tVar j) tNil)) (gName 5)) (tSeq (tApp K (tRow K (tVar 5) (tCons (tXv K f (tVar 5)) tNil) (tCons (tVar j) tNil))) rest) D σ H := by
  obtain ⟨y, xs, rfl, sm, np, hp, hl, he⟩ := h
  refine ⟨v, hj y, rfl, (by show 1 ≤ 1000; decide), fun e H1 ne s1 hx => ?_⟩
  have lk : List.lookup f [(f, v)] = some v := by simp [List.lookup]
  refine ⟨.ref p, rfl, .inl ⟨rfl, _, .inl (.inl (s1 _ _ hp))⟩, .ref e, rfl, .ref e, rfl, e, _, _, v, rfl, hx, c.is, c.no f (List.mem_cons_self ..), lk, (by show 1 ≤ sizeLine; decide), fun l1 n1 => ?_⟩
  refine ⟨v, hj _, (by show 1 ≤ sizeLine; decide), fun l2 n2 => ⟨(by show 3 ≤ sizeLine; decide), fun t n3 => ?_⟩⟩
  exact row_end (D := { D with nx := rest D }) sm np hp hl he hs s1 hx n1 n2 n3 next
theorem step2 {x f g : Str} {i j : Nat} {v u : V} {σ : L2.St} {H : Hp} {rest : TS} (c : ClsOk K x [f, g]) (hne : f ≠ g) (hi : ∀ y, [some v0, some v1, some v2, some v3, some (.ref p), y][i]? = some (some v)) (hj : ∀ y, [some v0, some v1, some v2, some v3, some (.ref p), y][j]? = some (some u))
    (h : StF K H0 p v0 v1 v2 v3 es σ H) (hs : es.length < 1000) (next : ∀ σ' H', StF K H0 p v0 v1 v2 v3 (es ++ [(x, [v, u])]) σ' H' → rest D σ' H') :
    tSeq (tAsg (tEx (He.ga K x) [f, g] (tCons (tVar i) (tCons (tVar j) tNil))) (gName 5)) (tSeq (tApp K (tRow K (tVar 5) (tCons (tXv K f (tVar 5)) (tCons (tXv K g (tVar 5)) tNil)) (tCons (tVar i) (tCons (tVar j) tNil)))) rest) D σ H := by
  obtain ⟨y, xs, rfl, sm, np, hp, hl, he⟩ := h
  refine ⟨v, hi y, u, hj y, rfl, (by show 2 ≤ 1000; decide), fun e H1 ne s1 hx => ?_⟩
  have l1 : List.lookup f [(g, u), (f, v)] = some v := by
    have z : (f == g) = false := by simpa using hne
    simp [List.lookup, z]
  have l2 : List.lookup g [(g, u), (f, v)] = some u := by simp [List.lookup]
  refine ⟨.ref p, rfl, .inl ⟨rfl, _, .inl (.inl (s1 _ _ hp))⟩, .ref e, rfl, .ref e, rfl, e, _, _, v, rfl, hx, c.is, c.no f (List.mem_cons_self ..), l1, .ref e, rfl, e, _, _, u, rfl, hx, c.is, c.no g (List.mem_cons_of_mem _ (List.mem_cons_self ..)), l2, (by show 2 ≤ sizeLine; decide), fun l1 n1 => ?_⟩
  refine ⟨v, hi _, u, hj _, (by show 2 ≤ sizeLine; decide), fun l2 n2 => ⟨(by show 3 ≤ sizeLine; decide), fun t n3 => ?_⟩⟩
  exact row_end (D := { D with nx := rest D }) sm np hp hl he hs s1 hx n1 n2 n3 next
end
end FX
set_option Elab.async false
set_option linter.all false
set_option maxRecDepth 100000
set_option maxHeartbeats 4000000
namespace FK
open PySem PySem.Spec PyProof.Rows L2
/-! the text -/
def topS (i : Nat) : Stmt := PySem.Challenge.pw_feltstone_k00_errors_side_by_side.main.body.getD i (.Pass ⟨0, 0, 0, 0⟩)
abbrev sHand : Stmt := topS 35
abbrev sMixed : Stmt := topS 36
abbrev sTake : Stmt := topS 37
abbrev sName : Stmt := topS 38
theorem scHand : FnScope ["_law_script", "_law_total", "_law_cells", "_law_cell"] ["_law_script"] (defScope sHand) := ⟨rfl, rfl, rfl, by decide +kernel, rfl, by decide +kernel, by decide +kernel⟩
theorem scMixed : FnScope ["_law_number", "_law_turn", "_law_once", "_law_twice"] ["_law_number", "_law_turn"] (defScope sMixed) := ⟨rfl, rfl, rfl, by decide +kernel, rfl, by decide +kernel, by decide +kernel⟩
theorem scTake : FnScope ["_law_hand_here", "_law_many", "_law_cell", "_law_rest"] ["_law_hand_here", "_law_many"] (defScope sTake) := ⟨rfl, rfl, rfl, by decide +kernel, rfl, by decide +kernel, by decide +kernel⟩
theorem scName : FnScope ["_law_hand_here", "_law_word", "_law_turn"] ["_law_hand_here"] (defScope sName) := ⟨rfl, rfl, rfl, by decide +kernel, rfl, by decide +kernel, by decide +kernel⟩
/-! heaps -/
theorem same_upd {H : Hp} {p : Addr} {o : HO} (h : H p = none) : Same H (upd H p o) := fun b x e => by
  rw [upd_ne (ne_of_none e h)]; exact e
/-- all but what stands at p is as it was -/
def SameBut (p : Addr) (H H' : Hp) : Prop := ∀ b o, b ≠ p → H b = some o → H' b = some o
theorem sb_upd {H : Hp} {p : Addr} {o : HO} : SameBut p H (upd H p o) := fun b x n e => by rw [upd_ne n]; exact e
theorem SameBut.trans {p : Addr} {H H1 H2 : Hp} (a : SameBut p H H1) (b : SameBut p H1 H2) : SameBut p H H2 := fun c o n e => b c o n (a c o n e)
/-- the hand that a law draws from -/
def HandIs (H : Hp) (p c : Addr) (cs : List Int) (i r t : Int) : Prop :=
  H p = some (.lst [.ref c, .int i, .int r, .int t]) ∧ H c = some (.lst (cs.map V.int)) ∧ (∀ z ∈ cs, 0 ≤ z) ∧ 0 ≤ i ∧ i ≤ cs.length ∧ cs.length ≤ 63 ∧ 0 ≤ r ∧ 0 ≤ t ∧ t < 2147483629
def HandAt (H : Hp) (p : Addr) : Prop := ∃ c cs i r t, HandIs H p c cs i r t
theorem HandIs.ne {H : Hp} {p c : Addr} {cs : List Int} {i r t : Int} (h : HandIs H p c cs i r t) : c ≠ p := fun e => by
  obtain ⟨a, b, _⟩ := h
  subst e
  rw [a] at b
  have z := HO.lst.inj (Option.some.inj b)
  cases cs with
  | nil => cases z
  | cons x l => cases z
theorem HandIs.put {H : Hp} {p c : Addr} {cs : List Int} {i r t i' r' t' : Int} (h : HandIs H p c cs i r t) (hi : 0 ≤ i') (hi2 : i' ≤ cs.length) (hr : 0 ≤ r') (ht : 0 ≤ t') (ht2 : t' < 2147483629) :
    HandIs (upd H p (.lst [.ref c, .int i', .int r', .int t'])) p c cs i' r' t' := by
  have n := h.ne
  obtain ⟨a, b, c1, _, _, c4, _⟩ := h
  exact ⟨upd_same, by rw [upd_ne n]; exact b, c1, hi, hi2, c4, hr, ht, ht2⟩
theorem HandAt.same {H H' : Hp} {p : Addr} (h : HandAt H p) (s : Same H H') : HandAt H' p := by
  obtain ⟨c, cs, i, r, t, a, b, q⟩ := h
  exact ⟨c, cs, i, r, t, s _ _ a, s _ _ b, q⟩
/-! promises -/
def spHand (K : PySem.W.Frag) : Sp := fun vs H Q _ => ∃ (a : Addr) (ns : List Int), vs = [.ref a] ∧ SqL K H a (ns.map V.int) ∧ ns.length ≤ 63 ∧ ∀ H' p, Same H H' → H p = none → HandAt H' p → Q (.ref p) H'
def spMixed : Sp := fun vs H Q _ => ∃ (n t : Int), vs = [.int n, .int t] ∧ 0 ≤ n ∧ n < 2147483647 ∧ 0 ≤ t ∧ t ≤ 1000 ∧ ∀ z, Q (.int z) H
def spTake : Sp := fun vs H Q _ => ∃ (p : Addr) (m : Int), vs = [.ref p, .int m] ∧ HandAt H p ∧ 0 < m ∧ m < 1073741824 ∧ ∀ v H', 0 ≤ v → v < m → HandAt H' p → SameBut p H H' → Q (.int v) H'
def spName : Sp := fun vs H Q _ => ∃ (p : Addr), vs = [.ref p] ∧ HandAt H p ∧ ∀ (z : Str) H', z.length ≤ 8 → PyData.strOk z = true → HandAt H' p → SameBut p H H' → Q (.str z) H'
section
variable {P : Program} {w : World} {K : PySem.W.Frag} {mg : Str → Option Value} {base : Heap}
theorem ok_mixed {f : Addr} {fd : FuncData} {k : Nat} (F : Fun K "_law_mixed" "_law_mixed" sMixed f fd) (mi : mg "int" = none) : FnOk P w K mg base CX0 (k + 1) f fd ["_law_number", "_law_turn"] spMixed := by
  refine F.ok scMixed (fun vs H Q E h => ?_) (fun cdv A outer s H vs Q E hr h => ?_)
  · obtain ⟨n, t, rfl, _⟩ := h; rfl
  · obtain ⟨n, t, rfl, n0, n1, t0, t1, q⟩ := h
    refine ⟨_, pss_cons (ps_set (i := 2) scMixed.nd rfl (.inl rfl) (pe_op op_mod (pe_callTy call_int1 (by rfl) mi boot_int (pa_cons
          (pe_op op_add (pe_op op_add (pe_op op_mul (pv 0) pe_int) (pe_op op_mul (pv 1) pe_int)) pe_int) pa_nil)) pe_int))
      (pss_cons (ps_set (i := 3) scMixed.nd rfl (.inl rfl) (pe_op op_mod (pe_callTy call_int1 (by rfl) mi boot_int (pa_cons
          (pe_op op_add (pe_op op_add (pe_op op_mul (pv 2) (pv 2)) (pe_op op_mul (pv 1) pe_int)) (pe_op op_fdiv (pv 2) pe_int)) pa_nil)) pe_int))
      (pss_one (ps_ret (pe_op op_fdiv (pe_callTy call_int1 (by rfl) mi boot_int (pa_cons
          (pe_op op_mod (pe_callTy call_int1 (by rfl) mi boot_int (pa_cons (pe_op op_add (pe_op op_mul (pv 3) pe_int) (pe_op op_fdiv (pv 2) pe_int)) pa_nil)) pe_int) pa_nil)) pe_int)))), ?_⟩
    refine ⟨_, rfl, _, _, rfl, rfl, .inl ⟨by omega, by omega⟩, _, rfl, _, _, rfl, rfl, .inl ⟨by omega, by omega⟩, _, _, rfl, rfl, _, _, rfl, rfl, .inl ⟨_, rfl, _, _, rfl, rfl, (by show (0 : Int) < _; decide), ?_⟩⟩
    generalize hx : (n * 48271 + t * 7919 + 65537) % 2147483647 = x
    have x0 : 0 ≤ x := by omega
    have x1 : x < 2147483647 := by omega
    refine ⟨_, rfl, _, rfl, _, _, rfl, rfl, .inl ⟨by omega, by omega⟩, _, rfl, _, _, rfl, rfl, .inl ⟨by omega, by omega⟩, _, _, rfl, rfl, _, rfl, _, _, rfl, rfl, ⟨by decide, by decide⟩, _, _, rfl, rfl, .inl ⟨_, rfl, _, _, rfl, rfl, (by show (0 : Int) < _; decide), ?_⟩⟩
    generalize hy : (x * x + t * 104729 + x / 127) % 2147483629 = y
    have y0 : 0 ≤ y := by omega
    have y1 : y < 2147483629 := by omega
    refine ⟨_, rfl, _, _, rfl, rfl, .inl ⟨by omega, by omega⟩, _, rfl, _, _, rfl, rfl, ⟨by decide, by decide⟩, _, _, rfl, rfl, .inl ⟨_, rfl, _, _, rfl, rfl, (by show (0 : Int) < _; decide), .inl ⟨_, rfl, _, _, rfl, rfl, ⟨by decide, by decide⟩, q _⟩⟩⟩
theorem ok_hand {f : Addr} {fd : FuncData} {k : Nat} (F : Fun K "_law_hand" "_law_hand" sHand f fd) (mi : mg "int" = none) (ml : mg "len" = none) : FnOk P w K mg base CX0 (k + 1) f fd ["_law_script"] (spHand K) := by
  refine F.ok scHand (fun vs H Q E h => ?_) (fun cdv A outer s H vs Q E hr h => ?_)
  · obtain ⟨a, ns, rfl, _⟩ := h; rfl
  · obtain ⟨a, ns, rfl, hS, hlen, q⟩ := h
    refine ⟨_, pss_cons (ps_set (i := 1) scHand.nd rfl (.inl rfl) (pe_op op_add (pe_callB call_len_seq (by rfl) ml PySem.boot_len (pa_cons (pv 0) pa_nil)) pe_int))
      (pss_cons (ps_set (i := 2) scHand.nd rfl (.inl rfl) (pe_lst pa_nil))
      (pss_cons (ps_for PassesOwn.never rfl (pi_list (pv 0)) (pg_name (i := 3) scHand.nd rfl (.inl rfl))
        (pss_cons (ps_set (i := 1) scHand.nd rfl (.inl rfl) (pe_op op_mod (pe_callTy call_int1 (by rfl) mi boot_int (pa_cons
            (pe_op op_add (pe_op op_mul (pv 1) pe_int) (pe_callTy call_int1 (by rfl) mi boot_int (pa_cons (pv 3) pa_nil))) pa_nil)) pe_int))
        (pss_one (ps_expr (pe_bm PySem.F.plainAttrs_list PySem.F.slot_list_append PySem.F.type_list_append mt_append (pv 2) (pa_cons
          (pe_ifExp (pt_cmpR op_ge (pv 3) pe_int (nomark _)) (pe_callTy call_int1 (by rfl) mi boot_int (pa_cons (pv 3) pa_nil))
            (pe_un un_neg (pe_callTy call_int1 (by rfl) mi boot_int (pa_cons (pv 3) pa_nil)))) pa_nil))))))
      (pss_one (ps_ret (pe_lst (pa_cons (pv 2) (pa_cons pe_int (pa_cons pe_int (pa_cons (pv 1) pa_nil))))))))), ?_⟩
    refine ⟨.ref a, rfl, a, _, rfl, .inl hS, _, _, rfl, rfl, Nat.zero_le _, fun c nc => ?_⟩
    refine ⟨.ref a, rfl, a, rfl, ⟨_, (same_upd nc).seq hS⟩, for_list (K := K) (a := a) (xs := ns.map V.int)
      (fun i σ H' => ∃ (t : Int) (y : Option V) (cs : List Int), σ = [some (.ref a), some (.int t), some (.ref c), y] ∧ 0 ≤ t ∧ t < 2147483629 ∧ (∀ z ∈ cs, 0 ≤ z) ∧ cs.length = i ∧ Same H H' ∧ H' c = some (.lst (cs.map V.int)))
      ⟨_, none, [], rfl, ?_, ?_, (fun z hz => nomatch hz), rfl, same_upd nc, upd_same⟩ (fun i σ H' _ ⟨_, _, _, _, _, _, _, _, s5, _⟩ => s5.seq hS) ?_ ?_⟩
    · rw [List.length_map]; omega
    · rw [List.length_map]; omega
    · rintro i x σ H' hi ⟨t, y, cs, rfl, t0, t1, c0, cl, sm, hc⟩
      obtain ⟨z, rfl⟩ : ∃ z, x = V.int z := by
        rw [List.getElem?_map] at hi
        cases e : ns[i]? with
        | none => rw [e] at hi; cases hi
        | some z => rw [e] at hi; exact ⟨z, (Option.some.inj hi).symm⟩
      have il : i < 63 := by
        have := (List.getElem?_eq_some_iff.mp hi).1
        rw [List.length_map] at this
        omega
      refine ⟨_, rfl, _, _, rfl, rfl, .inl ⟨by omega, by omega⟩, .int z, rfl, .inl ⟨_, rfl, _, _, rfl, rfl, .inl ⟨_, rfl, _, _, rfl, rfl, (by show (0 : Int) < _; decide), ?_⟩⟩⟩
      have go : ∀ y : Int, 0 ≤ y → ∃ l xs y', V.ref c = V.ref l ∧ [V.int y] = [y'] ∧ H' l = some (.lst xs) ∧ xs.length < sizeLine ∧ (∃ (t' : Int) (v : Option V) (cs' : List Int), [some (V.ref a), some (V.int ((t * 1019 + z) % 2147483629)), some (V.ref c), some (V.int z)] = [some (.ref a), some (.int t'), some (.ref c), v] ∧ 0 ≤ t' ∧ t' < 2147483629 ∧ (∀ z ∈ cs', 0 ≤ z) ∧ cs'.length = i + 1 ∧ Same H (upd H' l (.lst (xs ++ [y']))) ∧ upd H' l (.lst (xs ++ [y'])) c = some (.lst (cs'.map V.int))) := fun y hy => by
        refine ⟨c, _, .int y, rfl, rfl, hc, by rw [List.length_map]; exact small1000 (by omega), _, _, cs ++ [y], rfl, by omega, by omega, ?_, by simp [cl], fun b o e => ?_, ?_⟩
        · intro z hz
          rcases List.mem_append.mp hz with hz | hz
          · exact c0 z hz
          · rw [List.mem_singleton.mp hz]; exact hy
        · rw [upd_ne (ne_of_none e nc)]; exact sm _ _ e
        · rw [upd_same, List.map_append]; rfl
      refine ⟨.ref c, rfl, .inl ⟨rfl, _, .inl (.inl hc)⟩, .int z, rfl, _, _, rfl, rfl, _, rfl, ite2 (fun e => ?_) (fun e => ?_)⟩
      · exact ⟨_, rfl, .inl ⟨_, rfl, go z (of_decide_eq_true e)⟩⟩
      · exact ⟨_, rfl, .inl ⟨_, rfl, _, rfl, go (-z) (by have : ¬ (0 : Int) ≤ z := fun h => e (decide_eq_true h); omega)⟩⟩
    · rintro σ H' ⟨t, y, cs, rfl, t0, t1, c0, cl, sm, hc⟩
      refine ⟨_, rfl, _, rfl, (by show 4 ≤ sizeLine; decide), fun p np => q _ p ?_ (sm.free np) ?_⟩
      · exact sm.trans (same_upd np)
      · refine ⟨c, cs, 0, 0, t, upd_same, ?_, c0, by omega, by omega, ?_, by omega, t0, t1⟩
        · rw [upd_ne (ne_of_none hc np)]; exact hc
        · rw [cl, List.length_map]; exact hlen
theorem ok_take {f fM : Addr} {fd fdM : FuncData} {k : Nat} (F : Fun K "_law_take" "_law_take" sTake f fd) (FM : Fun K "_law_mixed" "_law_mixed" sMixed fM fdM) (bM : Binds K fdM ["_law_number", "_law_turn"] []) (gM : mg "_law_mixed" = some (.ref fM))
    (mi : mg "int" = none) (ml : mg "len" = none) : FnOk P w K mg base CX0 (k + 2) f fd ["_law_hand_here", "_law_many"] spTake := by
  have GM : FnOk P w K mg base CX0 (k + 1) fM fdM ["_law_number", "_law_turn"] spMixed := ok_mixed FM mi
  refine F.ok scTake (fun vs H Q E h => ?_) (fun cdv A outer s H vs Q E hr h => ?_)
  · obtain ⟨p, m, rfl, _⟩ := h; rfl
  · obtain ⟨p, m, rfl, hH, m0, m1, q⟩ := h
    obtain ⟨c, cs, i, r, t, hh⟩ := hH
    refine ⟨_, pss_cons (ps_if (PW.pt (pw_and (pt_cmpR op_eq (pe_ix ix_list (pv 0) pe_int (fun _ _ => rfl)) pe_int (nomark _))
          (pw_and1 (pt_cmpR op_lt (pe_ix ix_list (pv 0) pe_int (fun _ _ => rfl)) (pe_callB call_len_seq (by rfl) ml PySem.boot_len (pa_cons (pe_ix ix_list (pv 0) pe_int (fun _ _ => rfl)) pa_nil)) (nomark _)))))
        (pss_cons (ps_set (i := 2) scTake.nd rfl (.inl rfl) (pe_ix ix_list (pe_ix ix_list (pv 0) pe_int (fun _ _ => rfl)) (pe_ix ix_list (pv 0) pe_int (fun _ _ => rfl)) (fun _ _ => rfl)))
        (pss_cons (ps_asg (pe_op op_add (pe_ix ix_list (pv 0) pe_int (fun _ _ => rfl)) pe_int) (pg_sub (pv 0) pe_int set_list))
        (pss_cons (ps_if (pt_cmpR op_lt (pv 2) (pe_op op_pow pe_int pe_int) (nomark _))
          (pss_one (ps_ret (pe_op op_mod (pe_callTy call_int1 (by rfl) mi boot_int (pa_cons (pe_call GM hr (by rfl) gM FM.kp bM .nil pass0
            (pa_cons (pe_op op_mod (pe_callTy call_int1 (by rfl) mi boot_int (pa_cons (pv 2) pa_nil)) pe_int) (pa_cons (pe_ix ix_list (pv 0) pe_int (fun _ _ => rfl)) pa_nil))) pa_nil)) (pv 1)))) pss_nil)
        (pss_one (ps_asg (pv 2) (pg_sub (pv 0) pe_int set_list)))))) pss_nil)
      (pss_cons (ps_if (pt_cmpR op_gt (pe_ix ix_list (pv 0) pe_int (fun _ _ => rfl)) pe_int (nomark _))
        (pss_cons (ps_set (i := 3) scTake.nd rfl (.inl rfl) (pe_ix ix_list (pv 0) pe_int (fun _ _ => rfl)))
        (pss_cons (ps_asg (pe_op op_fdiv (pe_callTy call_int1 (by rfl) mi boot_int (pa_cons (pv 3) pa_nil)) (pv 1)) (pg_sub (pv 0) pe_int set_list))
        (pss_one (ps_ret (pe_op op_mod (pe_callTy call_int1 (by rfl) mi boot_int (pa_cons (pv 3) pa_nil)) (pv 1)))))) pss_nil)
      (pss_cons (ps_asg (pe_op op_mod (pe_callTy call_int1 (by rfl) mi boot_int (pa_cons (pe_op op_add (pe_ix ix_list (pv 0) pe_int (fun _ _ => rfl)) pe_int) pa_nil)) pe_int) (pg_sub (pv 0) pe_int set_list))
      (pss_one (ps_ret (pe_op op_mod (pe_callTy call_int1 (by rfl) mi boot_int (pa_cons (pe_call GM hr (by rfl) gM FM.kp bM .nil pass0
            (pa_cons (pe_ix ix_list (pv 0) pe_int (fun _ _ => rfl)) (pa_cons (pe_ix ix_list (pv 0) pe_int (fun _ _ => rfl)) pa_nil))) pa_nil)) (pv 1)))))), ?_⟩
    have nn := hh.ne
    obtain ⟨hp, hc, c0, i0, i1, cl, r0, t0, t1⟩ := id hh
    -- what stands behind the first if
    have tail : ∀ (H1 : Hp) (i r : Int) (x2 : Option V), HandIs H1 p c cs i r t → SameBut p H H1 → tSeq
        (tIfS (tTest (tOp (rI0 fun i j => .bl (decide (j < i))) (tOp (rIxL K) (tVar 0) (tC (.int 2))) (tC (.int 0)))) (tSeq (tAsg (tOp (rIxL K) (tVar 0) (tC (.int 2))) (gName 3))
          (tSeq (tAsg (tOp (rI CDiv fun i j => .int (i / j)) (tCB (fun xs H Q => (∃ i, xs = [.int i] ∧ Q (.int i) H) ∨ ∃ k, xs = [.bl k] ∧ Q (.int (if k then 1 else 0)) H) (tCons (tVar 3) tNil)) (tVar 1)) (gSub (tVar 0) (tC (.int 2)) rSetL))
            (tRet (tOp (rI (fun _ j => 0 < j) fun i j => .int (i % j)) (tCB (fun xs H Q => (∃ i, xs = [.int i] ∧ Q (.int i) H) ∨ ∃ k, xs = [.bl k] ∧ Q (.int (if k then 1 else 0)) H) (tCons (tVar 3) tNil)) (tVar 1))))) tNext)
        (tSeq (tAsg (tOp (rI (fun _ j => 0 < j) fun i j => .int (i % j)) (tCB (fun xs H Q => (∃ i, xs = [.int i] ∧ Q (.int i) H) ∨ ∃ k, xs = [.bl k] ∧ Q (.int (if k then 1 else 0)) H)
            (tCons (tOp (rI0 fun i j => .int (i + j)) (tOp (rIxL K) (tVar 0) (tC (.int 3))) (tC (.int 1))) tNil)) (tC (.int 2147483629))) (gSub (tVar 0) (tC (.int 3)) rSetL))
          (tRet (tOp (rI (fun _ j => 0 < j) fun i j => .int (i % j)) (tCB (fun xs H Q => (∃ i, xs = [.int i] ∧ Q (.int i) H) ∨ ∃ k, xs = [.bl k] ∧ Q (.int (if k then 1 else 0)) H)
            (tCons (tCall spMixed [] E0 (tCons (tOp (rIxL K) (tVar 0) (tC (.int 3))) (tCons (tOp (rIxL K) (tVar 0) (tC (.int 1))) tNil))) tNil)) (tVar 1))))
        { nx := fun _ H' => Q .non H', rt := Q } [some (.ref p), some (.int m), x2, none] H1 := by
      intro H1 i r x2 h1 sb
      obtain ⟨hp1, hc1, _, i0', i1', _, r0', _, _⟩ := id h1
      refine ⟨.ref p, rfl, p, _, 2, _, rfl, rfl, .of hp1, rfl, _, _, rfl, rfl, _, rfl, ite2 (fun e => ?_) (fun e => ?_)⟩
      · have rp : 0 < r := of_decide_eq_true e
        refine ⟨.ref p, rfl, p, _, 2, _, rfl, rfl, .of hp1, rfl, .int r, rfl, .inl ⟨_, rfl, .int m, rfl, _, _, rfl, rfl, ⟨m0, m1⟩, .ref p, rfl, p, _, 2, 2, rfl, rfl, hp1, rfl, ?_⟩⟩
        refine ⟨.int r, rfl, .inl ⟨_, rfl, .int m, rfl, _, _, rfl, rfl, m0, q _ _ (Int.emod_nonneg _ (by omega)) (Int.emod_lt_of_pos _ m0) ⟨c, cs, i, r / m, t, ?_⟩ (sb.trans sb_upd)⟩⟩
        exact h1.put i0' i1' (Int.ediv_nonneg r0' (by omega)) t0 t1
      · refine ⟨.ref p, rfl, p, _, 3, _, rfl, rfl, .of hp1, rfl, _, _, rfl, rfl, .inl ⟨_, rfl, _, _, rfl, rfl, (by show (0 : Int) < _; decide), .ref p, rfl, p, _, 3, 3, rfl, rfl, hp1, rfl, ?_⟩⟩
        have z0 : 0 ≤ (t + 1) % 2147483629 := by omega
        have z1 : (t + 1) % 2147483629 < 2147483629 := by omega
        have h2 := h1.put (i' := i) (r' := r) i0' i1' r0' z0 z1
        refine ⟨.ref p, rfl, p, _, 3, _, rfl, rfl, .of upd_same, rfl, .ref p, rfl, p, _, 1, _, rfl, rfl, .of upd_same, rfl, _, _, rfl, z0, by omega, i0', by omega, fun z => .inl ⟨_, rfl, .int m, rfl, _, _, rfl, rfl, m0, ?_⟩⟩
        exact q _ _ (Int.emod_nonneg _ (by omega)) (Int.emod_lt_of_pos _ m0) ⟨c, cs, i, r, _, h2⟩ (sb.trans sb_upd)
    refine ⟨.ref p, rfl, p, _, 2, _, rfl, rfl, .of hp, rfl, rfl, _, rfl, ite2 (fun e => ?_) (fun e => ?_)⟩
    · have re : r = 0 := V.int.inj (of_decide_eq_true e)
      refine ⟨.ref p, rfl, p, _, 1, _, rfl, rfl, .of hp, rfl, .ref p, rfl, p, _, 0, _, rfl, rfl, .of hp, rfl, c, _, rfl, .inl (.of hc), _, _, rfl, rfl, _, rfl, ite2 (fun e => ?_) (fun e => ?_)⟩
      · have il : i < cs.length := by
          have := of_decide_eq_true e
          rw [List.length_map] at this
          exact this
        obtain ⟨n, rfl⟩ := Int.eq_ofNat_of_zero_le i0
        have nl : n < cs.length := by omega
        have g : (cs.map V.int)[n]? = some (.int cs[n]) := by rw [List.getElem?_map, List.getElem?_eq_getElem nl]; rfl
        have z0 : 0 ≤ cs[n] := c0 _ (List.getElem_mem nl)
        have h2 := hh.put (i' := n + 1) (r' := r) (t' := t) (by omega) (by omega) r0 t0 t1
        refine ⟨.ref p, rfl, p, _, 0, _, rfl, rfl, .of hp, rfl, .ref p, rfl, p, _, 1, _, rfl, rfl, .of hp, rfl, c, _, _, _, rfl, rfl, .of hc, atI_nat g, ?_⟩
        refine ⟨.ref p, rfl, p, _, 1, _, rfl, rfl, .of hp, rfl, _, _, rfl, rfl, .ref p, rfl, p, _, 1, 1, rfl, rfl, hp, rfl, ?_⟩
        refine ⟨_, rfl, _, _, rfl, rfl, ⟨by decide, by decide, by decide⟩, _, _, rfl, rfl, _, rfl, ite2 (fun e => ?_) (fun e => ?_)⟩
        · refine ⟨_, rfl, .inl ⟨_, rfl, _, _, rfl, rfl, (by show (0 : Int) < _; decide), .ref p, rfl, p, _, 1, _, rfl, rfl, .of upd_same, rfl, _, _, rfl, by omega, by omega, by omega, by omega, fun z => .inl ⟨_, rfl, .int m, rfl, _, _, rfl, rfl, m0, ?_⟩⟩⟩
          exact q _ _ (Int.emod_nonneg _ (by omega)) (Int.emod_lt_of_pos _ m0) ⟨c, cs, _, r, t, h2⟩ sb_upd
        · refine ⟨_, rfl, .ref p, rfl, p, _, 2, 2, rfl, rfl, upd_same, rfl, ?_⟩
          rw [upd_upd]
          exact tail _ (n + 1) _ _ (hh.put (by omega) (by omega) z0 t0 t1) sb_upd
      · exact tail H i r _ hh (fun _ _ _ e => e)
    · exact tail H i r _ hh (fun _ _ _ e => e)
theorem strOk_app {x y : Str} (a : PyData.strOk x = true) (b : PyData.strOk y = true) : PyData.strOk (x ++ y) = true := by
  show (x.cps ++ y.cps).all (fun c => decide (c < 0x110000)) = true
  rw [Array.all_append]
  show (PyData.strOk x && PyData.strOk y) = true
  rw [a, b]; rfl
def sAbc : Str := "abcdefghijklmnopqrstuvwxyz"
theorem ok_name {f fT : Addr} {fd fdT : FuncData} {k : Nat} (F : Fun K "_law_name" "_law_name" sName f fd) (GT : FnOk P w K mg base CX0 (k + 2) fT fdT ["_law_hand_here", "_law_many"] spTake) (kT : PySem.W.keepIn K (.ref fT) = true) (bT : Binds K fdT ["_law_hand_here", "_law_many"] []) (gT : mg "_law_take" = some (.ref fT))
    (mr : mg "range" = none) : FnOk P w K mg base CX0 (k + 3) f fd ["_law_hand_here"] spName := by
  refine F.ok scName (fun vs H Q E h => ?_) (fun cdv A outer s H vs Q E hr h => ?_)
  · obtain ⟨p, rfl, _⟩ := h; rfl
  · obtain ⟨p, rfl, hH, q⟩ := h
    refine ⟨_, pss_cons (ps_set (i := 1) scName.nd rfl (.inl rfl) pe_str)
      (pss_cons (ps_for PassesOwn.never rfl (pi_range1 rfl mr (pa_cons (pe_op op_add pe_int (pe_call GT hr (by rfl) gT kT bT .nil pass0 (pa_cons (pv 0) (pa_cons pe_int pa_nil)))) pa_nil)) (pg_name (i := 2) scName.nd rfl (.inl rfl))
        (pss_one (ps_set (i := 1) scName.nd rfl (.inl rfl) (pe_op op_add_str (pv 1) (pe_ix ix_str pe_str (pe_call GT hr (by rfl) gT kT bT .nil pass0 (pa_cons (pv 0) (pa_cons pe_int pa_nil))) (fun _ _ => rfl))))))
      (pss_one (ps_ret (pv 1)))), ?_⟩
    refine ⟨.ref p, rfl, p, 8, rfl, hH, by decide, by decide, fun v H1 v0 v8 h1 s1 => ⟨_, _, rfl, rfl, _, rfl, by omega, by omega, for_range (n := (1 + v).toNat)
      (fun i σ H' => ∃ (z : Str) (y : Option V), σ = [some (.ref p), some (.str z), y] ∧ z.length = i ∧ PyData.strOk z = true ∧ HandAt H' p ∧ SameBut p H H') ⟨_, none, rfl, rfl, by decide +kernel, h1, s1⟩ ?_ ?_⟩⟩
    · rintro i σ H' hi ⟨z, y, rfl, zl, zo, h2, s2⟩
      refine ⟨_, rfl, .ref p, rfl, p, 26, rfl, h2, by decide, by decide, fun u H2 u0 u26 h3 s3 => ?_⟩
      obtain ⟨n, rfl⟩ := Int.eq_ofNat_of_zero_le u0
      have nl : n < sAbc.cps.toList.length := by
        have : sAbc.cps.toList.length = 26 := by decide +kernel
        omega
      refine ⟨sAbc, n, sAbc.cps.toList[n], rfl, rfl, by decide +kernel, atI_nat (List.getElem?_eq_getElem nl), _, _, rfl, rfl, ?_, _, _, rfl, ?_, ?_, h3, s2.trans s3⟩
      · have : (⟨#[sAbc.cps.toList[n]]⟩ : Str).length = 1 := rfl
        rw [this, zl]
        exact Nat.le_of_lt (small1000 (by omega))
      · have : (z ++ (⟨#[sAbc.cps.toList[n]]⟩ : Str)).length = z.length + 1 := by
          show (z.cps ++ #[sAbc.cps.toList[n]]).size = z.cps.size + 1
          rw [Array.size_append]; rfl
        rw [this, zl]
      · refine strOk_app zo ?_
        have : sAbc.cps.toList.all (fun c => decide (c < 0x110000)) = true := by decide +kernel
        have z := List.all_eq_true.mp this _ (List.getElem_mem nl)
        show (#[sAbc.cps.toList[n]] : Array Nat).all (fun c => decide (c < 0x110000)) = true
        rw [← Array.all_toList]
        show (decide (sAbc.cps.toList[n] < 0x110000) && true) = true
        rw [z]; rfl
    · rintro σ H' ⟨z, y, rfl, zl, zo, h2, s2⟩
      exact ⟨_, rfl, q z H' (by omega) zo h2 s2⟩
end
end FK
set_option Elab.async false
set_option linter.all false
set_option maxRecDepth 100000
set_option maxHeartbeats 4000000
namespace FK
open PySem PySem.Spec PyProof.Rows L2 FX
theorem small1000' {n : Nat} (h : n ≤ 1000) : n + 4 < sizeLine := Nat.lt_of_le_of_lt (Nat.add_le_add_right h 4) (by decide)
theorem init1 {K : PySem.W.Frag} {C : Addr} {g : Str} {H : Hp} {Q : VK} {E : XK} {vs : List V} (T : OexC K C) (n0 : PySem.W.findIn K (.ref C) g = some none) (h : spInit C [g] vs H Q E) :
    tOst K g (tVar 0) (tVar 1) { nx := fun _ H' => Q .non H', rt := Q } (start ["self", g] vs) H := by
  obtain ⟨a, ws, rfl, l, ha, q⟩ := h
  obtain ⟨v, rfl⟩ := len_one l
  refine ⟨v, rfl, .ref a, rfl, a, C, rfl, T, n0, .inl ⟨ha, fun dx nx ne => q _ dx (fun b o nb e => ?_) upd_same ?_ nx⟩⟩
  · rw [upd_ne nb, upd_ne (ne_of_none e nx)]; exact e
  · rw [upd_ne ne, upd_same]; rfl
theorem init2 {K : PySem.W.Frag} {C : Addr} {g k : Str} {H : Hp} {Q : VK} {E : XK} {vs : List V} (T : OexC K C) (n0 : PySem.W.findIn K (.ref C) g = some none) (n1 : PySem.W.findIn K (.ref C) k = some none) (h : spInit C [g, k] vs H Q E) :
    tSeq (tOst K g (tVar 0) (tVar 1)) (tOst K k (tVar 0) (tVar 2)) { nx := fun _ H' => Q .non H', rt := Q } (start ["self", g, k] vs) H := by
  obtain ⟨a, ws, rfl, l, ha, q⟩ := h
  obtain ⟨v, u, rfl⟩ := len_two l
  refine ⟨v, rfl, .ref a, rfl, a, C, rfl, T, n0, .inl ⟨ha, fun dx nx ne => ?_⟩⟩
  refine ⟨u, rfl, .ref a, rfl, a, C, rfl, T, n1, .inr ⟨dx, _, upd_same, (by rw [upd_ne ne, upd_same]), (by show 1 ≤ 900; decide), q _ dx (fun b o nb e => ?_) ?_ upd_same nx⟩⟩
  · rw [upd_ne (ne_of_none e nx), upd_ne nb, upd_ne (ne_of_none e nx)]; exact e
  · rw [upd_ne ne.symm, upd_same]
section
variable {P : Program} {w : World} {K : PySem.W.Frag} {mg : Str → Option Value} {base : Heap}
def cl : List (Str × List Str) := [("BadRatio", ["what"]), ("BadPlace", []), ("BadDirection", []), ("BadAmount", []), ("BadSize", []), ("BadPatch", ["what"]), ("BadTable", ["what"]), ("BadText", ["row", "what"]), ("BadFact", ["what"]), ("BadCase", ["index", "what"]), ("NoFact", ["number"]), ("NoStones", []), ("BadChoice", ["index"]), ("NotFit", ["fact"]), ("BadLots", ["what"]), ("NotMet", []), ("BadClaim", ["what"]), ("NoArea", ["number"]), ("BadCorner", ["number"]), ("BadKept", ["what"]), ("TooMany", ["most"]), ("BadLine", []), ("BadReading", ["index", "what"]), ("BadBreadth", []), ("BadBox", ["what"]), ("BadDirections", ["index"]), ("BadStone", []), ("BadMost", []), ("BadChange", ["index", "what"]), ("BadWish", ["index"]), ("NoNumber", ["number"]), ("BookFull", [])]
def nm : List Str := cl.map (·.1)
theorem in_BadRatio {f : Addr} {fd : FuncData} {C : Addr} (F : Fun K "__init__" "BadRatio.__init__" (inClass (topS 2) 0) f fd) (T : OexC K C) (no : ∀ f ∈ (["what"] : List Str), PySem.W.findIn K (.ref C) f = some none) : FnOk P w K mg base CX0 1 f fd ["self", "what"] (spInit C ["what"]) := by
  refine F.ok (N := ["self", "what"]) ⟨rfl, rfl, rfl, by decide +kernel, rfl, by decide +kernel, by decide +kernel⟩ (fun vs H Q E h => ?_) (fun cdv A outer s H vs Q E hr h => ?_)
  · obtain ⟨a, ws, rfl, l, _⟩ := h; exact congrArg (· + 1) l
  · exact ⟨_, pss_one (ps_ost (pv 0) (pv 1)), init1 T (no _ (List.mem_cons_self ..)) h⟩
theorem in_BadPatch {f : Addr} {fd : FuncData} {C : Addr} (F : Fun K "__init__" "BadPatch.__init__" (inClass (topS 7) 0) f fd) (T : OexC K C) (no : ∀ f ∈ (["what"] : List Str), PySem.W.findIn K (.ref C) f = some none) : FnOk P w K mg base CX0 1 f fd ["self", "what"] (spInit C ["what"]) := by
  refine F.ok (N := ["self", "what"]) ⟨rfl, rfl, rfl, by decide +kernel, rfl, by decide +kernel, by decide +kernel⟩ (fun vs H Q E h => ?_) (fun cdv A outer s H vs Q E hr h => ?_)
  · obtain ⟨a, ws, rfl, l, _⟩ := h; exact congrArg (· + 1) l
  · exact ⟨_, pss_one (ps_ost (pv 0) (pv 1)), init1 T (no _ (List.mem_cons_self ..)) h⟩
theorem in_BadTable {f : Addr} {fd : FuncData} {C : Addr} (F : Fun K "__init__" "BadTable.__init__" (inClass (topS 8) 0) f fd) (T : OexC K C) (no : ∀ f ∈ (["what"] : List Str), PySem.W.findIn K (.ref C) f = some none) : FnOk P w K mg base CX0 1 f fd ["self", "what"] (spInit C ["what"]) := by
  refine F.ok (N := ["self", "what"]) ⟨rfl, rfl, rfl, by decide +kernel, rfl, by decide +kernel, by decide +kernel⟩ (fun vs H Q E h => ?_) (fun cdv A outer s H vs Q E hr h => ?_)
  · obtain ⟨a, ws, rfl, l, _⟩ := h; exact congrArg (· + 1) l
  · exact ⟨_, pss_one (ps_ost (pv 0) (pv 1)), init1 T (no _ (List.mem_cons_self ..)) h⟩
theorem in_BadText {f : Addr} {fd : FuncData} {C : Addr} (F : Fun K "__init__" "BadText.__init__" (inClass (topS 9) 0) f fd) (T : OexC K C) (no : ∀ f ∈ (["row", "what"] : List Str), PySem.W.findIn K (.ref C) f = some none) : FnOk P w K mg base CX0 1 f fd ["self", "row", "what"] (spInit C ["row", "what"]) := by
  refine F.ok (N := ["self", "row", "what"]) ⟨rfl, rfl, rfl, by decide +kernel, rfl, by decide +kernel, by decide +kernel⟩ (fun vs H Q E h => ?_) (fun cdv A outer s H vs Q E hr h => ?_)
  · obtain ⟨a, ws, rfl, l, _⟩ := h; exact congrArg (· + 1) l
  · exact ⟨_, pss_cons (ps_ost (pv 0) (pv 1)) (pss_one (ps_ost (pv 0) (pv 2))), init2 T (no _ (List.mem_cons_self ..)) (no _ (List.mem_cons_of_mem _ (List.mem_cons_self ..))) h⟩
theorem in_BadFact {f : Addr} {fd : FuncData} {C : Addr} (F : Fun K "__init__" "BadFact.__init__" (inClass (topS 10) 0) f fd) (T : OexC K C) (no : ∀ f ∈ (["what"] : List Str), PySem.W.findIn K (.ref C) f = some none) : FnOk P w K mg base CX0 1 f fd ["self", "what"] (spInit C ["what"]) := by
  refine F.ok (N := ["self", "what"]) ⟨rfl, rfl, rfl, by decide +kernel, rfl, by decide +kernel, by decide +kernel⟩ (fun vs H Q E h => ?_) (fun cdv A outer s H vs Q E hr h => ?_)
  · obtain ⟨a, ws, rfl, l, _⟩ := h; exact congrArg (· + 1) l
  · exact ⟨_, pss_one (ps_ost (pv 0) (pv 1)), init1 T (no _ (List.mem_cons_self ..)) h⟩
theorem in_BadCase {f : Addr} {fd : FuncData} {C : Addr} (F : Fun K "__init__" "BadCase.__init__" (inClass (topS 11) 0) f fd) (T : OexC K C) (no : ∀ f ∈ (["index", "what"] : List Str), PySem.W.findIn K (.ref C) f = some none) : FnOk P w K mg base CX0 1 f fd ["self", "index", "what"] (spInit C ["index", "what"]) := by
  refine F.ok (N := ["self", "index", "what"]) ⟨rfl, rfl, rfl, by decide +kernel, rfl, by decide +kernel, by decide +kernel⟩ (fun vs H Q E h => ?_) (fun cdv A outer s H vs Q E hr h => ?_)
  · obtain ⟨a, ws, rfl, l, _⟩ := h; exact congrArg (· + 1) l
  · exact ⟨_, pss_cons (ps_ost (pv 0) (pv 1)) (pss_one (ps_ost (pv 0) (pv 2))), init2 T (no _ (List.mem_cons_self ..)) (no _ (List.mem_cons_of_mem _ (List.mem_cons_self ..))) h⟩
theorem in_NoFact {f : Addr} {fd : FuncData} {C : Addr} (F : Fun K "__init__" "NoFact.__init__" (inClass (topS 12) 0) f fd) (T : OexC K C) (no : ∀ f ∈ (["number"] : List Str), PySem.W.findIn K (.ref C) f = some none) : FnOk P w K mg base CX0 1 f fd ["self", "number"] (spInit C ["number"]) := by
  refine F.ok (N := ["self", "number"]) ⟨rfl, rfl, rfl, by decide +kernel, rfl, by decide +kernel, by decide +kernel⟩ (fun vs H Q E h => ?_) (fun cdv A outer s H vs Q E hr h => ?_)
  · obtain ⟨a, ws, rfl, l, _⟩ := h; exact congrArg (· + 1) l
  · exact ⟨_, pss_one (ps_ost (pv 0) (pv 1)), init1 T (no _ (List.mem_cons_self ..)) h⟩
theorem in_BadChoice {f : Addr} {fd : FuncData} {C : Addr} (F : Fun K "__init__" "BadChoice.__init__" (inClass (topS 14) 0) f fd) (T : OexC K C) (no : ∀ f ∈ (["index"] : List Str), PySem.W.findIn K (.ref C) f = some none) : FnOk P w K mg base CX0 1 f fd ["self", "index"] (spInit C ["index"]) := by
  refine F.ok (N := ["self", "index"]) ⟨rfl, rfl, rfl, by decide +kernel, rfl, by decide +kernel, by decide +kernel⟩ (fun vs H Q E h => ?_) (fun cdv A outer s H vs Q E hr h => ?_)
  · obtain ⟨a, ws, rfl, l, _⟩ := h; exact congrArg (· + 1) l
  · exact ⟨_, pss_one (ps_ost (pv 0) (pv 1)), init1 T (no _ (List.mem_cons_self ..)) h⟩
theorem in_NotFit {f : Addr} {fd : FuncData} {C : Addr} (F : Fun K "__init__" "NotFit.__init__" (inClass (topS 15) 0) f fd) (T : OexC K C) (no : ∀ f ∈ (["fact"] : List Str), PySem.W.findIn K (.ref C) f = some none) : FnOk P w K mg base CX0 1 f fd ["self", "fact"] (spInit C ["fact"]) := by
  refine F.ok (N := ["self", "fact"]) ⟨rfl, rfl, rfl, by decide +kernel, rfl, by decide +kernel, by decide +kernel⟩ (fun vs H Q E h => ?_) (fun cdv A outer s H vs Q E hr h => ?_)
  · obtain ⟨a, ws, rfl, l, _⟩ := h; exact congrArg (· + 1) l
  · exact ⟨_, pss_one (ps_ost (pv 0) (pv 1)), init1 T (no _ (List.mem_cons_self ..)) h⟩
theorem in_BadLots {f : Addr} {fd : FuncData} {C : Addr} (F : Fun K "__init__" "BadLots.__init__" (inClass (topS 16) 0) f fd) (T : OexC K C) (no : ∀ f ∈ (["what"] : List Str), PySem.W.findIn K (.ref C) f = some none) : FnOk P w K mg base CX0 1 f fd ["self", "what"] (spInit C ["what"]) := by
  refine F.ok (N := ["self", "what"]) ⟨rfl, rfl, rfl, by decide +kernel, rfl, by decide +kernel, by decide +kernel⟩ (fun vs H Q E h => ?_) (fun cdv A outer s H vs Q E hr h => ?_)
  · obtain ⟨a, ws, rfl, l, _⟩ := h; exact congrArg (· + 1) l
  · exact ⟨_, pss_one (ps_ost (pv 0) (pv 1)), init1 T (no _ (List.mem_cons_self ..)) h⟩
theorem in_BadClaim {f : Addr} {fd : FuncData} {C : Addr} (F : Fun K "__init__" "BadClaim.__init__" (inClass (topS 18) 0) f fd) (T : OexC K C) (no : ∀ f ∈ (["what"] : List Str), PySem.W.findIn K (.ref C) f = some none) : FnOk P w K mg base CX0 1 f fd ["self", "what"] (spInit C ["what"]) := by
  refine F.ok (N := ["self", "what"]) ⟨rfl, rfl, rfl, by decide +kernel, rfl, by decide +kernel, by decide +kernel⟩ (fun vs H Q E h => ?_) (fun cdv A outer s H vs Q E hr h => ?_)
  · obtain ⟨a, ws, rfl, l, _⟩ := h; exact congrArg (· + 1) l
  · exact ⟨_, pss_one (ps_ost (pv 0) (pv 1)), init1 T (no _ (List.mem_cons_self ..)) h⟩
theorem in_NoArea {f : Addr} {fd : FuncData} {C : Addr} (F : Fun K "__init__" "NoArea.__init__" (inClass (topS 19) 0) f fd) (T : OexC K C) (no : ∀ f ∈ (["number"] : List Str), PySem.W.findIn K (.ref C) f = some none) : FnOk P w K mg base CX0 1 f fd ["self", "number"] (spInit C ["number"]) := by
  refine F.ok (N := ["self", "number"]) ⟨rfl, rfl, rfl, by decide +kernel, rfl, by decide +kernel, by decide +kernel⟩ (fun vs H Q E h => ?_) (fun cdv A outer s H vs Q E hr h => ?_)
  · obtain ⟨a, ws, rfl, l, _⟩ := h; exact congrArg (· + 1) l
  · exact ⟨_, pss_one (ps_ost (pv 0) (pv 1)), init1 T (no _ (List.mem_cons_self ..)) h⟩
theorem in_BadCorner {f : Addr} {fd : FuncData} {C : Addr} (F : Fun K "__init__" "BadCorner.__init__" (inClass (topS 20) 0) f fd) (T : OexC K C) (no : ∀ f ∈ (["number"] : List Str), PySem.W.findIn K (.ref C) f = some none) : FnOk P w K mg base CX0 1 f fd ["self", "number"] (spInit C ["number"]) := by
  refine F.ok (N := ["self", "number"]) ⟨rfl, rfl, rfl, by decide +kernel, rfl, by decide +kernel, by decide +kernel⟩ (fun vs H Q E h => ?_) (fun cdv A outer s H vs Q E hr h => ?_)
  · obtain ⟨a, ws, rfl, l, _⟩ := h; exact congrArg (· + 1) l
  · exact ⟨_, pss_one (ps_ost (pv 0) (pv 1)), init1 T (no _ (List.mem_cons_self ..)) h⟩
theorem in_BadKept {f : Addr} {fd : FuncData} {C : Addr} (F : Fun K "__init__" "BadKept.__init__" (inClass (topS 21) 0) f fd) (T : OexC K C) (no : ∀ f ∈ (["what"] : List Str), PySem.W.findIn K (.ref C) f = some none) : FnOk P w K mg base CX0 1 f fd ["self", "what"] (spInit C ["what"]) := by
  refine F.ok (N := ["self", "what"]) ⟨rfl, rfl, rfl, by decide +kernel, rfl, by decide +kernel, by decide +kernel⟩ (fun vs H Q E h => ?_) (fun cdv A outer s H vs Q E hr h => ?_)
  · obtain ⟨a, ws, rfl, l, _⟩ := h; exact congrArg (· + 1) l
  · exact ⟨_, pss_one (ps_ost (pv 0) (pv 1)), init1 T (no _ (List.mem_cons_self ..)) h⟩
theorem in_TooMany {f : Addr} {fd : FuncData} {C : Addr} (F : Fun K "__init__" "TooMany.__init__" (inClass (topS 22) 0) f fd) (T : OexC K C) (no : ∀ f ∈ (["most"] : List Str), PySem.W.findIn K (.ref C) f = some none) : FnOk P w K mg base CX0 1 f fd ["self", "most"] (spInit C ["most"]) := by
  refine F.ok (N := ["self", "most"]) ⟨rfl, rfl, rfl, by decide +kernel, rfl, by decide +kernel, by decide +kernel⟩ (fun vs H Q E h => ?_) (fun cdv A outer s H vs Q E hr h => ?_)
  · obtain ⟨a, ws, rfl, l, _⟩ := h; exact congrArg (· + 1) l
  · exact ⟨_, pss_one (ps_ost (pv 0) (pv 1)), init1 T (no _ (List.mem_cons_self ..)) h⟩
theorem in_BadReading {f : Addr} {fd : FuncData} {C : Addr} (F : Fun K "__init__" "BadReading.__init__" (inClass (topS 24) 0) f fd) (T : OexC K C) (no : ∀ f ∈ (["index", "what"] : List Str), PySem.W.findIn K (.ref C) f = some none) : FnOk P w K mg base CX0 1 f fd ["self", "index", "what"] (spInit C ["index", "what"]) := by
  refine F.ok (N := ["self", "index", "what"]) ⟨rfl, rfl, rfl, by decide +kernel, rfl, by decide +kernel, by decide +kernel⟩ (fun vs H Q E h => ?_) (fun cdv A outer s H vs Q E hr h => ?_)
  · obtain ⟨a, ws, rfl, l, _⟩ := h; exact congrArg (· + 1) l
  · exact ⟨_, pss_cons (ps_ost (pv 0) (pv 1)) (pss_one (ps_ost (pv 0) (pv 2))), init2 T (no _ (List.mem_cons_self ..)) (no _ (List.mem_cons_of_mem _ (List.mem_cons_self ..))) h⟩
theorem in_BadBox {f : Addr} {fd : FuncData} {C : Addr} (F : Fun K "__init__" "BadBox.__init__" (inClass (topS 26) 0) f fd) (T : OexC K C) (no : ∀ f ∈ (["what"] : List Str), PySem.W.findIn K (.ref C) f = some none) : FnOk P w K mg base CX0 1 f fd ["self", "what"] (spInit C ["what"]) := by
  refine F.ok (N := ["self", "what"]) ⟨rfl, rfl, rfl, by decide +kernel, rfl, by decide +kernel, by decide +kernel⟩ (fun vs H Q E h => ?_) (fun cdv A outer s H vs Q E hr h => ?_)
  · obtain ⟨a, ws, rfl, l, _⟩ := h; exact congrArg (· + 1) l
  · exact ⟨_, pss_one (ps_ost (pv 0) (pv 1)), init1 T (no _ (List.mem_cons_self ..)) h⟩
theorem in_BadDirections {f : Addr} {fd : FuncData} {C : Addr} (F : Fun K "__init__" "BadDirections.__init__" (inClass (topS 27) 0) f fd) (T : OexC K C) (no : ∀ f ∈ (["index"] : List Str), PySem.W.findIn K (.ref C) f = some none) : FnOk P w K mg base CX0 1 f fd ["self", "index"] (spInit C ["index"]) := by
  refine F.ok (N := ["self", "index"]) ⟨rfl, rfl, rfl, by decide +kernel, rfl, by decide +kernel, by decide +kernel⟩ (fun vs H Q E h => ?_) (fun cdv A outer s H vs Q E hr h => ?_)
  · obtain ⟨a, ws, rfl, l, _⟩ := h; exact congrArg (· + 1) l
  · exact ⟨_, pss_one (ps_ost (pv 0) (pv 1)), init1 T (no _ (List.mem_cons_self ..)) h⟩
theorem in_BadChange {f : Addr} {fd : FuncData} {C : Addr} (F : Fun K "__init__" "BadChange.__init__" (inClass (topS 30) 0) f fd) (T : OexC K C) (no : ∀ f ∈ (["index", "what"] : List Str), PySem.W.findIn K (.ref C) f = some none) : FnOk P w K mg base CX0 1 f fd ["self", "index", "what"] (spInit C ["index", "what"]) := by
  refine F.ok (N := ["self", "index", "what"]) ⟨rfl, rfl, rfl, by decide +kernel, rfl, by decide +kernel, by decide +kernel⟩ (fun vs H Q E h => ?_) (fun cdv A outer s H vs Q E hr h => ?_)
  · obtain ⟨a, ws, rfl, l, _⟩ := h; exact congrArg (· + 1) l
  · exact ⟨_, pss_cons (ps_ost (pv 0) (pv 1)) (pss_one (ps_ost (pv 0) (pv 2))), init2 T (no _ (List.mem_cons_self ..)) (no _ (List.mem_cons_of_mem _ (List.mem_cons_self ..))) h⟩
theorem in_BadWish {f : Addr} {fd : FuncData} {C : Addr} (F : Fun K "__init__" "BadWish.__init__" (inClass (topS 31) 0) f fd) (T : OexC K C) (no : ∀ f ∈ (["index"] : List Str), PySem.W.findIn K (.ref C) f = some none) : FnOk P w K mg base CX0 1 f fd ["self", "index"] (spInit C ["index"]) := by
  refine F.ok (N := ["self", "index"]) ⟨rfl, rfl, rfl, by decide +kernel, rfl, by decide +kernel, by decide +kernel⟩ (fun vs H Q E h => ?_) (fun cdv A outer s H vs Q E hr h => ?_)
  · obtain ⟨a, ws, rfl, l, _⟩ := h; exact congrArg (· + 1) l
  · exact ⟨_, pss_one (ps_ost (pv 0) (pv 1)), init1 T (no _ (List.mem_cons_self ..)) h⟩
theorem in_NoNumber {f : Addr} {fd : FuncData} {C : Addr} (F : Fun K "__init__" "NoNumber.__init__" (inClass (topS 32) 0) f fd) (T : OexC K C) (no : ∀ f ∈ (["number"] : List Str), PySem.W.findIn K (.ref C) f = some none) : FnOk P w K mg base CX0 1 f fd ["self", "number"] (spInit C ["number"]) := by
  refine F.ok (N := ["self", "number"]) ⟨rfl, rfl, rfl, by decide +kernel, rfl, by decide +kernel, by decide +kernel⟩ (fun vs H Q E h => ?_) (fun cdv A outer s H vs Q E hr h => ?_)
  · obtain ⟨a, ws, rfl, l, _⟩ := h; exact congrArg (· + 1) l
  · exact ⟨_, pss_one (ps_ost (pv 0) (pv 1)), init1 T (no _ (List.mem_cons_self ..)) h⟩
def AllC (P : Program) (w : World) (K : PySem.W.Frag) (mg : Str → Option Value) (base : Heap) : Prop := ∀ p ∈ cl, CT P w K mg base p.1 p.2
theorem AllC.at (h : AllC P w K mg base) (i : Nat) {x : Str} {fs : List Str} (e : cl[i]? = some (x, fs) := by rfl) : CT P w K mg base x fs := h (x, fs) (List.mem_of_getElem? e)
/-- the rows that a def makes -/
def spRows (K : PySem.W.Frag) (es : Int → Int → Str → Str → List (Str × List V)) : Sp := fun vs H Q _ => ∃ (a t : Int) (z y : Str), vs = [.int a, .int t, .str z, .str y] ∧ ∀ H' p xs, Same H H' → H p = none → H' p = some (.lst xs) → EntsF K H' xs (es a t z y) → Q (.ref p) H'
/-- between two rows of questions -/
def StC (H0 : Hp) (e C : Addr) (fs : List (Str × V)) (bs : List V) (σ : L2.St) (H : Hp) : Prop := ∃ p, σ = [some (.ref e), some (.ref p)] ∧ Same H0 H ∧ H0 p = none ∧ ExAt H e C fs ∧ H p = some (.lst bs)
abbrev tI (K : PySem.W.Frag) (D : Addr) : TE := tCB (rIsX K) (tCons (tVar 0) (tCons (tC (.ref D)) tNil))
theorem cls4 {H0 : Hp} {e C D1 D2 D3 D4 : Addr} {fs : List (Str × V)} {bs : List V} {σ : L2.St} {H : Hp} {D : Ends} {b1 b2 b3 b4 : Bool} (T : ExcC K C) (k1 : PySem.W.kitOne K (.ref C) (.ref D1) = some b1) (k2 : PySem.W.kitOne K (.ref C) (.ref D2) = some b2)
    (k3 : PySem.W.kitOne K (.ref C) (.ref D3) = some b3) (k4 : PySem.W.kitOne K (.ref C) (.ref D4) = some b4) (h : StC H0 e C fs bs σ H) (hs : bs.length ≤ 1000) (next : ∀ σ' H', StC H0 e C fs (bs ++ [.bl b1, .bl b2, .bl b3, .bl b4]) σ' H' → D.nx σ' H') :
    tAsg (tOp rCat (tVar 1) (tLst (tCons (tI K D1) (tCons (tI K D2) (tCons (tI K D3) (tCons (tI K D4) tNil)))))) (gName 1) D σ H := by
  obtain ⟨p, rfl, sm, np, hx, hp⟩ := h
  refine ⟨_, rfl, .ref e, rfl, e, C, fs, _, _, b1, rfl, hx, T, .own _, k1, .ref e, rfl, e, C, fs, _, _, b2, rfl, hx, T, .own _, k2, .ref e, rfl, e, C, fs, _, _, b3, rfl, hx, T, .own _, k3, .ref e, rfl, e, C, fs, _, _, b4, rfl, hx, T, .own _, k4, (by show 4 ≤ sizeLine; decide), fun l m => ?_⟩
  have s1 : Same H (upd H l (.lst [.bl b1, .bl b2, .bl b3, .bl b4])) := same_new m
  refine ⟨p, l, bs, _, rfl, rfl, s1 _ _ hp, upd_same, ?_, fun q n => next _ _ ⟨q, rfl, (sm.trans s1).trans (same_new n), (sm.trans s1).free n, hx.same (s1.trans (same_new n)), upd_same⟩⟩
  exact Nat.le_of_lt (small1000' hs)
/-- which of the classes it is -/
def spClasses (K : PySem.W.Frag) : Sp := fun vs H Q _ => ∃ (e C : Addr) (fs : List (Str × V)) (b : Nat → Bool), vs = [.ref e] ∧ ExAt H e C fs ∧ ExcC K C ∧ (∀ i {x : Str}, nm[i]? = some x → PySem.W.kitOne K (.ref C) (.ref (He.ga K x)) = some (b i)) ∧
  ∀ H' p, Same H H' → H p = none → H' p = some (.lst ((List.range 32).map fun i => V.bl (b i))) → Q (.ref p) H'
abbrev sFirst : Stmt := topS 39
theorem scFirst : FnScope ["_law_at", "_law_to", "_law_word", "_law_name_here", "_law_found", "_law_one"] ["_law_at", "_law_to", "_law_word", "_law_name_here"] (defScope sFirst) := ⟨rfl, rfl, rfl, by decide +kernel, rfl, by decide +kernel, by decide +kernel⟩
def esFirst (a t : Int) (z y : Str) : List (Str × List V) := [("BadRatio", [.str y]), ("BadPlace", []), ("BadDirection", []), ("BadAmount", []), ("BadSize", []), ("BadPatch", [.str z]), ("BadTable", [.str y]), ("BadText", [.int a, .str z]), ("BadFact", [.str y]), ("BadCase", [.int a, .str z]), ("NoFact", [.int a])]
theorem ok_First {f : Addr} {fd : FuncData} (F : Fun K "_law_first" "_law_first" sFirst f fd) (hC : AllC P w K mg base) : FnOk P w K mg base CX0 3 f fd ["_law_at", "_law_to", "_law_word", "_law_name_here"] (spRows K esFirst) := by
  refine F.ok scFirst (fun vs H Q E h => ?_) (fun cdv A outer s H vs Q E hr h => ?_)
  · obtain ⟨a, t, z, y, rfl, _⟩ := h; rfl
  · obtain ⟨a, t, z, y, rfl, q⟩ := h
    refine ⟨_, pss_cons (ps_set (i := 4) scFirst.nd rfl (.inl rfl) (pe_lst pa_nil)) (pss_cons (ps_set (i := 5) scFirst.nd rfl (.inl rfl) (pe_exC (hC.at 0) (hr.mono (by decide)) (by rfl) (pa_cons (pv 3) pa_nil)))
      (pss_cons (ps_expr (pe_bm PySem.F.plainAttrs_list PySem.F.slot_list_append PySem.F.type_list_append mt_append (pv 4) (pa_cons (pe_tup (pa_cons (pv 5) (pa_cons (pe_lst (pa_cons (pe_xv (pv 5)) pa_nil)) (pa_cons (pe_lst (pa_cons (pv 3) pa_nil)) pa_nil)))) pa_nil)))
      (pss_cons (ps_expr (pe_bm PySem.F.plainAttrs_list PySem.F.slot_list_append PySem.F.type_list_append mt_append (pv 4) (pa_cons (pe_tup (pa_cons (pe_exC0 (hC.at 1) (by rfl)) (pa_cons (pe_lst pa_nil) (pa_cons (pe_lst pa_nil) pa_nil)))) pa_nil)))
      (pss_cons (ps_expr (pe_bm PySem.F.plainAttrs_list PySem.F.slot_list_append PySem.F.type_list_append mt_append (pv 4) (pa_cons (pe_tup (pa_cons (pe_exC0 (hC.at 2) (by rfl)) (pa_cons (pe_lst pa_nil) (pa_cons (pe_lst pa_nil) pa_nil)))) pa_nil)))
      (pss_cons (ps_expr (pe_bm PySem.F.plainAttrs_list PySem.F.slot_list_append PySem.F.type_list_append mt_append (pv 4) (pa_cons (pe_tup (pa_cons (pe_exC0 (hC.at 3) (by rfl)) (pa_cons (pe_lst pa_nil) (pa_cons (pe_lst pa_nil) pa_nil)))) pa_nil)))
      (pss_cons (ps_expr (pe_bm PySem.F.plainAttrs_list PySem.F.slot_list_append PySem.F.type_list_append mt_append (pv 4) (pa_cons (pe_tup (pa_cons (pe_exC0 (hC.at 4) (by rfl)) (pa_cons (pe_lst pa_nil) (pa_cons (pe_lst pa_nil) pa_nil)))) pa_nil)))
      (pss_cons (ps_set (i := 5) scFirst.nd rfl (.inl rfl) (pe_exC (hC.at 5) (hr.mono (by decide)) (by rfl) (pa_cons (pv 2) pa_nil)))
      (pss_cons (ps_expr (pe_bm PySem.F.plainAttrs_list PySem.F.slot_list_append PySem.F.type_list_append mt_append (pv 4) (pa_cons (pe_tup (pa_cons (pv 5) (pa_cons (pe_lst (pa_cons (pe_xv (pv 5)) pa_nil)) (pa_cons (pe_lst (pa_cons (pv 2) pa_nil)) pa_nil)))) pa_nil)))
      (pss_cons (ps_set (i := 5) scFirst.nd rfl (.inl rfl) (pe_exC (hC.at 6) (hr.mono (by decide)) (by rfl) (pa_cons (pv 3) pa_nil)))
      (pss_cons (ps_expr (pe_bm PySem.F.plainAttrs_list PySem.F.slot_list_append PySem.F.type_list_append mt_append (pv 4) (pa_cons (pe_tup (pa_cons (pv 5) (pa_cons (pe_lst (pa_cons (pe_xv (pv 5)) pa_nil)) (pa_cons (pe_lst (pa_cons (pv 3) pa_nil)) pa_nil)))) pa_nil)))
      (pss_cons (ps_set (i := 5) scFirst.nd rfl (.inl rfl) (pe_exC (hC.at 7) (hr.mono (by decide)) (by rfl) (pa_cons (pv 0) (pa_cons (pv 2) pa_nil))))
      (pss_cons (ps_expr (pe_bm PySem.F.plainAttrs_list PySem.F.slot_list_append PySem.F.type_list_append mt_append (pv 4) (pa_cons (pe_tup (pa_cons (pv 5) (pa_cons (pe_lst (pa_cons (pe_xv (pv 5)) (pa_cons (pe_xv (pv 5)) pa_nil))) (pa_cons (pe_lst (pa_cons (pv 0) (pa_cons (pv 2) pa_nil))) pa_nil)))) pa_nil)))
      (pss_cons (ps_set (i := 5) scFirst.nd rfl (.inl rfl) (pe_exC (hC.at 8) (hr.mono (by decide)) (by rfl) (pa_cons (pv 3) pa_nil)))
      (pss_cons (ps_expr (pe_bm PySem.F.plainAttrs_list PySem.F.slot_list_append PySem.F.type_list_append mt_append (pv 4) (pa_cons (pe_tup (pa_cons (pv 5) (pa_cons (pe_lst (pa_cons (pe_xv (pv 5)) pa_nil)) (pa_cons (pe_lst (pa_cons (pv 3) pa_nil)) pa_nil)))) pa_nil)))
      (pss_cons (ps_set (i := 5) scFirst.nd rfl (.inl rfl) (pe_exC (hC.at 9) (hr.mono (by decide)) (by rfl) (pa_cons (pv 0) (pa_cons (pv 2) pa_nil))))
      (pss_cons (ps_expr (pe_bm PySem.F.plainAttrs_list PySem.F.slot_list_append PySem.F.type_list_append mt_append (pv 4) (pa_cons (pe_tup (pa_cons (pv 5) (pa_cons (pe_lst (pa_cons (pe_xv (pv 5)) (pa_cons (pe_xv (pv 5)) pa_nil))) (pa_cons (pe_lst (pa_cons (pv 0) (pa_cons (pv 2) pa_nil))) pa_nil)))) pa_nil)))
      (pss_cons (ps_set (i := 5) scFirst.nd rfl (.inl rfl) (pe_exC (hC.at 10) (hr.mono (by decide)) (by rfl) (pa_cons (pv 0) pa_nil)))
      (pss_cons (ps_expr (pe_bm PySem.F.plainAttrs_list PySem.F.slot_list_append PySem.F.type_list_append mt_append (pv 4) (pa_cons (pe_tup (pa_cons (pv 5) (pa_cons (pe_lst (pa_cons (pe_xv (pv 5)) pa_nil)) (pa_cons (pe_lst (pa_cons (pv 0) pa_nil)) pa_nil)))) pa_nil)))
      (pss_one (ps_ret (pv 4))))))))))))))))))))), ?_⟩
    refine ⟨Nat.zero_le _, fun p np => ?_⟩
    have h : StF K H p (.int a) (.int t) (.str z) (.str y) [] [some (.int a), some (.int t), some (.str z), some (.str y), some (.ref p), none] (upd H p (.lst [])) := ⟨none, [], rfl, same_new np, np, upd_same, rfl, trivial⟩
    refine step1 (hC.at 0).ok (fun _ => rfl) h (show 0 < 1000 by decide) fun σ H h => ?_
    refine step0 h (show 1 < 1000 by decide) fun σ H h => ?_
    refine step0 h (show 2 < 1000 by decide) fun σ H h => ?_
    refine step0 h (show 3 < 1000 by decide) fun σ H h => ?_
    refine step0 h (show 4 < 1000 by decide) fun σ H h => ?_
    refine step1 (hC.at 5).ok (fun _ => rfl) h (show 5 < 1000 by decide) fun σ H h => ?_
    refine step1 (hC.at 6).ok (fun _ => rfl) h (show 6 < 1000 by decide) fun σ H h => ?_
    refine step2 (hC.at 7).ok (by decide) (fun _ => rfl) (fun _ => rfl) h (show 7 < 1000 by decide) fun σ H h => ?_
    refine step1 (hC.at 8).ok (fun _ => rfl) h (show 8 < 1000 by decide) fun σ H h => ?_
    refine step2 (hC.at 9).ok (by decide) (fun _ => rfl) (fun _ => rfl) h (show 9 < 1000 by decide) fun σ H h => ?_
    refine step1 (hC.at 10).ok (fun _ => rfl) h (show 10 < 1000 by decide) fun σ H h => ?_
    obtain ⟨y5, xs, rfl, sm, _, hp, _, he⟩ := h
    exact ⟨_, rfl, q _ p xs sm np hp he.free⟩
abbrev sSecond : Stmt := topS 40
theorem scSecond : FnScope ["_law_at", "_law_to", "_law_word", "_law_name_here", "_law_found", "_law_one"] ["_law_at", "_law_to", "_law_word", "_law_name_here"] (defScope sSecond) := ⟨rfl, rfl, rfl, by decide +kernel, rfl, by decide +kernel, by decide +kernel⟩
def esSecond (a t : Int) (z y : Str) : List (Str × List V) := [("NoStones", []), ("BadChoice", [.int t]), ("NotFit", [.int a]), ("BadLots", [.str y]), ("NotMet", []), ("BadClaim", [.str y]), ("NoArea", [.int t]), ("BadCorner", [.int a]), ("BadKept", [.str z]), ("TooMany", [.int t]), ("BadLine", [])]
theorem ok_Second {f : Addr} {fd : FuncData} (F : Fun K "_law_second" "_law_second" sSecond f fd) (hC : AllC P w K mg base) : FnOk P w K mg base CX0 3 f fd ["_law_at", "_law_to", "_law_word", "_law_name_here"] (spRows K esSecond) := by
  refine F.ok scSecond (fun vs H Q E h => ?_) (fun cdv A outer s H vs Q E hr h => ?_)
  · obtain ⟨a, t, z, y, rfl, _⟩ := h; rfl
  · obtain ⟨a, t, z, y, rfl, q⟩ := h
    refine ⟨_, pss_cons (ps_set (i := 4) scSecond.nd rfl (.inl rfl) (pe_lst pa_nil)) (pss_cons (ps_expr (pe_bm PySem.F.plainAttrs_list PySem.F.slot_list_append PySem.F.type_list_append mt_append (pv 4) (pa_cons (pe_tup (pa_cons (pe_exC0 (hC.at 11) (by rfl)) (pa_cons (pe_lst pa_nil) (pa_cons (pe_lst pa_nil) pa_nil)))) pa_nil)))
      (pss_cons (ps_set (i := 5) scSecond.nd rfl (.inl rfl) (pe_exC (hC.at 12) (hr.mono (by decide)) (by rfl) (pa_cons (pv 1) pa_nil)))
      (pss_cons (ps_expr (pe_bm PySem.F.plainAttrs_list PySem.F.slot_list_append PySem.F.type_list_append mt_append (pv 4) (pa_cons (pe_tup (pa_cons (pv 5) (pa_cons (pe_lst (pa_cons (pe_xv (pv 5)) pa_nil)) (pa_cons (pe_lst (pa_cons (pv 1) pa_nil)) pa_nil)))) pa_nil)))
      (pss_cons (ps_set (i := 5) scSecond.nd rfl (.inl rfl) (pe_exC (hC.at 13) (hr.mono (by decide)) (by rfl) (pa_cons (pv 0) pa_nil)))
      (pss_cons (ps_expr (pe_bm PySem.F.plainAttrs_list PySem.F.slot_list_append PySem.F.type_list_append mt_append (pv 4) (pa_cons (pe_tup (pa_cons (pv 5) (pa_cons (pe_lst (pa_cons (pe_xv (pv 5)) pa_nil)) (pa_cons (pe_lst (pa_cons (pv 0) pa_nil)) pa_nil)))) pa_nil)))
      (pss_cons (ps_set (i := 5) scSecond.nd rfl (.inl rfl) (pe_exC (hC.at 14) (hr.mono (by decide)) (by rfl) (pa_cons (pv 3) pa_nil)))
      (pss_cons (ps_expr (pe_bm PySem.F.plainAttrs_list PySem.F.slot_list_append PySem.F.type_list_append mt_append (pv 4) (pa_cons (pe_tup (pa_cons (pv 5) (pa_cons (pe_lst (pa_cons (pe_xv (pv 5)) pa_nil)) (pa_cons (pe_lst (pa_cons (pv 3) pa_nil)) pa_nil)))) pa_nil)))
      (pss_cons (ps_expr (pe_bm PySem.F.plainAttrs_list PySem.F.slot_list_append PySem.F.type_list_append mt_append (pv 4) (pa_cons (pe_tup (pa_cons (pe_exC0 (hC.at 15) (by rfl)) (pa_cons (pe_lst pa_nil) (pa_cons (pe_lst pa_nil) pa_nil)))) pa_nil)))
      (pss_cons (ps_set (i := 5) scSecond.nd rfl (.inl rfl) (pe_exC (hC.at 16) (hr.mono (by decide)) (by rfl) (pa_cons (pv 3) pa_nil)))
      (pss_cons (ps_expr (pe_bm PySem.F.plainAttrs_list PySem.F.slot_list_append PySem.F.type_list_append mt_append (pv 4) (pa_cons (pe_tup (pa_cons (pv 5) (pa_cons (pe_lst (pa_cons (pe_xv (pv 5)) pa_nil)) (pa_cons (pe_lst (pa_cons (pv 3) pa_nil)) pa_nil)))) pa_nil)))
      (pss_cons (ps_set (i := 5) scSecond.nd rfl (.inl rfl) (pe_exC (hC.at 17) (hr.mono (by decide)) (by rfl) (pa_cons (pv 1) pa_nil)))
      (pss_cons (ps_expr (pe_bm PySem.F.plainAttrs_list PySem.F.slot_list_append PySem.F.type_list_append mt_append (pv 4) (pa_cons (pe_tup (pa_cons (pv 5) (pa_cons (pe_lst (pa_cons (pe_xv (pv 5)) pa_nil)) (pa_cons (pe_lst (pa_cons (pv 1) pa_nil)) pa_nil)))) pa_nil)))
      (pss_cons (ps_set (i := 5) scSecond.nd rfl (.inl rfl) (pe_exC (hC.at 18) (hr.mono (by decide)) (by rfl) (pa_cons (pv 0) pa_nil)))
      (pss_cons (ps_expr (pe_bm PySem.F.plainAttrs_list PySem.F.slot_list_append PySem.F.type_list_append mt_append (pv 4) (pa_cons (pe_tup (pa_cons (pv 5) (pa_cons (pe_lst (pa_cons (pe_xv (pv 5)) pa_nil)) (pa_cons (pe_lst (pa_cons (pv 0) pa_nil)) pa_nil)))) pa_nil)))
      (pss_cons (ps_set (i := 5) scSecond.nd rfl (.inl rfl) (pe_exC (hC.at 19) (hr.mono (by decide)) (by rfl) (pa_cons (pv 2) pa_nil)))
      (pss_cons (ps_expr (pe_bm PySem.F.plainAttrs_list PySem.F.slot_list_append PySem.F.type_list_append mt_append (pv 4) (pa_cons (pe_tup (pa_cons (pv 5) (pa_cons (pe_lst (pa_cons (pe_xv (pv 5)) pa_nil)) (pa_cons (pe_lst (pa_cons (pv 2) pa_nil)) pa_nil)))) pa_nil)))
      (pss_cons (ps_set (i := 5) scSecond.nd rfl (.inl rfl) (pe_exC (hC.at 20) (hr.mono (by decide)) (by rfl) (pa_cons (pv 1) pa_nil)))
      (pss_cons (ps_expr (pe_bm PySem.F.plainAttrs_list PySem.F.slot_list_append PySem.F.type_list_append mt_append (pv 4) (pa_cons (pe_tup (pa_cons (pv 5) (pa_cons (pe_lst (pa_cons (pe_xv (pv 5)) pa_nil)) (pa_cons (pe_lst (pa_cons (pv 1) pa_nil)) pa_nil)))) pa_nil)))
      (pss_cons (ps_expr (pe_bm PySem.F.plainAttrs_list PySem.F.slot_list_append PySem.F.type_list_append mt_append (pv 4) (pa_cons (pe_tup (pa_cons (pe_exC0 (hC.at 21) (by rfl)) (pa_cons (pe_lst pa_nil) (pa_cons (pe_lst pa_nil) pa_nil)))) pa_nil)))
      (pss_one (ps_ret (pv 4)))))))))))))))))))))), ?_⟩
    refine ⟨Nat.zero_le _, fun p np => ?_⟩
    have h : StF K H p (.int a) (.int t) (.str z) (.str y) [] [some (.int a), some (.int t), some (.str z), some (.str y), some (.ref p), none] (upd H p (.lst [])) := ⟨none, [], rfl, same_new np, np, upd_same, rfl, trivial⟩
    refine step0 h (show 0 < 1000 by decide) fun σ H h => ?_
    refine step1 (hC.at 12).ok (fun _ => rfl) h (show 1 < 1000 by decide) fun σ H h => ?_
    refine step1 (hC.at 13).ok (fun _ => rfl) h (show 2 < 1000 by decide) fun σ H h => ?_
    refine step1 (hC.at 14).ok (fun _ => rfl) h (show 3 < 1000 by decide) fun σ H h => ?_
    refine step0 h (show 4 < 1000 by decide) fun σ H h => ?_
    refine step1 (hC.at 16).ok (fun _ => rfl) h (show 5 < 1000 by decide) fun σ H h => ?_
    refine step1 (hC.at 17).ok (fun _ => rfl) h (show 6 < 1000 by decide) fun σ H h => ?_
    refine step1 (hC.at 18).ok (fun _ => rfl) h (show 7 < 1000 by decide) fun σ H h => ?_
    refine step1 (hC.at 19).ok (fun _ => rfl) h (show 8 < 1000 by decide) fun σ H h => ?_
    refine step1 (hC.at 20).ok (fun _ => rfl) h (show 9 < 1000 by decide) fun σ H h => ?_
    refine step0 h (show 10 < 1000 by decide) fun σ H h => ?_
    obtain ⟨y5, xs, rfl, sm, _, hp, _, he⟩ := h
    exact ⟨_, rfl, q _ p xs sm np hp he.free⟩
abbrev sThird : Stmt := topS 41
theorem scThird : FnScope ["_law_at", "_law_to", "_law_word", "_law_name_here", "_law_found", "_law_one"] ["_law_at", "_law_to", "_law_word", "_law_name_here"] (defScope sThird) := ⟨rfl, rfl, rfl, by decide +kernel, rfl, by decide +kernel, by decide +kernel⟩
def esThird (a t : Int) (z y : Str) : List (Str × List V) := [("BadReading", [.int t, .str y]), ("BadBreadth", []), ("BadBox", [.str y]), ("BadDirections", [.int a]), ("BadStone", []), ("BadMost", []), ("BadChange", [.int t, .str y]), ("BadWish", [.int a]), ("NoNumber", [.int a]), ("BookFull", [])]
theorem ok_Third {f : Addr} {fd : FuncData} (F : Fun K "_law_third" "_law_third" sThird f fd) (hC : AllC P w K mg base) : FnOk P w K mg base CX0 3 f fd ["_law_at", "_law_to", "_law_word", "_law_name_here"] (spRows K esThird) := by
  refine F.ok scThird (fun vs H Q E h => ?_) (fun cdv A outer s H vs Q E hr h => ?_)
  · obtain ⟨a, t, z, y, rfl, _⟩ := h; rfl
  · obtain ⟨a, t, z, y, rfl, q⟩ := h
    refine ⟨_, pss_cons (ps_set (i := 4) scThird.nd rfl (.inl rfl) (pe_lst pa_nil)) (pss_cons (ps_set (i := 5) scThird.nd rfl (.inl rfl) (pe_exC (hC.at 22) (hr.mono (by decide)) (by rfl) (pa_cons (pv 1) (pa_cons (pv 3) pa_nil))))
      (pss_cons (ps_expr (pe_bm PySem.F.plainAttrs_list PySem.F.slot_list_append PySem.F.type_list_append mt_append (pv 4) (pa_cons (pe_tup (pa_cons (pv 5) (pa_cons (pe_lst (pa_cons (pe_xv (pv 5)) (pa_cons (pe_xv (pv 5)) pa_nil))) (pa_cons (pe_lst (pa_cons (pv 1) (pa_cons (pv 3) pa_nil))) pa_nil)))) pa_nil)))
      (pss_cons (ps_expr (pe_bm PySem.F.plainAttrs_list PySem.F.slot_list_append PySem.F.type_list_append mt_append (pv 4) (pa_cons (pe_tup (pa_cons (pe_exC0 (hC.at 23) (by rfl)) (pa_cons (pe_lst pa_nil) (pa_cons (pe_lst pa_nil) pa_nil)))) pa_nil)))
      (pss_cons (ps_set (i := 5) scThird.nd rfl (.inl rfl) (pe_exC (hC.at 24) (hr.mono (by decide)) (by rfl) (pa_cons (pv 3) pa_nil)))
      (pss_cons (ps_expr (pe_bm PySem.F.plainAttrs_list PySem.F.slot_list_append PySem.F.type_list_append mt_append (pv 4) (pa_cons (pe_tup (pa_cons (pv 5) (pa_cons (pe_lst (pa_cons (pe_xv (pv 5)) pa_nil)) (pa_cons (pe_lst (pa_cons (pv 3) pa_nil)) pa_nil)))) pa_nil)))
      (pss_cons (ps_set (i := 5) scThird.nd rfl (.inl rfl) (pe_exC (hC.at 25) (hr.mono (by decide)) (by rfl) (pa_cons (pv 0) pa_nil)))
      (pss_cons (ps_expr (pe_bm PySem.F.plainAttrs_list PySem.F.slot_list_append PySem.F.type_list_append mt_append (pv 4) (pa_cons (pe_tup (pa_cons (pv 5) (pa_cons (pe_lst (pa_cons (pe_xv (pv 5)) pa_nil)) (pa_cons (pe_lst (pa_cons (pv 0) pa_nil)) pa_nil)))) pa_nil)))
      (pss_cons (ps_expr (pe_bm PySem.F.plainAttrs_list PySem.F.slot_list_append PySem.F.type_list_append mt_append (pv 4) (pa_cons (pe_tup (pa_cons (pe_exC0 (hC.at 26) (by rfl)) (pa_cons (pe_lst pa_nil) (pa_cons (pe_lst pa_nil) pa_nil)))) pa_nil)))
      (pss_cons (ps_expr (pe_bm PySem.F.plainAttrs_list PySem.F.slot_list_append PySem.F.type_list_append mt_append (pv 4) (pa_cons (pe_tup (pa_cons (pe_exC0 (hC.at 27) (by rfl)) (pa_cons (pe_lst pa_nil) (pa_cons (pe_lst pa_nil) pa_nil)))) pa_nil)))
      (pss_cons (ps_set (i := 5) scThird.nd rfl (.inl rfl) (pe_exC (hC.at 28) (hr.mono (by decide)) (by rfl) (pa_cons (pv 1) (pa_cons (pv 3) pa_nil))))
      (pss_cons (ps_expr (pe_bm PySem.F.plainAttrs_list PySem.F.slot_list_append PySem.F.type_list_append mt_append (pv 4) (pa_cons (pe_tup (pa_cons (pv 5) (pa_cons (pe_lst (pa_cons (pe_xv (pv 5)) (pa_cons (pe_xv (pv 5)) pa_nil))) (pa_cons (pe_lst (pa_cons (pv 1) (pa_cons (pv 3) pa_nil))) pa_nil)))) pa_nil)))
      (pss_cons (ps_set (i := 5) scThird.nd rfl (.inl rfl) (pe_exC (hC.at 29) (hr.mono (by decide)) (by rfl) (pa_cons (pv 0) pa_nil)))
      (pss_cons (ps_expr (pe_bm PySem.F.plainAttrs_list PySem.F.slot_list_append PySem.F.type_list_append mt_append (pv 4) (pa_cons (pe_tup (pa_cons (pv 5) (pa_cons (pe_lst (pa_cons (pe_xv (pv 5)) pa_nil)) (pa_cons (pe_lst (pa_cons (pv 0) pa_nil)) pa_nil)))) pa_nil)))
      (pss_cons (ps_set (i := 5) scThird.nd rfl (.inl rfl) (pe_exC (hC.at 30) (hr.mono (by decide)) (by rfl) (pa_cons (pv 0) pa_nil)))
      (pss_cons (ps_expr (pe_bm PySem.F.plainAttrs_list PySem.F.slot_list_append PySem.F.type_list_append mt_append (pv 4) (pa_cons (pe_tup (pa_cons (pv 5) (pa_cons (pe_lst (pa_cons (pe_xv (pv 5)) pa_nil)) (pa_cons (pe_lst (pa_cons (pv 0) pa_nil)) pa_nil)))) pa_nil)))
      (pss_cons (ps_expr (pe_bm PySem.F.plainAttrs_list PySem.F.slot_list_append PySem.F.type_list_append mt_append (pv 4) (pa_cons (pe_tup (pa_cons (pe_exC0 (hC.at 31) (by rfl)) (pa_cons (pe_lst pa_nil) (pa_cons (pe_lst pa_nil) pa_nil)))) pa_nil)))
      (pss_one (ps_ret (pv 4))))))))))))))))))), ?_⟩
    refine ⟨Nat.zero_le _, fun p np => ?_⟩
    have h : StF K H p (.int a) (.int t) (.str z) (.str y) [] [some (.int a), some (.int t), some (.str z), some (.str y), some (.ref p), none] (upd H p (.lst [])) := ⟨none, [], rfl, same_new np, np, upd_same, rfl, trivial⟩
    refine step2 (hC.at 22).ok (by decide) (fun _ => rfl) (fun _ => rfl) h (show 0 < 1000 by decide) fun σ H h => ?_
    refine step0 h (show 1 < 1000 by decide) fun σ H h => ?_
    refine step1 (hC.at 24).ok (fun _ => rfl) h (show 2 < 1000 by decide) fun σ H h => ?_
    refine step1 (hC.at 25).ok (fun _ => rfl) h (show 3 < 1000 by decide) fun σ H h => ?_
    refine step0 h (show 4 < 1000 by decide) fun σ H h => ?_
    refine step0 h (show 5 < 1000 by decide) fun σ H h => ?_
    refine step2 (hC.at 28).ok (by decide) (fun _ => rfl) (fun _ => rfl) h (show 6 < 1000 by decide) fun σ H h => ?_
    refine step1 (hC.at 29).ok (fun _ => rfl) h (show 7 < 1000 by decide) fun σ H h => ?_
    refine step1 (hC.at 30).ok (fun _ => rfl) h (show 8 < 1000 by decide) fun σ H h => ?_
    refine step0 h (show 9 < 1000 by decide) fun σ H h => ?_
    obtain ⟨y5, xs, rfl, sm, _, hp, _, he⟩ := h
    exact ⟨_, rfl, q _ p xs sm np hp he.free⟩
abbrev sClasses : Stmt := topS 42
theorem scClasses : FnScope ["_law_e", "_law_found"] ["_law_e"] (defScope sClasses) := ⟨rfl, rfl, rfl, by decide +kernel, rfl, by decide +kernel, by decide +kernel⟩
theorem ok_Classes {f : Addr} {fd : FuncData} (F : Fun K "_law_classes" "_law_classes" sClasses f fd) (hC : AllC P w K mg base) (mis : mg "isinstance" = none) : FnOk P w K mg base CX0 1 f fd ["_law_e"] (spClasses K) := by
  refine F.ok scClasses (fun vs H Q E h => ?_) (fun cdv A outer s H vs Q E hr h => ?_)
  · obtain ⟨e, C, fs, b, rfl, _⟩ := h; rfl
  · obtain ⟨e, C, fs, b, rfl, hx, T, hb, q⟩ := h
    refine ⟨_, pss_cons (ps_set (i := 1) scClasses.nd rfl (.inl rfl) (pe_lst (pa_cons (pe_callB call_isX (by rfl) mis boot_isinstance (pa_cons (pv 0) (pa_cons (pe_glob (v := .ref (He.ga K "BadRatio")) (by rfl) (hC.at 0).g rfl) pa_nil))) (pa_cons (pe_callB call_isX (by rfl) mis boot_isinstance (pa_cons (pv 0) (pa_cons (pe_glob (v := .ref (He.ga K "BadPlace")) (by rfl) (hC.at 1).g rfl) pa_nil))) (pa_cons (pe_callB call_isX (by rfl) mis boot_isinstance (pa_cons (pv 0) (pa_cons (pe_glob (v := .ref (He.ga K "BadDirection")) (by rfl) (hC.at 2).g rfl) pa_nil))) (pa_cons (pe_callB call_isX (by rfl) mis boot_isinstance (pa_cons (pv 0) (pa_cons (pe_glob (v := .ref (He.ga K "BadAmount")) (by rfl) (hC.at 3).g rfl) pa_nil))) pa_nil))))))
      (pss_cons (ps_set (i := 1) scClasses.nd rfl (.inl rfl) (pe_op op_cat (pv 1) (pe_lst (pa_cons (pe_callB call_isX (by rfl) mis boot_isinstance (pa_cons (pv 0) (pa_cons (pe_glob (v := .ref (He.ga K "BadSize")) (by rfl) (hC.at 4).g rfl) pa_nil))) (pa_cons (pe_callB call_isX (by rfl) mis boot_isinstance (pa_cons (pv 0) (pa_cons (pe_glob (v := .ref (He.ga K "BadPatch")) (by rfl) (hC.at 5).g rfl) pa_nil))) (pa_cons (pe_callB call_isX (by rfl) mis boot_isinstance (pa_cons (pv 0) (pa_cons (pe_glob (v := .ref (He.ga K "BadTable")) (by rfl) (hC.at 6).g rfl) pa_nil))) (pa_cons (pe_callB call_isX (by rfl) mis boot_isinstance (pa_cons (pv 0) (pa_cons (pe_glob (v := .ref (He.ga K "BadText")) (by rfl) (hC.at 7).g rfl) pa_nil))) pa_nil)))))))
      (pss_cons (ps_set (i := 1) scClasses.nd rfl (.inl rfl) (pe_op op_cat (pv 1) (pe_lst (pa_cons (pe_callB call_isX (by rfl) mis boot_isinstance (pa_cons (pv 0) (pa_cons (pe_glob (v := .ref (He.ga K "BadFact")) (by rfl) (hC.at 8).g rfl) pa_nil))) (pa_cons (pe_callB call_isX (by rfl) mis boot_isinstance (pa_cons (pv 0) (pa_cons (pe_glob (v := .ref (He.ga K "BadCase")) (by rfl) (hC.at 9).g rfl) pa_nil))) (pa_cons (pe_callB call_isX (by rfl) mis boot_isinstance (pa_cons (pv 0) (pa_cons (pe_glob (v := .ref (He.ga K "NoFact")) (by rfl) (hC.at 10).g rfl) pa_nil))) (pa_cons (pe_callB call_isX (by rfl) mis boot_isinstance (pa_cons (pv 0) (pa_cons (pe_glob (v := .ref (He.ga K "NoStones")) (by rfl) (hC.at 11).g rfl) pa_nil))) pa_nil)))))))
      (pss_cons (ps_set (i := 1) scClasses.nd rfl (.inl rfl) (pe_op op_cat (pv 1) (pe_lst (pa_cons (pe_callB call_isX (by rfl) mis boot_isinstance (pa_cons (pv 0) (pa_cons (pe_glob (v := .ref (He.ga K "BadChoice")) (by rfl) (hC.at 12).g rfl) pa_nil))) (pa_cons (pe_callB call_isX (by rfl) mis boot_isinstance (pa_cons (pv 0) (pa_cons (pe_glob (v := .ref (He.ga K "NotFit")) (by rfl) (hC.at 13).g rfl) pa_nil))) (pa_cons (pe_callB call_isX (by rfl) mis boot_isinstance (pa_cons (pv 0) (pa_cons (pe_glob (v := .ref (He.ga K "BadLots")) (by rfl) (hC.at 14).g rfl) pa_nil))) (pa_cons (pe_callB call_isX (by rfl) mis boot_isinstance (pa_cons (pv 0) (pa_cons (pe_glob (v := .ref (He.ga K "NotMet")) (by rfl) (hC.at 15).g rfl) pa_nil))) pa_nil)))))))
      (pss_cons (ps_set (i := 1) scClasses.nd rfl (.inl rfl) (pe_op op_cat (pv 1) (pe_lst (pa_cons (pe_callB call_isX (by rfl) mis boot_isinstance (pa_cons (pv 0) (pa_cons (pe_glob (v := .ref (He.ga K "BadClaim")) (by rfl) (hC.at 16).g rfl) pa_nil))) (pa_cons (pe_callB call_isX (by rfl) mis boot_isinstance (pa_cons (pv 0) (pa_cons (pe_glob (v := .ref (He.ga K "NoArea")) (by rfl) (hC.at 17).g rfl) pa_nil))) (pa_cons (pe_callB call_isX (by rfl) mis boot_isinstance (pa_cons (pv 0) (pa_cons (pe_glob (v := .ref (He.ga K "BadCorner")) (by rfl) (hC.at 18).g rfl) pa_nil))) (pa_cons (pe_callB call_isX (by rfl) mis boot_isinstance (pa_cons (pv 0) (pa_cons (pe_glob (v := .ref (He.ga K "BadKept")) (by rfl) (hC.at 19).g rfl) pa_nil))) pa_nil)))))))
      (pss_cons (ps_set (i := 1) scClasses.nd rfl (.inl rfl) (pe_op op_cat (pv 1) (pe_lst (pa_cons (pe_callB call_isX (by rfl) mis boot_isinstance (pa_cons (pv 0) (pa_cons (pe_glob (v := .ref (He.ga K "TooMany")) (by rfl) (hC.at 20).g rfl) pa_nil))) (pa_cons (pe_callB call_isX (by rfl) mis boot_isinstance (pa_cons (pv 0) (pa_cons (pe_glob (v := .ref (He.ga K "BadLine")) (by rfl) (hC.at 21).g rfl) pa_nil))) (pa_cons (pe_callB call_isX (by rfl) mis boot_isinstance (pa_cons (pv 0) (pa_cons (pe_glob (v := .ref (He.ga K "BadReading")) (by rfl) (hC.at 22).g rfl) pa_nil))) (pa_cons (pe_callB call_isX (by rfl) mis boot_isinstance (pa_cons (pv 0) (pa_cons (pe_glob (v := .ref (He.ga K "BadBreadth")) (by rfl) (hC.at 23).g rfl) pa_nil))) pa_nil)))))))
      (pss_cons (ps_set (i := 1) scClasses.nd rfl (.inl rfl) (pe_op op_cat (pv 1) (pe_lst (pa_cons (pe_callB call_isX (by rfl) mis boot_isinstance (pa_cons (pv 0) (pa_cons (pe_glob (v := .ref (He.ga K "BadBox")) (by rfl) (hC.at 24).g rfl) pa_nil))) (pa_cons (pe_callB call_isX (by rfl) mis boot_isinstance (pa_cons (pv 0) (pa_cons (pe_glob (v := .ref (He.ga K "BadDirections")) (by rfl) (hC.at 25).g rfl) pa_nil))) (pa_cons (pe_callB call_isX (by rfl) mis boot_isinstance (pa_cons (pv 0) (pa_cons (pe_glob (v := .ref (He.ga K "BadStone")) (by rfl) (hC.at 26).g rfl) pa_nil))) (pa_cons (pe_callB call_isX (by rfl) mis boot_isinstance (pa_cons (pv 0) (pa_cons (pe_glob (v := .ref (He.ga K "BadMost")) (by rfl) (hC.at 27).g rfl) pa_nil))) pa_nil)))))))
      (pss_cons (ps_set (i := 1) scClasses.nd rfl (.inl rfl) (pe_op op_cat (pv 1) (pe_lst (pa_cons (pe_callB call_isX (by rfl) mis boot_isinstance (pa_cons (pv 0) (pa_cons (pe_glob (v := .ref (He.ga K "BadChange")) (by rfl) (hC.at 28).g rfl) pa_nil))) (pa_cons (pe_callB call_isX (by rfl) mis boot_isinstance (pa_cons (pv 0) (pa_cons (pe_glob (v := .ref (He.ga K "BadWish")) (by rfl) (hC.at 29).g rfl) pa_nil))) (pa_cons (pe_callB call_isX (by rfl) mis boot_isinstance (pa_cons (pv 0) (pa_cons (pe_glob (v := .ref (He.ga K "NoNumber")) (by rfl) (hC.at 30).g rfl) pa_nil))) (pa_cons (pe_callB call_isX (by rfl) mis boot_isinstance (pa_cons (pv 0) (pa_cons (pe_glob (v := .ref (He.ga K "BookFull")) (by rfl) (hC.at 31).g rfl) pa_nil))) pa_nil)))))))
      (pss_one (ps_ret (pv 1)))))))))), ?_⟩
    refine ⟨.ref e, rfl, e, C, fs, _, _, b 0, rfl, hx, T, .own _, hb 0 rfl, .ref e, rfl, e, C, fs, _, _, b 1, rfl, hx, T, .own _, hb 1 rfl, .ref e, rfl, e, C, fs, _, _, b 2, rfl, hx, T, .own _, hb 2 rfl, .ref e, rfl, e, C, fs, _, _, b 3, rfl, hx, T, .own _, hb 3 rfl, (by show 4 ≤ sizeLine; decide), fun p0 n0 => ?_⟩
    have h : StC H e C fs [.bl (b 0), .bl (b 1), .bl (b 2), .bl (b 3)] [some (.ref e), some (.ref p0)] (upd H p0 (.lst [.bl (b 0), .bl (b 1), .bl (b 2), .bl (b 3)])) := ⟨p0, rfl, same_new n0, n0, hx.same (same_new n0), upd_same⟩
    refine cls4 T (hb 4 rfl) (hb 5 rfl) (hb 6 rfl) (hb 7 rfl) h (show 4 ≤ 1000 by decide) fun σ H h => ?_
    refine cls4 T (hb 8 rfl) (hb 9 rfl) (hb 10 rfl) (hb 11 rfl) h (show 8 ≤ 1000 by decide) fun σ H h => ?_
    refine cls4 T (hb 12 rfl) (hb 13 rfl) (hb 14 rfl) (hb 15 rfl) h (show 12 ≤ 1000 by decide) fun σ H h => ?_
    refine cls4 T (hb 16 rfl) (hb 17 rfl) (hb 18 rfl) (hb 19 rfl) h (show 16 ≤ 1000 by decide) fun σ H h => ?_
    refine cls4 T (hb 20 rfl) (hb 21 rfl) (hb 22 rfl) (hb 23 rfl) h (show 20 ≤ 1000 by decide) fun σ H h => ?_
    refine cls4 T (hb 24 rfl) (hb 25 rfl) (hb 26 rfl) (hb 27 rfl) h (show 24 ≤ 1000 by decide) fun σ H h => ?_
    refine cls4 T (hb 28 rfl) (hb 29 rfl) (hb 30 rfl) (hb 31 rfl) h (show 28 ≤ 1000 by decide) fun σ H h => ?_
    obtain ⟨p, rfl, s7, f7, _, g7⟩ := h
    exact ⟨_, rfl, q _ p s7 f7 g7⟩
end
end FK
set_option Elab.async false
set_option linter.all false
set_option maxRecDepth 100000
set_option maxHeartbeats 4000000
namespace FK
open PySem PySem.Spec PyProof.Rows L2 FX
theorem itT {c : Prop} [Decidable c] {A B : Prop} (h : c) (a : A) : if c then A else B := by rw [if_pos h]; exact a
theorem itF {c : Bool} {A B : Prop} (h : c = false) (b : B) : if c = true then A else B := by rw [h, if_neg Bool.false_ne_true]; exact b
/-! data that is compared -/
def okV : V → Bool
  | .int _ => true
  | .bl _ => true
  | .str z => PyData.strOk z
  | _ => false
def dOf : V → PyData
  | .int i => .int i
  | .bl b => .bool b
  | .str z => .str z
  | _ => .none
theorem dp_one {K : PySem.W.Frag} {H : Hp} : ∀ {v : V}, okV v = true → Dp K H v (dOf v)
  | .int i, _ => .int i
  | .bl b, _ => .bl b
  | .str z, _ => .str z
  | .non, h => by cases h
  | .byt _, h => by cases h
  | .flt _, h => by cases h
  | .ref _, h => by cases h
  | .ty _, h => by cases h
theorem dp_all {K : PySem.W.Frag} {H : Hp} : ∀ {vs : List V}, vs.all okV = true → DpAll K H vs (vs.map dOf)
  | [], _ => .nil
  | v :: vs, h => by
    rw [List.all_cons, Bool.and_eq_true] at h
    exact .cons (dp_one h.1) (dp_all h.2)
theorem lay_one : ∀ {v : V}, okV v = true → PyData.canLay0 (dOf v) = true ∧ PyData.depth (dOf v) = 0
  | .int i, _ => ⟨by simp [dOf, PyData.canLay0], by simp [dOf, PyData.depth]⟩
  | .bl b, _ => ⟨by simp [dOf, PyData.canLay0], by simp [dOf, PyData.depth]⟩
  | .str z, h => ⟨by simp only [dOf, PyData.canLay0]; exact h, by simp [dOf, PyData.depth]⟩
  | .non, h => by cases h
  | .byt _, h => by cases h
  | .flt _, h => by cases h
  | .ref _, h => by cases h
  | .ty _, h => by cases h
theorem lay_all : ∀ {vs : List V}, vs.all okV = true → PyData.canLayAll0 (vs.map dOf) = true ∧ PyData.depthAll (vs.map dOf) = 0
  | [], _ => ⟨by simp [PyData.canLayAll0], by simp [PyData.depthAll]⟩
  | v :: vs, h => by
    rw [List.all_cons, Bool.and_eq_true] at h
    obtain ⟨a, b⟩ := lay_one h.1
    obtain ⟨c, d⟩ := lay_all h.2
    exact ⟨by simp [PyData.canLayAll0, a, c], by simp [PyData.depthAll, b, d]⟩
theorem lay_list {vs : List V} (h : vs.all okV = true) : SeqAt.shaped (.list (vs.map dOf)) = true ∧ PyData.canLay0 (.list (vs.map dOf)) = true := by
  obtain ⟨a, b⟩ := lay_all h
  have c : PyData.canLay0 (.list (vs.map dOf)) = true := by simp only [PyData.canLay0]; exact a
  exact ⟨by unfold SeqAt.shaped; rw [c]; simp [PyData.depth, b], c⟩
/-- two lists of the same flat data: what == says, what != says -/
theorem eq_lists {K : PySem.W.Frag} {H : Hp} {a b : Addr} {vs : List V} {Q : VK} (h : vs.all okV = true) (ha : SqL K H a vs) (hb : SqL K H b vs) (q : Q (.bl true) H) : rEqD K (.ref a) (.ref b) H Q := by
  obtain ⟨s, c⟩ := lay_list h
  refine ⟨_, _, .lst ha (dp_all h), .lst hb (dp_all h), s, s, ?_⟩
  rw [SeqAt.eqv_refl _ c]; exact q
theorem ne_lists {K : PySem.W.Frag} {H : Hp} {a b : Addr} {vs : List V} {Q : VK} (h : vs.all okV = true) (ha : SqL K H a vs) (hb : SqL K H b vs) (q : Q (.bl false) H) : rNeD K (.ref a) (.ref b) H Q := by
  obtain ⟨s, c⟩ := lay_list h
  refine ⟨_, _, .lst ha (dp_all h), .lst hb (dp_all h), s, s, ?_⟩
  rw [SeqAt.eqv_refl _ c]; exact q
/-! the raising -/
abbrev sRaised : Stmt := topS 43
abbrev sLaw : Stmt := topS 44
theorem scRaised : FnScope ["_law_at", "_law_word", "_law_told", "wrong"] ["_law_at", "_law_word"] (defScope sRaised) := ⟨rfl, rfl, rfl, by decide +kernel, rfl, by decide +kernel, by decide +kernel⟩
theorem scLaw : FnScope ["_law_script", "_law_hand_here", "_law_at", "_law_to", "_law_word", "_law_name_here", "_law_made", "_law_k", "_law_error", "_law_told", "_law_due", "_law_base", "_law_spot"] ["_law_script"] (defScope sLaw) := ⟨rfl, rfl, rfl, by decide +kernel, rfl, by decide +kernel, by decide +kernel⟩
theorem mk_read {C : Addr} {names : List Str} {ws : List V} {H : Hp} {Q : XK} (hl : ws.length = names.length) (hz : ws.length ≤ 1000) (q : ∀ d H2, H2 d = some (.xd (names.zip ws).reverse) → Same H H2 → Q (.ref C) (some d) H2) :
    ws.length ≤ 1000 ∧ ∀ a, H a = none → spInit C names (.ref a :: (ws ++ [])) (upd H a (exo a C none)) (fun v H2 => v = .non ∧ ∃ (d : Addr) (fs : List (Str × V)), H2 a = some (exo a C (some d)) ∧ H2 d = some (exd d fs) ∧ H d = none ∧ Q (.ref C) (some d) (upd (del H2 a) d (.xd fs))) (fun _ _ _ => False) := by
  refine ⟨hz, fun a na => ⟨a, ws ++ [], rfl, by rw [List.append_nil]; exact hl, upd_same, fun H' d keep ea ed nd => ?_⟩⟩
  rw [List.append_nil] at ed
  have nda : d ≠ a := fun z => by rw [z, upd_same] at nd; cases nd
  rw [upd_ne nda] at nd
  refine ⟨rfl, d, _, ea, ed, nd, q d _ upd_same fun b o z => ?_⟩
  have nb : b ≠ a := ne_of_none z na
  rw [upd_ne (ne_of_none z nd), del_ne nb]
  exact keep b o nb (by rw [upd_ne nb]; exact z)
theorem mkO2 {C : Addr} {g k : Str} {i j : Nat} {v u : V} {σ : L2.St} {H : Hp} {Q : XK} (hi : σ[i]? = some (some v)) (hj : σ[j]? = some (some u)) (q : ∀ d H2, H2 d = some (.xd [(k, u), (g, v)]) → Same H H2 → Q (.ref C) (some d) H2) :
    tMkO C (spInit C [g, k]) [] (tCons (tVar i) (tCons (tVar j) tNil)) σ H Q := ⟨v, hi, u, hj, mk_read (ws := [v, u]) (Q := Q) rfl (show 2 ≤ 1000 by decide) q⟩
theorem mkO1 {C : Addr} {g : Str} {i : Nat} {v : V} {σ : L2.St} {H : Hp} {Q : XK} (hi : σ[i]? = some (some v)) (q : ∀ d H2, H2 d = some (.xd [(g, v)]) → Same H H2 → Q (.ref C) (some d) H2) :
    tMkO C (spInit C [g]) [] (tCons (tVar i) tNil) σ H Q := ⟨v, hi, mk_read (ws := [v]) (Q := Q) rfl (show 1 ≤ 1000 by decide) q⟩
theorem xf_of {K : PySem.W.Frag} {C : Addr} (T : ExcC K C) : XfC K C := ⟨T.hg, T.hk, T.hs, T.hd⟩
def spRaised : Sp := fun vs H Q _ => ∃ (a : Int) (z : Str), vs = [.int a, .str z] ∧ ∀ H' p, Same H H' → H p = none → H' p = some (.lst [.bl true, .bl true, .bl true]) → Q (.ref p) H'
/-- between two tries -/
def StR (H0 : Hp) (p : Addr) (a z : V) (bs : List V) (σ : L2.St) (H : Hp) : Prop := σ = [some a, some z, some (.ref p), none] ∧ Same H0 H ∧ H0 p = none ∧ H p = some (.lst bs)
section
variable {P : Program} {w : World} {K : PySem.W.Frag} {mg : Str → Option Value} {base : Heap}
/-- what is known of the classes among each other -/
structure Rel (K : PySem.W.Frag) : Prop where
  each : ∀ (i j : Nat) {x y : Str}, nm[i]? = some x → nm[j]? = some y → PySem.W.kitOne K (.ref (He.ga K x)) (.ref (He.ga K y)) = some (decide (j = i))
  felt : ∀ (i : Nat) {x : Str}, nm[i]? = some x → PySem.W.kitOne K (.ref (He.ga K x)) (.ref (He.ga K "FeltError")) = some true
  ve : ∀ (i : Nat) {x : Str}, nm[i]? = some x → PySem.W.kitOne K (.ref (He.ga K x)) (.type "ValueError") = some true
  base : ∀ (j : Nat) {y : Str}, nm[j]? = some y → PySem.W.kitOne K (.ref (He.ga K "FeltError")) (.ref (He.ga K y)) = some false
  baseVe : PySem.W.kitOne K (.ref (He.ga K "FeltError")) (.type "ValueError") = some true
  x1 : PySem.W.exmOne K (.ref (He.ga K "BadCase")) (.ref (He.ga K "BadFact")) = some false
  x2 : PySem.W.exmOne K (.ref (He.ga K "BadCase")) (.ref (He.ga K "FeltError")) = some true
  x3 : PySem.W.exmOne K (.ref (He.ga K "NoFact")) (.ref (He.ga K "NoArea")) = some false
  x4 : PySem.W.exmOne K (.ref (He.ga K "NoFact")) (.ref (He.ga K "FeltError")) = some true
  x5 : PySem.W.exmOne K (.ref (He.ga K "NotMet")) (.ref (He.ga K "NoStones")) = some false
  x6 : PySem.W.exmOne K (.ref (He.ga K "NotMet")) (.ref (He.ga K "FeltError")) = some true
abbrev tAp (K : PySem.W.Frag) (te : TE) : TS := tDrop (tBM K "list" rAppend (tVar 2) (tCons te tNil))
abbrev tIp (K : PySem.W.Frag) (c : V) (a : Addr) (cls : Value) (d : Option Addr) : TE := tCB (rIsP K a cls d) (tCons (tVar 3) (tCons (tC c) tNil))
def ts1 (K : PySem.W.Frag) : Addr → Value → Option Addr → TS := fun a cls d => tAp K (tAndV (tIp K (.ref (He.ga K "BadCase")) a cls d) (tAndV (tOp rEq (tXf a cls d (He.ga K "BadCase") "index" (tVar 3)) (tVar 0)) (tOp rEq (tXf a cls d (He.ga K "BadCase") "what" (tVar 3)) (tVar 1))))
def ts2 (K : PySem.W.Frag) : Addr → Value → Option Addr → TS := fun a cls d => tAp K (tAndV (tIp K (.ref (He.ga K "NoFact")) a cls d) (tAndV (tIp K (.ty "ValueError") a cls d) (tOp rEq (tXf a cls d (He.ga K "NoFact") "number" (tVar 3)) (tVar 0))))
def ts3 (K : PySem.W.Frag) : Addr → Value → Option Addr → TS := fun a cls d => tAp K (tAndV (tIp K (.ref (He.ga K "NotMet")) a cls d) (tIp K (.ty "ValueError") a cls d))
theorem ok_Raised {f : Addr} {fd : FuncData} (F : Fun K "_law_raised" "_law_raised" sRaised f fd) (hC : AllC P w K mg base) (fe : CT P w K mg base "FeltError" []) (R : Rel K) (mis : mg "isinstance" = none) (mve : mg "ValueError" = none) :
    FnOk P w K mg base CX0 3 f fd ["_law_at", "_law_word"] spRaised := by
  refine F.ok scRaised (fun vs H Q E h => ?_) (fun cdv A outer s H vs Q E hr h => ?_)
  · obtain ⟨a, z, rfl, _⟩ := h; rfl
  · obtain ⟨a, z, rfl, q⟩ := h
    obtain ⟨fd1, ps1, F1, b1⟩ := (hC.at 9).con (List.cons_ne_nil _ _)
    obtain ⟨fd2, ps2, F2, b2⟩ := (hC.at 10).con (List.cons_ne_nil _ _)
    refine' ⟨_, pss_cons (ps_set (i := 2) scRaised.nd rfl (.inl rfl) (pe_lst pa_nil))
      (pss_cons (ps_try_nm (l := [(.ref (He.ga K "BadFact"), some 3, fun _ _ _ => tNever), (.ref (He.ga K "FeltError"), some 3, ts1 K)]) rfl rfl takes0 (fun W pn xe tk _ => pss_one (ps_raise rfl tk (pmk_oex (hC.at 9).ok.o ((hC.at 9).ok.ini (List.cons_ne_nil _ _)) ((hC.at 9).ok.ity (List.cons_ne_nil _ _)) F1 hr b1 .nil pass0 (by rfl) (hC.at 9).g (pa_cons (pv 0) (pa_cons (pv 1) pa_nil))))) ?h1)
      (pss_cons (ps_try_nm (l := [(.ref (He.ga K "NoArea"), some 3, fun _ _ _ => tNever), (.ref (He.ga K "FeltError"), some 3, ts2 K)]) rfl rfl takes0 (fun W pn xe tk _ => pss_one (ps_raise rfl tk (pmk_oex (hC.at 10).ok.o ((hC.at 10).ok.ini (List.cons_ne_nil _ _)) ((hC.at 10).ok.ity (List.cons_ne_nil _ _)) F2 hr b2 .nil pass0 (by rfl) (hC.at 10).g (pa_cons (pv 0) pa_nil)))) ?h2)
      (pss_cons (ps_try_nm (l := [(.ref (He.ga K "NoStones"), none, fun _ _ _ => tNever), (.ref (He.ga K "FeltError"), some 3, ts3 K)]) rfl rfl takes0 (fun W pn xe tk _ => pss_one (ps_raise rfl tk (pmk_ex0 H rfl rfl (hC.at 15).ok.o ((hC.at 15).ok.xin rfl) (by rfl) (hC.at 15).g))) ?h3)
      (pss_one (ps_ret (pv 2)))))), ?main⟩
    case h1 => exact .named (names_own (by rfl) (hC.at 8).g) scRaised.nd rfl rfl (fun a oe cls d pn _ _ => pss_never) (.named (names_own (by rfl) fe.g) scRaised.nd rfl rfl (fun a oe cls d pn hz hf => pss_one (ps_expr (pe_bm PySem.F.plainAttrs_list PySem.F.slot_list_append PySem.F.type_list_append mt_append (pv 2) (pa_cons (pe_and (pe_callB (call_isP hz hf) (by rfl) mis boot_isinstance (pa_cons (pv 3) (pa_cons (pe_glob (v := .ref (He.ga K "BadCase")) (by rfl) (hC.at 9).g rfl) pa_nil))) (pe_and (pe_cmpR op_eq (pe_xf (xf_of (hC.at 9).ok.is) ((hC.at 9).ok.no "index" (by decide)) hz hf (pv 3)) (pv 0) (nomark _)) (pe_one (pe_cmpR op_eq (pe_xf (xf_of (hC.at 9).ok.is) ((hC.at 9).ok.no "what" (by decide)) hz hf (pv 3)) (pv 1) (nomark _))))) pa_nil)))) .nil)
    case h2 => exact .named (names_own (by rfl) (hC.at 17).g) scRaised.nd rfl rfl (fun a oe cls d pn _ _ => pss_never) (.named (names_own (by rfl) fe.g) scRaised.nd rfl rfl (fun a oe cls d pn hz hf => pss_one (ps_expr (pe_bm PySem.F.plainAttrs_list PySem.F.slot_list_append PySem.F.type_list_append mt_append (pv 2) (pa_cons (pe_and (pe_callB (call_isP hz hf) (by rfl) mis boot_isinstance (pa_cons (pv 3) (pa_cons (pe_glob (v := .ref (He.ga K "NoFact")) (by rfl) (hC.at 10).g rfl) pa_nil))) (pe_and (pe_callB (call_isP hz hf) (by rfl) mis boot_isinstance (pa_cons (pv 3) (pa_cons (pe_bltn (v := .ty "ValueError") (by rfl) mve boot_ValueError rfl) pa_nil))) (pe_one (pe_cmpR op_eq (pe_xf (xf_of (hC.at 10).ok.is) ((hC.at 10).ok.no "number" (by decide)) hz hf (pv 3)) (pv 0) (nomark _))))) pa_nil)))) .nil)
    case h3 => exact .plain (names_own (by rfl) (hC.at 11).g) (fun a oe cls d pn _ _ => pss_never) (.named (names_own (by rfl) fe.g) scRaised.nd rfl rfl (fun a oe cls d pn hz hf => pss_one (ps_expr (pe_bm PySem.F.plainAttrs_list PySem.F.slot_list_append PySem.F.type_list_append mt_append (pv 2) (pa_cons (pe_and (pe_callB (call_isP hz hf) (by rfl) mis boot_isinstance (pa_cons (pv 3) (pa_cons (pe_glob (v := .ref (He.ga K "NotMet")) (by rfl) (hC.at 15).g rfl) pa_nil))) (pe_one (pe_callB (call_isP hz hf) (by rfl) mis boot_isinstance (pa_cons (pv 3) (pa_cons (pe_bltn (v := .ty "ValueError") (by rfl) mve boot_ValueError rfl) pa_nil))))) pa_nil)))) .nil)
    refine ⟨Nat.zero_le _, fun p np => ?_⟩
    have s0 : Same H (upd H p (.lst [])) := same_new np
    have p0 : upd H p (.lst []) p = some (.lst []) := upd_same
    generalize upd H p (.lst []) = H1 at s0 p0 ⊢
    -- the first
    dsimp only [gName, tSeq, endsAs, inAs]
    refine mkO2 (v := .int a) (u := .str z) (by rfl) (by rfl) fun d H2 ed s2 => ?_
    refine ⟨false, R.x1, (fun z => nomatch z), fun _ => ⟨true, R.x2, fun _ e ne => ?_, (fun z => nomatch z)⟩⟩
    refine ⟨.ref p, rfl, .inl ⟨rfl, _, .inl (.inl (s2 _ _ p0))⟩, .ref e, rfl, _, _, _, true, rfl, rfl, (hC.at 9).ok.is, .inr ⟨d, _, rfl, ed⟩, .own _, ?_, true, rfl, itT rfl ?_⟩
    · exact R.each 9 9 rfl rfl
    refine ⟨.ref e, rfl, rfl, rfl, d, _, .int a, rfl, ed, rfl, .int a, rfl, rfl, _, rfl, itT (decide_eq_true rfl) ?_⟩
    refine ⟨.ref e, rfl, rfl, rfl, d, _, .str z, rfl, ed, rfl, .str z, rfl, rfl, ?_⟩
    rw [decide_eq_true (rfl : V.str z = V.str z)]
    refine ⟨p, _, _, rfl, rfl, s2 _ _ p0, small1000 (Nat.zero_le _), ?_⟩
    have s3 : Same H (upd H2 p (.lst ([] ++ [.bl true]))) := fun b o z => by rw [upd_ne (ne_of_none z np)]; exact s2 _ _ (s0 _ _ z)
    have p3 : upd H2 p (.lst ([] ++ [.bl true])) p = some (.lst [.bl true]) := upd_same
    generalize upd H2 p (.lst ([] ++ [.bl true])) = H3 at s3 p3 ⊢
    -- the second
    dsimp only [gName, tSeq, endsAs, inAs]
    refine mkO1 (v := .int a) (by rfl) fun d H4 ed s4 => ?_
    refine ⟨false, R.x3, (fun z => nomatch z), fun _ => ⟨true, R.x4, fun _ e ne => ?_, (fun z => nomatch z)⟩⟩
    refine ⟨.ref p, rfl, .inl ⟨rfl, _, .inl (.inl (s4 _ _ p3))⟩, .ref e, rfl, _, _, _, true, rfl, rfl, (hC.at 10).ok.is, .inr ⟨d, _, rfl, ed⟩, .own _, ?_, true, rfl, itT rfl ?_⟩
    · exact R.each 10 10 rfl rfl
    refine ⟨.ref e, rfl, _, _, _, true, rfl, rfl, (hC.at 10).ok.is, .inr ⟨d, _, rfl, ed⟩, .ty _, R.ve 10 rfl, true, rfl, itT rfl ?_⟩
    refine ⟨.ref e, rfl, rfl, rfl, d, _, .int a, rfl, ed, rfl, .int a, rfl, rfl, ?_⟩
    rw [decide_eq_true (rfl : V.int a = V.int a)]
    refine ⟨p, _, _, rfl, rfl, s4 _ _ p3, small1000 (by show 1 ≤ 1000; decide), ?_⟩
    have s5 : Same H (upd H4 p (.lst ([.bl true] ++ [.bl true]))) := fun b o z => by rw [upd_ne (ne_of_none z np)]; exact s4 _ _ (s3 _ _ z)
    have p5 : upd H4 p (.lst ([.bl true] ++ [.bl true])) p = some (.lst [.bl true, .bl true]) := upd_same
    generalize upd H4 p (.lst ([.bl true] ++ [.bl true])) = H5 at s5 p5 ⊢
    -- the third
    refine ⟨fun b nb => s5.free nb, ?_⟩
    refine ⟨false, R.x5, (fun z => nomatch z), fun _ => ⟨true, R.x6, fun _ e ne => ?_, (fun z => nomatch z)⟩⟩
    refine ⟨.ref p, rfl, .inl ⟨rfl, _, .inl (.inl p5)⟩, .ref e, rfl, _, _, _, true, rfl, rfl, (hC.at 15).ok.is, .inl rfl, .own _, ?_, true, rfl, itT rfl ?_⟩
    · exact R.each 15 15 rfl rfl
    refine ⟨.ref e, rfl, _, _, _, true, rfl, rfl, (hC.at 15).ok.is, .inl rfl, .ty _, R.ve 15 rfl, ?_⟩
    refine ⟨p, _, _, rfl, rfl, p5, small1000 (by show 2 ≤ 1000; decide), ?_⟩
    exact ⟨_, rfl, q _ p (fun b o z => by rw [upd_ne (ne_of_none z np)]; exact s5 _ _ z) np upd_same⟩
end
end FK
set_option Elab.async false
set_option linter.all false
set_option maxRecDepth 100000
set_option maxHeartbeats 4000000
namespace FK
open PySem PySem.Spec PyProof.Rows L2 FX
def spLaw (K : PySem.W.Frag) : Sp := fun vs H Q _ => ∃ (a : Addr) (ns : List Int), vs = [.ref a] ∧ SqL K H a (ns.map V.int) ∧ ns.length ≤ 63 ∧ ∀ H', Q (.bl true) H'
def esAll (a t : Int) (z y : Str) : List (Str × List V) := (esFirst a t z y ++ esSecond a t z y) ++ esThird a t z y
theorem es_len {a t : Int} {z y : Str} : (esAll a t z y).length = 32 := rfl
theorem es_nm {a t : Int} {z y : Str} : (esAll a t z y).map (·.1) = nm := rfl
theorem es_ok {a t : Int} {z y : Str} (hz : PyData.strOk z = true) (hy : PyData.strOk y = true) : (esAll a t z y).all (fun r => r.2.all okV) = true := by
  simp [esAll, esFirst, esSecond, esThird, okV, hz, hy]
theorem bls_ok (b : Nat → Bool) : ∀ l : List Nat, (l.map fun i => V.bl (b i)).all okV = true
  | [] => rfl
  | i :: l => by rw [List.map_cons, List.all_cons, bls_ok b l]; rfl
theorem take_bls {b : Nat → Bool} {i : Nat} : ((List.range i).map fun j => V.bl (b j)) ++ [V.bl (b i)] = (List.range (i + 1)).map fun j => V.bl (b j) := by
  rw [List.range_succ, List.map_append]; rfl
theorem _root_.FX.EntsF.app' {K : PySem.W.Frag} {H : Hp} {a b c : List V} {x y z : List (Str × List V)} (h1 : EntsF K H a x) (h2 : EntsF K H b y) (h3 : EntsF K H c z) : EntsF K H ((a ++ b) ++ c) ((x ++ y) ++ z) := (h1.app h2).app h3
/-- a def of the law as it stands: its place, its promise -/
structure DefOk (P : Program) (w : World) (K : PySem.W.Frag) (mg : Str → Option Value) (base : Heap) (x : Str) (k : Nat) (ps : List Str) (sp : Sp) : Prop where
  ex : ∃ (f : Addr) (fd : FuncData), mg x = some (.ref f) ∧ PySem.W.keepIn K (.ref f) = true ∧ L2.Binds K fd ps [] ∧ FnOk P w K mg base CX0 k f fd ps sp
section
variable {X : Cx}
theorem pe_def {x : Str} {k : Nat} {ps : List Str} {sp : Sp} {e : Expr} {es : List Expr} {t : TA} {p pos : Pos} (D : DefOk X.prog X.w X.K X.mg X.base x k ps sp) (hr : Room k X.A) (hg : Gl X x) (ha : PA X (e :: es) t) (hx : Passes CX0 X E0 := by exact pass0)
    (hdb : (x == ("__debug__" : Str)) = false := by decide) (he : starEach (e :: es) X.env = (false, eval e X.env) :: starEach es X.env := by rfl) (hpl : (backTo pos (starEach es X.env)).any (·.1) = false := by rfl) :
    PE X (.Call (.Name x p) (e :: es) [] pos) (tCall sp [] E0 t) := by
  obtain ⟨f, fd, g, k, b, F⟩ := D.ex
  exact pe_call F hr hg g k b .nil hx ha hdb he hpl
end
section
variable {P : Program} {w : World} {K : PySem.W.Frag} {mg : Str → Option Value} {base : Heap}
theorem ok_law {f : Addr} {fd : FuncData} (F : Fun K "law" "law" sLaw f fd) (hC : AllC P w K mg base) (fe : CT P w K mg base "FeltError" []) (R : Rel K)
    (GH : DefOk P w K mg base "_law_hand" 1 ["_law_script"] (spHand K)) (GT : DefOk P w K mg base "_law_take" 2 ["_law_hand_here", "_law_many"] spTake) (GN : DefOk P w K mg base "_law_name" 3 ["_law_hand_here"] spName)
    (G1 : DefOk P w K mg base "_law_first" 3 ["_law_at", "_law_to", "_law_word", "_law_name_here"] (spRows K esFirst)) (G2 : DefOk P w K mg base "_law_second" 3 ["_law_at", "_law_to", "_law_word", "_law_name_here"] (spRows K esSecond)) (G3 : DefOk P w K mg base "_law_third" 3 ["_law_at", "_law_to", "_law_word", "_law_name_here"] (spRows K esThird))
    (GC : DefOk P w K mg base "_law_classes" 1 ["_law_e"] (spClasses K)) (GR : DefOk P w K mg base "_law_raised" 3 ["_law_at", "_law_word"] spRaised)
    (ml : mg "len" = none) (mr : mg "range" = none) (mis : mg "isinstance" = none) (mve : mg "ValueError" = none) : FnOk P w K mg base CX0 4 f fd ["_law_script"] (spLaw K) := by
  refine F.ok scLaw (fun vs H Q E h => ?_) (fun cdv A outer s H vs Q E hr h => ?_)
  · obtain ⟨a, ns, rfl, _⟩ := h; rfl
  · obtain ⟨a, ns, rfl, hS, hlen, q⟩ := h
    have r2 := hr.mono (by decide : 2 ≤ 3)
    have r1 := hr.mono (by decide : 1 ≤ 3)
    refine ⟨_, (pss_cons (ps_set (i := 1) scLaw.nd rfl (.inl rfl) (pe_def GH r1 (by rfl) (pa_cons (pv 0) pa_nil)))
      (pss_cons (ps_set (i := 2) scLaw.nd rfl (.inl rfl) (pe_op op_add (pe_op op_mul (pe_def GT r2 (by rfl) (pa_cons (pv 1) (pa_cons (pe_op op_pow pe_int pe_int) pa_nil))) (pe_op op_pow pe_int pe_int)) (pe_def GT r2 (by rfl) (pa_cons (pv 1) (pa_cons (pe_op op_pow pe_int pe_int) pa_nil)))))
      (pss_cons (ps_set (i := 3) scLaw.nd rfl (.inl rfl) (pe_op op_sub (pe_un un_neg pe_int) (pe_def GT r2 (by rfl) (pa_cons (pv 1) (pa_cons (pe_op op_pow pe_int pe_int) pa_nil)))))
      (pss_cons (ps_set (i := 4) scLaw.nd rfl (.inl rfl) (pe_def GN hr (by rfl) (pa_cons (pv 1) pa_nil)))
      (pss_cons (ps_set (i := 5) scLaw.nd rfl (.inl rfl) (pe_op op_add_str (pe_op op_add_str (pe_def GN hr (by rfl) (pa_cons (pv 1) pa_nil)) pe_str) (pv 4)))
      (pss_cons (ps_set (i := 6) scLaw.nd rfl (.inl rfl) (pe_op op_cat (pe_op op_cat (pe_def G1 hr (by rfl) (pa_cons (pv 2) (pa_cons (pv 3) (pa_cons (pv 4) (pa_cons (pv 5) pa_nil))))) (pe_def G2 hr (by rfl) (pa_cons (pv 2) (pa_cons (pv 3) (pa_cons (pv 4) (pa_cons (pv 5) pa_nil)))))) (pe_def G3 hr (by rfl) (pa_cons (pv 2) (pa_cons (pv 3) (pa_cons (pv 4) (pa_cons (pv 5) pa_nil)))))))
      (pss_cons (ps_for PassesOwn.never rfl (pi_range1 (by rfl) mr (pa_cons (pe_callB call_len_seq (by rfl) ml PySem.boot_len (pa_cons (pv 6) pa_nil)) pa_nil)) (pg_name (i := 7) scLaw.nd rfl (.inr rfl)) (pss_cons (ps_asg (pe_ix ix_list (pv 6) (pv 7) (fun _ _ => rfl)) (pg_tup rfl (pgs_cons (pg_name (i := 8) scLaw.nd rfl (.inl rfl)) (pgs_cons (pg_name (i := 9) scLaw.nd rfl (.inl rfl)) (pgs_cons (pg_name (i := 10) scLaw.nd rfl (.inl rfl)) pgs_nil)))))
      (pss_cons (ps_if (PW.pt (pw_or (pt_cmpR (op_neD hr.units) (pv 9) (pv 10) (nomark _)) (pw_or (pt_not (pt_val (pe_callB call_isX (by rfl) mis boot_isinstance (pa_cons (pv 8) (pa_cons (pe_glob (v := .ref (He.ga K "FeltError")) (by rfl) fe.g rfl) pa_nil))))) (pw_or1 (pt_not (pt_val (pe_callB call_isX (by rfl) mis boot_isinstance (pa_cons (pv 8) (pa_cons (pe_bltn (v := .ty "ValueError") (by rfl) mve boot_ValueError rfl) pa_nil))))))))) (pss_one (ps_ret pe_bl)) pss_nil)
      (pss_one (ps_if (pt_cmpR (op_neD hr.units) (pe_def GC r1 (by rfl) (pa_cons (pv 8) pa_nil)) (pe_lc (own := [("_law_spot", 12)]) (g := gName 12) (tt := tYes) rfl scLaw.nd (pi_range1 (by rfl) mr (pa_cons (pe_callB call_len_seq (by rfl) ml PySem.boot_len (pa_cons (pv 6) pa_nil)) pa_nil)) (blkOk_by (N := ["_law_script", "_law_hand_here", "_law_at", "_law_to", "_law_word", "_law_name_here", "_law_made", "_law_k", "_law_error", "_law_told", "_law_due", "_law_base", "_law_spot"]) (sc := defScope sLaw) (by decide +kernel)) (fun _ _ _ _ _ => pg_name (i := 12) scLaw.nd rfl (.inl rfl)) (fun _ _ _ _ _ => pts_nil) (fun _ _ _ _ _ => pe_cmpR op_eq (pv 12) (pv 7) (nomark _))) (nomark _)) (pss_one (ps_ret pe_bl)) pss_nil)))))
      (pss_cons (ps_set (i := 11) scLaw.nd rfl (.inl rfl) (pe_exC0 fe (by rfl)))
      (pss_cons (ps_if (PW.pt (pw_or (pt_not (pt_val (pe_callB call_isX (by rfl) mis boot_isinstance (pa_cons (pv 11) (pa_cons (pe_bltn (v := .ty "ValueError") (by rfl) mve boot_ValueError rfl) pa_nil))))) (pw_or1 (pt_cmpR (op_neD hr.units) (pe_def GC r1 (by rfl) (pa_cons (pv 11) pa_nil)) (pe_op op_rep (pe_lst (pa_cons pe_bl pa_nil)) (pe_callB call_len_seq (by rfl) ml PySem.boot_len (pa_cons (pv 6) pa_nil))) (nomark _))))) (pss_one (ps_ret pe_bl)) pss_nil)
      (pss_one (ps_ret (pe_and (pe_cmpR op_eq (pe_callB call_len_seq (by rfl) ml PySem.boot_len (pa_cons (pv 6) pa_nil)) pe_int (nomark _)) (pe_one (pe_cmpR (op_eqD hr.units) (pe_def GR hr (by rfl) (pa_cons (pv 2) (pa_cons (pv 4) pa_nil))) (pe_lst (pa_cons pe_bl (pa_cons pe_bl (pa_cons pe_bl pa_nil)))) (nomark _))))))))))))))), ?_⟩
    -- the hand, two numbers, two words
    have ten : CPow 10 9 := ⟨by decide, by decide, by decide⟩
    refine ⟨.ref a, rfl, a, ns, rfl, hS, hlen, fun H1 p _ _ h1 => ?_⟩
    refine ⟨.ref p, rfl, _, _, rfl, rfl, ten, p, _, rfl, h1, by decide, by decide, fun v1 H2 _ _ h2 _ => ?_⟩
    refine ⟨_, _, rfl, rfl, ten, _, _, rfl, rfl, .inr ⟨by decide, by decide⟩, ?_⟩
    refine ⟨.ref p, rfl, _, _, rfl, rfl, ten, p, _, rfl, h2, by decide, by decide, fun v2 H3 _ _ h3 _ => ⟨_, _, rfl, rfl, ?_⟩⟩
    dsimp only
    generalize v1 * (10 : Int) ^ (9 : Int).toNat + v2 = at_
    refine ⟨_, rfl, .ref p, rfl, _, _, rfl, rfl, ten, p, _, rfl, h3, by decide, by decide, fun v3 H4 _ _ h4 _ => ⟨_, _, rfl, rfl, ?_⟩⟩
    dsimp only
    generalize (-1 : Int) - v3 = to_
    refine ⟨.ref p, rfl, p, rfl, h4, fun z H5 zl zo h5 _ => ?_⟩
    refine ⟨.ref p, rfl, p, rfl, h5, fun y0 H6 yl yo h6 _ => ⟨_, _, rfl, rfl, ?_, .str z, rfl, _, _, rfl, rfl, ?_, ?_⟩⟩
    · show y0.length + 1 ≤ sizeLine
      exact Nat.le_of_lt (small1000 (by omega))
    · have e : (y0 ++ ("z" : Str)).length = y0.length + 1 := by
        show (y0.cps ++ ("z" : Str).cps).size = y0.cps.size + 1
        rw [Array.size_append]; rfl
      rw [e]
      exact Nat.le_of_lt (small1000 (by omega))
    have yok : PyData.strOk ((y0 ++ ("z" : Str)) ++ z) = true := strOk_app (strOk_app yo (by decide +kernel)) zo
    generalize (y0 ++ ("z" : Str)) ++ z = y at yok
    -- the rows
    refine ⟨.int at_, rfl, .int to_, rfl, .str z, rfl, .str y, rfl, at_, to_, z, y, rfl, fun H7 p1 xs1 s7 n7 hp1 he1 => ?_⟩
    refine ⟨.int at_, rfl, .int to_, rfl, .str z, rfl, .str y, rfl, at_, to_, z, y, rfl, fun H8 p2 xs2 s8 n8 hp2 he2 => ?_⟩
    have l1 : xs1.length = 11 := he1.len
    have l2 : xs2.length = 11 := he2.len
    refine ⟨p1, p2, xs1, xs2, rfl, rfl, s8 _ _ hp1, hp2, Nat.le_of_lt (small1000 (by omega)), fun p3 n9 => ?_⟩
    have s9 : Same H8 (upd H8 p3 (.lst (xs1 ++ xs2))) := same_new n9
    refine ⟨.int at_, rfl, .int to_, rfl, .str z, rfl, .str y, rfl, at_, to_, z, y, rfl, fun H9 p4 xs3 s10 n10 hp4 he4 => ?_⟩
    have l3 : xs3.length = 10 := he4.len
    refine ⟨p3, p4, _, xs3, rfl, rfl, s10 _ _ upd_same, hp4, Nat.le_of_lt (small1000 (by rw [List.length_append]; omega)), fun m n11 => ?_⟩
    have s11 : Same H9 (upd H9 m (.lst ((xs1 ++ xs2) ++ xs3))) := same_new n11
    have hm : upd H9 m (.lst ((xs1 ++ xs2) ++ xs3)) m = some (.lst ((xs1 ++ xs2) ++ xs3)) := upd_same
    have he : EntsF K (upd H9 m (.lst ((xs1 ++ xs2) ++ xs3))) ((xs1 ++ xs2) ++ xs3) (esAll at_ to_ z y) :=
      ((((he1.same s8).same s9).same s10).same s11).app' (((he2.same s9).same s10).same s11) (he4.same s11)
    generalize upd H9 m (.lst ((xs1 ++ xs2) ++ xs3)) = Hm at hm he ⊢
    generalize (xs1 ++ xs2) ++ xs3 = xs at hm he
    have xl : xs.length = 32 := he.len
    have eok := es_ok (a := at_) (t := to_) zo yok
    -- the loop
    refine ⟨.ref m, rfl, m, xs, rfl, .inl (.of hm), (xs.length : Int), rfl, by omega, by omega, for_range (n := xs.length)
      (fun i σ H' => ∃ x7 x8 x9 x10 : Option V, σ = [some (.ref a), some (.ref p), some (.int at_), some (.int to_), some (.str z), some (.str y), some (.ref m), x7, x8, x9, x10, none, none] ∧ H' m = some (.lst xs) ∧ EntsF K H' xs (esAll at_ to_ z y))
      ⟨none, none, none, none, rfl, hm, he⟩ ?_ ?_⟩
    · rintro i σ H' hi ⟨x7, x8, x9, x10, rfl, hm', he'⟩
      have i32 : i < (esAll at_ to_ z y).length := by rw [es_len]; omega
      obtain ⟨⟨x, ws⟩, ex⟩ : ∃ r, (esAll at_ to_ z y)[i]? = some r := ⟨_, List.getElem?_eq_getElem i32⟩
      have nx : nm[i]? = some x := by rw [← es_nm (a := at_) (t := to_) (z := z) (y := y), List.getElem?_map, ex]; rfl
      have wok : ws.all okV = true := List.all_eq_true.mp eok (x, ws) (List.mem_of_getElem? ex)
      obtain ⟨v, gv, t, e, b1, b2, fs, rfl, ht, hx, hb1, hb2⟩ := he'.at ex
      obtain ⟨c, hc⟩ : ∃ c : CT P w K mg base x ((cl[i]?.map (·.2)).getD []), True := ⟨by
        have i2 : i < cl.length := by show i < 32; omega
        obtain ⟨⟨x2, f2⟩, e2⟩ : ∃ r, cl[i]? = some r := ⟨_, List.getElem?_eq_getElem i2⟩
        have : x2 = x := by
          have z : nm[i]? = some x2 := by show (cl.map (·.1))[i]? = some x2; rw [List.getElem?_map, e2]; rfl
          rw [z] at nx; exact Option.some.inj nx
        subst this
        rw [e2]
        exact hC _ (List.mem_of_getElem? e2), trivial⟩
      refine ⟨.ref m, rfl, .int (0 + i), rfl, m, xs, _, _, rfl, rfl, .of hm', at_of (by omega) gv, t, _, rfl, .of ht, rfl, .ref e, _, rfl, .ref b1, _, rfl, .ref b2, [], rfl, rfl, ?_⟩
      refine ⟨.ref b1, rfl, .ref b2, rfl, ne_lists wok (.of hb1) (.of hb2) ⟨_, rfl, itF rfl ?_⟩⟩
      refine ⟨.ref e, rfl, e, _, fs, _, _, true, rfl, hx, c.ok.is, .own _, R.felt i nx, true, rfl, itF rfl ?_⟩
      refine ⟨.ref e, rfl, e, _, fs, _, _, true, rfl, hx, c.ok.is, .ty _, R.ve i nx, true, rfl, itF rfl ?_⟩
      refine ⟨.ref e, rfl, e, _, fs, fun (k : Nat) => decide (V.int (0 + (k : Int)) = V.int (0 + (i : Int))), rfl, hx, c.ok.is, fun j {u} eu => ?_, fun H2 c1 s2 _ hc1 => ?_⟩
      · rw [R.each i j nx eu]
        refine congrArg some ?_
        show decide (j = i) = decide (V.int (0 + (j : Int)) = V.int (0 + (i : Int)))
        by_cases ji : j = i
        · rw [ji, decide_eq_true rfl, decide_eq_true rfl]
        · rw [decide_eq_false ji, decide_eq_false (fun z => ji (by have := V.int.inj z; omega))]
      have hm2 := s2 _ _ hm'
      refine ⟨.ref m, rfl, m, xs, rfl, .inl (.of hm2), (xs.length : Int), rfl, by omega, by omega, fun D nD => lc_range (n := xs.length)
        (fun j H3 => Same H2 H3 ∧ H2 D = none ∧ H3 D = some (.lst ((List.range j).map fun (k : Nat) => V.bl (decide (V.int (0 + (k : Int)) = V.int (0 + (i : Int))))))) ⟨same_new nD, nD, upd_same⟩ ?_ ?_⟩
      · rintro j H3 hj ⟨s3, n3, h3⟩
        refine ⟨rfl, _, rfl, .int (0 + i), rfl, rfl, _, h3, by rw [List.length_map, List.length_range]; exact small1000 (by omega), fun b o z => ?_, n3, ?_⟩
        · rw [upd_ne (ne_of_none z n3)]; exact s3 _ _ z
        · rw [upd_same]; exact congrArg (fun l => some (HO.lst l)) (take_bls (b := fun (k : Nat) => decide (V.int (0 + (k : Int)) = V.int (0 + (i : Int)))))
      · rintro H3 ⟨s3, n3, h3⟩
        rw [xl] at h3
        refine ne_lists (bls_ok _ _) (.of (s3 _ _ hc1)) (.of h3) ⟨_, rfl, itF rfl ?_⟩
        exact ⟨_, _, _, _, rfl, s3 _ _ hm2, (he'.same s2).same s3⟩
    · rintro σ H' ⟨x7, x8, x9, x10, rfl, hm', he'⟩
      -- the base
      refine ⟨rfl, Nat.zero_le _, fun e H2 ne s2 hx => ?_⟩
      have hm2 := s2 _ _ hm'
      refine ⟨.ref e, rfl, e, _, [], _, _, true, rfl, hx, fe.ok.is, .ty _, R.baseVe, true, rfl, itF rfl ?_⟩
      refine ⟨.ref e, rfl, e, _, [], fun _ => false, rfl, hx, fe.ok.is, fun j {u} eu => R.base j eu, fun H3 c1 s3 _ hc1 => ?_⟩
      have hm3 := s3 _ _ hm2
      refine ⟨by show 1 ≤ sizeLine; decide, fun l nl => ⟨.ref m, rfl, m, xs, rfl, .inl (.of (same_new nl _ _ hm3)), l, _, _, rfl, rfl, upd_same, by omega, by omega, ?_, fun r nr => ?_⟩⟩
      · rw [xl]; decide
      · refine ne_lists (vs := (List.range 32).map fun i => V.bl false) (bls_ok _ _) (.of (same_new nr _ _ (same_new nl _ _ hc1))) (.of ?_) ⟨_, rfl, itF rfl ?_⟩
        · rw [upd_same, xl]; rfl
        refine ⟨.ref m, rfl, m, xs, rfl, .inl (.of (same_new nr _ _ (same_new nl _ _ hm3))), rfl, _, rfl, itT (decide_eq_true (by rw [xl]; rfl)) ?_⟩
        refine ⟨.int at_, rfl, .str z, rfl, at_, z, rfl, fun H6 g1 s6 _ hg1 => ⟨by show 3 ≤ sizeLine; decide, fun g2 n2 => ?_⟩⟩
        exact eq_lists (vs := [.bl true, .bl true, .bl true]) rfl (.of (same_new n2 _ _ hg1)) (.of upd_same) (q _)
end
end FK
set_option Elab.async false
set_option linter.all false
set_option maxRecDepth 100000
set_option maxHeartbeats 0
namespace FK
open PySem PySem.Spec PyProof.Rows L2 FX
def dD (x : Str) (i : Nat) : He.DefD := ⟨(x, none), x, x, defArgs (topS i), defBody (topS i), defScope (topS i), [], []⟩
def dI (x t : Str) (i : Nat) : He.DefD := ⟨(x, some "__init__"), "__init__", t, defArgs (inClass (topS i) 0), defBody (inClass (topS i) 0), defScope (inClass (topS i) 0), [], []⟩
def fnD : List He.DefD := [dD "_law_hand" 35, dD "_law_mixed" 36, dD "_law_take" 37, dD "_law_name" 38, dD "_law_first" 39, dD "_law_second" 40, dD "_law_third" 41, dD "_law_classes" 42, dD "_law_raised" 43, dD "law" 44]
def fnI : List He.DefD := [dI "BadRatio" "BadRatio.__init__" 2, dI "BadPatch" "BadPatch.__init__" 7, dI "BadTable" "BadTable.__init__" 8, dI "BadText" "BadText.__init__" 9, dI "BadFact" "BadFact.__init__" 10, dI "BadCase" "BadCase.__init__" 11, dI "NoFact" "NoFact.__init__" 12, dI "BadChoice" "BadChoice.__init__" 14, dI "NotFit" "NotFit.__init__" 15, dI "BadLots" "BadLots.__init__" 16, dI "BadClaim" "BadClaim.__init__" 18, dI "NoArea" "NoArea.__init__" 19, dI "BadCorner" "BadCorner.__init__" 20, dI "BadKept" "BadKept.__init__" 21, dI "TooMany" "TooMany.__init__" 22, dI "BadReading" "BadReading.__init__" 24, dI "BadBox" "BadBox.__init__" 26, dI "BadDirections" "BadDirections.__init__" 27, dI "BadChange" "BadChange.__init__" 30, dI "BadWish" "BadWish.__init__" 31, dI "NoNumber" "NoNumber.__init__" 32]
def fn : List He.DefD := fnD ++ fnI
def fa : List He.Fa := [.glo "_law_hand", .glo "_law_mixed", .glo "_law_take", .glo "_law_name", .glo "_law_first", .glo "_law_second", .glo "_law_third", .glo "_law_classes", .glo "_law_raised", .glo "law", .free "len", .free "int", .free "range", .free "isinstance", .free "ValueError"]
def relB (K : PySem.W.Frag) : Bool := (nm.zipIdx.all fun p => nm.zipIdx.all fun r => decide (PySem.W.kitOne K (.ref (He.ga K p.1)) (.ref (He.ga K r.1)) = some (decide (r.2 = p.2)))) &&
  ((nm.all fun x => decide (PySem.W.kitOne K (.ref (He.ga K x)) (.ref (He.ga K "FeltError")) = some true)) && ((nm.all fun x => decide (PySem.W.kitOne K (.ref (He.ga K x)) (.type "ValueError") = some true)) &&
  ((nm.all fun x => decide (PySem.W.kitOne K (.ref (He.ga K "FeltError")) (.ref (He.ga K x)) = some false)) && decide (PySem.W.kitOne K (.ref (He.ga K "FeltError")) (.type "ValueError") = some true))))
def exB (K : PySem.W.Frag) : Bool := ((He.Fa.exm "BadCase" "BadFact" false).ok K && ((He.Fa.exm "BadCase" "FeltError" true).ok K && ((He.Fa.exm "NoFact" "NoArea" false).ok K && ((He.Fa.exm "NoFact" "FeltError" true).ok K && ((He.Fa.exm "NotMet" "NoStones" false).ok K && ((He.Fa.exm "NotMet" "FeltError" true).ok K))))))
def ck (K : PySem.W.Frag) : Bool := (cl.all fun p => clsB K p.1 p.2) && (clsB K "FeltError" [] && (relB K && exB K))
theorem rel_ok {K : PySem.W.Frag} (h : relB K = true) (e : exB K = true) : Rel K := by
  obtain ⟨h1, h⟩ := He.ba h
  obtain ⟨h2, h⟩ := He.ba h
  obtain ⟨h3, h⟩ := He.ba h
  obtain ⟨h4, h5⟩ := He.ba h
  obtain ⟨e1, e⟩ := He.ba e
  obtain ⟨e2, e⟩ := He.ba e
  obtain ⟨e3, e⟩ := He.ba e
  obtain ⟨e4, e⟩ := He.ba e
  obtain ⟨e5, e6⟩ := He.ba e
  refine ⟨fun i j {x y} hx hy => ?_, fun i {x} hx => of_decide_eq_true (List.all_eq_true.mp h2 x (List.mem_of_getElem? hx)), fun i {x} hx => of_decide_eq_true (List.all_eq_true.mp h3 x (List.mem_of_getElem? hx)),
    fun i {x} hx => of_decide_eq_true (List.all_eq_true.mp h4 x (List.mem_of_getElem? hx)), of_decide_eq_true h5, He.exm_ok e1, He.exm_ok e2, He.exm_ok e3, He.exm_ok e4, He.exm_ok e5, He.exm_ok e6⟩
  have mx : (x, i) ∈ nm.zipIdx := List.mk_mem_zipIdx_iff_getElem?.mpr hx
  have my : (y, j) ∈ nm.zipIdx := List.mk_mem_zipIdx_iff_getElem?.mpr hy
  exact of_decide_eq_true (List.all_eq_true.mp (List.all_eq_true.mp h1 (x, i) mx) (y, j) my)
/-- the look at the written part behind the top: the defs, and ck -/
def says (K : PySem.W.Frag) : Prop := ck K = true ∧ He.SaysD fa fn K
def obsM (n : Nat) (g : Addr → Option Obj) : Bool × He.AlD := (ck (He.frG g (He.asD g n)), He.obsDG n fa fn g)
def hookM (n : Nat) : PySem.W.Hook where
  α := Bool × He.AlD
  obs := fun s => obsM n s.heap.get?
  val := fun _ => (true, He.valD fn)
  says := fun _ h => ∃ K : PySem.W.Frag, K.In h ∧ says K
  of := fun _ _ e => ⟨_, He.frG_in, congrArg (fun z : Bool × He.AlD => z.1) e, congrArg (fun z : Bool × He.AlD => z.2) e⟩
  keeps := fun _ _ _ ⟨K, hK, c⟩ k => ⟨K, PySem.W.Frag.In.keeps hK k, c⟩
theorem obsM_eq {n : Nat} {g : Addr → Option Obj} {s : Shared} (h : ∀ a, g a = s.heap.get? a) : obsM n g = (hookM n).obs s := by
  have e : g = s.heap.get? := funext h
  rw [e] <;> rfl
abbrev R : PySem.W.OpenRow := PySem.W.OpenLaw.row PySem.Challenge.rw_feltstone_k00_errors_side_by_side
def ob (s : PySem.W.SharedT) : Bool × He.AlD := obsM 5 (HandSHeadRun.getT s)
theorem ob_eq (s : PySem.W.SharedT) : ob s = (hookM 5).obs s.abs := obsM_eq (HandSHeadRun.getT_eq s)
def n1 : List Str := ["FeltError", "BadRatio", "BadPlace", "BadDirection", "BadAmount", "BadSize", "BadPatch", "BadTable", "BadText", "BadFact", "BadCase", "NoFact", "NoStones", "BadChoice", "NotFit", "BadLots", "NotMet", "BadClaim", "NoArea", "BadCorner", "BadKept"]
def n2 : List Str := ["TooMany", "BadLine", "BadReading", "BadBreadth", "BadBox", "BadDirections", "BadStone", "BadMost", "BadChange", "BadWish", "NoNumber", "BookFull", "_law_hand", "_law_mixed", "_law_take", "_law_name", "_law_first", "_law_second", "_law_third", "_law_classes", "_law_raised"]
def names : List Str := n1 ++ n2
theorem run (w : World) : HandSHeadRun.RunEq R (PySem.W.view R.prog [44]) (hookM 5) ob 9000 names w := by
  intro os
  kernel_rfl
end FK
set_option Elab.async false
set_option linter.all false
set_option maxRecDepth 100000
set_option maxHeartbeats 0
namespace FK
open PySem PySem.Spec PyProof.Rows L2 FX
theorem def_at {K : PySem.W.Frag} (c : He.SaysD fa fn K) {x q : Str} {st : Stmt} (i : Nat) {d : He.DefD} (h : fn[i]? = some d) (e : d = ⟨(x, none), x, q, defArgs st, defBody st, defScope st, [], []⟩) : ∃ fd, FunD K x q (defArgs st) (defBody st) (defScope st) [] [] (He.ga K x) fd := by
  obtain ⟨fd, F⟩ := c.def_ i h
  subst e
  exact ⟨fd, F⟩
theorem ini_at {K : PySem.W.Frag} (c : He.SaysD fa fn K) {x q : Str} {st : Stmt} (i : Nat) {d : He.DefD} (h : fn[i]? = some d) (e : d = ⟨(x, some "__init__"), "__init__", q, defArgs st, defBody st, defScope st, [], []⟩) :
    ∃ fd, FunD K "__init__" q (defArgs st) (defBody st) (defScope st) [] [] (He.ma K (He.ga K x) "__init__") fd := by
  obtain ⟨fd, F⟩ := c.def_ i h
  subst e
  exact ⟨fd, F⟩
section
variable {P : Program} {w : World} {K : PySem.W.Frag} {mg : Str → Option Value} {base h : Heap}
theorem all_c (X : K.In h) (G : h.Ns mainGlobals mg) (c : says K) : AllC P w K mg base := by
  obtain ⟨c1, c2⟩ := c
  have c3 := (He.ba c1).1
  have ok : ∀ {x : Str} {fs : List Str}, (x, fs) ∈ cl → ClsOk K x fs := fun {x fs} m => clsB_ok (List.all_eq_true.mp c3 (x, fs) m)
  intro p hp
  have key : p ∈ cl := hp
  simp only [cl, List.mem_cons, List.not_mem_nil, or_false] at hp
  rcases hp with rfl | rfl | rfl | rfl | rfl | rfl | rfl | rfl | rfl | rfl | rfl | rfl | rfl | rfl | rfl | rfl | rfl | rfl | rfl | rfl | rfl | rfl | rfl | rfl | rfl | rfl | rfl | rfl | rfl | rfl | rfl | rfl
  · obtain ⟨fd, F⟩ := ini_at c2 (x := "BadRatio") (q := "BadRatio.__init__") (st := inClass (topS 2) 0) 10 rfl rfl
    exact ⟨ok key, He.glo_ok X G (ok key).glo, fun _ => ⟨fd, ["self", "what"], in_BadRatio (fun_of F) (ok key).o (ok key).no, F.bindsN fun _ _ _ _ _ _ us hl => match us, hl with | [_, _], _ => rfl⟩⟩
  · exact ⟨ok key, He.glo_ok X G (ok key).glo, fun z => absurd rfl z⟩
  · exact ⟨ok key, He.glo_ok X G (ok key).glo, fun z => absurd rfl z⟩
  · exact ⟨ok key, He.glo_ok X G (ok key).glo, fun z => absurd rfl z⟩
  · exact ⟨ok key, He.glo_ok X G (ok key).glo, fun z => absurd rfl z⟩
  · obtain ⟨fd, F⟩ := ini_at c2 (x := "BadPatch") (q := "BadPatch.__init__") (st := inClass (topS 7) 0) 11 rfl rfl
    exact ⟨ok key, He.glo_ok X G (ok key).glo, fun _ => ⟨fd, ["self", "what"], in_BadPatch (fun_of F) (ok key).o (ok key).no, F.bindsN fun _ _ _ _ _ _ us hl => match us, hl with | [_, _], _ => rfl⟩⟩
  · obtain ⟨fd, F⟩ := ini_at c2 (x := "BadTable") (q := "BadTable.__init__") (st := inClass (topS 8) 0) 12 rfl rfl
    exact ⟨ok key, He.glo_ok X G (ok key).glo, fun _ => ⟨fd, ["self", "what"], in_BadTable (fun_of F) (ok key).o (ok key).no, F.bindsN fun _ _ _ _ _ _ us hl => match us, hl with | [_, _], _ => rfl⟩⟩
  · obtain ⟨fd, F⟩ := ini_at c2 (x := "BadText") (q := "BadText.__init__") (st := inClass (topS 9) 0) 13 rfl rfl
    exact ⟨ok key, He.glo_ok X G (ok key).glo, fun _ => ⟨fd, ["self", "row", "what"], in_BadText (fun_of F) (ok key).o (ok key).no, F.bindsN fun _ _ _ _ _ _ us hl => match us, hl with | [_, _, _], _ => rfl⟩⟩
  · obtain ⟨fd, F⟩ := ini_at c2 (x := "BadFact") (q := "BadFact.__init__") (st := inClass (topS 10) 0) 14 rfl rfl
    exact ⟨ok key, He.glo_ok X G (ok key).glo, fun _ => ⟨fd, ["self", "what"], in_BadFact (fun_of F) (ok key).o (ok key).no, F.bindsN fun _ _ _ _ _ _ us hl => match us, hl with | [_, _], _ => rfl⟩⟩
  · obtain ⟨fd, F⟩ := ini_at c2 (x := "BadCase") (q := "BadCase.__init__") (st := inClass (topS 11) 0) 15 rfl rfl
    exact ⟨ok key, He.glo_ok X G (ok key).glo, fun _ => ⟨fd, ["self", "index", "what"], in_BadCase (fun_of F) (ok key).o (ok key).no, F.bindsN fun _ _ _ _ _ _ us hl => match us, hl with | [_, _, _], _ => rfl⟩⟩
  · obtain ⟨fd, F⟩ := ini_at c2 (x := "NoFact") (q := "NoFact.__init__") (st := inClass (topS 12) 0) 16 rfl rfl
    exact ⟨ok key, He.glo_ok X G (ok key).glo, fun _ => ⟨fd, ["self", "number"], in_NoFact (fun_of F) (ok key).o (ok key).no, F.bindsN fun _ _ _ _ _ _ us hl => match us, hl with | [_, _], _ => rfl⟩⟩
  · exact ⟨ok key, He.glo_ok X G (ok key).glo, fun z => absurd rfl z⟩
  · obtain ⟨fd, F⟩ := ini_at c2 (x := "BadChoice") (q := "BadChoice.__init__") (st := inClass (topS 14) 0) 17 rfl rfl
    exact ⟨ok key, He.glo_ok X G (ok key).glo, fun _ => ⟨fd, ["self", "index"], in_BadChoice (fun_of F) (ok key).o (ok key).no, F.bindsN fun _ _ _ _ _ _ us hl => match us, hl with | [_, _], _ => rfl⟩⟩
  · obtain ⟨fd, F⟩ := ini_at c2 (x := "NotFit") (q := "NotFit.__init__") (st := inClass (topS 15) 0) 18 rfl rfl
    exact ⟨ok key, He.glo_ok X G (ok key).glo, fun _ => ⟨fd, ["self", "fact"], in_NotFit (fun_of F) (ok key).o (ok key).no, F.bindsN fun _ _ _ _ _ _ us hl => match us, hl with | [_, _], _ => rfl⟩⟩
  · obtain ⟨fd, F⟩ := ini_at c2 (x := "BadLots") (q := "BadLots.__init__") (st := inClass (topS 16) 0) 19 rfl rfl
    exact ⟨ok key, He.glo_ok X G (ok key).glo, fun _ => ⟨fd, ["self", "what"], in_BadLots (fun_of F) (ok key).o (ok key).no, F.bindsN fun _ _ _ _ _ _ us hl => match us, hl with | [_, _], _ => rfl⟩⟩
  · exact ⟨ok key, He.glo_ok X G (ok key).glo, fun z => absurd rfl z⟩
  · obtain ⟨fd, F⟩ := ini_at c2 (x := "BadClaim") (q := "BadClaim.__init__") (st := inClass (topS 18) 0) 20 rfl rfl
    exact ⟨ok key, He.glo_ok X G (ok key).glo, fun _ => ⟨fd, ["self", "what"], in_BadClaim (fun_of F) (ok key).o (ok key).no, F.bindsN fun _ _ _ _ _ _ us hl => match us, hl with | [_, _], _ => rfl⟩⟩
  · obtain ⟨fd, F⟩ := ini_at c2 (x := "NoArea") (q := "NoArea.__init__") (st := inClass (topS 19) 0) 21 rfl rfl
    exact ⟨ok key, He.glo_ok X G (ok key).glo, fun _ => ⟨fd, ["self", "number"], in_NoArea (fun_of F) (ok key).o (ok key).no, F.bindsN fun _ _ _ _ _ _ us hl => match us, hl with | [_, _], _ => rfl⟩⟩
  · obtain ⟨fd, F⟩ := ini_at c2 (x := "BadCorner") (q := "BadCorner.__init__") (st := inClass (topS 20) 0) 22 rfl rfl
    exact ⟨ok key, He.glo_ok X G (ok key).glo, fun _ => ⟨fd, ["self", "number"], in_BadCorner (fun_of F) (ok key).o (ok key).no, F.bindsN fun _ _ _ _ _ _ us hl => match us, hl with | [_, _], _ => rfl⟩⟩
  · obtain ⟨fd, F⟩ := ini_at c2 (x := "BadKept") (q := "BadKept.__init__") (st := inClass (topS 21) 0) 23 rfl rfl
    exact ⟨ok key, He.glo_ok X G (ok key).glo, fun _ => ⟨fd, ["self", "what"], in_BadKept (fun_of F) (ok key).o (ok key).no, F.bindsN fun _ _ _ _ _ _ us hl => match us, hl with | [_, _], _ => rfl⟩⟩
  · obtain ⟨fd, F⟩ := ini_at c2 (x := "TooMany") (q := "TooMany.__init__") (st := inClass (topS 22) 0) 24 rfl rfl
    exact ⟨ok key, He.glo_ok X G (ok key).glo, fun _ => ⟨fd, ["self", "most"], in_TooMany (fun_of F) (ok key).o (ok key).no, F.bindsN fun _ _ _ _ _ _ us hl => match us, hl with | [_, _], _ => rfl⟩⟩
  · exact ⟨ok key, He.glo_ok X G (ok key).glo, fun z => absurd rfl z⟩
  · obtain ⟨fd, F⟩ := ini_at c2 (x := "BadReading") (q := "BadReading.__init__") (st := inClass (topS 24) 0) 25 rfl rfl
    exact ⟨ok key, He.glo_ok X G (ok key).glo, fun _ => ⟨fd, ["self", "index", "what"], in_BadReading (fun_of F) (ok key).o (ok key).no, F.bindsN fun _ _ _ _ _ _ us hl => match us, hl with | [_, _, _], _ => rfl⟩⟩
  · exact ⟨ok key, He.glo_ok X G (ok key).glo, fun z => absurd rfl z⟩
  · obtain ⟨fd, F⟩ := ini_at c2 (x := "BadBox") (q := "BadBox.__init__") (st := inClass (topS 26) 0) 26 rfl rfl
    exact ⟨ok key, He.glo_ok X G (ok key).glo, fun _ => ⟨fd, ["self", "what"], in_BadBox (fun_of F) (ok key).o (ok key).no, F.bindsN fun _ _ _ _ _ _ us hl => match us, hl with | [_, _], _ => rfl⟩⟩
  · obtain ⟨fd, F⟩ := ini_at c2 (x := "BadDirections") (q := "BadDirections.__init__") (st := inClass (topS 27) 0) 27 rfl rfl
    exact ⟨ok key, He.glo_ok X G (ok key).glo, fun _ => ⟨fd, ["self", "index"], in_BadDirections (fun_of F) (ok key).o (ok key).no, F.bindsN fun _ _ _ _ _ _ us hl => match us, hl with | [_, _], _ => rfl⟩⟩
  · exact ⟨ok key, He.glo_ok X G (ok key).glo, fun z => absurd rfl z⟩
  · exact ⟨ok key, He.glo_ok X G (ok key).glo, fun z => absurd rfl z⟩
  · obtain ⟨fd, F⟩ := ini_at c2 (x := "BadChange") (q := "BadChange.__init__") (st := inClass (topS 30) 0) 28 rfl rfl
    exact ⟨ok key, He.glo_ok X G (ok key).glo, fun _ => ⟨fd, ["self", "index", "what"], in_BadChange (fun_of F) (ok key).o (ok key).no, F.bindsN fun _ _ _ _ _ _ us hl => match us, hl with | [_, _, _], _ => rfl⟩⟩
  · obtain ⟨fd, F⟩ := ini_at c2 (x := "BadWish") (q := "BadWish.__init__") (st := inClass (topS 31) 0) 29 rfl rfl
    exact ⟨ok key, He.glo_ok X G (ok key).glo, fun _ => ⟨fd, ["self", "index"], in_BadWish (fun_of F) (ok key).o (ok key).no, F.bindsN fun _ _ _ _ _ _ us hl => match us, hl with | [_, _], _ => rfl⟩⟩
  · obtain ⟨fd, F⟩ := ini_at c2 (x := "NoNumber") (q := "NoNumber.__init__") (st := inClass (topS 32) 0) 30 rfl rfl
    exact ⟨ok key, He.glo_ok X G (ok key).glo, fun _ => ⟨fd, ["self", "number"], in_NoNumber (fun_of F) (ok key).o (ok key).no, F.bindsN fun _ _ _ _ _ _ us hl => match us, hl with | [_, _], _ => rfl⟩⟩
  · exact ⟨ok key, He.glo_ok X G (ok key).glo, fun z => absurd rfl z⟩
theorem facts (X : K.In h) (G : h.Ns mainGlobals mg) {f : Addr} (hfa : mg ("law" : Str) = some (.ref f)) (c : says K) :
    ∃ fd : FuncData, (∀ (s : Shared) (v : Value), BindsTo s fd ⟨[v], []⟩ [("_law_script", v)]) ∧ ∀ base : Heap, K.In base → base.Ns mainGlobals mg → FnOk P w K mg base CX0 4 f fd ["_law_script"] (spLaw K) := by
  have cc := id c
  obtain ⟨c1, c2⟩ := c
  obtain ⟨_, k1⟩ := He.ba c1
  obtain ⟨k2, k3⟩ := He.ba k1
  obtain ⟨k4, k5⟩ := He.ba k3
  have fok := clsB_ok k2
  have rel := rel_ok k4 k5
  have fe : ∀ base, CT P w K mg base "FeltError" [] := fun base => ⟨fok, He.glo_ok X G fok.glo, fun z => absurd rfl z⟩
  obtain ⟨fd0, F0⟩ := def_at c2 (x := "_law_hand") (q := "_law_hand") (st := topS 35) 0 rfl rfl
  obtain ⟨fd1, F1⟩ := def_at c2 (x := "_law_mixed") (q := "_law_mixed") (st := topS 36) 1 rfl rfl
  obtain ⟨fd2, F2⟩ := def_at c2 (x := "_law_take") (q := "_law_take") (st := topS 37) 2 rfl rfl
  obtain ⟨fd3, F3⟩ := def_at c2 (x := "_law_name") (q := "_law_name") (st := topS 38) 3 rfl rfl
  obtain ⟨fd4, F4⟩ := def_at c2 (x := "_law_first") (q := "_law_first") (st := topS 39) 4 rfl rfl
  obtain ⟨fd5, F5⟩ := def_at c2 (x := "_law_second") (q := "_law_second") (st := topS 40) 5 rfl rfl
  obtain ⟨fd6, F6⟩ := def_at c2 (x := "_law_third") (q := "_law_third") (st := topS 41) 6 rfl rfl
  obtain ⟨fd7, F7⟩ := def_at c2 (x := "_law_classes") (q := "_law_classes") (st := topS 42) 7 rfl rfl
  obtain ⟨fd8, F8⟩ := def_at c2 (x := "_law_raised") (q := "_law_raised") (st := topS 43) 8 rfl rfl
  obtain ⟨fd9, F9⟩ := def_at c2 (x := "law") (q := "law") (st := topS 44) 9 rfl rfl
  have g0 := He.glo_ok X G (c2.fact 0 (f := .glo "_law_hand") rfl)
  have g1 := He.glo_ok X G (c2.fact 1 (f := .glo "_law_mixed") rfl)
  have g2 := He.glo_ok X G (c2.fact 2 (f := .glo "_law_take") rfl)
  have g3 := He.glo_ok X G (c2.fact 3 (f := .glo "_law_name") rfl)
  have g4 := He.glo_ok X G (c2.fact 4 (f := .glo "_law_first") rfl)
  have g5 := He.glo_ok X G (c2.fact 5 (f := .glo "_law_second") rfl)
  have g6 := He.glo_ok X G (c2.fact 6 (f := .glo "_law_third") rfl)
  have g7 := He.glo_ok X G (c2.fact 7 (f := .glo "_law_classes") rfl)
  have g8 := He.glo_ok X G (c2.fact 8 (f := .glo "_law_raised") rfl)
  have g9 := He.glo_ok X G (c2.fact 9 (f := .glo "law") rfl)
  have ml := He.free_ok X G (c2.fact 10 (f := .free "len") rfl)
  have mi := He.free_ok X G (c2.fact 11 (f := .free "int") rfl)
  have mr := He.free_ok X G (c2.fact 12 (f := .free "range") rfl)
  have mis := He.free_ok X G (c2.fact 13 (f := .free "isinstance") rfl)
  have mve := He.free_ok X G (c2.fact 14 (f := .free "ValueError") rfl)
  have b0 : L2.Binds K fd0 ["_law_script"] [] := F0.bindsN fun _ _ _ _ _ _ us hl => match us, hl with | [_], _ => rfl
  have b1 : L2.Binds K fd1 ["_law_number", "_law_turn"] [] := F1.bindsN fun _ _ _ _ _ _ us hl => match us, hl with | [_, _], _ => rfl
  have b2 : L2.Binds K fd2 ["_law_hand_here", "_law_many"] [] := F2.bindsN fun _ _ _ _ _ _ us hl => match us, hl with | [_, _], _ => rfl
  have b3 : L2.Binds K fd3 ["_law_hand_here"] [] := F3.bindsN fun _ _ _ _ _ _ us hl => match us, hl with | [_], _ => rfl
  have b4 : L2.Binds K fd4 ["_law_at", "_law_to", "_law_word", "_law_name_here"] [] := F4.bindsN fun _ _ _ _ _ _ us hl => match us, hl with | [_, _, _, _], _ => rfl
  have b5 : L2.Binds K fd5 ["_law_at", "_law_to", "_law_word", "_law_name_here"] [] := F5.bindsN fun _ _ _ _ _ _ us hl => match us, hl with | [_, _, _, _], _ => rfl
  have b6 : L2.Binds K fd6 ["_law_at", "_law_to", "_law_word", "_law_name_here"] [] := F6.bindsN fun _ _ _ _ _ _ us hl => match us, hl with | [_, _, _, _], _ => rfl
  have b7 : L2.Binds K fd7 ["_law_e"] [] := F7.bindsN fun _ _ _ _ _ _ us hl => match us, hl with | [_], _ => rfl
  have b8 : L2.Binds K fd8 ["_law_at", "_law_word"] [] := F8.bindsN fun _ _ _ _ _ _ us hl => match us, hl with | [_, _], _ => rfl
  have e := hfa.symm.trans g9
  cases e
  have bl := FunD.bindsA (ps := ["_law_script"]) F9 fun _ _ _ _ _ _ us hl => match us, hl with | [_], _ => rfl
  refine ⟨fd9, fun s v => bl s [v] rfl, fun base _ _ => ?_⟩
  have hC : AllC P w K mg base := all_c X G cc
  have Gt : FnOk P w K mg base CX0 2 (He.ga K "_law_take") fd2 ["_law_hand_here", "_law_many"] spTake := ok_take (k := 0) (fun_of F2) (fun_of F1) b1 g1 mi ml
  exact ok_law (fun_of F9) hC (fe base) rel ⟨_, fd0, g0, F0.kp, b0, ok_hand (k := 0) (fun_of F0) mi ml⟩ ⟨_, fd2, g2, F2.kp, b2, Gt⟩ ⟨_, fd3, g3, F3.kp, b3, ok_name (k := 0) (fun_of F3) Gt F2.kp b2 g2 mr⟩
    ⟨_, fd4, g4, F4.kp, b4, ok_First (fun_of F4) hC⟩ ⟨_, fd5, g5, F5.kp, b5, ok_Second (fun_of F5) hC⟩ ⟨_, fd6, g6, F6.kp, b6, ok_Third (fun_of F6) hC⟩ ⟨_, fd7, g7, F7.kp, b7, ok_Classes (fun_of F7) hC mis⟩
    ⟨_, fd8, g8, F8.kp, b8, ok_Raised (fun_of F8) hC (fe base) rel mis mve⟩ ml mr mis mve
end
end FK
open PySem PySem.W PySem.Calls PyProof.Rows
theorem PySem.Challenge.cw_feltstone_k00_errors_side_by_side_holds : PySem.Challenge.rw_feltstone_k00_errors_side_by_side.Holds := by
  w_on; o_law
  refine HandSHeadRun.head_any (r := OpenLaw.row PySem.Challenge.rw_feltstone_k00_errors_side_by_side) (q := view (OpenLaw.row PySem.Challenge.rw_feltstone_k00_errors_side_by_side).prog [44]) (H := FK.hookM 5) (ob := FK.ob) (M := 9000) (loose := FK.names)
    (d := HandSHeadRun.topDef (OpenLaw.row PySem.Challenge.rw_feltstone_k00_errors_side_by_side).prog 44) (kwd := []) FK.ob_eq
    (by kernel_rfl) (fun s => by kernel_rfl) FK.run (by kernel_rfl) (by kernel_rfl) (by kernel_rfl) (by rfl) (by first | assumption | decide +kernel) (by decide +kernel) ⟨rfl, rfl, rfl, rfl, rfl, by decide +kernel⟩ ?hw ?hc
  case hw => w_witness2
  case hc =>
    refine L2.walk_ofE (l := PySem.Challenge.rw_feltstone_k00_errors_side_by_side) (n := 63) (k := 4) (x := "_law_script") (CX := L2.CX0) rfl (by decide) (by kernel_rfl) ⟨rfl, by decide, by decide⟩ ?F (fun _ _ _ _ z => z)
    intro w mg fa h Y G hmg0
    obtain ⟨K, KX, c⟩ := Y
    have hmg : mg ("law" : PySem.Str) = some (.ref fa) := by
      have e : (HandSHeadRun.topDef (OpenLaw.row PySem.Challenge.rw_feltstone_k00_errors_side_by_side).prog 44).name = ("law" : PySem.Str) := by kernel_rfl
      rw [← e]
      exact hmg0
    obtain ⟨fd, hb, hF⟩ := FK.facts (P := (PySem.Challenge.rw_feltstone_k00_errors_side_by_side).prog) (w := w) KX G hmg c
    exact ⟨K, fd, FK.spLaw K, KX, hb, fun H a ns hl _ hS => ⟨a, ns, rfl, hS, hl, fun _ => rfl⟩, hF⟩
