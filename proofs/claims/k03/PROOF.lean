import PyProof.Rows.All
import Wide.All
import OpenK.AllK
import Wide.FinOn
import HandS.ForMost
import HandS.WordsExc
import HandS.ExcInit
import HandS.ExcIs
import HandS.ExcField
import HandS.ExcValue
import HandS.IsInst
import KE.KExcIs
import HandS.Defaults
import HandS.HeadHook1
import HandS.HeadHook2
import HandS.Wide
import HandS.Gcd
import HandS.NoneIn
import HandS.TryMany
import HandS.Flow
import HandS.TupAny
import HandS.Style
import KE.KStateDown
import HandS.Head0
import HandS.Head1
import HandS.Head2
import HandS.Head3
import HandS.HeadEnd
import PySem.Challenge.RW_feltstone_k03_whole_places_and_amounts
set_option Elab.async false
set_option linter.all false
set_option maxRecDepth 100000
set_option maxHeartbeats 4000000
/-! exceptions of own classes as values: made, read, asked for their class -/
namespace FX
open PySem PySem.Spec PyProof.Rows L2
/-- at e an exception of the class at C, with these fields -/
def ExAt (H : Hp) (e C : Addr) (fs : List (Str × V)) : Prop :=
  (fs = [] ∧ H e = some (exo e C none)) ∨ ∃ d, H e = some (exo e C (some d)) ∧ H d = some (exd d fs)
theorem ExAt.same {H H' : Hp} {e C : Addr} {fs : List (Str × V)} (x : ExAt H e C fs) (s : Same H H') : ExAt H' e C fs := by
  rcases x with ⟨a, b⟩ | ⟨d, a, b⟩
  · exact .inl ⟨a, s _ _ b⟩
  · exact .inr ⟨d, s _ _ a, s _ _ b⟩
/-- what an exception class's own constructor does -/
def spInit (C : Addr) (names : List Str) : Sp := fun vs H Q _ => ∃ (a : Addr) (ws : List V), vs = .ref a :: ws ∧ ws.length = names.length ∧ H a = some (exo a C none) ∧
  ∀ H' d, (∀ b o, b ≠ a → H b = some o → H' b = some o) → H' a = some (exo a C (some d)) → H' d = some (exd d (names.zip ws).reverse) → H d = none → Q .non H'
/-- the text's facts of an exception class, as one look -/
def oexB (K : PySem.W.Frag) (C : Addr) : Bool := (match K.lookup C with
    | some ⟨.type "type", _, .cls cd, sl⟩ => (match cd.mro, sl.toList with
      | .ref D :: bm, [_, _, _, _, some (.builtin n), _] => decide (D = C) && (decide (n = "ValueError.__new__") && (!cd.hasDel && (cd.hasDict && PySem.HandSPX.refsVE bm)))
      | _, _ => false)
    | _ => false) && (He.eqO (PySem.W.findIn K (.ref C) "__setattr__") (some (some (.builtin "object.__setattr__"))) && (decide (PySem.W.subIn K (.ref C) (.type "BaseException") = some true) && (decide (PySem.W.typeIn K (.ref C) = some (.type "type")) && PySem.W.keepIn K (.ref C))))
theorem oexB_ok {K : PySem.W.Frag} {C : Addr} (h : oexB K C = true) : OexC K C := by
  obtain ⟨h0, h⟩ := He.ba h
  obtain ⟨h1, h⟩ := He.ba h
  obtain ⟨h2, h⟩ := He.ba h
  obtain ⟨h3, h4⟩ := He.ba h
  refine ⟨?_, He.eqO_ok h1, of_decide_eq_true h2, of_decide_eq_true h3, h4⟩
  split at h0
  · rename_i dd cd sl lk
    split at h0
    · rename_i D bm k0 k1 k2 k3 n k5 em es
      obtain ⟨a, h0⟩ := He.ba h0
      obtain ⟨b, h0⟩ := He.ba h0
      obtain ⟨c, h0⟩ := He.ba h0
      obtain ⟨d, e⟩ := He.ba h0
      obtain rfl := of_decide_eq_true a
      obtain rfl := of_decide_eq_true b
      obtain ⟨nm, bs, mro, ns, qn, hd, sn, sub, ab, col, del⟩ := cd
      obtain ⟨l⟩ := sl
      dsimp only at em es c d
      subst em es d
      have c' : del = false := by simpa using c
      subst c'
      exact ⟨nm, qn, ns, bs, bm, sn, sub, ab, col, dd, k0, k1, k2, k3, k5, lk, e⟩
    · cases h0
  · cases h0
def isB (K : PySem.W.Frag) (D : Addr) : Bool := He.eqO (PySem.W.findIn K (.ref D) "__getattribute__") (some (some (.builtin "BaseException.__getattribute__"))) && (He.eqO (PySem.W.findIn K (.ref D) "__getattr__") (some none) &&
  (decide (PySem.W.subIn K (.ref D) (.type "BaseException") = some true) && (PySem.W.hasDictIn K D && (He.eqO (PySem.W.findIn K (.ref D) "__class__") (some (some (.builtin "object.__class__"))) &&
  (He.eqO (PySem.W.specialIn K (.builtin "object.__class__") "__get__") (some (some (.builtin "getset_descriptor.__get__"))) && (decide (PySem.W.takesIn K (.builtin "object.__class__") = some true) && decide (PySem.W.mroIn K D (.type "object") = some true)))))))
theorem isB_ok {K : PySem.W.Frag} {D : Addr} (h : isB K D = true) : ExcC K D := by
  obtain ⟨h1, h⟩ := He.ba h
  obtain ⟨h2, h⟩ := He.ba h
  obtain ⟨h3, h⟩ := He.ba h
  obtain ⟨h4, h⟩ := He.ba h
  obtain ⟨h5, h⟩ := He.ba h
  obtain ⟨h6, h⟩ := He.ba h
  obtain ⟨h7, h8⟩ := He.ba h
  exact ⟨He.eqO_ok h1, He.eqO_ok h2, of_decide_eq_true h3, h4, He.eqO_ok h5, He.eqO_ok h6, of_decide_eq_true h7, of_decide_eq_true h8⟩
/-- a class with its own constructor (the fields' names), or without one -/
def clsB (K : PySem.W.Frag) (x : Str) (names : List Str) : Bool := (He.Fa.glo x).ok K && (oexB K (He.ga K x) && (isB K (He.ga K x) && (names.all (fun f => (He.Fa.noat x f).ok K) && (if names = [] then PySem.W.excIn K (He.ga K x) He.veBase "ValueError.__new__" else
  (He.eqO (PySem.W.findIn K (.ref (He.ga K x)) "__init__") (some (some (.ref (He.ma K (He.ga K x) "__init__")))) && decide (PySem.W.typeIn K (.ref (He.ma K (He.ga K x) "__init__")) = some (.type "function")))))))
structure ClsOk (K : PySem.W.Frag) (x : Str) (names : List Str) : Prop where
  glo : (He.Fa.glo x).ok K = true
  o : OexC K (He.ga K x)
  is : ExcC K (He.ga K x)
  no : ∀ f ∈ names, PySem.W.findIn K (.ref (He.ga K x)) f = some none
  xin : names = [] → PySem.W.excIn K (He.ga K x) [.type "ValueError", .type "Exception", .type "BaseException", .type "object"] "ValueError.__new__" = true
  ini : names ≠ [] → PySem.W.findIn K (.ref (He.ga K x)) "__init__" = some (some (.ref (He.ma K (He.ga K x) "__init__")))
  ity : names ≠ [] → PySem.W.typeIn K (.ref (He.ma K (He.ga K x) "__init__")) = some (.type "function")
theorem clsB_ok {K : PySem.W.Frag} {x : Str} {names : List Str} (h : clsB K x names = true) : ClsOk K x names := by
  obtain ⟨h1, h⟩ := He.ba h
  obtain ⟨h2, h⟩ := He.ba h
  obtain ⟨h3, h⟩ := He.ba h
  obtain ⟨h4, h5⟩ := He.ba h
  refine ⟨h1, oexB_ok h2, isB_ok h3, fun f hf => He.noat_ok (List.all_eq_true.mp h4 f hf), fun e => ?_, fun e => ?_, fun e => ?_⟩
  · rw [if_pos e] at h5; exact h5
  · rw [if_neg e] at h5; exact He.eqO_ok (He.ba h5).1
  · rw [if_neg e] at h5; exact of_decide_eq_true (He.ba h5).2
theorem fun_of {K : PySem.W.Frag} {x q : Str} {st : Stmt} {f : Addr} {fd : FuncData} (F : FunD K x q (defArgs st) (defBody st) (defScope st) [] [] f fd) : Fun K x q st f fd := by
  obtain ⟨oc, od, dV, kV, doc, pm, an, cdv, ct, osl, rfl, lk, hcd, hD, hK⟩ := F.ex
  rcases hD with ⟨_, rfl⟩ | ⟨e, _⟩
  · exact ⟨⟨oc, od, kV, doc, pm, an, cdv, ct, osl, rfl, lk, hcd⟩, F.kp⟩
  · exact absurd rfl e
section
variable {X : Cx} {pins : List (Addr × Obj)} {σ : L2.St} {H : Hp} {s : Shared}
/-- the exception as the library sees it -/
theorem ExAt.inst {e C : Addr} {fs : List (Str × V)} (I : Inv X pins σ H s) (x : ExAt H e C fs) :
    ∃ (oe : Obj) (od : Option Obj), PySem.W.InstAt s.heap e oe C od ∧ (∀ f v, fs.lookup f = some v → ∃ oo u, od = some oo ∧ PySem.W.lookIn f oo = some (some u) ∧ RelV v u) := by
  rcases x with ⟨rfl, a⟩ | ⟨d, a, b⟩
  · obtain ⟨t1, h1⟩ := exo_at I.hok a
    exact ⟨_, none, ⟨h1, rfl, rfl, trivial⟩, fun f v l => by cases l⟩
  · obtain ⟨t1, h1⟩ := exo_at I.hok a
    obtain ⟨mA, hns, rel⟩ := exd_at I.hok b
    obtain ⟨od, ho, hl⟩ := lookIn_ns hns
    refine ⟨_, some od, ⟨h1, rfl, rfl, ho⟩, fun f v l => ?_⟩
    obtain ⟨u, hu, ru⟩ := RelO.some_of (v := v) (o := mA f) (by rw [← l]; exact rel f)
    exact ⟨od, u, rfl, by rw [hl, hu], ru⟩
/-- isinstance of such a value -/
def rIsX (K : PySem.W.Frag) : List V → Hp → VK → Prop := fun xs H Q => ∃ (e C : Addr) (fs : List (Str × V)) (c : V) (cv : Value) (b : Bool),
  xs = [.ref e, c] ∧ ExAt H e C fs ∧ ExcC K C ∧ ClsV c cv ∧ PySem.W.kitOne K (.ref C) cv = some b ∧ Q (.bl b) H
theorem call_isX : CallR X (.builtin "isinstance") (rIsX X.K) := by
  intro pins s σ H xs us Q I r h
  obtain ⟨e, C, fs, c, cv, b, rfl, x, T, k, hk, q⟩ := h
  obtain ⟨u1, u2, rfl, r1, r2⟩ := vals2 r
  obtain rfl := k.eq r2
  cases (show u1 = Value.ref e from r1)
  obtain ⟨oe, od, J, _⟩ := ExAt.inst I x
  obtain ⟨cd, hcd, _⟩ := PySem.W.any_some T.hd
  exact PySem.W.kia_one (PySem.W.kitx_exc (by rw [hcd]; rfl) T.hg T.hk T.hs T.ha T.hn T.ht T.hm) I.kIn J hk (fun z => nomatch z) fun tk => ⟨.bl b, H, I.tok tk, rfl, q⟩
/-- e.f -/
def tXv (K : PySem.W.Frag) (f : Str) (te : TE) : TE := fun σ H Q => te σ H fun x H1 => ∃ (e C : Addr) (fs : List (Str × V)) (v : V), x = .ref e ∧ ExAt H1 e C fs ∧ ExcC K C ∧ PySem.W.findIn K (.ref C) f = some none ∧ fs.lookup f = some v ∧ Q v H1
theorem pe_xv {e : Expr} {te : TE} {f : Str} {pos : Pos} (he : PE X e te) (hb : attributeBase e f X.env (eval e X.env) = eval e X.env := by rfl) : PE X (.Attribute e f pos) (tXv X.K f te) := by
  refine ⟨fun pins s σ H Q I h => ?_⟩
  refine attr_of hb (thn (he.run pins s σ H _ I h) fun u s1 hh => ?_)
  obtain ⟨x, H1, I1, rx, a, C, fs, v, rfl, ex, T, hno, l, q⟩ := hh
  cases (show u = Value.ref a from rx)
  obtain ⟨oe, od, J, hl⟩ := ExAt.inst I1 ex
  obtain ⟨oo, u, rfl, hu, ru⟩ := hl f v l
  exact PySem.HandSPX.exc_get I1.kIn J T.hg T.hk T.hs (PySem.W.findObj_own T.hd hno rfl hu) (handed_of ru) ⟨v, H1, I1.tok _, ru, q⟩
/-- C(..) as a value -/
def tEx (C : Addr) (names : List Str) (ta : TA) : TE := fun σ H Q => ta σ H fun vs H1 => vs.length = names.length ∧ vs.length ≤ 1000 ∧ ∀ e H', H1 e = none → Same H1 H' → ExAt H' e C (names.zip vs).reverse → Q (.ref e) H'
theorem pe_ex {x : Str} {C fI : Addr} {k : Nat} {fd : FuncData} {ps names : List Str} {e : Expr} {es : List Expr} {ta : TA} {p pos : Pos} (T : OexC X.K C) (iC : PySem.W.findIn X.K (.ref C) "__init__" = some (some (.ref fI))) (tI : PySem.W.typeIn X.K (.ref fI) = some (.type "function"))
    (F1 : FnOk X.prog X.w X.K X.mg X.base CX0 k fI fd ps (spInit C names)) (hr : Room (k + 1) X.A) (hb : Binds X.K fd ps []) (hg : Gl X x) (hm : X.mg x = some (.ref C)) (ha : PA X (e :: es) ta)
    (hdb : (x == ("__debug__" : Str)) = false := by decide) (he : starEach (e :: es) X.env = (false, eval e X.env) :: starEach es X.env := by rfl) (hpl : (backTo pos (starEach es X.env)).any (·.1) = false := by rfl) :
    PE X (.Call (.Name x p) (e :: es) [] pos) (tEx C names ta) := by
  refine ⟨fun pins s σ H Q I h => ?_⟩
  obtain ⟨nm, q, N, bs, bm, sn, sub, ab, col, dd, k0, k1, k2, k3, k5, hC, hbm⟩ := T.cls
  refine wpAny_Call_Name_kw (ld_glob I hg hm ?_ hdb)
  refine PySem.W.callWith_K (h₀ := X.base) I.ok.mod.kin T.kC (thn (ha.run pos pins s σ H _ I h) fun us s1 ⟨vs, H1, I1, r1, hl, hz, q1⟩ => ⟨I1.kIn, ?_⟩) he hpl
  show wpAny _ _ (call (.ref C) us) _ _ _
  obtain ⟨hp, g, dr, tk, os⟩ := s1
  have hsz : hp.objs.size ≤ hp.objs.size + 1 := Nat.le_succ _
  have hn : H1 (hp.objs.size + 1) = none := I1.hok.fresh hsz
  have kk : ∀ b o, hp.get? b = some o → ((hp.push (PySem.W.kdv_tup us)).push (PySem.HandSPX.excO C hp.objs.size)).get? b = some o := fun b o e => Heap.get?_push_of_some _ (Heap.get?_push_of_some _ e)
  have hget : ((hp.push (PySem.W.kdv_tup us)).push (PySem.HandSPX.excO C hp.objs.size)).get? (hp.objs.size + 1) = some (PySem.HandSPX.excO C hp.objs.size) := by heap_get
  have I2 : Inv X pins σ (upd H1 (hp.objs.size + 1) (exo (hp.objs.size + 1) C none)) ⟨(hp.push (PySem.W.kdv_tup us)).push (PySem.HandSPX.excO C hp.objs.size), g, dr, tk, os⟩ :=
    I1.laid (t' := tk) (a := hp.objs.size + 1) (o := exo (hp.objs.size + 1) C none) (h' := (hp.push (PySem.W.kdv_tup us)).push (PySem.HandSPX.excO C hp.objs.size)) kk hsz (exo_ok hget)
  have r2 : Vals (V.ref (hp.objs.size + 1) :: vs) (Value.ref (hp.objs.size + 1) :: us) := .cons rfl r1
  have hq : spInit C names (V.ref (hp.objs.size + 1) :: vs) (upd H1 (hp.objs.size + 1) (exo (hp.objs.size + 1) C none)) (fun v H2 => v = .non ∧ Q (.ref (hp.objs.size + 1)) H2) E0 := by
    refine ⟨_, vs, rfl, hl, upd_same, fun H' d keep ea ed _ => ⟨rfl, q1 _ H' hn (fun b o z => ?_) (.inr ⟨d, ea, ed⟩)⟩⟩
    have nb : b ≠ hp.objs.size + 1 := ne_of_none z hn
    exact keep b o nb (by rw [upd_ne nb]; exact z)
  have hlen : (Value.ref (hp.objs.size + 1) :: us).length = ps.length := by
    have e := r2.length
    rw [F1.len _ _ _ _ hq] at e
    exact e.symm
  have hus : us.length ≤ sizeLine := by
    rw [← Paired.length r1, sizeLine_eq]
    omega
  have bb : BindsTo ⟨(hp.push (PySem.W.kdv_tup us)).push (PySem.HandSPX.excO C hp.objs.size), g, dr, tk, os⟩ fd ⟨Value.ref (hp.objs.size + 1) :: us, []⟩ (ps.zip (Value.ref (hp.objs.size + 1) :: us)) := by
    have z := hb ⟨(hp.push (PySem.W.kdv_tup us)).push (PySem.HandSPX.excO C hp.objs.size), g, dr, tk, os⟩ (Value.ref (hp.objs.size + 1) :: us) I2.kIn (by rw [List.append_nil]; exact hlen)
    rw [List.append_nil] at z
    exact z
  refine wpAny_call (PySem.HandSPX.call_own F.excBase_ValueError (fun Y => PySem.HandSPX.refsVE_contains Y bm hbm) (I1.kIn _ _ hC) (PySem.W.looks_findIn I1.kIn iC) (fun self => PySem.W.bind_fn I1.kIn self tI) hus
    (codeAny_mono (F1.run _ X.stack _ _ ⟨Value.ref (hp.objs.size + 1) :: us, []⟩ (Value.ref (hp.objs.size + 1) :: us) _ _ E0 (hr.make C us []) (I2.env0.make C us []) bb r2 hq) fun r s' hq' => ?_))
  cases r with
  | error er => exact False.elim hq'
  | ok fl =>
    cases fl with
    | ret u =>
      obtain ⟨v, H', I3, rv, ev, q3⟩ := I2.after hq'
      subst ev
      exact ⟨rv, ⟨V.ref (hp.objs.size + 1), H', I3, rfl, q3⟩⟩
    | next => exact False.elim hq'
    | brk => exact False.elim hq'
    | cont => exact False.elim hq'
theorem pe_ex0 {x : Str} {C : Addr} {p pos : Pos} (T : OexC X.K C) (q : PySem.W.excIn X.K C [.type "ValueError", .type "Exception", .type "BaseException", .type "object"] "ValueError.__new__" = true) (hg : Gl X x) (hm : X.mg x = some (.ref C))
    (hdb : (x == ("__debug__" : Str)) = false := by decide) : PE X (.Call (.Name x p) [] [] pos) (tEx C [] tNil) := by
  refine ⟨fun pins s σ H Q I h => ?_⟩
  refine wpAny_Call_Name_kw (ld_glob I hg hm ?_ hdb)
  refine PySem.W.callWith_K0 I.kIn T.kC ?_
  obtain ⟨_, _, q1⟩ := h
  obtain ⟨hp, g, dr, tk, os⟩ := s
  obtain ⟨bm, N, nm, qn, bs, hdct, sn, sub, ab, col, dd, k0, k1, k2, k3, k5, mN, hC, hN, hni, Tl⟩ := exc_obj I.kIn q
  refine wpAny_call_exc_subT F.excBase_ValueError Tl hC hN hni (fun h' a hm => ?_) (by show 0 ≤ sizeLine; exact Nat.zero_le _)
  have hn : H a = none := I.hok.gone hm.new
  obtain ⟨t, ht, _, _⟩ := hm.there
  refine ⟨.ref a, upd H a (exo a C none), I.laidN hm.keeps hm.new hn (exo_ok ht), rfl, q1 a _ hn (fun b o z => ?_) (.inl ⟨rfl, upd_same⟩)⟩
  rw [upd_ne (ne_of_none z hn)]; exact z
end
end FX
set_option Elab.async false
set_option linter.all false
set_option maxRecDepth 100000
set_option maxHeartbeats 4000000
/-! a try with several clauses, each with a name for the error or without one; what a suite asks of the error -/
namespace FX
open PySem PySem.Spec PyProof.Rows L2
abbrev Clau := Value × Option Nat × (Addr → Value → Option Addr → TS)
def endsAs (o : Option Nat) (D : Ends) : Ends := match o with
  | none => D
  | some i => ⟨fun st hp => D.nx (st.set i none) hp, D.rt, fun st hp => D.bk (st.set i none) hp, fun st hp => D.ct (st.set i none) hp⟩
def inAs (o : Option Nat) (a : Addr) (st : L2.St) : L2.St := match o with
  | none => st
  | some i => st.set i (some (.ref a))
def wNm (K : PySem.W.Frag) (Wout : WX) (D : Ends) : List Clau → WX
  | [] => Wout
  | (c, o, ts) :: r => fun cls d st hp => ∃ b, PySem.W.exmOne K cls c = some b ∧ (b = true → ∀ a, hp a = none → ts a cls d (endsAs o D) (inAs o a st) hp) ∧ (b = false → wNm K Wout D r cls d st hp)
inductive HdsN (X : Cx) : List ExceptHandler → List Clau → Prop
  | nil : HdsN X [] []
  | plain {x : Str} {c : Value} {ts : Addr → Value → Option Addr → TS} {b0 : Stmt} {su : List Stmt} {np ps : Pos} {hl : List ExceptHandler} {l : List Clau} (hc : Names X x c)
      (hsu : ∀ (a : Addr) (oe : Obj) (cls : Value) (d : Option Addr) (pn : List (Addr × Obj)), Zc cls d oe → (∃ vs, oe.data = .fields vs) → PSs (X.suite a ((a, oe) :: pn)) (b0 :: su) (ts a cls d)) (r : HdsN X hl l) :
      HdsN X (.ExceptHandler (some (.Name x np)) none (b0 :: su) ps :: hl) ((c, none, ts) :: l)
  | named {x n : Str} {c : Value} {i : Nat} {ts : Addr → Value → Option Addr → TS} {b0 : Stmt} {su : List Stmt} {np ps : Pos} {hl : List ExceptHandler} {l : List Clau} (hc : Names X x c) (hN : X.N.Nodup) (hi : X.N[i]? = some n) (hln : X.env.kindOf n = some .local)
      (hsu : ∀ (a : Addr) (oe : Obj) (cls : Value) (d : Option Addr) (pn : List (Addr × Obj)), Zc cls d oe → (∃ vs, oe.data = .fields vs) → PSs (X.suite a ((a, oe) :: pn)) (b0 :: su) (ts a cls d)) (r : HdsN X hl l) :
      HdsN X (.ExceptHandler (some (.Name x np)) (some n) (b0 :: su) ps :: hl) ((c, some i, ts) :: l)
section
variable {X : Cx}
theorem names_own {x : Str} {C : Addr} (hg : Gl X x) (hm : X.mg x = some (.ref C)) (hd : (x == ("__debug__" : Str)) = false := by decide) : Names X x (.ref C) := ⟨hg, hd, .inl hm⟩
/-- the class that a clause names is asked for -/
theorem ask_class {x : Str} {np : Pos} {c : Value} {a : Addr} {oe : Obj} {pl : List (Addr × Obj)} {st : L2.St} {hp : Hp} {s : Shared} (hc : Names X x c) (J : Inv (X.suite a ((a, oe) :: pl)) [] st hp s) {Q : Value → Shared → Prop} {E : Value → Shared → Prop} (q : Q c s) :
    wpAny (model X.prog X.w) (X.A.mark (some (.ref a))) (eval (.Name x np) X.env) Q E s := by
  rcases hc with ⟨hg, hb, hm | ⟨hm, hv, hnn⟩⟩
  · exact ld_glob (X := X.suite a ((a, oe) :: pl)) J hg hm q hb
  · exact ld_blt (X := X.suite a ((a, oe) :: pl)) J hg hm hv q hnn hb
theorem ps_try_nm {body : List Stmt} {h0 : ExceptHandler} {hl : List ExceptHandler} {l : List Clau} {pos : Pos} {tb : WX → TS} {Wout : WX} (stk : X.stack = X.env :: X.outer) (fra : X.env.frame = some X.env.locals) (tk : Takes X Wout)
    (hb : ∀ (W : WX) (pn : List (Addr × Obj)) (xe : Value → Shared → Prop), Takes (X.tr pn xe) W → PassesOwn (model X.prog X.w) X.A X.env xe → PSs (X.tr pn xe) body (tb W)) (hh : HdsN X (h0 :: hl) l) :
    PS X (.Try body (h0 :: hl) [] [] pos) (fun D st hp => tb (wNm X.K Wout D l) D st hp) := by
  refine ⟨fun pins s σ H D I h => ?_⟩
  have fine := I.ok
  have frs2 : X.A.frames = some (X.env :: X.outer) := fine.frames.trans (congrArg some stk)
  refine wpAny_Try_except (wpAny_mono ((hb (wNm X.K Wout D l) (X.pn ++ pins) (fun x z => wpAny (model X.prog X.w) X.A (noteFrame x X.env) (fun _ z2 => wpAny (model X.prog X.w) X.A (setFlight x none) (fun _ z3 =>
    wpAny (model X.prog X.w) X.A (handleBy x X.env (h0 :: hl)) (SP X pins D) X.xe z3) X.xe z2) X.xe z) (fun u t0 air => ?_) PassesOwn.looking).run [] s σ H D (I.toTry _) h) (fun f t0 got => ?_) (fun _ _ bad => bad))
  · obtain ⟨ad, gr, sI, pp, st, hp, cls, d, rfl, J1, nb, up, sky, na, os, ag, w⟩ := air
    have J : Inv X pins st hp sI := J1.ofTry fine
    have sky2 : Sky gr (X.env :: X.outer) ad (Zc cls d) X.env.locals t0.heap := stk ▸ sky
    show wpAny (model X.prog X.w) X.A (noteFrame (.ref ad) X.env) _ _ _
    refine Sky.land Zc.steady frs2 fra sky2 fun hA flA upA => ?_
    have JA : Inv X pins st hp { t0 with heap := hA } := J.landed nb flA.1 (up.trans upA) os ag
    obtain ⟨oA, vA, gA, zA, dA⟩ := flA.there
    have off : ad ∉ frs (X.env :: X.outer) := fun mem => by
      obtain ⟨_, o2, g2, bad⟩ := flA.2.2.1.mem mem
      rw [gA] at g2
      cases g2
      exact bad _ dA
    have offL : ad ≠ X.env.locals := fun z => off (List.mem_filterMap.mpr ⟨X.env, List.mem_cons_self, by rw [fra, z]⟩)
    have offF : ad ∉ X.fs := fun mem => by
      obtain ⟨v, hv, z⟩ := List.mem_filterMap.mp mem
      exact off (List.mem_filterMap.mpr ⟨v, List.mem_cons_of_mem _ hv, z⟩)
    have SA := JA.suite gA dA na offL offF
    have all : ∀ {hq : List ExceptHandler} {lq : List Clau}, HdsN X hq lq → wNm X.K Wout D lq cls d st hp → wpAny (model X.prog X.w) X.A (handleBy (.ref ad) X.env hq) (SP X pins D) X.xe { t0 with heap := hA } := by
      intro hq lq k
      induction k with
      | nil =>
        intro w
        refine wpAny_handleBy_nil ?_
        obtain ⟨_, _, _, oe, vs, tb2, _, _, he, _, hd, h1, _⟩ := id flA
        unfold PySem.passOn
        refine wpAny_bind (wpAny_field he hd h1 ?_)
        rw [if_neg (show ¬ ((Value.ref tb2 == Value.none) = true) by simp)]
        have fin : wpAny (model X.prog X.w) X.A (setFlight (.ref ad) X.env.frame) (fun _ z4 => wpAny (model X.prog X.w) X.A (throw (.ref ad) : Sem Flow) (SP X pins D) X.xe z4) X.xe { t0 with heap := hA } := by
          rw [fra]
          refine HandSPX.setFlight_upZ flA fun hB hhB upB => wpAny_throw (tk _ _ ?_)
          exact ⟨ad, gr, sI, pins, st, hp, cls, d, rfl, J, nb, (up.trans upA).trans upB, .inr (.inr (stk ▸ hhB)), na, os, ag, w⟩
        first
          | exact wpAny_bind (wpAny_pure (wpAny_bind fin))
          | exact wpAny_bind fin
      | plain hc hsu r ih =>
        intro w
        obtain ⟨b, hb1, yes, no⟩ := w
        refine wpAny_handleBy_cons (codeAny_handlers_test ?_) (by intro q; cases q)
        have look := PySem.W.exm_one (M := model X.prog X.w) JA.kIn (fun A Q E s k q => wpAny_typeOf_ref (k _ _ gA) (by rw [zA.1]; exact q)) hb1
        refine ask_class hc SA (look.here ?_)
        cases b with
        | false => exact ih (no rfl)
        | true =>
          refine codeAny_handlers_suite (HandSPX.lands_againZ flA fun hB flB upB => ?_)
          have JB : Inv X pins st hp { t0 with heap := hB } := J.landed nb flB.1 ((up.trans upA).trans upB) os ag
          obtain ⟨oB, vB, gB, zB, dB⟩ := flB.there
          refine wpAny_mono ((hsu ad oB cls d (X.pn ++ pins) zB ⟨_, dB⟩).run [] _ _ hp _ (JB.suite gB dB na offL offF) (yes rfl ad na)) (fun f z6 got => ?_) (fun _ _ z => False.elim z)
          cases f with
          | ret u => obtain ⟨v6, st6, hp6, S6, r6, q6⟩ := got; exact ⟨_, _, _, S6.unsuite fine, r6, q6⟩
          | next => obtain ⟨st6, hp6, S6, q6⟩ := got; exact ⟨_, _, S6.unsuite fine, q6⟩
          | brk => obtain ⟨st6, hp6, S6, q6⟩ := got; exact ⟨_, _, S6.unsuite fine, q6⟩
          | cont => obtain ⟨st6, hp6, S6, q6⟩ := got; exact ⟨_, _, S6.unsuite fine, q6⟩
      | @named x n c i ts b0 su np ps hl2 l2 hc hN hi hln hsu r ih =>
        intro w
        obtain ⟨b, hb1, yes, no⟩ := w
        refine wpAny_handleBy_cons (codeAny_handlers_test ?_) (by intro q; cases q)
        have look := PySem.W.exm_one (M := model X.prog X.w) JA.kIn (fun A Q E s k q => wpAny_typeOf_ref (k _ _ gA) (by rw [zA.1]; exact q)) hb1
        refine ask_class hc SA (look.here ?_)
        cases b with
        | false => exact ih (no rfl)
        | true =>
          refine codeAny_handlers_suite_as (HandSPX.lands_againZ flA fun hB flB upB => ?_)
          have JB : Inv X pins st hp { t0 with heap := hB } := J.landed nb flB.1 ((up.trans upA).trans upB) os ag
          obtain ⟨oB, vB, gB, zB, dB⟩ := flB.there
          refine store_ok (X := X.suite ad ((ad, oB) :: (X.pn ++ pins))) (v := .ref ad) (JB.suite gB dB na offL offF) hN hi (.inl hln) rfl (fun z5 S5 => ?_) (.inr hln)
          refine wpAny_mono ((hsu ad oB cls d (X.pn ++ pins) zB ⟨_, dB⟩).run [] z5 _ hp _ S5 (yes rfl ad na)) (fun f z6 got => ?_) (fun _ _ z => False.elim z)
          have gone : ∀ {st6 : L2.St} {hp6 : Hp} {Q : Shared → Prop}, Inv (X.suite ad ((ad, oB) :: (X.pn ++ pins))) [] st6 hp6 z6 → (∀ z7, Inv X pins (st6.set i none) hp6 z7 → Q z7) →
              wpAny (model X.prog X.w) X.A (do bindName X.env n .none; unbindBehindTheSuite X.env n ps) (fun _ z7 => Q z7) X.xe z6 := fun S6 hq => gone_ok (S6.unsuite fine) hN hi hln hq
          cases f with
          | ret u => obtain ⟨v6, st6, hp6, S6, r6, q6⟩ := got; exact gone S6 fun z7 J7 => ⟨_, _, _, J7, r6, q6⟩
          | next => obtain ⟨st6, hp6, S6, q6⟩ := got; exact gone S6 fun z7 J7 => ⟨_, _, J7, q6⟩
          | brk => obtain ⟨st6, hp6, S6, q6⟩ := got; exact gone S6 fun z7 J7 => ⟨_, _, J7, q6⟩
          | cont => obtain ⟨st6, hp6, S6, q6⟩ := got; exact gone S6 fun z7 J7 => ⟨_, _, J7, q6⟩
    exact all hh w
  · cases f with
    | ret u => obtain ⟨v, st, hp, J, r, q⟩ := got; exact ⟨v, st, hp, J.ofTry fine, r, q⟩
    | next => obtain ⟨st, hp, J, q⟩ := got; exact wpAny_execs_nil ⟨st, hp, J.ofTry fine, q⟩
    | brk => obtain ⟨st, hp, J, q⟩ := got; exact ⟨st, hp, J.ofTry fine, q⟩
    | cont => obtain ⟨st, hp, J, q⟩ := got; exact ⟨st, hp, J.ofTry fine, q⟩
/-- isinstance of the error that the suite holds -/
def rIsP (K : PySem.W.Frag) (a : Addr) (cls : Value) (d : Option Addr) : List V → Hp → VK → Prop := fun xs hp Q => ∃ (C : Addr) (c : V) (cv : Value) (b : Bool), xs = [.ref a, c] ∧ cls = .ref C ∧ ExcC K C ∧
  (d = none ∨ ∃ dd fs, d = some dd ∧ hp dd = some (.xd fs)) ∧ ClsV c cv ∧ PySem.W.kitOne K (.ref C) cv = some b ∧ Q (.bl b) hp
theorem call_isP {a : Addr} {oe : Obj} {cls : Value} {d : Option Addr} {pn : List (Addr × Obj)} (hz : Zc cls d oe) (hf : ∃ vs, oe.data = .fields vs) : CallR (X.suite a ((a, oe) :: pn)) (.builtin "isinstance") (rIsP X.K a cls d) := by
  intro pins s σ H xs us Q I r h
  obtain ⟨C, c, cv, b, rfl, rfl, T, hd, k, hk, q⟩ := h
  obtain ⟨u1, u2, rfl, r1, r2⟩ := vals2 r
  obtain rfl := k.eq r2
  cases (show u1 = Value.ref a from r1)
  obtain ⟨got, _⟩ := I.pin (a, oe) (List.mem_append_left _ List.mem_cons_self)
  obtain ⟨vs, hv⟩ := hf
  have J : ∃ od, PySem.W.InstAt s.heap a oe C od := by
    rcases hd with rfl | ⟨dd, fs, rfl, e⟩
    · exact ⟨none, got, hz.1, by unfold PySem.W.notCls; rw [hv] <;> rfl, by rw [hz.2]; trivial⟩
    · have hx : ObjOk X.prog X.w H s.heap dd (.xd fs) := I.hok dd _ e
      obtain ⟨mA, hns, _⟩ := hx
      obtain ⟨od, ho, _⟩ := lookIn_ns hns
      exact ⟨some od, got, hz.1, by unfold PySem.W.notCls; rw [hv] <;> rfl, by rw [hz.2]; exact ho⟩
  obtain ⟨od, J⟩ := J
  obtain ⟨cd, hcd, _⟩ := PySem.W.any_some T.hd
  exact PySem.W.kia_one (PySem.W.kitx_exc (by rw [hcd]; rfl) T.hg T.hk T.hs T.ha T.hn T.ht T.hm) I.kIn J hk (fun z => nomatch z) fun tk => ⟨.bl b, H, I.tok tk, rfl, q⟩
/-- an own error without a constructor, made to be raised -/
theorem pmk_ex0 {x : Str} {C : Addr} {p pos : Pos} (H0 : Hp) (e0 : X.H_0 = H0) (hx : X.ex = []) (T : OexC X.K C) (q : PySem.W.excIn X.K C [.type "ValueError", .type "Exception", .type "BaseException", .type "object"] "ValueError.__new__" = true) (hg : Gl X x) (hm : X.mg x = some (.ref C))
    (hdb : (x == ("__debug__" : Str)) = false := by decide) : PMk X (.Call (.Name x p) [] [] pos) (fun st hp Q => (∀ a, hp a = none → H0 a = none) ∧ Q (.ref C) none hp) := by
  have he : PE X (.Call (.Name x p) [] [] pos) (fun _ hp Q => ∀ a, hp a = none → Q (.ref a) (upd hp a (ExO (.ref C) a))) := by
    refine ⟨fun pins s σ H Q I h => ?_⟩
    refine wpAny_Call_Name_kw (ld_glob I hg hm ?_ hdb)
    refine PySem.W.callWith_K0 I.kIn T.kC ?_
    obtain ⟨h0, g, dr, tk, os⟩ := s
    obtain ⟨bm, N, nm, qn, bs, hdct, sn, sub, ab, col, dd, k0, k1, k2, k3, k5, mN, hC, hN, hni, Tl⟩ := exc_obj I.kIn q
    refine wpAny_call_exc_subT F.excBase_ValueError Tl hC hN hni (fun h' a hm => ?_) (by show 0 ≤ sizeLine; exact Nat.zero_le _)
    have hn : H a = none := I.hok.gone hm.new
    obtain ⟨t, ht, _, _⟩ := hm.there
    exact ⟨.ref a, upd H a (ExO (.ref C) a), I.laidN hm.keeps hm.new hn (exO_ok ht ⟨rfl, rfl⟩ rfl rfl rfl (show 4 < 6 by decide)), rfl, h a hn⟩
  intro pins s σ H Q I h
  obtain ⟨h0, hq⟩ := h
  refine pmk_ret hx he pins s σ H Q I fun a na => ⟨a, .ref C, rfl, upd_same, fr0_none (by rw [e0]; exact h0 a na), raises_own T.exC T.tyC, ?_⟩
  rw [delH_new na]
  exact hq
end
end FX
set_option Elab.async false
set_option linter.all false
set_option maxHeartbeats 4000000
/-! ratios as couples of ints, without the program -/
namespace RM
abbrev Rt := Int × Int
def g2 (t b : Int) : Int := ((Nat.gcd t.natAbs b.natAbs : Nat) : Int)
/-- lowest terms, for a bottom above 0 -/
def norm (t b : Int) : Rt := (t / g2 t b, b / g2 t b)
def IsRat (r : Rt) : Prop := 0 < r.2 ∧ Nat.gcd r.1.natAbs r.2.natAbs = 1
/-- r is t / b -/
def Rep (r : Rt) (t b : Int) : Prop := IsRat r ∧ 0 < b ∧ r.1 * b = t * r.2
theorem g2_pos {t b : Int} (hb : b ≠ 0) : 0 < g2 t b := by
  have : 0 < Nat.gcd t.natAbs b.natAbs := Nat.gcd_pos_of_pos_right _ (by omega)
  unfold g2; omega
theorem g2_pos' {t b : Int} (hb : t ≠ 0) : 0 < g2 t b := by
  have : 0 < Nat.gcd t.natAbs b.natAbs := Nat.gcd_pos_of_pos_left _ (by omega)
  unfold g2; omega
theorem g2_l (t b : Int) : ∃ k, t = g2 t b * k := by
  have h : ((Nat.gcd t.natAbs b.natAbs : Nat) : Int) ∣ t := Int.natAbs_dvd_natAbs.mp (by rw [Int.natAbs_natCast]; exact Nat.gcd_dvd_left _ _)
  exact h
theorem g2_r (t b : Int) : ∃ k, b = g2 t b * k := by
  have h : ((Nat.gcd t.natAbs b.natAbs : Nat) : Int) ∣ b := Int.natAbs_dvd_natAbs.mp (by rw [Int.natAbs_natCast]; exact Nat.gcd_dvd_right _ _)
  exact h
/-- both parts taken out -/
theorem g2_parts {t b : Int} (h : t ≠ 0 ∨ b ≠ 0) : ∃ x y, t = g2 t b * x ∧ b = g2 t b * y ∧ t / g2 t b = x ∧ b / g2 t b = y ∧ Nat.gcd x.natAbs y.natAbs = 1 := by
  have gp : 0 < g2 t b := by
    rcases h with h | h
    · exact g2_pos' h
    · exact g2_pos h
  obtain ⟨x, hx⟩ := g2_l t b
  obtain ⟨y, hy⟩ := g2_r t b
  have gn : g2 t b ≠ 0 := by omega
  refine ⟨x, y, hx, hy, Int.ediv_eq_of_eq_mul_right gn hx, Int.ediv_eq_of_eq_mul_right gn hy, ?_⟩
  have e : (g2 t b).natAbs = Nat.gcd t.natAbs b.natAbs := by unfold g2; exact Int.natAbs_natCast _
  have ex : t.natAbs = (g2 t b).natAbs * x.natAbs := by rw [← Int.natAbs_mul, ← hx]
  have ey : b.natAbs = (g2 t b).natAbs * y.natAbs := by rw [← Int.natAbs_mul, ← hy]
  have k : (g2 t b).natAbs = (g2 t b).natAbs * Nat.gcd x.natAbs y.natAbs := by
    rw [← Nat.gcd_mul_left, ← ex, ← ey]; exact e
  have gp2 : 0 < (g2 t b).natAbs := by omega
  exact Nat.eq_of_mul_eq_mul_left gp2 (by rw [Nat.mul_one]; exact k.symm)
theorem rep_norm {t b : Int} (hb : 0 < b) : Rep (norm t b) t b := by
  obtain ⟨x, y, hx, hy, dx, dy, c⟩ := g2_parts (t := t) (b := b) (.inr (by omega))
  have gp : 0 < g2 t b := g2_pos (by omega)
  unfold norm
  rw [dx, dy]
  refine ⟨⟨?_, c⟩, hb, ?_⟩
  · show 0 < y
    have z : 0 < g2 t b * y := hy ▸ hb
    exact (by
      rcases Int.lt_trichotomy 0 y with h | h | h
      · exact h
      · rw [← h, Int.mul_zero] at z; omega
      · have := Int.mul_neg_of_pos_of_neg gp h; omega)
  · show x * b = t * y
    have e1 : x * b = x * (g2 t b * y) := congrArg (x * ·) hy
    have e2 : t * y = (g2 t b * x) * y := congrArg (· * y) hx
    rw [e1, e2]; grind
theorem rep_self {r : Rt} (h : IsRat r) : Rep r r.1 r.2 := ⟨h, h.1, rfl⟩
theorem rat_eq {r s : Rt} (h : IsRat r) (k : IsRat s) (e : r.1 * s.2 = s.1 * r.2) : r = s := by
  obtain ⟨a, b⟩ := r
  obtain ⟨c, d⟩ := s
  obtain ⟨hb, h1⟩ := h
  obtain ⟨hd, k1⟩ := k
  dsimp only at *
  have en : a.natAbs * d.natAbs = c.natAbs * b.natAbs := by rw [← Int.natAbs_mul, ← Int.natAbs_mul, e]
  have bd : b.natAbs ∣ d.natAbs := by
    have : b.natAbs ∣ a.natAbs * d.natAbs := ⟨c.natAbs, by rw [en, Nat.mul_comm]⟩
    exact Nat.Coprime.dvd_of_dvd_mul_left (by rw [Nat.coprime_iff_gcd_eq_one, Nat.gcd_comm]; exact h1) this
  have db : d.natAbs ∣ b.natAbs := by
    have : d.natAbs ∣ c.natAbs * b.natAbs := ⟨a.natAbs, by rw [← en, Nat.mul_comm]⟩
    exact Nat.Coprime.dvd_of_dvd_mul_left (by rw [Nat.coprime_iff_gcd_eq_one, Nat.gcd_comm]; exact k1) this
  have e2 : b.natAbs = d.natAbs := Nat.dvd_antisymm bd db
  have e3 : b = d := by omega
  subst e3
  have e4 : a = c := Int.eq_of_mul_eq_mul_right (by omega) e
  rw [e4]
theorem rep_eq {r s : Rt} {t b t' b' : Int} (h : Rep r t b) (k : Rep s t' b') (e : t * b' = t' * b) : r = s := by
  obtain ⟨h1, hb, h2⟩ := h
  obtain ⟨k1, kb, k2⟩ := k
  refine rat_eq h1 k1 ?_
  have nz : b * b' ≠ 0 := by
    have : 0 < b * b' := Int.mul_pos hb kb
    omega
  refine Int.eq_of_mul_eq_mul_right nz ?_
  have e1 : r.1 * s.2 * (b * b') = (r.1 * b) * (s.2 * b') := by grind
  have e2 : s.1 * r.2 * (b * b') = (s.1 * b') * (r.2 * b) := by grind
  rw [e1, e2, h2, k2]
  have e3 : t * r.2 * (s.2 * b') = (t * b') * (r.2 * s.2) := by grind
  have e4 : t' * s.2 * (r.2 * b) = (t' * b) * (r.2 * s.2) := by grind
  rw [e3, e4, e]
theorem norm_of {r : Rt} {t b : Int} (h : Rep r t b) : norm t b = r := rep_eq (rep_norm h.2.1) h rfl
theorem norm_eq {t b t' b' : Int} (h : 0 < b) (k : 0 < b') (e : t * b' = t' * b) : norm t b = norm t' b' := rep_eq (rep_norm h) (rep_norm k) e
theorem norm_rat {t b : Int} (h : 0 < b) : IsRat (norm t b) := (rep_norm h).1
def radd (r s : Rt) : Rt := norm (r.1 * s.2 + s.1 * r.2) (r.2 * s.2)
def rneg (r : Rt) : Rt := (-r.1, r.2)
def rsub (r s : Rt) : Rt := norm (r.1 * s.2 - s.1 * r.2) (r.2 * s.2)
def rmul (r s : Rt) : Rt := norm (r.1 * s.1) (r.2 * s.2)
theorem rep_add {r s : Rt} {t b t' b' : Int} (h : Rep r t b) (k : Rep s t' b') : Rep (radd r s) (t * b' + t' * b) (b * b') := by
  obtain ⟨h1, hb, h2⟩ := h
  obtain ⟨k1, kb, k2⟩ := k
  have z := rep_norm (t := r.1 * s.2 + s.1 * r.2) (Int.mul_pos h1.1 k1.1)
  have pp : 0 < r.2 * s.2 := Int.mul_pos h1.1 k1.1
  refine ⟨z.1, Int.mul_pos hb kb, ?_⟩
  have nz : r.2 * s.2 ≠ 0 := by omega
  refine Int.eq_of_mul_eq_mul_right nz ?_
  have e := z.2.2
  show (norm (r.1 * s.2 + s.1 * r.2) (r.2 * s.2)).1 * (b * b') * (r.2 * s.2) = (t * b' + t' * b) * (norm (r.1 * s.2 + s.1 * r.2) (r.2 * s.2)).2 * (r.2 * s.2)
  generalize norm (r.1 * s.2 + s.1 * r.2) (r.2 * s.2) = n at e ⊢
  have e1 : n.1 * (b * b') * (r.2 * s.2) = (n.1 * (r.2 * s.2)) * (b * b') := by grind
  have e2 : (t * b' + t' * b) * n.2 * (r.2 * s.2) = ((t * r.2) * (s.2 * b') + (t' * s.2) * (r.2 * b)) * n.2 := by grind
  rw [e1, e2, e, ← h2, ← k2]; grind
theorem rep_neg {r : Rt} {t b : Int} (h : Rep r t b) : Rep (rneg r) (-t) b := by
  obtain ⟨⟨h0, h1⟩, hb, h2⟩ := h
  refine ⟨⟨h0, ?_⟩, hb, ?_⟩
  · show Nat.gcd (-r.1).natAbs r.2.natAbs = 1
    rw [Int.natAbs_neg]; exact h1
  · show -r.1 * b = -t * r.2
    rw [Int.neg_mul, Int.neg_mul, h2]
theorem rsub_eq (r s : Rt) : rsub r s = radd r (rneg s) := by
  unfold rsub radd rneg
  have : r.1 * s.2 - s.1 * r.2 = r.1 * s.2 + -s.1 * r.2 := by grind
  rw [this]
theorem rep_sub {r s : Rt} {t b t' b' : Int} (h : Rep r t b) (k : Rep s t' b') : Rep (rsub r s) (t * b' - t' * b) (b * b') := by
  rw [rsub_eq]
  have z := rep_add h (rep_neg k)
  have e : t * b' - t' * b = t * b' + -t' * b := by grind
  rw [e]; exact z
theorem rep_mul {r s : Rt} {t b t' b' : Int} (h : Rep r t b) (k : Rep s t' b') : Rep (rmul r s) (t * t') (b * b') := by
  obtain ⟨h1, hb, h2⟩ := h
  obtain ⟨k1, kb, k2⟩ := k
  have z := rep_norm (t := r.1 * s.1) (Int.mul_pos h1.1 k1.1)
  have pp : 0 < r.2 * s.2 := Int.mul_pos h1.1 k1.1
  refine ⟨z.1, Int.mul_pos hb kb, ?_⟩
  have nz : r.2 * s.2 ≠ 0 := by omega
  refine Int.eq_of_mul_eq_mul_right nz ?_
  have e := z.2.2
  show (norm (r.1 * s.1) (r.2 * s.2)).1 * (b * b') * (r.2 * s.2) = (t * t') * (norm (r.1 * s.1) (r.2 * s.2)).2 * (r.2 * s.2)
  generalize norm (r.1 * s.1) (r.2 * s.2) = n at e ⊢
  have e1 : n.1 * (b * b') * (r.2 * s.2) = (n.1 * (r.2 * s.2)) * (b * b') := by grind
  have e2 : (t * t') * n.2 * (r.2 * s.2) = ((t * r.2) * (t' * s.2)) * n.2 := by grind
  rw [e1, e2, e, ← h2, ← k2]; grind
/-! sizes -/
def Sz (n : Nat) (x : Int) : Prop := x.natAbs < 2 ^ n
theorem sz_mono {n m : Nat} {x : Int} (h : Sz n x) (k : n ≤ m) : Sz m x := Nat.lt_of_lt_of_le h (Nat.pow_le_pow_right (by decide) k)
theorem sz_neg {n : Nat} {x : Int} (h : Sz n x) : Sz n (-x) := by unfold Sz; rw [Int.natAbs_neg]; exact h
theorem sz_mul {n m : Nat} {x y : Int} (h : Sz n x) (k : Sz m y) : Sz (n + m) (x * y) := by
  unfold Sz
  rw [Int.natAbs_mul, Nat.pow_add]
  exact Nat.mul_lt_mul'' h k
theorem sz_add {n : Nat} {x y : Int} (h : Sz n x) (k : Sz n y) : Sz (n + 1) (x + y) := by
  unfold Sz at *
  have := Int.natAbs_add_le x y
  rw [Nat.pow_succ]; omega
theorem sz_sub {n : Nat} {x y : Int} (h : Sz n x) (k : Sz n y) : Sz (n + 1) (x - y) := by
  rw [Int.sub_eq_add_neg]; exact sz_add h (sz_neg k)
theorem sz_div {n : Nat} {t b : Int} (hb : t ≠ 0 ∨ b ≠ 0) (h : Sz n t) : Sz n (t / g2 t b) := by
  obtain ⟨x, y, hx, hy, dx, dy, c⟩ := g2_parts hb
  rw [dx]
  refine Nat.lt_of_le_of_lt ?_ h
  have e : t.natAbs = (g2 t b).natAbs * x.natAbs := by rw [← Int.natAbs_mul, ← hx]
  have gp : 0 < (g2 t b).natAbs := by
    rcases hb with z | z
    · have := g2_pos' (b := b) z; omega
    · have := g2_pos (t := t) z; omega
  rw [e]
  exact Nat.le_mul_of_pos_left _ gp
theorem sz_div' {n : Nat} {t b : Int} (hb : t ≠ 0 ∨ b ≠ 0) (h : Sz n b) : Sz n (b / g2 t b) := by
  obtain ⟨x, y, hx, hy, dx, dy, c⟩ := g2_parts hb
  rw [dy]
  refine Nat.lt_of_le_of_lt ?_ h
  have e : b.natAbs = (g2 t b).natAbs * y.natAbs := by rw [← Int.natAbs_mul, ← hy]
  have gp : 0 < (g2 t b).natAbs := by
    rcases hb with z | z
    · have := g2_pos' (b := b) z; omega
    · have := g2_pos (t := t) z; omega
  rw [e]
  exact Nat.le_mul_of_pos_left _ gp
theorem sz_g {n : Nat} {t b : Int} (hb : b ≠ 0) (h : Sz n b) : Sz n (g2 t b) := by
  refine Nat.lt_of_le_of_lt ?_ h
  unfold g2
  rw [Int.natAbs_natCast]
  exact Nat.gcd_le_right _ (by omega)
def SzR (n : Nat) (r : Rt) : Prop := Sz n r.1 ∧ Sz n r.2
theorem szr_mono {n m : Nat} {r : Rt} (h : SzR n r) (k : n ≤ m) : SzR m r := ⟨sz_mono h.1 k, sz_mono h.2 k⟩
theorem szr_norm {n : Nat} {t b : Int} (hb : 0 < b) (h : Sz n t) (k : Sz n b) : SzR n (norm t b) := ⟨sz_div (.inr (by omega)) h, sz_div' (.inr (by omega)) k⟩
theorem szr_add {n m : Nat} {r s : Rt} (hr : IsRat r) (hs : IsRat s) (h : SzR n r) (k : SzR m s) : SzR (n + m + 1) (radd r s) :=
  szr_norm (Int.mul_pos hr.1 hs.1) (sz_add (sz_mul h.1 k.2) (by rw [Nat.add_comm]; exact sz_mul k.1 h.2)) (sz_mono (sz_mul h.2 k.2) (Nat.le_succ _))
theorem szr_neg {n : Nat} {r : Rt} (h : SzR n r) : SzR n (rneg r) := ⟨sz_neg h.1, h.2⟩
theorem rat_neg {r : Rt} (h : IsRat r) : IsRat (rneg r) := ⟨h.1, by show Nat.gcd (-r.1).natAbs r.2.natAbs = 1; rw [Int.natAbs_neg]; exact h.2⟩
theorem szr_sub {n m : Nat} {r s : Rt} (hr : IsRat r) (hs : IsRat s) (h : SzR n r) (k : SzR m s) : SzR (n + m + 1) (rsub r s) := by
  rw [rsub_eq]; exact szr_add hr (rat_neg hs) h (szr_neg k)
theorem szr_mul {n m : Nat} {r s : Rt} (hr : IsRat r) (hs : IsRat s) (h : SzR n r) (k : SzR m s) : SzR (n + m) (rmul r s) :=
  szr_norm (Int.mul_pos hr.1 hs.1) (sz_mul h.1 k.1) (sz_mul h.2 k.2)
theorem rat_add {r s : Rt} (hr : IsRat r) (hs : IsRat s) : IsRat (radd r s) := norm_rat (Int.mul_pos hr.1 hs.1)
theorem rat_sub {r s : Rt} (hr : IsRat r) (hs : IsRat s) : IsRat (rsub r s) := norm_rat (Int.mul_pos hr.1 hs.1)
theorem rat_mul {r s : Rt} (hr : IsRat r) (hs : IsRat s) : IsRat (rmul r s) := norm_rat (Int.mul_pos hr.1 hs.1)
theorem rat_zero : IsRat (0, 1) := ⟨by decide, by decide⟩
theorem rat_one : IsRat (1, 1) := ⟨by decide, by decide⟩
end RM
set_option Elab.async false
set_option linter.all false
set_option maxRecDepth 100000
set_option maxHeartbeats 4000000
/-! data that does not change: what is known of it stays; defs by their names -/
namespace PB
open PySem PySem.Spec PyProof.Rows L2 FX RM
theorem same_t {K : PySem.W.Frag} {H H' : Hp} {a : Addr} {xs : List V} (s : Same H H') (h : SqT K H a xs) : SqT K H' a xs := by
  rcases h with (h | ⟨o, h⟩) | h
  · exact .inl (.inl (s _ _ h))
  · exact .inl (.inr ⟨o, s _ _ h⟩)
  · exact .inr h
mutual
theorem Dp_same {K : PySem.W.Frag} {H H' : Hp} (s : Same H H') : ∀ {v : V} {d : PyData}, Dp K H v d → Dp K H' v d
  | _, _, .non => .non
  | _, _, .bl b => .bl b
  | _, _, .int i => .int i
  | _, _, .str x => .str x
  | _, _, .lst h g => .lst (s.seq h) (DpAll_same s g)
  | _, _, .tup h g => .tup (same_t s h) (DpAll_same s g)
theorem DpAll_same {K : PySem.W.Frag} {H H' : Hp} (s : Same H H') : ∀ {vs : List V} {ds : List PyData}, DpAll K H vs ds → DpAll K H' vs ds
  | _, _, .nil => .nil
  | _, _, .cons h g => .cons (Dp_same s h) (DpAll_same s g)
end
theorem same_new {H : Hp} {p : Addr} {o : HO} (h : H p = none) : Same H (upd H p o) := fun b x e => by
  rw [upd_ne (ne_of_none e h)]; exact e
def rD (r : Rt) : PyData := .tuple [.int r.1, .int r.2]
def pD (p : Rt × Rt) : PyData := .tuple [rD p.1, rD p.2]
def plD (p : Rt × Rt) : PyData := .list [rD p.1, rD p.2]
section
variable {K : PySem.W.Frag} {H H' : Hp} {v : V}
theorem dp_int {i : Int} (h : Dp K H v (.int i)) : v = .int i := by cases h; rfl
theorem dpa2 {vs : List V} {a b : PyData} (h : DpAll K H vs [a, b]) : ∃ x y, vs = [x, y] ∧ Dp K H x a ∧ Dp K H y b := by
  cases h with
  | cons h1 h => cases h with
    | cons h2 h => cases h with
      | nil => exact ⟨_, _, rfl, h1, h2⟩
theorem dp_t2 {a b : PyData} (h : Dp K H v (.tuple [a, b])) : ∃ p x y, v = .ref p ∧ SqT K H p [x, y] ∧ Dp K H x a ∧ Dp K H y b := by
  cases h with
  | tup h g =>
    obtain ⟨x, y, rfl, h1, h2⟩ := dpa2 g
    exact ⟨_, x, y, rfl, h, h1, h2⟩
theorem dp_l2 {a b : PyData} (h : Dp K H v (.list [a, b])) : ∃ p x y, v = .ref p ∧ SqL K H p [x, y] ∧ Dp K H x a ∧ Dp K H y b := by
  cases h with
  | lst h g =>
    obtain ⟨x, y, rfl, h1, h2⟩ := dpa2 g
    exact ⟨_, x, y, rfl, h, h1, h2⟩
theorem dp_r {r : Rt} (h : Dp K H v (rD r)) : ∃ p, v = .ref p ∧ SqT K H p [.int r.1, .int r.2] := by
  obtain ⟨p, x, y, rfl, hs, h1, h2⟩ := dp_t2 h
  rw [dp_int h1, dp_int h2] at hs
  exact ⟨p, rfl, hs⟩
theorem dp_mk2 {p : Addr} {x y : V} {a b : PyData} (hn : H p = none) (h1 : Dp K H x a) (h2 : Dp K H y b) : Dp K (upd H p (.tup [x, y])) (.ref p) (.tuple [a, b]) :=
  .tup (.inl (.inl upd_same)) (.cons (Dp_same (same_new hn) h1) (.cons (Dp_same (same_new hn) h2) .nil))
theorem dp_mkr {p : Addr} {a b : Int} (hn : H p = none) : Dp K (upd H p (.tup [.int a, .int b])) (.ref p) (rD (a, b)) := dp_mk2 hn (.int a) (.int b)
/-- a couple, a list or a tuple -/
def Cou (K : PySem.W.Frag) (H : Hp) (v : V) (x y : V) : Prop := ∃ p, v = .ref p ∧ (SqT K H p [x, y] ∨ SqL K H p [x, y])
theorem Cou.same {x y : V} (h : Cou K H v x y) (s : Same H H') : Cou K H' v x y := by
  obtain ⟨p, e, h | h⟩ := h
  · exact ⟨p, e, .inl (same_t s h)⟩
  · exact ⟨p, e, .inr (s.seq h)⟩
/-- a place or a step -/
def Pla (K : PySem.W.Frag) (H : Hp) (v : V) (p : Rt × Rt) : Prop := ∃ x y, Cou K H v x y ∧ Dp K H x (rD p.1) ∧ Dp K H y (rD p.2)
theorem Pla.same {p : Rt × Rt} (h : Pla K H v p) (s : Same H H') : Pla K H' v p := by
  obtain ⟨x, y, c, h1, h2⟩ := h
  exact ⟨x, y, c.same s, Dp_same s h1, Dp_same s h2⟩
theorem pla_t {p : Rt × Rt} (h : Dp K H v (pD p)) : Pla K H v p := by
  obtain ⟨a, x, y, rfl, hs, h1, h2⟩ := dp_t2 h
  exact ⟨x, y, ⟨a, rfl, .inl hs⟩, h1, h2⟩
theorem pla_l {p : Rt × Rt} (h : Dp K H v (plD p)) : Pla K H v p := by
  obtain ⟨a, x, y, rfl, hs, h1, h2⟩ := dp_l2 h
  exact ⟨x, y, ⟨a, rfl, .inr hs⟩, h1, h2⟩
/-- a direction -/
def Dir (K : PySem.W.Frag) (H : Hp) (v : V) (d : Int × Int) : Prop := Cou K H v (.int d.1) (.int d.2)
theorem dir_t {d : Int × Int} (h : Dp K H v (rD d)) : Dir K H v d := by
  obtain ⟨p, rfl, hs⟩ := dp_r h
  exact ⟨p, rfl, .inl hs⟩
end
/-! items and couples taken apart -/
section
variable {X : Cx}
/-- c[i] of a couple, a list or a tuple -/
def rIt (K : PySem.W.Frag) : L2.R2 := fun v y H Q => ∃ (x0 x1 : V) (i : Nat) (z : V), y = .int i ∧ Cou K H v x0 x1 ∧ [x0, x1][i]? = some z ∧ Q z H
theorem ix_it : IxR X (rIt X.K) := by
  intro value slice pins s σ H x y v u Q I rx ry h hs
  obtain ⟨x0, x1, i, z, rfl, ⟨p, rfl, c | c⟩, e, q⟩ := h
  · exact ix_tup value slice pins s σ H _ _ v u Q I rx ry ⟨p, _, _, _, rfl, rfl, c, atI_nat e, q⟩ hs
  · exact ix_list value slice pins s σ H _ _ v u Q I rx ry ⟨p, _, _, _, rfl, rfl, c, atI_nat e, q⟩ hs
theorem ix_itK (K : PySem.W.Frag) (e : X.K = K := by rfl) : IxR X (rIt K) := e ▸ ix_it
/-- x, y = c -/
def gCou (K : PySem.W.Frag) (t : TGs) : TG := fun v σ H Q => ∃ x y, Cou K H v x y ∧ t [x, y] σ H Q
theorem pg_cou {a b : Expr} {k : Nat} {t : TGs} {pos : Pos} (hc : X.calm = true) (h : PGs X [a, b] t) (hn : (assignEach [a, b] X.env).length = 2 := by rfl) (hst : (assignEach [a, b] X.env).findIdx? (·.1) = none := by rfl) : PG X (.Tuple [a, b] k pos) (gCou X.K t) := by
  have h1 := pg_tup (k := k) (pos := pos) hc h hn hst
  have h2 := pg_unl (k := k) (pos := pos) hc h hn hst
  refine ⟨fun pins s σ H v u Q I r q => ?_⟩
  obtain ⟨x, y, ⟨p, rfl, c | c⟩, q⟩ := q
  · exact h1.run pins s σ H _ u Q I r ⟨p, _, rfl, c, rfl, q⟩
  · exact h2.run pins s σ H _ u Q I r ⟨p, _, rfl, c, rfl, q⟩
end
/-! comprehensions over a list or a tuple -/
mutual
def noL : PyData → Bool
  | .list _ => false
  | .dict _ => false
  | .tuple xs => noLs xs
  | .none => true
  | .bool _ => true
  | .int _ => true
  | .str _ => true
def noLs : List PyData → Bool
  | [] => true
  | x :: xs => noL x && noLs xs
end
mutual
theorem Dp_but {K : PySem.W.Frag} {H H' : Hp} {p : Addr} {ys : List V} (hp : H p = some (.lst ys)) (s : ∀ b o, b ≠ p → H b = some o → H' b = some o) : ∀ {v : V} {d : PyData}, noL d = true → Dp K H v d → Dp K H' v d
  | _, _, _, .non => .non
  | _, _, _, .bl b => .bl b
  | _, _, _, .int i => .int i
  | _, _, _, .str x => .str x
  | _, _, n, .lst _ _ => by simp [noL] at n
  | _, _, n, .tup (a := a) h g => by
    have n2 := n
    simp only [noL] at n2
    refine .tup ?_ (DpAll_but hp s n2 g)
    rcases h with (h | ⟨o, h⟩) | h
    · exact .inl (.inl (s _ _ (fun e => by rw [e, hp] at h; cases h) h))
    · exact .inl (.inr ⟨o, s _ _ (fun e => by rw [e, hp] at h; cases h) h⟩)
    · exact .inr h
theorem DpAll_but {K : PySem.W.Frag} {H H' : Hp} {p : Addr} {ys : List V} (hp : H p = some (.lst ys)) (s : ∀ b o, b ≠ p → H b = some o → H' b = some o) : ∀ {vs : List V} {ds : List PyData}, noLs ds = true → DpAll K H vs ds → DpAll K H' vs ds
  | _, _, _, .nil => .nil
  | _, _, n, .cons h g => by
    have n2 := n
    simp only [noLs, Bool.and_eq_true] at n2
    exact .cons (Dp_but hp s n2.1 h) (DpAll_but hp s n2.2 g)
end
theorem noLs_all : ∀ {ds : List PyData}, (∀ d ∈ ds, noL d = true) → noLs ds = true
  | [], _ => by simp [noLs]
  | d :: ds, h => by simp [noLs, h d (List.mem_cons_self ..), noLs_all fun x hx => h x (List.mem_cons_of_mem _ hx)]
theorem DpAll_snoc {K : PySem.W.Frag} {H : Hp} {v : V} {d : PyData} (h : Dp K H v d) : ∀ {vs : List V} {ds : List PyData}, DpAll K H vs ds → DpAll K H (vs ++ [v]) (ds ++ [d])
  | _, _, .nil => .cons h .nil
  | _, _, .cons a b => .cons a (DpAll_snoc h b)
theorem DpAll_len {K : PySem.W.Frag} {H : Hp} : ∀ {vs : List V} {ds : List PyData}, DpAll K H vs ds → vs.length = ds.length
  | _, _, .nil => rfl
  | _, _, .cons _ b => congrArg (· + 1) (DpAll_len b)
theorem DpAll_at {K : PySem.W.Frag} {H : Hp} : ∀ {vs : List V} {ds : List PyData} {i : Nat} {v : V}, DpAll K H vs ds → vs[i]? = some v → ∃ d, ds[i]? = some d ∧ Dp K H v d
  | _, _, _, _, .nil, e => by cases e
  | _, _, 0, _, .cons a _, e => by cases e; exact ⟨_, rfl, a⟩
  | _, _, i + 1, _, .cons _ b, e => DpAll_at (i := i) b e
theorem DpAll_at' {K : PySem.W.Frag} {H : Hp} : ∀ {vs : List V} {ds : List PyData} {i : Nat} {d : PyData}, DpAll K H vs ds → ds[i]? = some d → ∃ v, vs[i]? = some v ∧ Dp K H v d
  | _, _, _, _, .nil, e => by cases e
  | _, _, 0, _, .cons a _, e => by cases e; exact ⟨_, rfl, a⟩
  | _, _, i + 1, _, .cons _ b, e => DpAll_at' (i := i) b e
def iSeq (K : PySem.W.Frag) (tl : TE) : TI := fun σ H R => iList K tl σ H R ∨ iTup K tl σ H R
section
variable {X : Cx}
theorem pi_seq {tg l : Expr} {tl : TE} (hl : PE X l tl) : PI X tg l (iSeq X.K tl) := ⟨fun pins s σ H R I h => h.elim (fun z => (pi_list (tg := tg) hl).run pins s σ H R I z) fun z => (pi_tup (tg := tg) hl).run pins s σ H R I z⟩
end
/-- [e for x in seq], each e some data that holds no list -/
theorem lc_map {K : PySem.W.Frag} {a : Addr} {xs : List V} {j : Nat} {g : TG} {te : TE} {vs : List Nat} {σ : L2.St} {H : Hp} {Q : VK} (f : Nat → PyData) (hn : ∀ i, noL (f i) = true) (hj : σ[j]? = some (some (.ref a))) (h0 : SqL K H a xs ∨ SqT K H a xs) (hz : xs.length < sizeLine)
    (hs : ∀ i x H' (R : V → Hp → Prop), xs[i]? = some x → Same H H' → (∀ y H4, Same H' H4 → Dp K H4 y (f i) → R y H4) → g x (wipe σ vs) H' fun σ2 H2 => wipe σ2 vs = wipe σ vs ∧ te σ2 H2 R)
    (hd : ∀ D H' ys, Same H H' → H D = none → H' D = some (.lst ys) → DpAll K H' ys ((List.range xs.length).map f) → Q (.ref D) H') : tLc (iSeq K (tVar j)) g tYes te vs σ H Q := by
  have main : ∀ D, H D = none → ∃ Pv : Nat → Hp → Prop, Pv 0 (upd H D (.lst [])) ∧ (∀ i H', Pv i H' → Same H H') ∧ (∀ i x H', xs[i]? = some x → Pv i H' → g x (wipe σ vs) H' fun σ2 H2 => wipe σ2 vs = wipe σ vs ∧ tYes σ2 H2 fun b H3 =>
      if b = true then te σ2 H3 fun y H4 => ∃ acc, H4 D = some (.lst acc) ∧ acc.length < sizeLine ∧ Pv (i + 1) (upd H4 D (.lst (acc ++ [y]))) else Pv (i + 1) H3) ∧ (∀ H', Pv xs.length H' → Q (.ref D) H') := by
    intro D nD
    refine ⟨fun i H' => Same H H' ∧ ∃ ys, H' D = some (.lst ys) ∧ ys.length = i ∧ DpAll K H' ys ((List.range i).map f), ⟨same_new nD, [], upd_same, rfl, .nil⟩, fun i H' h => h.1, ?_, ?_⟩
    · rintro i x H' hi ⟨s1, ys, hD, yl, hy⟩
      have il := (List.getElem?_eq_some_iff.mp hi).1
      refine hs i x H' _ hi s1 fun y H4 s4 h4 => ⟨ys, s4 _ _ hD, by omega, ?_, ys ++ [y], upd_same, by rw [List.length_append, yl]; rfl, ?_⟩
      · intro b o e
        rw [upd_ne (ne_of_none e nD)]; exact s4 _ _ (s1 _ _ e)
      · rw [List.range_succ, List.map_append]
        have sb : ∀ b o, b ≠ D → H4 b = some o → (upd H4 D (.lst (ys ++ [y]))) b = some o := fun b o n e => by rw [upd_ne n]; exact e
        refine DpAll_but (s4 _ _ hD) sb ?_ (DpAll_snoc h4 (DpAll_same s4 hy))
        refine noLs_all fun d hd => ?_
        rcases List.mem_append.mp hd with hd | hd
        · obtain ⟨k, _, rfl⟩ := List.mem_map.mp hd; exact hn k
        · rw [List.mem_singleton.mp hd]; exact hn i
    · rintro H' ⟨s1, ys, hD, yl, hy⟩
      exact hd D H' ys s1 nD hD hy
  rcases h0 with h0 | h0
  · refine .inl ⟨_, hj, a, rfl, ⟨_, h0⟩, fun D nD => ?_⟩
    obtain ⟨Pv, p0, p1, p2, p3⟩ := main D nD
    exact lc_list (K := K) (a := a) (xs := xs) Pv p0 (fun i H' _ h => (p1 i H' h).seq h0) p2 p3
  · refine .inr ⟨_, hj, a, rfl, ⟨_, h0⟩, fun D nD => ?_⟩
    obtain ⟨Pv, p0, p1, p2, p3⟩ := main D nD
    exact lc_tup (K := K) (a := a) (xs := xs) Pv p0 (fun i H' _ h => same_t (p1 i H' h) h0) p2 p3
/-! defs by their names -/
structure DefOk (P : Program) (w : World) (K : PySem.W.Frag) (mg : Str → Option Value) (base : Heap) (CX : CXT) (x : Str) (k : Nat) (ps : List Str) (sp : Sp) : Prop where
  ex : ∃ (f : Addr) (fd : FuncData), mg x = some (.ref f) ∧ PySem.W.keepIn K (.ref f) = true ∧ L2.Binds K fd ps [] ∧ FnOk P w K mg base CX k f fd ps sp
def Txt (K : PySem.W.Frag) (mg : Str → Option Value) (x : Str) (st : Stmt) : Prop := ∃ (f : Addr) (fd : FuncData), Fun K x x st f fd ∧ mg x = some (.ref f)
section
variable {X : Cx}
theorem pe_def {CX : CXT} {x : Str} {k : Nat} {ps : List Str} {sp : Sp} {e : Expr} {es : List Expr} {t : TA} {p pos : Pos} (D : DefOk X.prog X.w X.K X.mg X.base CX x k ps sp) (hr : Room k X.A) (hg : Gl X x) (ha : PA X (e :: es) t) (hx : Passes CX X E0 := by first | exact pass0 | exact passL)
    (hdb : (x == ("__debug__" : Str)) = false := by decide) (he : starEach (e :: es) X.env = (false, eval e X.env) :: starEach es X.env := by rfl) (hpl : (backTo pos (starEach es X.env)).any (·.1) = false := by rfl) :
    PE X (.Call (.Name x p) (e :: es) [] pos) (tCall sp [] E0 t) := by
  obtain ⟨f, fd, g, k, b, F⟩ := D.ex
  exact pe_call F hr hg g k b .nil hx ha hdb he hpl
end
end PB
set_option Elab.async false
set_option linter.all false
set_option maxRecDepth 100000
set_option maxHeartbeats 4000000
namespace F3
open PySem PySem.Spec PyProof.Rows L2 FX RM PB
def topS (i : Nat) : Stmt := PySem.Challenge.pw_feltstone_k03_whole_places_and_amounts.main.body.getD i (.Pass ⟨0, 0, 0, 0⟩)
theorem cou_r {K : PySem.W.Frag} {H : Hp} {v : V} {r : Rt} (h : Dp K H v (rD r)) : Cou K H v (.int r.1) (.int r.2) := dir_t h
theorem sz1 : Sz 2000 1 := by show (1 : Int).natAbs < 2 ^ 2000; exact Nat.one_lt_two_pow (by decide)
theorem g2_one (t : Int) : g2 t 1 = 1 := by unfold g2; show ((Nat.gcd t.natAbs 1 : Nat) : Int) = 1; rw [Nat.gcd_one_right]; rfl
theorem norm_one (t : Int) : norm t 1 = (t, 1) := by unfold norm; rw [g2_one]; simp
theorem radd_fast {r s : Rt} (hr : IsRat r) (e : r.2 = s.2) : norm (r.1 + s.1) r.2 = radd r s := by
  unfold radd
  refine norm_eq hr.1 (Int.mul_pos hr.1 (e ▸ hr.1)) ?_
  rw [← e]; grind
/-! promises: ratios -/
def spLow (K : PySem.W.Frag) : Sp := fun vs H Q _ => ∃ t b : Int, vs = [.int t, .int b] ∧ 0 < b ∧ Sz 8000 t ∧ Sz 8000 b ∧ ∀ H' v, Same H H' → Dp K H' v (rD (norm t b)) → Q v H'
def spBin (K : PySem.W.Frag) (o : Rt → Rt → Rt) : Sp := fun vs H Q _ => ∃ v u r s, vs = [v, u] ∧ Dp K H v (rD r) ∧ Dp K H u (rD s) ∧ IsRat r ∧ IsRat s ∧ SzR 2000 r ∧ SzR 2000 s ∧ ∀ H' z, Same H H' → Dp K H' z (rD (o r s)) → Q z H'
def spNeg (K : PySem.W.Frag) : Sp := fun vs H Q _ => ∃ v r, vs = [v] ∧ Dp K H v (rD r) ∧ ∀ H' z, Same H H' → Dp K H' z (rD (rneg r)) → Q z H'
/-- the first by a positive whole number -/
def spOver (K : PySem.W.Frag) : Sp := fun vs H Q _ => ∃ v u r n, vs = [v, u] ∧ Dp K H v (rD r) ∧ Dp K H u (rD (n, 1)) ∧ 0 < n ∧ IsRat r ∧ SzR 2000 r ∧ Sz 2000 n ∧ ∀ H' z, Same H H' → Dp K H' z (rD (rmul r (1, n))) → Q z H'
section
variable {P : Program} {w : World} {K : PySem.W.Frag} {mg : Str → Option Value} {base : Heap}
abbrev slowest_terms : Stmt := topS 13
theorem sclowest_terms : FnScope ["top", "bottom", "share"] ["top", "bottom"] (defScope slowest_terms) := ⟨rfl, rfl, rfl, by decide +kernel, rfl, by decide +kernel, by decide +kernel⟩
theorem oklowest_terms (T : Txt K mg "lowest_terms" slowest_terms) (mgcd : mg "gcd" = some (.builtin "math.gcd")) : DefOk P w K mg base CX0 "lowest_terms" 1 ["top", "bottom"] (spLow K) := by
  obtain ⟨f, fd, F, gf⟩ := T
  refine ⟨f, fd, gf, F.kp, F.binds (fun _ _ _ _ _ _ us hl => match us, hl with | [_, _], _ => rfl), F.ok sclowest_terms (fun vs H Q E h => ?_) (fun cdv A outer s H vs Q E hr h => ?_)⟩
  · obtain ⟨t, b, rfl, _⟩ := h; rfl
  · obtain ⟨t, b, rfl, b0, zt, zb, q⟩ := h
    refine ⟨_, (pss_cons (ps_if (pt_cmpR op_eq (pv 1) pe_int (nomark _)) (pss_one (ps_ret (pe_tup (pa_cons (pv 0) (pa_cons pe_int pa_nil))))) pss_nil) (pss_cons (ps_set (i := 2) sclowest_terms.nd rfl (.inl rfl) (pe_callBfun cr_gcd (by rfl) mgcd (pa_cons (pv 0) (pa_cons (pv 1) pa_nil)))) (pss_cons (ps_if (pt_cmpR op_lt (pv 1) pe_int (nomark _)) (pss_one (ps_set (i := 2) sclowest_terms.nd rfl (.inl rfl) (pe_un un_neg (pv 2)))) pss_nil) (pss_one (ps_ret (pe_tup (pa_cons (pe_op op_fdivW (pv 0) (pv 2)) (pa_cons (pe_op op_fdivW (pv 1) (pv 2)) pa_nil)))))))), ?_⟩
    refine ⟨.int b, rfl, rfl, _, rfl, ite2 (fun e => ?_) (fun e => ?_)⟩
    · have e1 : b = 1 := V.int.inj (of_decide_eq_true e)
      subst e1
      refine ⟨_, rfl, (by show 2 ≤ sizeLine; decide), fun p np => q _ _ (same_new np) ?_⟩
      rw [norm_one]; exact dp_mkr np
    · have bn : b ≠ 0 := by omega
      have gp := g2_pos (t := t) bn
      have gz := sz_g (t := t) bn zb
      refine ⟨_, rfl, _, rfl, t, b, rfl, ?_⟩
      show tSeq _ _ _ [some (.int t), some (.int b), some (.int (g2 t b))] H
      refine ⟨_, rfl, _, _, rfl, rfl, _, rfl, ?_⟩
      rw [decide_eq_false (by omega : ¬ b < 0)]
      refine iteF ⟨_, rfl, _, rfl, _, _, rfl, rfl, wide_div gp gz (by decide) (by decide), _, rfl, _, rfl, _, _, rfl, rfl, wide_div gp gz (by decide) (by decide), (by show 2 ≤ sizeLine; decide), fun p np => q _ _ (same_new np) (dp_mkr np)⟩
abbrev splus : Stmt := topS 14
theorem scplus : FnScope ["one", "other"] ["one", "other"] (defScope splus) := ⟨rfl, rfl, rfl, by decide +kernel, rfl, by decide +kernel, by decide +kernel⟩
theorem okplus (T : Txt K mg "plus" splus) (Glowest_terms : DefOk P w K mg base CX0 "lowest_terms" 1 ["top", "bottom"] (spLow K)) : DefOk P w K mg base CX0 "plus" 2 ["one", "other"] (spBin K radd) := by
  obtain ⟨f, fd, F, gf⟩ := T
  refine ⟨f, fd, gf, F.kp, F.binds (fun _ _ _ _ _ _ us hl => match us, hl with | [_, _], _ => rfl), F.ok scplus (fun vs H Q E h => ?_) (fun cdv A outer s H vs Q E hr h => ?_)⟩
  · obtain ⟨v, u, r, s_, rfl, _⟩ := h; rfl
  · obtain ⟨v, u, r, s_, rfl, hv, hu, ir, is_, zr, zs, q⟩ := h
    refine ⟨_, (pss_cons (ps_if (pt_cmpR op_eq (pe_ix ix_it (pv 0) pe_int (fun _ _ => rfl)) (pe_ix ix_it (pv 1) pe_int (fun _ _ => rfl)) (nomark _)) (pss_one (ps_ret (pe_def Glowest_terms (hr.mono (by decide)) (by rfl) (pa_cons (pe_op op_add (pe_ix ix_it (pv 0) pe_int (fun _ _ => rfl)) (pe_ix ix_it (pv 1) pe_int (fun _ _ => rfl))) (pa_cons (pe_ix ix_it (pv 0) pe_int (fun _ _ => rfl)) pa_nil))))) pss_nil) (pss_one (ps_ret (pe_def Glowest_terms (hr.mono (by decide)) (by rfl) (pa_cons (pe_op op_add (pe_op op_mulW (pe_ix ix_it (pv 0) pe_int (fun _ _ => rfl)) (pe_ix ix_it (pv 1) pe_int (fun _ _ => rfl))) (pe_op op_mulW (pe_ix ix_it (pv 1) pe_int (fun _ _ => rfl)) (pe_ix ix_it (pv 0) pe_int (fun _ _ => rfl)))) (pa_cons (pe_op op_mulW (pe_ix ix_it (pv 0) pe_int (fun _ _ => rfl)) (pe_ix ix_it (pv 1) pe_int (fun _ _ => rfl))) pa_nil)))))), ?_⟩
    have c1 := cou_r hv
    have c2 := cou_r hu
    refine ⟨v, rfl, _, _, 1, _, rfl, c1, rfl, u, rfl, _, _, 1, _, rfl, c2, rfl, rfl, _, rfl, ite2 (fun e => ?_) (fun e => ?_)⟩
    · have e2 : r.2 = s_.2 := V.int.inj (of_decide_eq_true e)
      refine ⟨v, rfl, _, _, 0, _, rfl, c1, rfl, u, rfl, _, _, 0, _, rfl, c2, rfl, _, _, rfl, rfl, v, rfl, _, _, 1, _, rfl, c1, rfl, _, _, rfl, ir.1, sz_mono (sz_add zr.1 zs.1) (by decide), sz_mono zr.2 (by decide), fun H' z sm hz => q H' z sm ?_⟩
      rw [← radd_fast ir e2]; exact hz
    · refine ⟨v, rfl, _, _, 0, _, rfl, c1, rfl, u, rfl, _, _, 1, _, rfl, c2, rfl, _, _, rfl, rfl, wide_mul zr.1 zs.2 (by decide) (by decide) (by decide), u, rfl, _, _, 0, _, rfl, c2, rfl, v, rfl, _, _, 1, _, rfl, c1, rfl, _, _, rfl, rfl, wide_mul zs.1 zr.2 (by decide) (by decide) (by decide), _, _, rfl, rfl, ?_⟩
      refine ⟨v, rfl, _, _, 1, _, rfl, c1, rfl, u, rfl, _, _, 1, _, rfl, c2, rfl, _, _, rfl, rfl, wide_mul zr.2 zs.2 (by decide) (by decide) (by decide), _, _, rfl, Int.mul_pos ir.1 is_.1, sz_mono (sz_add (sz_mul zr.1 zs.2) (sz_mul zs.1 zr.2)) (by decide), sz_mono (sz_mul zr.2 zs.2) (by decide), fun H' z sm hz => q H' z sm hz⟩
abbrev snegative : Stmt := topS 18
theorem scnegative : FnScope ["one"] ["one"] (defScope snegative) := ⟨rfl, rfl, rfl, by decide +kernel, rfl, by decide +kernel, by decide +kernel⟩
theorem oknegative (T : Txt K mg "negative" snegative)  : DefOk P w K mg base CX0 "negative" 1 ["one"] (spNeg K) := by
  obtain ⟨f, fd, F, gf⟩ := T
  refine ⟨f, fd, gf, F.kp, F.binds (fun _ _ _ _ _ _ us hl => match us, hl with | [_], _ => rfl), F.ok scnegative (fun vs H Q E h => ?_) (fun cdv A outer s H vs Q E hr h => ?_)⟩
  · obtain ⟨v, r, rfl, _⟩ := h; rfl
  · obtain ⟨v, r, rfl, hv, q⟩ := h
    refine ⟨_, (pss_one (ps_ret (pe_tup (pa_cons (pe_un un_neg (pe_ix ix_it (pv 0) pe_int (fun _ _ => rfl))) (pa_cons (pe_ix ix_it (pv 0) pe_int (fun _ _ => rfl)) pa_nil))))), ?_⟩
    have c1 := cou_r hv
    exact ⟨v, rfl, _, _, 0, _, rfl, c1, rfl, _, rfl, v, rfl, _, _, 1, _, rfl, c1, rfl, (by show 2 ≤ sizeLine; decide), fun p np => q _ _ (same_new np) (dp_mkr np)⟩
abbrev sminus : Stmt := topS 15
theorem scminus : FnScope ["one", "other"] ["one", "other"] (defScope sminus) := ⟨rfl, rfl, rfl, by decide +kernel, rfl, by decide +kernel, by decide +kernel⟩
theorem okminus (T : Txt K mg "minus" sminus) (Gplus : DefOk P w K mg base CX0 "plus" 2 ["one", "other"] (spBin K radd)) (Gnegative : DefOk P w K mg base CX0 "negative" 1 ["one"] (spNeg K)) : DefOk P w K mg base CX0 "minus" 3 ["one", "other"] (spBin K rsub) := by
  obtain ⟨f, fd, F, gf⟩ := T
  refine ⟨f, fd, gf, F.kp, F.binds (fun _ _ _ _ _ _ us hl => match us, hl with | [_, _], _ => rfl), F.ok scminus (fun vs H Q E h => ?_) (fun cdv A outer s H vs Q E hr h => ?_)⟩
  · obtain ⟨v, u, r, s_, rfl, _⟩ := h; rfl
  · obtain ⟨v, u, r, s_, rfl, hv, hu, ir, is_, zr, zs, q⟩ := h
    refine ⟨_, (pss_one (ps_ret (pe_def Gplus (hr.mono (by decide)) (by rfl) (pa_cons (pv 0) (pa_cons (pe_def Gnegative (hr.mono (by decide)) (by rfl) (pa_cons (pv 1) pa_nil)) pa_nil))))), ?_⟩
    refine ⟨v, rfl, u, rfl, u, s_, rfl, hu, fun H1 z1 s1 hz1 => ?_⟩
    refine ⟨v, z1, r, rneg s_, rfl, Dp_same s1 hv, hz1, ir, rat_neg is_, zr, szr_neg zs, fun H' z sm hz => q H' z (s1.trans sm) ?_⟩
    rw [rsub_eq]; exact hz
abbrev stimes : Stmt := topS 16
theorem sctimes : FnScope ["one", "other"] ["one", "other"] (defScope stimes) := ⟨rfl, rfl, rfl, by decide +kernel, rfl, by decide +kernel, by decide +kernel⟩
theorem oktimes (T : Txt K mg "times" stimes) (Glowest_terms : DefOk P w K mg base CX0 "lowest_terms" 1 ["top", "bottom"] (spLow K)) : DefOk P w K mg base CX0 "times" 2 ["one", "other"] (spBin K rmul) := by
  obtain ⟨f, fd, F, gf⟩ := T
  refine ⟨f, fd, gf, F.kp, F.binds (fun _ _ _ _ _ _ us hl => match us, hl with | [_, _], _ => rfl), F.ok sctimes (fun vs H Q E h => ?_) (fun cdv A outer s H vs Q E hr h => ?_)⟩
  · obtain ⟨v, u, r, s_, rfl, _⟩ := h; rfl
  · obtain ⟨v, u, r, s_, rfl, hv, hu, ir, is_, zr, zs, q⟩ := h
    refine ⟨_, (pss_one (ps_ret (pe_def Glowest_terms (hr.mono (by decide)) (by rfl) (pa_cons (pe_op op_mulW (pe_ix ix_it (pv 0) pe_int (fun _ _ => rfl)) (pe_ix ix_it (pv 1) pe_int (fun _ _ => rfl))) (pa_cons (pe_op op_mulW (pe_ix ix_it (pv 0) pe_int (fun _ _ => rfl)) (pe_ix ix_it (pv 1) pe_int (fun _ _ => rfl))) pa_nil))))), ?_⟩
    have c1 := cou_r hv
    have c2 := cou_r hu
    refine ⟨v, rfl, _, _, 0, _, rfl, c1, rfl, u, rfl, _, _, 0, _, rfl, c2, rfl, _, _, rfl, rfl, wide_mul zr.1 zs.1 (by decide) (by decide) (by decide), v, rfl, _, _, 1, _, rfl, c1, rfl, u, rfl, _, _, 1, _, rfl, c2, rfl, _, _, rfl, rfl, wide_mul zr.2 zs.2 (by decide) (by decide) (by decide), _, _, rfl, Int.mul_pos ir.1 is_.1, sz_mono (sz_mul zr.1 zs.1) (by decide), sz_mono (sz_mul zr.2 zs.2) (by decide), fun H' z sm hz => q H' z sm hz⟩
abbrev sover : Stmt := topS 17
theorem scover : FnScope ["one", "other"] ["one", "other"] (defScope sover) := ⟨rfl, rfl, rfl, by decide +kernel, rfl, by decide +kernel, by decide +kernel⟩
theorem okover (T : Txt K mg "over" sover) (Glowest_terms : DefOk P w K mg base CX0 "lowest_terms" 1 ["top", "bottom"] (spLow K)) : DefOk P w K mg base CX0 "over" 2 ["one", "other"] (spOver K) := by
  obtain ⟨f, fd, F, gf⟩ := T
  refine ⟨f, fd, gf, F.kp, F.binds (fun _ _ _ _ _ _ us hl => match us, hl with | [_, _], _ => rfl), F.ok scover (fun vs H Q E h => ?_) (fun cdv A outer s H vs Q E hr h => ?_)⟩
  · obtain ⟨v, u, r, n, rfl, _⟩ := h; rfl
  · obtain ⟨v, u, r, n, rfl, hv, hu, n0, ir, zr, zn, q⟩ := h
    refine ⟨_, (pss_cons (ps_if (pt_cmpR op_eq (pe_ix ix_it (pv 1) pe_int (fun _ _ => rfl)) pe_int (nomark _)) (pss_one ps_never) pss_nil) (pss_one (ps_ret (pe_def Glowest_terms (hr.mono (by decide)) (by rfl) (pa_cons (pe_op op_mulW (pe_ix ix_it (pv 0) pe_int (fun _ _ => rfl)) (pe_ix ix_it (pv 1) pe_int (fun _ _ => rfl))) (pa_cons (pe_op op_mulW (pe_ix ix_it (pv 0) pe_int (fun _ _ => rfl)) (pe_ix ix_it (pv 1) pe_int (fun _ _ => rfl))) pa_nil)))))), ?_⟩
    have c1 := cou_r hv
    have c2 := cou_r hu
    refine ⟨u, rfl, _, _, 0, _, rfl, c2, rfl, rfl, _, rfl, ?_⟩
    rw [decide_eq_false (fun z => by have := V.int.inj z; omega : ¬ V.int ((n, (1 : Int)).1) = V.int 0)]
    refine iteF ⟨v, rfl, _, _, 0, _, rfl, c1, rfl, u, rfl, _, _, 1, _, rfl, c2, rfl, _, _, rfl, rfl, wide_mul zr.1 sz1 (by decide) (by decide) (by decide), v, rfl, _, _, 1, _, rfl, c1, rfl, u, rfl, _, _, 0, _, rfl, c2, rfl, _, _, rfl, rfl, wide_mul zr.2 zn (by decide) (by decide) (by decide), _, _, rfl, Int.mul_pos ir.1 n0, sz_mono (sz_mul zr.1 sz1) (by decide), sz_mono (sz_mul zr.2 zn) (by decide), fun H' z sm hz => q H' z sm hz⟩
end
end F3
set_option Elab.async false
set_option linter.all false
set_option maxRecDepth 100000
set_option maxHeartbeats 4000000
set_option exponentiation.threshold 3000
namespace F3
open PySem PySem.Spec PyProof.Rows L2 FX RM PB
theorem sz_gg {n : Nat} {x y : Int} (h : x ≠ 0 ∨ y ≠ 0) (a : Sz n x) (b : Sz n y) : Sz n (g2 x y) := by
  by_cases z : y = 0
  · have hx : x ≠ 0 := by
      rcases h with h | h
      · exact h
      · exact absurd z h
    refine Nat.lt_of_le_of_lt ?_ a
    unfold g2
    rw [Int.natAbs_natCast]
    exact Nat.gcd_le_left _ (by omega)
  · exact sz_g z b
theorem g2_posO {x y : Int} (h : x ≠ 0 ∨ y ≠ 0) : 0 < g2 x y := by
  rcases h with h | h
  · exact g2_pos' h
  · exact g2_pos h
/-! places: what is reckoned -/
abbrev Pl := Rt × Rt
def RatP (p : Pl) : Prop := IsRat p.1 ∧ IsRat p.2
def SzP (n : Nat) (p : Pl) : Prop := SzR n p.1 ∧ SzR n p.2
def rawA (d : Int × Int) (p : Pl) : Int × Int := (d.1 * p.1.1 * p.2.2 + d.2 * p.2.1 * p.1.2, p.1.2 * p.2.2)
def amt (d : Int × Int) (p : Pl) : Rt := norm (rawA d p).1 (rawA d p).2
def stepF (p s : Pl) : Pl := (rsub s.1 p.1, rsub s.2 p.2)
def byP (p s : Pl) : Pl := (radd p.1 s.1, radd p.2 s.2)
def growP (p : Pl) (z : Rt) : Pl := (rmul p.1 z, rmul p.2 z)
def wrow (p : Pl) : Int × Int × Int := if p.1.2 = p.2.2 then (p.1.1, p.2.1, p.1.2) else (p.1.1 * p.2.2, p.2.1 * p.1.2, p.1.2 * p.2.2)
def rawC (f g h : Int × Int × Int) : Int × Int := (f.2.2 * (g.1 * h.2.1 - g.2.1 * h.1) + g.2.2 * (h.1 * f.2.1 - h.2.1 * f.1) + h.2.2 * (f.1 * g.2.1 - f.2.1 * g.1), f.2.2 * g.2.2 * h.2.2)
def crossP (a b c : Pl) : Rt := norm (rawC (wrow a) (wrow b) (wrow c)).1 (rawC (wrow a) (wrow b) (wrow c)).2
def dirOf (p : Pl) : Int × Int := norm (p.1.1 * p.2.2) (p.2.1 * p.1.2)
def sumR (rs : List Rt) : Rt := rs.foldl radd (0, 1)
theorem szr_zero : SzR 1 ((0, 1) : Rt) := ⟨by show (0 : Int).natAbs < 2; decide, by show (1 : Int).natAbs < 2; decide⟩
theorem sumR_snoc (rs : List Rt) (r : Rt) : sumR (rs ++ [r]) = radd (sumR rs) r := by unfold sumR; rw [List.foldl_append]; rfl
theorem fold_ok {n : Nat} : ∀ (rs : List Rt) (s : Rt) (m : Nat), IsRat s → SzR m s → (∀ r ∈ rs, IsRat r ∧ SzR n r) → IsRat (rs.foldl radd s) ∧ SzR (m + rs.length * (n + 1)) (rs.foldl radd s)
  | [], s, m, h1, h2, _ => ⟨h1, szr_mono h2 (by omega)⟩
  | r :: rs, s, m, h1, h2, h => by
    obtain ⟨a, b⟩ := h r (List.mem_cons_self ..)
    obtain ⟨c, d⟩ := fold_ok rs (radd s r) (m + n + 1) (rat_add h1 a) (szr_add h1 a h2 b) (fun x hx => h x (List.mem_cons_of_mem _ hx))
    refine ⟨c, szr_mono d ?_⟩
    rw [List.length_cons, Nat.add_mul]; omega
theorem sum_ok {n : Nat} {rs : List Rt} (h : ∀ r ∈ rs, IsRat r ∧ SzR n r) : IsRat (sumR rs) ∧ SzR (1 + rs.length * (n + 1)) (sumR rs) := fold_ok rs (0, 1) 1 rat_zero szr_zero h
/-! promises: places -/
def spSum (K : PySem.W.Frag) : Sp := fun vs H Q _ => ∃ p xs rs, vs = [.ref p] ∧ SqL K H p xs ∧ DpAll K H xs (rs.map rD) ∧ rs.length ≤ 4 ∧ (∀ r ∈ rs, IsRat r ∧ SzR 300 r) ∧ ∀ H' z, Same H H' → Dp K H' z (rD (sumR rs)) → Q z H'
def spWd (K : PySem.W.Frag) : Sp := fun vs H Q _ => ∃ x y : Int, vs = [.int x, .int y] ∧ (x ≠ 0 ∨ y ≠ 0) ∧ Sz 8000 x ∧ Sz 8000 y ∧ ∀ H' z, Same H H' → Dp K H' z (rD (norm x y)) → Q z H'
def spDirOf (K : PySem.W.Frag) : Sp := fun vs H Q _ => ∃ v p, vs = [v] ∧ Pla K H v p ∧ RatP p ∧ SzP 2000 p ∧ (p.1.1 ≠ 0 ∨ p.2.1 ≠ 0) ∧ ∀ H' z, Same H H' → Dp K H' z (rD (dirOf p)) → Q z H'
def spRawA (K : PySem.W.Frag) (o : Int × Int → Pl → Int × Int) : Sp := fun vs H Q _ => ∃ v u d p, vs = [v, u] ∧ Dir K H v d ∧ Pla K H u p ∧ RatP p ∧ SzR 600 d ∧ SzP 600 p ∧ ∀ H' z, Same H H' → Dp K H' z (rD (o d p)) → Q z H'
def spPP (K : PySem.W.Frag) (n : Nat) (o : Pl → Pl → Pl) : Sp := fun vs H Q _ => ∃ v u p s, vs = [v, u] ∧ Pla K H v p ∧ Pla K H u s ∧ RatP p ∧ RatP s ∧ SzP n p ∧ SzP n s ∧ ∀ H' z, Same H H' → Dp K H' z (pD (o p s)) → Q z H'
def spGrow (K : PySem.W.Frag) : Sp := fun vs H Q _ => ∃ v u p s, vs = [v, u] ∧ Pla K H v p ∧ Dp K H u (rD s) ∧ RatP p ∧ IsRat s ∧ SzP 2000 p ∧ SzR 2000 s ∧ ∀ H' z, Same H H' → Dp K H' z (pD (growP p s)) → Q z H'
def spOn (K : PySem.W.Frag) : Sp := fun vs H Q _ => ∃ v u t p s r, vs = [v, u, t] ∧ Pla K H v p ∧ Pla K H u s ∧ Dp K H t (rD r) ∧ RatP p ∧ RatP s ∧ IsRat r ∧ SzP 600 p ∧ SzP 600 s ∧ SzR 600 r ∧ ∀ H' z, Same H H' → Dp K H' z (pD (byP p (growP (stepF p s) r))) → Q z H'
def tD (f : Int × Int × Int) : PyData := .tuple [.int f.1, .int f.2.1, .int f.2.2]
def spWrow (K : PySem.W.Frag) : Sp := fun vs H Q _ => ∃ v p, vs = [v] ∧ Pla K H v p ∧ RatP p ∧ SzP 600 p ∧ ∀ H' z, Same H H' → Dp K H' z (tD (wrow p)) → Q z H'
def spCross (K : PySem.W.Frag) (o : Pl → Pl → Pl → Rt) : Sp := fun vs H Q _ => ∃ v u t a b c, vs = [v, u, t] ∧ Pla K H v a ∧ Pla K H u b ∧ Pla K H t c ∧ RatP a ∧ RatP b ∧ RatP c ∧ SzP 600 a ∧ SzP 600 b ∧ SzP 600 c ∧ ∀ H' z, Same H H' → Dp K H' z (rD (o a b c)) → Q z H'
def spNormal (K : PySem.W.Frag) : Sp := fun vs H Q _ => ∃ v u p s, vs = [v, u] ∧ Pla K H v p ∧ Pla K H u s ∧ RatP p ∧ RatP s ∧ SzP 600 p ∧ SzP 600 s ∧ ((stepF p s).1.1 ≠ 0 ∨ (stepF p s).2.1 ≠ 0) ∧ ∀ H' z, Same H H' → Dp K H' z (rD (dirOf ((stepF p s).2, rneg (stepF p s).1))) → Q z H'
def spP1 (K : PySem.W.Frag) (o : Pl → Pl) : Sp := fun vs H Q _ => ∃ v p, vs = [v] ∧ Pla K H v p ∧ ∀ H' z, Same H H' → Dp K H' z (pD (o p)) → Q z H'
theorem wrow_spec {p : Pl} (h : RatP p) : 0 < (wrow p).2.2 ∧ (wrow p).1 * p.1.2 = p.1.1 * (wrow p).2.2 ∧ (wrow p).2.1 * p.2.2 = p.2.1 * (wrow p).2.2 := by
  unfold wrow
  by_cases e : p.1.2 = p.2.2
  · rw [if_pos e]; exact ⟨h.1.1, rfl, by show p.2.1 * p.2.2 = p.2.1 * p.1.2; rw [e]⟩
  · rw [if_neg e]; exact ⟨Int.mul_pos h.1.1 h.2.1, by show p.1.1 * p.2.2 * p.1.2 = p.1.1 * (p.1.2 * p.2.2); grind, by show p.2.1 * p.1.2 * p.2.2 = p.2.1 * (p.1.2 * p.2.2); grind⟩
theorem wrow_sz {n : Nat} {p : Pl} (h : SzP n p) : Sz (n + n) (wrow p).1 ∧ Sz (n + n) (wrow p).2.1 ∧ Sz (n + n) (wrow p).2.2 := by
  unfold wrow
  split
  · exact ⟨sz_mono h.1.1 (by omega), sz_mono h.2.1 (by omega), sz_mono h.1.2 (by omega)⟩
  · exact ⟨sz_mul h.1.1 h.2.2, sz_mul h.2.1 h.1.2, sz_mul h.1.2 h.2.2⟩
section
variable {P : Program} {w : World} {K : PySem.W.Frag} {mg : Str → Option Value} {base : Heap}
theorem dp_t3 {H : Hp} {v : V} {f : Int × Int × Int} (h : Dp K H v (tD f)) : ∃ p, v = .ref p ∧ SqT K H p [.int f.1, .int f.2.1, .int f.2.2] := by
  cases h with
  | tup h g =>
    cases g with
    | cons h1 g => cases g with
      | cons h2 g => cases g with
        | cons h3 g => cases g with
          | nil =>
            rw [dp_int h1, dp_int h2, dp_int h3] at h
            exact ⟨_, rfl, h⟩
abbrev ssum_of : Stmt := topS 19
theorem scsum_of : FnScope ["row", "total", "one"] ["row"] (defScope ssum_of) := ⟨rfl, rfl, rfl, by decide +kernel, rfl, by decide +kernel, by decide +kernel⟩
theorem oksum_of (T : Txt K mg "sum_of" ssum_of) (Gplus : DefOk P w K mg base CX0 "plus" 2 ["one", "other"] (spBin K radd)) {zA : Addr} (gZ : mg "ZERO" = some (.ref zA)) (hZ : ∀ H, SqT K H zA [.int 0, .int 1]) : DefOk P w K mg base CX0 "sum_of" 3 ["row"] (spSum K) := by
  obtain ⟨f, fd, F, gf⟩ := T
  refine ⟨f, fd, gf, F.kp, F.binds (fun _ _ _ _ _ _ us hl => match us, hl with | [_], _ => rfl), F.ok scsum_of (fun vs H Q E h => ?_) (fun cdv A outer s H vs Q E hr h => ?_)⟩
  · obtain ⟨p, xs, rs, rfl, _⟩ := h; rfl
  · obtain ⟨p, xs, rs, rfl, hS, hD, hl, hr_, q⟩ := h
    refine ⟨_, (pss_cons (ps_set (i := 1) scsum_of.nd rfl (.inl rfl) (pe_glob (v := .ref zA) (by rfl) gZ rfl)) (pss_cons (ps_for PassesOwn.never rfl (pi_list (pv 0)) (pg_name (i := 2) scsum_of.nd rfl (.inl rfl)) (pss_one (ps_set (i := 1) scsum_of.nd rfl (.inl rfl) (pe_def Gplus (hr.mono (by decide)) (by rfl) (pa_cons (pv 1) (pa_cons (pv 2) pa_nil)))))) (pss_one (ps_ret (pv 1))))), ?_⟩
    have lx : xs.length = rs.length := by
      have : ∀ {vs : List V} {ds : List PyData}, DpAll K H vs ds → vs.length = ds.length := by
        intro vs ds h
        induction vs generalizing ds with
        | nil => cases h; rfl
        | cons v vs ih => cases h with
          | cons _ g => exact congrArg (· + 1) (ih g)
      rw [this hD, List.length_map]
    have at_ : ∀ {vs : List V} {ls : List Rt} {i : Nat} {x : V}, DpAll K H vs (ls.map rD) → vs[i]? = some x → ∃ r, ls[i]? = some r ∧ Dp K H x (rD r) := by
      intro vs
      induction vs with
      | nil => intro ls i x _ e; cases e
      | cons v vs ih =>
        intro ls i x h e
        cases ls with
        | nil => cases h
        | cons l ls =>
          cases h with
          | cons h1 g =>
            cases i with
            | zero => cases e; exact ⟨l, rfl, h1⟩
            | succ i => exact ih (i := i) g e
    refine ⟨.ref p, rfl, p, rfl, ⟨_, hS⟩, for_list (K := K) (a := p) (xs := xs) (fun i σ H' => ∃ (t : V) (y : Option V), σ = [some (.ref p), some t, y] ∧ Same H H' ∧ Dp K H' t (rD (sumR (rs.take i))))
      ⟨.ref zA, none, rfl, fun _ _ e => e, .tup (hZ H) (.cons (.int 0) (.cons (.int 1) .nil))⟩ (fun i σ H' _ ⟨_, _, _, s1, _⟩ => s1.seq hS) ?_ ?_⟩
    · rintro i x σ H' hi ⟨t, y, rfl, s1, ht⟩
      obtain ⟨r, er, hx⟩ := at_ hD hi
      have il : i < rs.length := (List.getElem?_eq_some_iff.mp er).1
      obtain ⟨rr, rz⟩ := hr_ r (List.mem_of_getElem? er)
      obtain ⟨ir, iz⟩ := sum_ok (rs := rs.take i) (n := 300) (fun z hz => hr_ z (List.mem_of_mem_take hz))
      have iz2 : SzR 2000 (sumR (rs.take i)) := szr_mono iz (by rw [List.length_take]; have : min i rs.length ≤ 4 := by omega
                                                                omega)
      refine ⟨t, rfl, x, rfl, t, x, _, r, rfl, ht, Dp_same s1 hx, ir, rr, iz2, szr_mono rz (by decide), fun H2 z s2 hz => ⟨z, some x, rfl, s1.trans s2, ?_⟩⟩
      rw [List.take_add_one, er]
      show Dp K H2 z (rD (sumR (rs.take i ++ [r])))
      rw [sumR_snoc]; exact hz
    · rintro σ H' ⟨t, y, rfl, s1, ht⟩
      rw [lx, List.take_length] at ht
      exact ⟨t, rfl, q H' t s1 ht⟩
abbrev swhole_direction : Stmt := topS 25
theorem scwhole_direction : FnScope ["x", "y", "share"] ["x", "y"] (defScope swhole_direction) := ⟨rfl, rfl, rfl, by decide +kernel, rfl, by decide +kernel, by decide +kernel⟩
theorem okwhole_direction (T : Txt K mg "whole_direction" swhole_direction) (mgcd : mg "gcd" = some (.builtin "math.gcd")) : DefOk P w K mg base CX0 "whole_direction" 1 ["x", "y"] (spWd K) := by
  obtain ⟨f, fd, F, gf⟩ := T
  refine ⟨f, fd, gf, F.kp, F.binds (fun _ _ _ _ _ _ us hl => match us, hl with | [_, _], _ => rfl), F.ok scwhole_direction (fun vs H Q E h => ?_) (fun cdv A outer s H vs Q E hr h => ?_)⟩
  · obtain ⟨x, y, rfl, _⟩ := h; rfl
  · obtain ⟨x, y, rfl, nz, zx, zy, q⟩ := h
    refine ⟨_, (pss_cons (ps_set (i := 2) scwhole_direction.nd rfl (.inl rfl) (pe_callBfun cr_gcd (by rfl) mgcd (pa_cons (pv 0) (pa_cons (pv 1) pa_nil)))) (pss_cons (ps_if (pt_cmpR op_eq (pv 2) pe_int (nomark _)) (pss_one ps_never) pss_nil) (pss_one (ps_ret (pe_tup (pa_cons (pe_op op_fdivW (pv 0) (pv 2)) (pa_cons (pe_op op_fdivW (pv 1) (pv 2)) pa_nil))))))), ?_⟩
    have gp := g2_posO nz
    have gz := sz_gg nz zx zy
    refine ⟨_, rfl, _, rfl, x, y, rfl, ?_⟩
    show tSeq _ _ _ [some (.int x), some (.int y), some (.int (g2 x y))] H
    refine ⟨_, rfl, rfl, _, rfl, ?_⟩
    rw [decide_eq_false (fun z => by have := V.int.inj z; omega : ¬ V.int (g2 x y) = V.int 0)]
    refine iteF ⟨_, rfl, _, rfl, _, _, rfl, rfl, wide_div gp gz (by decide) (by decide), _, rfl, _, rfl, _, _, rfl, rfl, wide_div gp gz (by decide) (by decide), (by show 2 ≤ sizeLine; decide), fun p np => q _ _ (same_new np) (dp_mkr np)⟩
abbrev sraw_amount : Stmt := topS 26
theorem scraw_amount : FnScope ["direction", "place", "x", "y"] ["direction", "place"] (defScope sraw_amount) := ⟨rfl, rfl, rfl, by decide +kernel, rfl, by decide +kernel, by decide +kernel⟩
theorem okraw_amount (T : Txt K mg "raw_amount" sraw_amount)  : DefOk P w K mg base CX0 "raw_amount" 1 ["direction", "place"] (spRawA K rawA) := by
  obtain ⟨f, fd, F, gf⟩ := T
  refine ⟨f, fd, gf, F.kp, F.binds (fun _ _ _ _ _ _ us hl => match us, hl with | [_, _], _ => rfl), F.ok scraw_amount (fun vs H Q E h => ?_) (fun cdv A outer s H vs Q E hr h => ?_)⟩
  · obtain ⟨v, u, d, p, rfl, _⟩ := h; rfl
  · obtain ⟨v, u, d, p, rfl, cd, ⟨x, y, c, hx, hy⟩, rp, zd, zp, q⟩ := h
    refine ⟨_, (pss_cons (ps_asg (pv 1) (pg_cou rfl (pgs_cons (pg_name (i := 2) scraw_amount.nd rfl (.inl rfl)) (pgs_cons (pg_name (i := 3) scraw_amount.nd rfl (.inl rfl)) pgs_nil)))) (pss_one (ps_ret (pe_tup (pa_cons (pe_op op_add (pe_op op_mulW (pe_op op_mulW (pe_ix ix_it (pv 0) pe_int (fun _ _ => rfl)) (pe_ix ix_it (pv 2) pe_int (fun _ _ => rfl))) (pe_ix ix_it (pv 3) pe_int (fun _ _ => rfl))) (pe_op op_mulW (pe_op op_mulW (pe_ix ix_it (pv 0) pe_int (fun _ _ => rfl)) (pe_ix ix_it (pv 3) pe_int (fun _ _ => rfl))) (pe_ix ix_it (pv 2) pe_int (fun _ _ => rfl)))) (pa_cons (pe_op op_mulW (pe_ix ix_it (pv 2) pe_int (fun _ _ => rfl)) (pe_ix ix_it (pv 3) pe_int (fun _ _ => rfl))) pa_nil)))))), ?_⟩
    have cx := cou_r hx
    have cy := cou_r hy
    refine ⟨u, rfl, x, y, c, x, [y], rfl, y, [], rfl, rfl, ?_⟩
    refine ⟨v, rfl, _, _, 0, _, rfl, cd, rfl, x, rfl, _, _, 0, _, rfl, cx, rfl, _, _, rfl, rfl, wide_mul zd.1 zp.1.1 (by decide) (by decide) (by decide), y, rfl, _, _, 1, _, rfl, cy, rfl, _, _, rfl, rfl, wide_mul (sz_mul zd.1 zp.1.1) zp.2.2 (by decide) (by decide) (by decide), v, rfl, _, _, 1, _, rfl, cd, rfl, y, rfl, _, _, 0, _, rfl, cy, rfl, _, _, rfl, rfl, wide_mul zd.2 zp.2.1 (by decide) (by decide) (by decide), x, rfl, _, _, 1, _, rfl, cx, rfl, _, _, rfl, rfl, wide_mul (sz_mul zd.2 zp.2.1) zp.1.2 (by decide) (by decide) (by decide), _, _, rfl, rfl, ?_⟩
    exact ⟨x, rfl, _, _, 1, _, rfl, cx, rfl, y, rfl, _, _, 1, _, rfl, cy, rfl, _, _, rfl, rfl, wide_mul zp.1.2 zp.2.2 (by decide) (by decide) (by decide), (by show 2 ≤ sizeLine; decide), fun r nr => q _ _ (same_new nr) (dp_mkr nr)⟩
abbrev samount_at : Stmt := topS 27
theorem scamount_at : FnScope ["direction", "place", "top", "bottom"] ["direction", "place"] (defScope samount_at) := ⟨rfl, rfl, rfl, by decide +kernel, rfl, by decide +kernel, by decide +kernel⟩
theorem okamount_at (T : Txt K mg "amount_at" samount_at) (Glowest_terms : DefOk P w K mg base CX0 "lowest_terms" 1 ["top", "bottom"] (spLow K)) (Graw_amount : DefOk P w K mg base CX0 "raw_amount" 1 ["direction", "place"] (spRawA K rawA)) : DefOk P w K mg base CX0 "amount_at" 2 ["direction", "place"] (spRawA K amt) := by
  obtain ⟨f, fd, F, gf⟩ := T
  refine ⟨f, fd, gf, F.kp, F.binds (fun _ _ _ _ _ _ us hl => match us, hl with | [_, _], _ => rfl), F.ok scamount_at (fun vs H Q E h => ?_) (fun cdv A outer s H vs Q E hr h => ?_)⟩
  · obtain ⟨v, u, d, p, rfl, _⟩ := h; rfl
  · obtain ⟨v, u, d, p, rfl, cd, pu, rp, zd, zp, q⟩ := h
    refine ⟨_, (pss_cons (ps_asg (pe_def Graw_amount (hr.mono (by decide)) (by rfl) (pa_cons (pv 0) (pa_cons (pv 1) pa_nil))) (pg_cou rfl (pgs_cons (pg_name (i := 2) scamount_at.nd rfl (.inl rfl)) (pgs_cons (pg_name (i := 3) scamount_at.nd rfl (.inl rfl)) pgs_nil)))) (pss_one (ps_ret (pe_def Glowest_terms (hr.mono (by decide)) (by rfl) (pa_cons (pv 2) (pa_cons (pv 3) pa_nil)))))), ?_⟩
    refine ⟨v, rfl, u, rfl, v, u, d, p, rfl, cd, pu, rp, zd, zp, fun H1 z1 s1 h1 => ?_⟩
    refine ⟨_, _, cou_r h1, _, _, rfl, _, _, rfl, rfl, ?_⟩
    refine ⟨_, rfl, _, rfl, _, _, rfl, Int.mul_pos rp.1.1 rp.2.1, sz_mono (sz_add (sz_mul (sz_mul zd.1 zp.1.1) zp.2.2) (sz_mul (sz_mul zd.2 zp.2.1) zp.1.2)) (by decide), sz_mono (sz_mul zp.1.2 zp.2.2) (by decide), fun H2 z s2 hz => q H2 z (s1.trans s2) hz⟩
abbrev sstep_from : Stmt := topS 28
theorem scstep_from : FnScope ["one", "other"] ["one", "other"] (defScope sstep_from) := ⟨rfl, rfl, rfl, by decide +kernel, rfl, by decide +kernel, by decide +kernel⟩
theorem okstep_from (T : Txt K mg "step_from" sstep_from) (Gminus : DefOk P w K mg base CX0 "minus" 3 ["one", "other"] (spBin K rsub)) : DefOk P w K mg base CX0 "step_from" 4 ["one", "other"] (spPP K 2000 stepF) := by
  obtain ⟨f, fd, F, gf⟩ := T
  refine ⟨f, fd, gf, F.kp, F.binds (fun _ _ _ _ _ _ us hl => match us, hl with | [_, _], _ => rfl), F.ok scstep_from (fun vs H Q E h => ?_) (fun cdv A outer s H vs Q E hr h => ?_)⟩
  · obtain ⟨v, u, p, s_, rfl, _⟩ := h; rfl
  · obtain ⟨v, u, p, s_, rfl, ⟨x, y, cv, hx, hy⟩, ⟨x_, y_, cu, hx_, hy_⟩, rp, rs, zp, zs, q⟩ := h
    refine ⟨_, (pss_one (ps_ret (pe_tup (pa_cons (pe_def Gminus (hr.mono (by decide)) (by rfl) (pa_cons (pe_ix ix_it (pv 1) pe_int (fun _ _ => rfl)) (pa_cons (pe_ix ix_it (pv 0) pe_int (fun _ _ => rfl)) pa_nil))) (pa_cons (pe_def Gminus (hr.mono (by decide)) (by rfl) (pa_cons (pe_ix ix_it (pv 1) pe_int (fun _ _ => rfl)) (pa_cons (pe_ix ix_it (pv 0) pe_int (fun _ _ => rfl)) pa_nil))) pa_nil))))), ?_⟩
    refine ⟨u, rfl, _, _, 0, _, rfl, cu, rfl, v, rfl, _, _, 0, _, rfl, cv, rfl, _, _, _, _, rfl, hx_, hx, rs.1, rp.1, zs.1, zp.1, fun H1 z1 s1 h1 => ?_⟩
    refine ⟨u, rfl, _, _, 1, _, rfl, (cu.same s1), rfl, v, rfl, _, _, 1, _, rfl, (cv.same s1), rfl, _, _, _, _, rfl, Dp_same s1 hy_, Dp_same s1 hy, rs.2, rp.2, zs.2, zp.2, fun H2 z2 s2 h2 => ⟨(by show 2 ≤ sizeLine; decide), fun r nr => q _ _ ((s1.trans s2).trans (same_new nr)) (dp_mk2 nr (Dp_same s2 h1) h2)⟩⟩
abbrev splace_by : Stmt := topS 29
theorem scplace_by : FnScope ["place", "step"] ["place", "step"] (defScope splace_by) := ⟨rfl, rfl, rfl, by decide +kernel, rfl, by decide +kernel, by decide +kernel⟩
theorem okplace_by (T : Txt K mg "place_by" splace_by) (Gplus : DefOk P w K mg base CX0 "plus" 2 ["one", "other"] (spBin K radd)) : DefOk P w K mg base CX0 "place_by" 3 ["place", "step"] (spPP K 2000 byP) := by
  obtain ⟨f, fd, F, gf⟩ := T
  refine ⟨f, fd, gf, F.kp, F.binds (fun _ _ _ _ _ _ us hl => match us, hl with | [_, _], _ => rfl), F.ok scplace_by (fun vs H Q E h => ?_) (fun cdv A outer s H vs Q E hr h => ?_)⟩
  · obtain ⟨v, u, p, s_, rfl, _⟩ := h; rfl
  · obtain ⟨v, u, p, s_, rfl, ⟨x, y, cv, hx, hy⟩, ⟨x_, y_, cu, hx_, hy_⟩, rp, rs, zp, zs, q⟩ := h
    refine ⟨_, (pss_one (ps_ret (pe_tup (pa_cons (pe_def Gplus (hr.mono (by decide)) (by rfl) (pa_cons (pe_ix ix_it (pv 0) pe_int (fun _ _ => rfl)) (pa_cons (pe_ix ix_it (pv 1) pe_int (fun _ _ => rfl)) pa_nil))) (pa_cons (pe_def Gplus (hr.mono (by decide)) (by rfl) (pa_cons (pe_ix ix_it (pv 0) pe_int (fun _ _ => rfl)) (pa_cons (pe_ix ix_it (pv 1) pe_int (fun _ _ => rfl)) pa_nil))) pa_nil))))), ?_⟩
    refine ⟨v, rfl, _, _, 0, _, rfl, cv, rfl, u, rfl, _, _, 0, _, rfl, cu, rfl, _, _, _, _, rfl, hx, hx_, rp.1, rs.1, zp.1, zs.1, fun H1 z1 s1 h1 => ?_⟩
    refine ⟨v, rfl, _, _, 1, _, rfl, (cv.same s1), rfl, u, rfl, _, _, 1, _, rfl, (cu.same s1), rfl, _, _, _, _, rfl, Dp_same s1 hy, Dp_same s1 hy_, rp.2, rs.2, zp.2, zs.2, fun H2 z2 s2 h2 => ⟨(by show 2 ≤ sizeLine; decide), fun r nr => q _ _ ((s1.trans s2).trans (same_new nr)) (dp_mk2 nr (Dp_same s2 h1) h2)⟩⟩
abbrev sgrow_place : Stmt := topS 39
theorem scgrow_place : FnScope ["place", "size", "x", "y"] ["place", "size"] (defScope sgrow_place) := ⟨rfl, rfl, rfl, by decide +kernel, rfl, by decide +kernel, by decide +kernel⟩
theorem okgrow_place (T : Txt K mg "grow_place" sgrow_place) (Gtimes : DefOk P w K mg base CX0 "times" 2 ["one", "other"] (spBin K rmul)) : DefOk P w K mg base CX0 "grow_place" 3 ["place", "size"] (spGrow K) := by
  obtain ⟨f, fd, F, gf⟩ := T
  refine ⟨f, fd, gf, F.kp, F.binds (fun _ _ _ _ _ _ us hl => match us, hl with | [_, _], _ => rfl), F.ok scgrow_place (fun vs H Q E h => ?_) (fun cdv A outer s H vs Q E hr h => ?_)⟩
  · obtain ⟨v, u, p, s_, rfl, _⟩ := h; rfl
  · obtain ⟨v, u, p, s_, rfl, ⟨x, y, cv, hx, hy⟩, hu, rp, rs, zp, zs, q⟩ := h
    refine ⟨_, (pss_cons (ps_asg (pv 0) (pg_cou rfl (pgs_cons (pg_name (i := 2) scgrow_place.nd rfl (.inl rfl)) (pgs_cons (pg_name (i := 3) scgrow_place.nd rfl (.inl rfl)) pgs_nil)))) (pss_one (ps_ret (pe_tup (pa_cons (pe_def Gtimes (hr.mono (by decide)) (by rfl) (pa_cons (pv 2) (pa_cons (pv 1) pa_nil))) (pa_cons (pe_def Gtimes (hr.mono (by decide)) (by rfl) (pa_cons (pv 3) (pa_cons (pv 1) pa_nil))) pa_nil)))))), ?_⟩
    refine ⟨v, rfl, x, y, cv, x, [y], rfl, y, [], rfl, rfl, ?_⟩
    refine ⟨x, rfl, u, rfl, _, _, _, _, rfl, hx, hu, rp.1, rs, zp.1, zs, fun H1 z1 s1 h1 => ?_⟩
    refine ⟨y, rfl, u, rfl, _, _, _, _, rfl, Dp_same s1 hy, Dp_same s1 hu, rp.2, rs, zp.2, zs, fun H2 z2 s2 h2 => ⟨(by show 2 ≤ sizeLine; decide), fun r nr => q _ _ ((s1.trans s2).trans (same_new nr)) (dp_mk2 nr (Dp_same s2 h1) h2)⟩⟩
abbrev splace_on : Stmt := topS 30
theorem scplace_on : FnScope ["one", "other", "share"] ["one", "other", "share"] (defScope splace_on) := ⟨rfl, rfl, rfl, by decide +kernel, rfl, by decide +kernel, by decide +kernel⟩
theorem okplace_on (T : Txt K mg "place_on" splace_on) (Gstep_from : DefOk P w K mg base CX0 "step_from" 4 ["one", "other"] (spPP K 2000 stepF)) (Gplace_by : DefOk P w K mg base CX0 "place_by" 3 ["place", "step"] (spPP K 2000 byP)) (Ggrow_place : DefOk P w K mg base CX0 "grow_place" 3 ["place", "size"] (spGrow K)) : DefOk P w K mg base CX0 "place_on" 5 ["one", "other", "share"] (spOn K) := by
  obtain ⟨f, fd, F, gf⟩ := T
  refine ⟨f, fd, gf, F.kp, F.binds (fun _ _ _ _ _ _ us hl => match us, hl with | [_, _, _], _ => rfl), F.ok scplace_on (fun vs H Q E h => ?_) (fun cdv A outer s H vs Q E hr h => ?_)⟩
  · obtain ⟨v, u, t, p, s_, r, rfl, _⟩ := h; rfl
  · obtain ⟨v, u, t, p, s_, r, rfl, hv, hu, ht, rp, rs, rr, zp, zs, zr, q⟩ := h
    refine ⟨_, (pss_one (ps_ret (pe_def Gplace_by (hr.mono (by decide)) (by rfl) (pa_cons (pv 0) (pa_cons (pe_def Ggrow_place (hr.mono (by decide)) (by rfl) (pa_cons (pe_def Gstep_from (hr.mono (by decide)) (by rfl) (pa_cons (pv 0) (pa_cons (pv 1) pa_nil))) (pa_cons (pv 2) pa_nil))) pa_nil))))), ?_⟩
    have m := fun {n : Nat} {p : Pl} (h : SzP 600 p) (k : 600 ≤ n) => (⟨szr_mono h.1 k, szr_mono h.2 k⟩ : SzP n p)
    refine ⟨v, rfl, v, rfl, u, rfl, _, _, _, _, rfl, hv, hu, rp, rs, m zp (by decide), m zs (by decide), fun H1 z1 s1 h1 => ?_⟩
    have r1 : RatP (stepF p s_) := ⟨rat_sub rs.1 rp.1, rat_sub rs.2 rp.2⟩
    have e1 : SzP 1201 (stepF p s_) := ⟨szr_sub rs.1 rp.1 zs.1 zp.1, szr_sub rs.2 rp.2 zs.2 zp.2⟩
    refine ⟨t, rfl, _, _, _, _, rfl, pla_t h1, Dp_same s1 ht, r1, rr, ⟨szr_mono e1.1 (by decide), szr_mono e1.2 (by decide)⟩, szr_mono zr (by decide), fun H2 z2 s2 h2 => ?_⟩
    have r2 : RatP (growP (stepF p s_) r) := ⟨rat_mul r1.1 rr, rat_mul r1.2 rr⟩
    have e2 : SzP 1801 (growP (stepF p s_) r) := ⟨szr_mul r1.1 rr e1.1 zr, szr_mul r1.2 rr e1.2 zr⟩
    refine ⟨_, _, _, _, rfl, hv.same (s1.trans s2), pla_t h2, rp, r2, m zp (by decide), ⟨szr_mono e2.1 (by decide), szr_mono e2.2 (by decide)⟩, fun H3 z3 s3 h3 => q _ _ ((s1.trans s2).trans s3) h3⟩
abbrev sturn_place : Stmt := topS 37
theorem scturn_place : FnScope ["place", "x", "y"] ["place"] (defScope sturn_place) := ⟨rfl, rfl, rfl, by decide +kernel, rfl, by decide +kernel, by decide +kernel⟩
theorem okturn_place (T : Txt K mg "turn_place" sturn_place) (Gnegative : DefOk P w K mg base CX0 "negative" 1 ["one"] (spNeg K)) : DefOk P w K mg base CX0 "turn_place" 2 ["place"] (spP1 K fun p => (rneg p.2, p.1)) := by
  obtain ⟨f, fd, F, gf⟩ := T
  refine ⟨f, fd, gf, F.kp, F.binds (fun _ _ _ _ _ _ us hl => match us, hl with | [_], _ => rfl), F.ok scturn_place (fun vs H Q E h => ?_) (fun cdv A outer s H vs Q E hr h => ?_)⟩
  · obtain ⟨v, p, rfl, _⟩ := h; rfl
  · obtain ⟨v, p, rfl, ⟨x, y, cv, hx, hy⟩, q⟩ := h
    refine ⟨_, (pss_cons (ps_asg (pv 0) (pg_cou rfl (pgs_cons (pg_name (i := 1) scturn_place.nd rfl (.inl rfl)) (pgs_cons (pg_name (i := 2) scturn_place.nd rfl (.inl rfl)) pgs_nil)))) (pss_one (ps_ret (pe_tup (pa_cons (pe_def Gnegative (hr.mono (by decide)) (by rfl) (pa_cons (pv 2) pa_nil)) (pa_cons (pv 1) pa_nil)))))), ?_⟩
    refine ⟨v, rfl, x, y, cv, x, [y], rfl, y, [], rfl, rfl, ?_⟩
    refine ⟨y, rfl, y, _, rfl, hy, fun H1 z1 s1 h1 => ?_⟩
    exact ⟨x, rfl, (by show 2 ≤ sizeLine; decide), fun r nr => q _ _ (s1.trans (same_new nr)) (dp_mk2 nr h1 (Dp_same s1 hx))⟩
abbrev smirror_place : Stmt := topS 38
theorem scmirror_place : FnScope ["place", "x", "y"] ["place"] (defScope smirror_place) := ⟨rfl, rfl, rfl, by decide +kernel, rfl, by decide +kernel, by decide +kernel⟩
theorem okmirror_place (T : Txt K mg "mirror_place" smirror_place) (Gnegative : DefOk P w K mg base CX0 "negative" 1 ["one"] (spNeg K)) : DefOk P w K mg base CX0 "mirror_place" 2 ["place"] (spP1 K fun p => (rneg p.1, p.2)) := by
  obtain ⟨f, fd, F, gf⟩ := T
  refine ⟨f, fd, gf, F.kp, F.binds (fun _ _ _ _ _ _ us hl => match us, hl with | [_], _ => rfl), F.ok scmirror_place (fun vs H Q E h => ?_) (fun cdv A outer s H vs Q E hr h => ?_)⟩
  · obtain ⟨v, p, rfl, _⟩ := h; rfl
  · obtain ⟨v, p, rfl, ⟨x, y, cv, hx, hy⟩, q⟩ := h
    refine ⟨_, (pss_cons (ps_asg (pv 0) (pg_cou rfl (pgs_cons (pg_name (i := 1) scmirror_place.nd rfl (.inl rfl)) (pgs_cons (pg_name (i := 2) scmirror_place.nd rfl (.inl rfl)) pgs_nil)))) (pss_one (ps_ret (pe_tup (pa_cons (pe_def Gnegative (hr.mono (by decide)) (by rfl) (pa_cons (pv 1) pa_nil)) (pa_cons (pv 2) pa_nil)))))), ?_⟩
    refine ⟨v, rfl, x, y, cv, x, [y], rfl, y, [], rfl, rfl, ?_⟩
    refine ⟨x, rfl, x, _, rfl, hx, fun H1 z1 s1 h1 => ?_⟩
    exact ⟨y, rfl, (by show 2 ≤ sizeLine; decide), fun r nr => q _ _ (s1.trans (same_new nr)) (dp_mk2 nr h1 (Dp_same s1 hy))⟩
end
end F3
set_option Elab.async false
set_option linter.all false
set_option maxRecDepth 100000
set_option maxHeartbeats 4000000
set_option exponentiation.threshold 3000
namespace F3
open PySem PySem.Spec PyProof.Rows L2 FX RM PB
def rstep (p s : Pl) : Int × Int := ((wrow s).1 * (wrow p).2.2 - (wrow p).1 * (wrow s).2.2, (wrow s).2.1 * (wrow p).2.2 - (wrow p).2.1 * (wrow s).2.2)
def spRawS (K : PySem.W.Frag) : Sp := fun vs H Q _ => ∃ v u p s, vs = [v, u] ∧ Pla K H v p ∧ Pla K H u s ∧ RatP p ∧ RatP s ∧ SzP 600 p ∧ SzP 600 s ∧ ∀ H' z, Same H H' → Dp K H' z (rD (rstep p s)) → Q z H'
theorem norm_scaled {a b c : Int} (h : 0 < c) : norm (a * c) (b * c) = norm a b := by
  have e : g2 (a * c) (b * c) = g2 a b * c := by
    unfold g2
    rw [Int.natAbs_mul, Int.natAbs_mul, Nat.gcd_mul_right]
    rw [Int.natCast_mul, Int.natAbs_of_nonneg (Int.le_of_lt h)]
  unfold norm
  rw [e, Int.mul_ediv_mul_of_pos_left _ _ h, Int.mul_ediv_mul_of_pos_left _ _ h]
theorem norm_like {a b a' b' c c' : Int} (h : 0 < c) (h' : 0 < c') (e : a * c = a' * c') (e' : b * c = b' * c') : norm a b = norm a' b' := by
  rw [← norm_scaled h, e, e', norm_scaled h']
theorem rstep_rep {p s : Pl} (hp : RatP p) (hs : RatP s) : Rep (stepF p s).1 (rstep p s).1 ((wrow s).2.2 * (wrow p).2.2) ∧ Rep (stepF p s).2 (rstep p s).2 ((wrow s).2.2 * (wrow p).2.2) := by
  obtain ⟨a1, a2, a3⟩ := wrow_spec hp
  obtain ⟨b1, b2, b3⟩ := wrow_spec hs
  exact ⟨rep_sub (r := s.1) (s := p.1) ⟨hs.1, b1, b2.symm⟩ ⟨hp.1, a1, a2.symm⟩, rep_sub (r := s.2) (s := p.2) ⟨hs.2, b1, b3.symm⟩ ⟨hp.2, a1, a3.symm⟩⟩
theorem rep_zero {r : Rt} {t b : Int} (h : IsRat r) (w : 0 < b) (e : r.1 * b = t * r.2) : t = 0 ↔ r.1 = 0 := by
  constructor
  · intro z
    rw [z, Int.zero_mul] at e
    rcases Int.mul_eq_zero.mp e with k | k
    · exact k
    · omega
  · intro z
    rw [z, Int.zero_mul] at e
    rcases Int.mul_eq_zero.mp e.symm with k | k
    · exact k
    · have := h.1; omega
theorem rstep_zero {p s : Pl} (hp : RatP p) (hs : RatP s) : ((rstep p s).1 = 0 ↔ (stepF p s).1.1 = 0) ∧ ((rstep p s).2 = 0 ↔ (stepF p s).2.1 = 0) := by
  obtain ⟨⟨i1, w, e1⟩, ⟨i2, _, e2⟩⟩ := rstep_rep hp hs
  exact ⟨rep_zero i1 w e1, rep_zero i2 w e2⟩
theorem rstep_dir {p s : Pl} (hp : RatP p) (hs : RatP s) : norm (rstep p s).2 (-(rstep p s).1) = dirOf ((stepF p s).2, rneg (stepF p s).1) := by
  obtain ⟨⟨i1, w, e1⟩, ⟨i2, _, e2⟩⟩ := rstep_rep hp hs
  unfold dirOf
  refine norm_like (c := (stepF p s).1.2 * (stepF p s).2.2) (c' := (wrow s).2.2 * (wrow p).2.2) (Int.mul_pos i1.1 i2.1) w ?_ ?_
  · show (rstep p s).2 * ((stepF p s).1.2 * (stepF p s).2.2) = (stepF p s).2.1 * (stepF p s).1.2 * ((wrow s).2.2 * (wrow p).2.2)
    grind
  · show -(rstep p s).1 * ((stepF p s).1.2 * (stepF p s).2.2) = -(stepF p s).1.1 * (stepF p s).2.2 * ((wrow s).2.2 * (wrow p).2.2)
    grind
theorem rstep_sz {p s : Pl} (zp : SzP 600 p) (zs : SzP 600 s) : Sz 2401 (rstep p s).1 ∧ Sz 2401 (rstep p s).2 := by
  obtain ⟨ax, ay, aa⟩ := wrow_sz zp
  obtain ⟨bx, by_, bb⟩ := wrow_sz zs
  exact ⟨sz_sub (sz_mul bx aa) (sz_mul ax bb), sz_sub (sz_mul by_ aa) (sz_mul ay bb)⟩
def meanP (ps : List Pl) : Pl := (rmul (sumR (ps.map (·.1))) (1, (ps.length : Int)), rmul (sumR (ps.map (·.2))) (1, (ps.length : Int)))
def spMean (K : PySem.W.Frag) : Sp := fun vs H Q _ => ∃ p xs ps, vs = [.ref p] ∧ (SqL K H p xs ∨ SqT K H p xs) ∧ DpAll K H xs (ps.map pD) ∧ 0 < ps.length ∧ ps.length ≤ 4 ∧ (∀ r ∈ ps, RatP r ∧ SzP 300 r) ∧ ∀ H' z, Same H H' → Dp K H' z (pD (meanP ps)) → Q z H'
def spRawC (K : PySem.W.Frag) : Sp := fun vs H Q _ => ∃ v u t a b c, vs = [v, u, t] ∧ Pla K H v a ∧ Pla K H u b ∧ Pla K H t c ∧ RatP a ∧ RatP b ∧ RatP c ∧ SzP 600 a ∧ SzP 600 b ∧ SzP 600 c ∧ ∀ H' z, Same H H' → Dp K H' z (rD (rawC (wrow a) (wrow b) (wrow c))) → Q z H'
section
variable {P : Program} {w : World} {K : PySem.W.Frag} {mg : Str → Option Value} {base : Heap}
abbrev swhole_row : Stmt := topS 32
theorem scwhole_row : FnScope ["place", "x", "y"] ["place"] (defScope swhole_row) := ⟨rfl, rfl, rfl, by decide +kernel, rfl, by decide +kernel, by decide +kernel⟩
theorem okwhole_row (T : Txt K mg "whole_row" swhole_row)  : DefOk P w K mg base CX0 "whole_row" 1 ["place"] (spWrow K) := by
  obtain ⟨f, fd, F, gf⟩ := T
  refine ⟨f, fd, gf, F.kp, F.binds (fun _ _ _ _ _ _ us hl => match us, hl with | [_], _ => rfl), F.ok scwhole_row (fun vs H Q E h => ?_) (fun cdv A outer s H vs Q E hr h => ?_)⟩
  · obtain ⟨v, p, rfl, _⟩ := h; rfl
  · obtain ⟨v, p, rfl, ⟨x, y, c, hx, hy⟩, rp, zp, q⟩ := h
    refine ⟨_, (pss_cons (ps_asg (pv 0) (pg_cou rfl (pgs_cons (pg_name (i := 1) scwhole_row.nd rfl (.inl rfl)) (pgs_cons (pg_name (i := 2) scwhole_row.nd rfl (.inl rfl)) pgs_nil)))) (pss_cons (ps_if (pt_cmpR op_eq (pe_ix ix_it (pv 1) pe_int (fun _ _ => rfl)) (pe_ix ix_it (pv 2) pe_int (fun _ _ => rfl)) (nomark _)) (pss_one (ps_ret (pe_tup (pa_cons (pe_ix ix_it (pv 1) pe_int (fun _ _ => rfl)) (pa_cons (pe_ix ix_it (pv 2) pe_int (fun _ _ => rfl)) (pa_cons (pe_ix ix_it (pv 1) pe_int (fun _ _ => rfl)) pa_nil)))))) pss_nil) (pss_one (ps_ret (pe_tup (pa_cons (pe_op op_mulW (pe_ix ix_it (pv 1) pe_int (fun _ _ => rfl)) (pe_ix ix_it (pv 2) pe_int (fun _ _ => rfl))) (pa_cons (pe_op op_mulW (pe_ix ix_it (pv 2) pe_int (fun _ _ => rfl)) (pe_ix ix_it (pv 1) pe_int (fun _ _ => rfl))) (pa_cons (pe_op op_mulW (pe_ix ix_it (pv 1) pe_int (fun _ _ => rfl)) (pe_ix ix_it (pv 2) pe_int (fun _ _ => rfl))) pa_nil)))))))), ?_⟩
    have cx := cou_r hx
    have cy := cou_r hy
    refine ⟨v, rfl, x, y, c, x, [y], rfl, y, [], rfl, rfl, ?_⟩
    refine ⟨x, rfl, _, _, 1, _, rfl, cx, rfl, y, rfl, _, _, 1, _, rfl, cy, rfl, rfl, _, rfl, ite2 (fun e => ?_) (fun e => ?_)⟩
    · have e2 : p.1.2 = p.2.2 := V.int.inj (of_decide_eq_true e)
      refine ⟨x, rfl, _, _, 0, _, rfl, cx, rfl, y, rfl, _, _, 0, _, rfl, cy, rfl, x, rfl, _, _, 1, _, rfl, cx, rfl, (by show 3 ≤ sizeLine; decide), fun r nr => q _ _ (same_new nr) ?_⟩
      have : wrow p = (p.1.1, p.2.1, p.1.2) := if_pos e2
      rw [this]
      exact .tup (.inl (.inl upd_same)) (.cons (.int _) (.cons (.int _) (.cons (.int _) .nil)))
    · have e2 : ¬ p.1.2 = p.2.2 := fun z => e (decide_eq_true (by rw [z]))
      refine ⟨x, rfl, _, _, 0, _, rfl, cx, rfl, y, rfl, _, _, 1, _, rfl, cy, rfl, _, _, rfl, rfl, wide_mul zp.1.1 zp.2.2 (by decide) (by decide) (by decide), y, rfl, _, _, 0, _, rfl, cy, rfl, x, rfl, _, _, 1, _, rfl, cx, rfl, _, _, rfl, rfl, wide_mul zp.2.1 zp.1.2 (by decide) (by decide) (by decide), x, rfl, _, _, 1, _, rfl, cx, rfl, y, rfl, _, _, 1, _, rfl, cy, rfl, _, _, rfl, rfl, wide_mul zp.1.2 zp.2.2 (by decide) (by decide) (by decide), (by show 3 ≤ sizeLine; decide), fun r nr => q _ _ (same_new nr) ?_⟩
      have : wrow p = (p.1.1 * p.2.2, p.2.1 * p.1.2, p.1.2 * p.2.2) := if_neg e2
      rw [this]
      exact .tup (.inl (.inl upd_same)) (.cons (.int _) (.cons (.int _) (.cons (.int _) .nil)))
abbrev sraw_cross : Stmt := topS 34
theorem scraw_cross : FnScope ["first", "second", "third", "ax", "ay", "a", "bx", "by", "b", "cx", "cy", "c", "top"] ["first", "second", "third"] (defScope sraw_cross) := ⟨rfl, rfl, rfl, by decide +kernel, rfl, by decide +kernel, by decide +kernel⟩
theorem okraw_cross (T : Txt K mg "raw_cross" sraw_cross) (Gwhole_row : DefOk P w K mg base CX0 "whole_row" 1 ["place"] (spWrow K)) : DefOk P w K mg base CX0 "raw_cross" 2 ["first", "second", "third"] (spRawC K) := by
  obtain ⟨f, fd, F, gf⟩ := T
  refine ⟨f, fd, gf, F.kp, F.binds (fun _ _ _ _ _ _ us hl => match us, hl with | [_, _, _], _ => rfl), F.ok scraw_cross (fun vs H Q E h => ?_) (fun cdv A outer s H vs Q E hr h => ?_)⟩
  · obtain ⟨v, u, t, a, b, c, rfl, _⟩ := h; rfl
  · obtain ⟨v, u, t, a, b, c, rfl, ha, hb, hc, ra, rb, rc, za, zb, zc, q⟩ := h
    refine ⟨_, (pss_cons (ps_asg (pe_def Gwhole_row (hr.mono (by decide)) (by rfl) (pa_cons (pv 0) pa_nil)) (pg_tup rfl (pgs_cons (pg_name (i := 3) scraw_cross.nd rfl (.inl rfl)) (pgs_cons (pg_name (i := 4) scraw_cross.nd rfl (.inl rfl)) (pgs_cons (pg_name (i := 5) scraw_cross.nd rfl (.inl rfl)) pgs_nil))))) (pss_cons (ps_asg (pe_def Gwhole_row (hr.mono (by decide)) (by rfl) (pa_cons (pv 1) pa_nil)) (pg_tup rfl (pgs_cons (pg_name (i := 6) scraw_cross.nd rfl (.inl rfl)) (pgs_cons (pg_name (i := 7) scraw_cross.nd rfl (.inl rfl)) (pgs_cons (pg_name (i := 8) scraw_cross.nd rfl (.inl rfl)) pgs_nil))))) (pss_cons (ps_asg (pe_def Gwhole_row (hr.mono (by decide)) (by rfl) (pa_cons (pv 2) pa_nil)) (pg_tup rfl (pgs_cons (pg_name (i := 9) scraw_cross.nd rfl (.inl rfl)) (pgs_cons (pg_name (i := 10) scraw_cross.nd rfl (.inl rfl)) (pgs_cons (pg_name (i := 11) scraw_cross.nd rfl (.inl rfl)) pgs_nil))))) (pss_cons (ps_set (i := 12) scraw_cross.nd rfl (.inl rfl) (pe_op op_add (pe_op op_add (pe_op op_mulW (pv 5) (pe_op op_sub (pe_op op_mulW (pv 6) (pv 10)) (pe_op op_mulW (pv 7) (pv 9)))) (pe_op op_mulW (pv 8) (pe_op op_sub (pe_op op_mulW (pv 9) (pv 4)) (pe_op op_mulW (pv 10) (pv 3))))) (pe_op op_mulW (pv 11) (pe_op op_sub (pe_op op_mulW (pv 3) (pv 7)) (pe_op op_mulW (pv 4) (pv 6)))))) (pss_one (ps_ret (pe_tup (pa_cons (pv 12) (pa_cons (pe_op op_mulW (pe_op op_mulW (pv 5) (pv 8)) (pv 11)) pa_nil))))))))), ?_⟩
    obtain ⟨ax, ay, aa⟩ := wrow_sz za
    obtain ⟨bx, by_, bb⟩ := wrow_sz zb
    obtain ⟨cx, cy, cc⟩ := wrow_sz zc
    refine ⟨v, rfl, v, a, rfl, ha, ra, za, fun H1 z1 s1 h1 => ?_⟩
    obtain ⟨p1, rfl, t1⟩ := dp_t3 h1
    refine ⟨p1, _, rfl, t1, rfl, _, _, rfl, _, _, rfl, _, [], rfl, rfl, ?_⟩
    refine ⟨u, rfl, u, b, rfl, hb.same s1, rb, zb, fun H2 z2 s2 h2 => ?_⟩
    obtain ⟨p2, rfl, t2⟩ := dp_t3 h2
    refine ⟨p2, _, rfl, t2, rfl, _, _, rfl, _, _, rfl, _, [], rfl, rfl, ?_⟩
    refine ⟨t, rfl, t, c, rfl, hc.same (s1.trans s2), rc, zc, fun H3 z3 s3 h3 => ?_⟩
    obtain ⟨p3, rfl, t3⟩ := dp_t3 h3
    refine ⟨p3, _, rfl, t3, rfl, _, _, rfl, _, _, rfl, _, [], rfl, rfl, ?_⟩
    refine ⟨_, rfl, _, rfl, _, rfl, _, _, rfl, rfl, wide_mul bx cy (by decide) (by decide) (by decide), _, rfl, _, rfl, _, _, rfl, rfl, wide_mul by_ cx (by decide) (by decide) (by decide), _, _, rfl, rfl, _, _, rfl, rfl, wide_mul aa (sz_sub (sz_mul bx cy) (sz_mul by_ cx)) (by decide) (by decide) (by decide), _, rfl, _, rfl, _, rfl, _, _, rfl, rfl, wide_mul cx ay (by decide) (by decide) (by decide), _, rfl, _, rfl, _, _, rfl, rfl, wide_mul cy ax (by decide) (by decide) (by decide), _, _, rfl, rfl, _, _, rfl, rfl, wide_mul bb (sz_sub (sz_mul cx ay) (sz_mul cy ax)) (by decide) (by decide) (by decide), _, _, rfl, rfl, _, rfl, _, rfl, _, rfl, _, _, rfl, rfl, wide_mul ax by_ (by decide) (by decide) (by decide), _, rfl, _, rfl, _, _, rfl, rfl, wide_mul ay bx (by decide) (by decide) (by decide), _, _, rfl, rfl, _, _, rfl, rfl, wide_mul cc (sz_sub (sz_mul ax by_) (sz_mul ay bx)) (by decide) (by decide) (by decide), _, _, rfl, rfl, ?_⟩
    exact ⟨_, rfl, _, rfl, _, rfl, _, _, rfl, rfl, wide_mul aa bb (by decide) (by decide) (by decide), _, rfl, _, _, rfl, rfl, wide_mul (sz_mul aa bb) cc (by decide) (by decide) (by decide), (by show 2 ≤ sizeLine; decide), fun r nr => q _ _ (((s1.trans s2).trans s3).trans (same_new nr)) (dp_mkr nr)⟩
abbrev scross_at : Stmt := topS 35
theorem sccross_at : FnScope ["first", "second", "third", "top", "bottom"] ["first", "second", "third"] (defScope scross_at) := ⟨rfl, rfl, rfl, by decide +kernel, rfl, by decide +kernel, by decide +kernel⟩
theorem okcross_at (T : Txt K mg "cross_at" scross_at) (Glowest_terms : DefOk P w K mg base CX0 "lowest_terms" 1 ["top", "bottom"] (spLow K)) (Graw_cross : DefOk P w K mg base CX0 "raw_cross" 2 ["first", "second", "third"] (spRawC K)) : DefOk P w K mg base CX0 "cross_at" 3 ["first", "second", "third"] (spCross K crossP) := by
  obtain ⟨f, fd, F, gf⟩ := T
  refine ⟨f, fd, gf, F.kp, F.binds (fun _ _ _ _ _ _ us hl => match us, hl with | [_, _, _], _ => rfl), F.ok sccross_at (fun vs H Q E h => ?_) (fun cdv A outer s H vs Q E hr h => ?_)⟩
  · obtain ⟨v, u, t, a, b, c, rfl, _⟩ := h; rfl
  · obtain ⟨v, u, t, a, b, c, rfl, ha, hb, hc, ra, rb, rc, za, zb, zc, q⟩ := h
    refine ⟨_, (pss_cons (ps_asg (pe_def Graw_cross (hr.mono (by decide)) (by rfl) (pa_cons (pv 0) (pa_cons (pv 1) (pa_cons (pv 2) pa_nil)))) (pg_cou rfl (pgs_cons (pg_name (i := 3) sccross_at.nd rfl (.inl rfl)) (pgs_cons (pg_name (i := 4) sccross_at.nd rfl (.inl rfl)) pgs_nil)))) (pss_one (ps_ret (pe_def Glowest_terms (hr.mono (by decide)) (by rfl) (pa_cons (pv 3) (pa_cons (pv 4) pa_nil)))))), ?_⟩
    obtain ⟨ax, ay, aa⟩ := wrow_sz za
    obtain ⟨bx, by_, bb⟩ := wrow_sz zb
    obtain ⟨cx, cy, cc⟩ := wrow_sz zc
    refine ⟨v, rfl, u, rfl, t, rfl, v, u, t, a, b, c, rfl, ha, hb, hc, ra, rb, rc, za, zb, zc, fun H1 z1 s1 h1 => ?_⟩
    refine ⟨_, _, cou_r h1, _, _, rfl, _, _, rfl, rfl, ?_⟩
    refine ⟨_, rfl, _, rfl, _, _, rfl, Int.mul_pos (Int.mul_pos (wrow_spec ra).1 (wrow_spec rb).1) (wrow_spec rc).1, ?_, sz_mono (sz_mul (sz_mul aa bb) cc) (by decide), fun H2 z s2 hz => q H2 z (s1.trans s2) hz⟩
    have A := sz_mono (m := 3700) (sz_mul aa (sz_sub (sz_mul bx cy) (sz_mul by_ cx))) (by decide)
    have B := sz_mono (m := 3700) (sz_mul bb (sz_sub (sz_mul cx ay) (sz_mul cy ax))) (by decide)
    have C := sz_mono (m := 3701) (sz_mul cc (sz_sub (sz_mul ax by_) (sz_mul ay bx))) (by decide)
    exact sz_mono (sz_add (sz_add A B) C) (by decide)
abbrev sraw_step : Stmt := topS 33
theorem scraw_step : FnScope ["one", "other", "ax", "ay", "a", "bx", "by", "b"] ["one", "other"] (defScope sraw_step) := ⟨rfl, rfl, rfl, by decide +kernel, rfl, by decide +kernel, by decide +kernel⟩
theorem okraw_step (T : Txt K mg "raw_step" sraw_step) (Gwhole_row : DefOk P w K mg base CX0 "whole_row" 1 ["place"] (spWrow K)) : DefOk P w K mg base CX0 "raw_step" 2 ["one", "other"] (spRawS K) := by
  obtain ⟨f, fd, F, gf⟩ := T
  refine ⟨f, fd, gf, F.kp, F.binds (fun _ _ _ _ _ _ us hl => match us, hl with | [_, _], _ => rfl), F.ok scraw_step (fun vs H Q E h => ?_) (fun cdv A outer s H vs Q E hr h => ?_)⟩
  · obtain ⟨v, u, p, s_, rfl, _⟩ := h; rfl
  · obtain ⟨v, u, p, s_, rfl, ha, hb, ra, rb, za, zb, q⟩ := h
    refine ⟨_, (pss_cons (ps_asg (pe_def Gwhole_row (hr.mono (by decide)) (by rfl) (pa_cons (pv 0) pa_nil)) (pg_tup rfl (pgs_cons (pg_name (i := 2) scraw_step.nd rfl (.inl rfl)) (pgs_cons (pg_name (i := 3) scraw_step.nd rfl (.inl rfl)) (pgs_cons (pg_name (i := 4) scraw_step.nd rfl (.inl rfl)) pgs_nil))))) (pss_cons (ps_asg (pe_def Gwhole_row (hr.mono (by decide)) (by rfl) (pa_cons (pv 1) pa_nil)) (pg_tup rfl (pgs_cons (pg_name (i := 5) scraw_step.nd rfl (.inl rfl)) (pgs_cons (pg_name (i := 6) scraw_step.nd rfl (.inl rfl)) (pgs_cons (pg_name (i := 7) scraw_step.nd rfl (.inl rfl)) pgs_nil))))) (pss_one (ps_ret (pe_tup (pa_cons (pe_op op_sub (pe_op op_mulW (pv 5) (pv 4)) (pe_op op_mulW (pv 2) (pv 7))) (pa_cons (pe_op op_sub (pe_op op_mulW (pv 6) (pv 4)) (pe_op op_mulW (pv 3) (pv 7))) pa_nil))))))), ?_⟩
    obtain ⟨ax, ay, aa⟩ := wrow_sz za
    obtain ⟨bx, by_, bb⟩ := wrow_sz zb
    refine ⟨v, rfl, v, p, rfl, ha, ra, za, fun H1 z1 s1 h1 => ?_⟩
    obtain ⟨p1, rfl, t1⟩ := dp_t3 h1
    refine ⟨p1, _, rfl, t1, rfl, _, _, rfl, _, _, rfl, _, [], rfl, rfl, ?_⟩
    refine ⟨u, rfl, u, s_, rfl, hb.same s1, rb, zb, fun H2 z2 s2 h2 => ?_⟩
    obtain ⟨p2, rfl, t2⟩ := dp_t3 h2
    refine ⟨p2, _, rfl, t2, rfl, _, _, rfl, _, _, rfl, _, [], rfl, rfl, ?_⟩
    exact ⟨_, rfl, _, rfl, _, _, rfl, rfl, wide_mul bx aa (by decide) (by decide) (by decide), _, rfl, _, rfl, _, _, rfl, rfl, wide_mul ax bb (by decide) (by decide) (by decide), _, _, rfl, rfl, _, rfl, _, rfl, _, _, rfl, rfl, wide_mul by_ aa (by decide) (by decide) (by decide), _, rfl, _, rfl, _, _, rfl, rfl, wide_mul ay bb (by decide) (by decide) (by decide), _, _, rfl, rfl, (by show 2 ≤ sizeLine; decide), fun r nr => q _ _ ((s1.trans s2).trans (same_new nr)) (dp_mkr nr)⟩
abbrev sside_normal : Stmt := topS 36
theorem scside_normal : FnScope ["one", "other", "dx", "dy"] ["one", "other"] (defScope sside_normal) := ⟨rfl, rfl, rfl, by decide +kernel, rfl, by decide +kernel, by decide +kernel⟩
theorem okside_normal (T : Txt K mg "side_normal" sside_normal) (Graw_step : DefOk P w K mg base CX0 "raw_step" 2 ["one", "other"] (spRawS K)) (Gwhole_direction : DefOk P w K mg base CX0 "whole_direction" 1 ["x", "y"] (spWd K)) : DefOk P w K mg base CX0 "side_normal" 5 ["one", "other"] (spNormal K) := by
  obtain ⟨f, fd, F, gf⟩ := T
  refine ⟨f, fd, gf, F.kp, F.binds (fun _ _ _ _ _ _ us hl => match us, hl with | [_, _], _ => rfl), F.ok scside_normal (fun vs H Q E h => ?_) (fun cdv A outer s H vs Q E hr h => ?_)⟩
  · obtain ⟨v, u, p, s_, rfl, _⟩ := h; rfl
  · obtain ⟨v, u, p, s_, rfl, hv, hu, rp, rs, zp, zs, nz, q⟩ := h
    refine ⟨_, (pss_cons (ps_asg (pe_def Graw_step (hr.mono (by decide)) (by rfl) (pa_cons (pv 0) (pa_cons (pv 1) pa_nil))) (pg_cou rfl (pgs_cons (pg_name (i := 2) scside_normal.nd rfl (.inl rfl)) (pgs_cons (pg_name (i := 3) scside_normal.nd rfl (.inl rfl)) pgs_nil)))) (pss_one (ps_ret (pe_def Gwhole_direction (hr.mono (by decide)) (by rfl) (pa_cons (pv 3) (pa_cons (pe_un un_neg (pv 2)) pa_nil)))))), ?_⟩
    obtain ⟨zx, zy⟩ := rstep_sz zp zs
    refine ⟨v, rfl, u, rfl, v, u, p, s_, rfl, hv, hu, rp, rs, zp, zs, fun H1 z1 s1 h1 => ?_⟩
    refine ⟨_, _, cou_r h1, _, _, rfl, _, _, rfl, rfl, ?_⟩
    refine ⟨_, rfl, _, rfl, _, rfl, _, _, rfl, ?_, sz_mono zy (by decide), sz_mono (sz_neg zx) (by decide), fun H2 z s2 hz => q H2 z (s1.trans s2) ?_⟩
    · rcases nz with nz | nz
      · exact .inr (fun z => nz (((rstep_zero rp rs).1).mp (by omega)))
      · exact .inl (fun z => nz (((rstep_zero rp rs).2).mp z))
    · rw [← rstep_dir rp rs]; exact hz
end
end F3
set_option Elab.async false
set_option linter.all false
set_option maxRecDepth 100000
set_option maxHeartbeats 4000000
set_option exponentiation.threshold 3000
namespace F3
open PySem PySem.Spec PyProof.Rows L2 FX RM PB
section
variable {P : Program} {w : World} {K : PySem.W.Frag} {mg : Str → Option Value} {base : Heap}
abbrev smean_place : Stmt := topS 31
theorem scmean_place : FnScope ["places", "many", "x", "y", "place"] ["places"] (defScope smean_place) := ⟨rfl, rfl, rfl, by decide +kernel, rfl, by decide +kernel, by decide +kernel⟩
theorem okmean_place (T : Txt K mg "mean_place" smean_place) (Gsum_of : DefOk P w K mg base CX0 "sum_of" 3 ["row"] (spSum K)) (Gover : DefOk P w K mg base CX0 "over" 2 ["one", "other"] (spOver K)) (mlen : mg "len" = none) : DefOk P w K mg base CX0 "mean_place" 4 ["places"] (spMean K) := by
  obtain ⟨f, fd, F, gf⟩ := T
  refine ⟨f, fd, gf, F.kp, F.binds (fun _ _ _ _ _ _ us hl => match us, hl with | [_], _ => rfl), F.ok scmean_place (fun vs H Q E h => ?_) (fun cdv A outer s H vs Q E hr h => ?_)⟩
  · obtain ⟨p, xs, ps, rfl, _⟩ := h; rfl
  · obtain ⟨p, xs, ps, rfl, hS, hD, l0, l4, hr_, q⟩ := h
    refine ⟨_, (pss_cons (ps_set (i := 1) scmean_place.nd rfl (.inl rfl) (pe_tup (pa_cons (pe_callB call_len_seq (by rfl) mlen PySem.boot_len (pa_cons (pv 0) pa_nil)) (pa_cons pe_int pa_nil)))) (pss_cons (ps_set (i := 2) scmean_place.nd rfl (.inl rfl) (pe_def Gsum_of (hr.mono (by decide)) (by rfl) (pa_cons (pe_lc (own := [("place", 4)]) (g := gName 4) (tt := tYes) rfl scmean_place.nd (pi_seq (pv 0)) (blkOk_by (N := ["places", "many", "x", "y", "place"]) (sc := defScope smean_place) (by decide +kernel)) (fun _ _ _ _ _ => pg_name (i := 4) scmean_place.nd rfl (.inl rfl)) (fun _ _ _ _ _ => pts_nil) (fun _ _ _ _ _ => (pe_ix (ix_itK K) (pv 4) pe_int (fun _ _ => rfl)))) pa_nil))) (pss_cons (ps_set (i := 3) scmean_place.nd rfl (.inl rfl) (pe_def Gsum_of (hr.mono (by decide)) (by rfl) (pa_cons (pe_lc (own := [("place", 4)]) (g := gName 4) (tt := tYes) rfl scmean_place.nd (pi_seq (pv 0)) (blkOk_by (N := ["places", "many", "x", "y", "place"]) (sc := defScope smean_place) (by decide +kernel)) (fun _ _ _ _ _ => pg_name (i := 4) scmean_place.nd rfl (.inl rfl)) (fun _ _ _ _ _ => pts_nil) (fun _ _ _ _ _ => (pe_ix (ix_itK K) (pv 4) pe_int (fun _ _ => rfl)))) pa_nil))) (pss_one (ps_ret (pe_tup (pa_cons (pe_def Gover (hr.mono (by decide)) (by rfl) (pa_cons (pv 2) (pa_cons (pv 1) pa_nil))) (pa_cons (pe_def Gover (hr.mono (by decide)) (by rfl) (pa_cons (pv 3) (pa_cons (pv 1) pa_nil))) pa_nil)))))))), ?_⟩
    have lx : xs.length = ps.length := by rw [DpAll_len hD, List.length_map]
    have xz : xs.length < sizeLine := small1000 (by omega)
    have at_ : ∀ {i : Nat} {x : V} {H' : Hp}, Same H H' → xs[i]? = some x → ∃ r, ps[i]? = some r ∧ Dp K H' x (pD r) := fun {i x H'} s e => by
      obtain ⟨d, ed, hd⟩ := DpAll_at hD e
      rw [List.getElem?_map] at ed
      cases ep : ps[i]? with
      | none => rw [ep] at ed; cases ed
      | some r => rw [ep] at ed; cases ed; exact ⟨r, rfl, Dp_same s hd⟩
    have mapD : ∀ (k : Pl → Rt), (List.range xs.length).map (fun i => rD (k (ps.getD i ((0, 1), (0, 1))))) = (ps.map k).map rD := fun k => by
      rw [lx, List.map_map]
      apply List.ext_getElem
      · simp
      · intro i h1 h2
        simp at h1 h2
        simp [List.getD_eq_getElem?_getD, h2]
    refine ⟨.ref p, rfl, p, xs, rfl, hS, (by show 2 ≤ sizeLine; decide), fun m nm => ?_⟩
    have s0 : Same H (upd H m (.tup [.int (xs.length : Int), .int 1])) := same_new nm
    have hm : Dp K (upd H m (.tup [.int (xs.length : Int), .int 1])) (.ref m) (rD ((xs.length : Int), 1)) := dp_mkr nm
    generalize upd H m (.tup [.int (xs.length : Int), .int 1]) = H0 at s0 hm ⊢
    have q0 : SqL K H0 p xs ∨ SqT K H0 p xs := hS.elim (fun z => .inl (s0.seq z)) fun z => .inr (same_t s0 z)
    dsimp only [tSeq, tAsg, tCall, tCons, tNil, gName]
    refine lc_map (K := K) (a := p) (xs := xs) (j := 0) (fun i => rD ((ps.getD i ((0, 1), (0, 1))).1)) (fun i => by simp [rD, noL, noLs]) (by rfl) q0 xz (fun i x H' R ex sx hR => ?_) fun D H1 ys s1 nD hys hdy => ?_
    · obtain ⟨r, er, hx⟩ := at_ (s0.trans sx) ex
      obtain ⟨a, b, c, ha, hb⟩ := pla_t hx
      refine ⟨rfl, x, rfl, a, b, 0, _, rfl, c, rfl, hR _ _ (fun _ _ z => z) ?_⟩
      have : ps.getD i ((0, 1), (0, 1)) = r := by rw [List.getD_eq_getElem?_getD, er]; rfl
      rw [this]; exact ha
    refine ⟨D, ys, ps.map (·.1), rfl, .inl (.inl hys), (by rw [← mapD]; exact hdy), (by rw [List.length_map]; exact l4), ?_, fun H2 z2 s2 h2 => ?_⟩
    · intro r hr
      obtain ⟨x, hx, rfl⟩ := List.mem_map.mp hr
      exact ⟨(hr_ x hx).1.1, (hr_ x hx).2.1⟩
    have s02 := s1.trans s2
    have q2 : SqL K H2 p xs ∨ SqT K H2 p xs := q0.elim (fun z => .inl (s02.seq z)) fun z => .inr (same_t s02 z)
    dsimp only [tSeq, tAsg, tCall, tCons, tNil, gName]
    refine lc_map (K := K) (a := p) (xs := xs) (j := 0) (fun i => rD ((ps.getD i ((0, 1), (0, 1))).2)) (fun i => by simp [rD, noL, noLs]) (by rfl) q2 xz (fun i x H' R ex sx hR => ?_) fun D3 H3 ys3 s3 nD3 hys3 hdy3 => ?_
    · obtain ⟨r, er, hx⟩ := at_ ((s0.trans s02).trans sx) ex
      obtain ⟨a, b, c, ha, hb⟩ := pla_t hx
      refine ⟨rfl, x, rfl, a, b, 1, _, rfl, c, rfl, hR _ _ (fun _ _ z => z) ?_⟩
      have : ps.getD i ((0, 1), (0, 1)) = r := by rw [List.getD_eq_getElem?_getD, er]; rfl
      rw [this]; exact hb
    refine ⟨D3, ys3, ps.map (·.2), rfl, .inl (.inl hys3), (by rw [← mapD]; exact hdy3), (by rw [List.length_map]; exact l4), ?_, fun H4 z4 s4 h4 => ?_⟩
    · intro r hr
      obtain ⟨x, hx, rfl⟩ := List.mem_map.mp hr
      exact ⟨(hr_ x hx).1.2, (hr_ x hx).2.2⟩
    have nx : Sz 2000 (ps.length : Int) := by
      show ((ps.length : Int)).natAbs < 2 ^ 2000
      rw [Int.natAbs_natCast]
      exact Nat.lt_of_le_of_lt l4 (Nat.lt_of_lt_of_le (by decide : 4 < 2 ^ 3) (Nat.pow_le_pow_right (by decide) (by decide)))
    rw [lx] at hm
    have sum2 : ∀ (k : Pl → Rt), (∀ r ∈ ps, IsRat (k r) ∧ SzR 300 (k r)) → IsRat (sumR (ps.map k)) ∧ SzR 2000 (sumR (ps.map k)) := fun k hk => by
      obtain ⟨a, b⟩ := sum_ok (n := 300) (rs := ps.map k) (fun r hr => by obtain ⟨x, hx, rfl⟩ := List.mem_map.mp hr; exact hk x hx)
      exact ⟨a, szr_mono b (by rw [List.length_map]; omega)⟩
    obtain ⟨i1, z1⟩ := sum2 (·.1) fun r hr => ⟨(hr_ r hr).1.1, (hr_ r hr).2.1⟩
    obtain ⟨i2, z2'⟩ := sum2 (·.2) fun r hr => ⟨(hr_ r hr).1.2, (hr_ r hr).2.2⟩
    have s24 := s3.trans s4
    refine ⟨z2, rfl, .ref m, rfl, _, _, _, _, rfl, Dp_same s24 h2, Dp_same (s02.trans s24) hm, by omega, i1, z1, nx, fun H5 z5 s5 h5 => ?_⟩
    refine ⟨z4, rfl, .ref m, rfl, _, _, _, _, rfl, Dp_same s5 h4, Dp_same ((s02.trans s24).trans s5) hm, by omega, i2, z2', nx, fun H6 z6 s6 h6 => ⟨(by show 2 ≤ sizeLine; decide), fun r nr => q _ _ ?_ (dp_mk2 nr (Dp_same s6 h5) h6)⟩⟩
    exact ((((s0.trans s02).trans s24).trans s5).trans s6).trans (same_new nr)
end
end F3
set_option Elab.async false
set_option linter.all false
set_option maxRecDepth 100000
set_option maxHeartbeats 4000000
namespace F3
open PySem PySem.Spec PyProof.Rows L2 FX RM PB
/-! kinds of data -/
def tyN : PyData → String
  | .none => "NoneType"
  | .bool _ => "bool"
  | .int _ => "int"
  | .str _ => "str"
  | .list _ => "list"
  | .tuple _ => "tuple"
  | .dict _ => "dict"
def isI : PyData → Bool
  | .int _ => true
  | .bool _ => true
  | _ => false
def isBo : PyData → Bool
  | .bool _ => true
  | _ => false
def isTu : PyData → Bool
  | .tuple _ => true
  | _ => false
def isRo : PyData → Bool
  | .tuple _ => true
  | .list _ => true
  | _ => false
theorem kit_int : ∀ d, kitB (tyN d) "int" = some (isI d)
  | .none => by show kitB "NoneType" "int" = some false; decide +kernel
  | .bool _ => by show kitB "bool" "int" = some true; decide +kernel
  | .int _ => by show kitB "int" "int" = some true; decide +kernel
  | .str _ => by show kitB "str" "int" = some false; decide +kernel
  | .list _ => by show kitB "list" "int" = some false; decide +kernel
  | .tuple _ => by show kitB "tuple" "int" = some false; decide +kernel
  | .dict _ => by show kitB "dict" "int" = some false; decide +kernel
theorem kit_bool : ∀ d, kitB (tyN d) "bool" = some (isBo d)
  | .none => by show kitB "NoneType" "bool" = some false; decide +kernel
  | .bool _ => by show kitB "bool" "bool" = some true; decide +kernel
  | .int _ => by show kitB "int" "bool" = some false; decide +kernel
  | .str _ => by show kitB "str" "bool" = some false; decide +kernel
  | .list _ => by show kitB "list" "bool" = some false; decide +kernel
  | .tuple _ => by show kitB "tuple" "bool" = some false; decide +kernel
  | .dict _ => by show kitB "dict" "bool" = some false; decide +kernel
theorem kit_tuple : ∀ d, kitB (tyN d) "tuple" = some (isTu d)
  | .none => by show kitB "NoneType" "tuple" = some false; decide +kernel
  | .bool _ => by show kitB "bool" "tuple" = some false; decide +kernel
  | .int _ => by show kitB "int" "tuple" = some false; decide +kernel
  | .str _ => by show kitB "str" "tuple" = some false; decide +kernel
  | .list _ => by show kitB "list" "tuple" = some false; decide +kernel
  | .tuple _ => by show kitB "tuple" "tuple" = some true; decide +kernel
  | .dict _ => by show kitB "dict" "tuple" = some false; decide +kernel
theorem kit_list : ∀ d, kitB (tyN d) "list" = some (match d with | .list _ => true | _ => false)
  | .none => by show kitB "NoneType" "list" = some false; decide +kernel
  | .bool _ => by show kitB "bool" "list" = some false; decide +kernel
  | .int _ => by show kitB "int" "list" = some false; decide +kernel
  | .str _ => by show kitB "str" "list" = some false; decide +kernel
  | .list _ => by show kitB "list" "list" = some true; decide +kernel
  | .tuple _ => by show kitB "tuple" "list" = some false; decide +kernel
  | .dict _ => by show kitB "dict" "list" = some false; decide +kernel
theorem kit_row {K : PySem.W.Frag} (d : PyData) : PySem.W.kitAny K (.type (tyN d)) [.type "list", .type "tuple"] = some (isRo d) := by
  refine kitAny_cons (kit_ty (kit_list d)) (fun _ => kitAny_cons (b := isTu d) (r := isRo d) (kit_ty (kit_tuple d)) (fun e => ?_) (fun e => ?_)) (fun e => ?_)
  · rw [kitAny_nil]; cases d <;> simp_all [isTu, isRo]
  · cases d <;> simp_all [isTu, isRo]
  · cases d <;> simp_all [isRo]
theorem tyx_t {K : PySem.W.Frag} {H : Hp} {a : Addr} {xs : List V} (h : SqT K H a xs) : TyX K H (.ref a) (.type "tuple") := by
  rcases h with (h | ⟨o, h⟩) | ⟨o, its, n, h, c, _⟩
  · exact .base (.tup h)
  · exact .fTuple h
  · exact .kTuple h c
theorem tyx_l {K : PySem.W.Frag} {H : Hp} {a : Addr} {xs : List V} (h : SqL K H a xs) : TyX K H (.ref a) (.type "list") := by
  rcases h with (h | ⟨o, h⟩) | ⟨o, its, n, h, c, _⟩
  · exact .base (.lst h)
  · exact .base (.frz h)
  · exact .kList h c
theorem dp_tyx {K : PySem.W.Frag} {H : Hp} {v : V} {d : PyData} (h : Dp K H v d) : TyX K H v (.type (tyN d)) := by
  cases h with
  | non => exact .base .non
  | bl b => exact .base (.bl b)
  | int i => exact .base (.int i)
  | str x => exact .base (.str x)
  | lst h _ => exact tyx_l h
  | tup h _ => exact tyx_t h
def isWh : PyData → Option Int → Bool
  | .int _, none => true
  | .int i, some l => decide (l ≤ i)
  | _, _ => false
def isRat : PyData → Bool
  | .tuple [.int t, .int b] => decide ((1 : Int) ≤ b) && decide (g2 t b = 1)
  | _ => false
def isPla : PyData → Bool
  | .tuple [a, b] => isRat a && isRat b
  | .list [a, b] => isRat a && isRat b
  | _ => false
def lowV : Option Int → V
  | none => .non
  | some l => .int l
theorem itF {c : Bool} {A B : Prop} (h : c = false) (b : B) : if c = true then A else B := by rw [h, if_neg Bool.false_ne_true]; exact b
theorem itT {c : Bool} {A B : Prop} (h : c = true) (a : A) : if c = true then A else B := by rw [h, if_pos rfl]; exact a
/-- a def with defaults -/
structure DefDf (P : Program) (w : World) (K : PySem.W.Frag) (mg : Str → Option Value) (base : Heap) (x : Str) (k : Nat) (ps : List Str) (dvs : List V) (sp : Sp) : Prop where
  ex : ∃ (f : Addr) (fd : FuncData) (ds : List Value), mg x = some (.ref f) ∧ PySem.W.keepIn K (.ref f) = true ∧ Vals dvs ds ∧ L2.Binds K fd ps ds ∧ FnOk P w K mg base CX0 k f fd ps sp
theorem len_two' {α : Type} : ∀ {l : List α}, l.length = 2 → ∃ a b, l = [a, b]
  | [a, b], _ => ⟨a, b, rfl⟩
section
variable {X : Cx}
theorem pe_defd {x : Str} {k : Nat} {ps : List Str} {dvs : List V} {sp : Sp} {e : Expr} {es : List Expr} {t : TA} {p pos : Pos} (D : DefDf X.prog X.w X.K X.mg X.base x k ps dvs sp) (hr : Room k X.A) (hg : Gl X x) (ha : PA X (e :: es) t)
    (hdb : (x == ("__debug__" : Str)) = false := by decide) (he : starEach (e :: es) X.env = (false, eval e X.env) :: starEach es X.env := by rfl) (hpl : (backTo pos (starEach es X.env)).any (·.1) = false := by rfl) :
    PE X (.Call (.Name x p) (e :: es) [] pos) (tCall sp dvs E0 t) := by
  obtain ⟨f, fd, ds, g, k, v, b, F⟩ := D.ex
  exact pe_call F hr hg g k b v pass0 ha hdb he hpl
end
def spWhole (K : PySem.W.Frag) : Sp := fun vs H Q _ => ∃ v d low, vs = [v, lowV low, .non] ∧ Dp K H v d ∧ Q (.bl (isWh d low)) H
def spIsR (K : PySem.W.Frag) : Sp := fun vs H Q _ => ∃ v d, vs = [v] ∧ Dp K H v d ∧ Q (.bl (isRat d)) H
def spRow (K : PySem.W.Frag) (o : PyData → Bool) : Sp := fun vs H Q _ => ∃ v d, vs = [v] ∧ Dp K H v d ∧ ∀ H', Same H H' → Q (.bl (o d)) H'
section
variable {P : Program} {w : World} {K : PySem.W.Frag} {mg : Str → Option Value} {base : Heap}
abbrev sis_whole : Stmt := topS 11
theorem scis_whole : FnScope ["thing", "low", "high"] ["thing", "low", "high"] (defScope sis_whole) := ⟨rfl, rfl, rfl, by decide +kernel, rfl, by decide +kernel, by decide +kernel⟩
theorem fnis_whole {f : Addr} {fd : FuncData} (F : FunD K "is_whole" "is_whole" (defArgs sis_whole) (defBody sis_whole) (defScope sis_whole) [.non, .non] [] f fd) (misinstance : mg "isinstance" = none) (mint : mg "int" = none) (mbool : mg "bool" = none) :
    FnOk P w K mg base CX0 1 f fd ["thing", "low", "high"] (spWhole K) := by
  refine F.ok scis_whole (fun vs H Q E h => ?_) (fun cdv A outer s H vs Q E hr h => ?_)
  · obtain ⟨v, d, low, rfl, _⟩ := h; rfl
  · obtain ⟨v, d, low, rfl, hv, q⟩ := h
    refine ⟨_, PSs.nox (pss_cons (ps_if (PW.pt (pw_or (pt_not (pt_val (pe_callB call_isi (by rfl) misinstance boot_isinstance (pa_cons (pv 0) (pa_cons (pe_bltn (v := .ty "int") (by rfl) mint (by decide +kernel) rfl) pa_nil))))) (pw_or1 (pt_val (pe_callB call_isi (by rfl) misinstance boot_isinstance (pa_cons (pv 0) (pa_cons (pe_bltn (v := .ty "bool") (by rfl) mbool (by decide +kernel) rfl) pa_nil))))))) (pss_one (ps_ret pe_bl)) pss_nil) (pss_one (ps_ret (pe_and (pe_or (pe_cmpR op_isN (pv 1) pe_non (nomark _)) (pe_one (pe_cmpR op_ge (pv 0) (pv 1) (nomark _)))) (pe_one (pe_or (pe_cmpR op_isN (pv 2) pe_non (nomark _)) (pe_one (pe_cmpR op_le (pv 0) (pv 2) (nomark _))))))))), ?_⟩
    have no : isI d = false → isWh d low = false := fun e => by cases d <;> simp_all [isI, isWh]
    have nb : isBo d = true → isWh d low = false := fun e => by cases d <;> simp_all [isBo, isWh]
    refine ⟨v, rfl, v, _, _, _, _, rfl, .ty _, dp_tyx hv, kit_ty (kit_int d), _, rfl, ?_⟩
    cases eI : isI d with
    | false => exact itT rfl (itT rfl (by show Q (.bl false) H; rw [no eI] at q; exact q))
    | true =>
      refine itF rfl ⟨v, rfl, v, _, _, _, _, rfl, .ty _, dp_tyx hv, kit_ty (kit_bool d), _, rfl, ?_⟩
      cases eB : isBo d with
      | true => exact itT rfl (by show Q (.bl false) H; rw [nb eB] at q; exact q)
      | false =>
        obtain ⟨i, rfl⟩ : ∃ i, d = .int i := by cases d <;> simp_all [isI, isBo]
        obtain rfl := dp_int hv
        refine itF rfl ?_
        cases low with
        | none => exact ⟨_, rfl, rfl, true, rfl, itT rfl ⟨true, rfl, itT rfl ⟨_, rfl, rfl, true, rfl, itT rfl q⟩⟩⟩
        | some l =>
          refine ⟨_, rfl, rfl, false, rfl, itF rfl ⟨_, rfl, _, rfl, _, _, rfl, rfl, _, rfl, ?_⟩⟩
          by_cases c : l ≤ i
          · rw [decide_eq_true c]
            have q2 : Q (.bl true) H := by have z : isWh (.int i) (some l) = true := decide_eq_true c; rw [z] at q; exact q
            exact itT rfl ⟨_, rfl, rfl, true, rfl, itT rfl q2⟩
          · rw [decide_eq_false c]
            have q2 : Q (.bl false) H := by have z : isWh (.int i) (some l) = false := decide_eq_false c; rw [z] at q; exact q
            exact itF rfl q2
theorem okis_whole1 {f : Addr} {fd : FuncData} (g : mg "is_whole" = some (.ref f)) (F : FunD K "is_whole" "is_whole" (defArgs sis_whole) (defBody sis_whole) (defScope sis_whole) [.non, .non] [] f fd) (misinstance : mg "isinstance" = none) (mint : mg "int" = none) (mbool : mg "bool" = none) :
    DefDf P w K mg base "is_whole" 1 ["thing", "low", "high"] [.non, .non] (spWhole K) := by
  obtain ⟨ds, hd, b⟩ := F.binds1 (ps := ["thing", "low", "high"]) 1 0 (List.cons_ne_nil _ _) rfl fun T kV doc pm an cdv ct us its hu hi => match us, hu, its, hi with | [_], _, [_, _], _ => ⟨_, rfl, rfl⟩
  exact ⟨f, fd, ds, g, F.kp, hd, b, fnis_whole F misinstance mint mbool⟩
theorem okis_whole2 {f : Addr} {fd : FuncData} (g : mg "is_whole" = some (.ref f)) (F : FunD K "is_whole" "is_whole" (defArgs sis_whole) (defBody sis_whole) (defScope sis_whole) [.non, .non] [] f fd) (misinstance : mg "isinstance" = none) (mint : mg "int" = none) (mbool : mg "bool" = none) :
    DefDf P w K mg base "is_whole" 1 ["thing", "low", "high"] [.non] (spWhole K) := by
  obtain ⟨ds, hd, b⟩ := F.binds1 (ps := ["thing", "low", "high"]) 2 1 (List.cons_ne_nil _ _) rfl fun T kV doc pm an cdv ct us its hu hi => match us, hu, its, hi with | [_, _], _, [_, _], _ => ⟨_, rfl, rfl⟩
  exact ⟨f, fd, ds, g, F.kp, hd, b, fnis_whole F misinstance mint mbool⟩
abbrev sis_ratio : Stmt := topS 12
theorem scis_ratio : FnScope ["thing"] ["thing"] (defScope sis_ratio) := ⟨rfl, rfl, rfl, by decide +kernel, rfl, by decide +kernel, by decide +kernel⟩
theorem okis_ratio (T : Txt K mg "is_ratio" sis_ratio) (Gw1 : DefDf P w K mg base "is_whole" 1 ["thing", "low", "high"] [.non, .non] (spWhole K)) (Gw2 : DefDf P w K mg base "is_whole" 1 ["thing", "low", "high"] [.non] (spWhole K)) (misinstance : mg "isinstance" = none) (mtuple : mg "tuple" = none) (mlen : mg "len" = none) (mgcd : mg "gcd" = some (.builtin "math.gcd")) : DefOk P w K mg base CX0 "is_ratio" 2 ["thing"] (spIsR K) := by
  obtain ⟨f, fd, F, gf⟩ := T
  refine ⟨f, fd, gf, F.kp, F.binds (fun _ _ _ _ _ _ us hl => match us, hl with | [_], _ => rfl), F.ok scis_ratio (fun vs H Q E h => ?_) (fun cdv A outer s H vs Q E hr h => ?_)⟩
  · obtain ⟨v, d, rfl, _⟩ := h; rfl
  · obtain ⟨v, d, rfl, hv, q⟩ := h
    refine ⟨_, (pss_cons (ps_if (PW.pt (pw_or (pt_not (pt_val (pe_callB call_isi (by rfl) misinstance boot_isinstance (pa_cons (pv 0) (pa_cons (pe_bltn (v := .ty "tuple") (by rfl) mtuple (by decide +kernel) rfl) pa_nil))))) (pw_or1 (pt_cmpR op_ne (pe_callB call_len_seq (by rfl) mlen PySem.boot_len (pa_cons (pv 0) pa_nil)) pe_int (nomark _))))) (pss_one (ps_ret pe_bl)) pss_nil) (pss_one (ps_ret (pe_and (pe_defd Gw1 (hr.mono (by decide)) (by rfl) (pa_cons (pe_ix ix_it (pv 0) pe_int (fun _ _ => rfl)) pa_nil)) (pe_and (pe_defd Gw2 (hr.mono (by decide)) (by rfl) (pa_cons (pe_ix ix_it (pv 0) pe_int (fun _ _ => rfl)) (pa_cons pe_int pa_nil))) (pe_one (pe_cmpR op_eq (pe_callBfun cr_gcd (by rfl) mgcd (pa_cons (pe_ix ix_it (pv 0) pe_int (fun _ _ => rfl)) (pa_cons (pe_ix ix_it (pv 0) pe_int (fun _ _ => rfl)) pa_nil))) pe_int (nomark _)))))))), ?_⟩
    refine ⟨v, rfl, v, _, _, _, _, rfl, .ty _, dp_tyx hv, kit_ty (kit_tuple d), _, rfl, ?_⟩
    cases eT : isTu d with
    | false =>
      have z : isRat d = false := by cases d <;> simp_all [isTu, isRat]
      rw [z] at q
      exact itT rfl (itT rfl q)
    | true =>
      cases hv with
      | non => cases eT
      | bl _ => cases eT
      | int _ => cases eT
      | str _ => cases eT
      | lst _ _ => cases eT
      | @tup a xs ds hs hd =>
        refine itF rfl ⟨.ref a, rfl, a, xs, rfl, .inr hs, rfl, _, rfl, ?_⟩
        by_cases l2 : xs.length = 2
        · have e0 : (!decide (V.int (xs.length : Int) = V.int 2)) = false := by rw [l2]; rfl
          refine itF e0 ?_
          obtain ⟨x, y, rfl⟩ := len_two' l2
          cases hd with
          | cons hx hd => cases hd with
            | @cons _ _ dy ds2 hy hd => cases hd with
              | nil =>
                rename_i dx
                have c : Cou K H (.ref a) x y := ⟨a, rfl, .inl hs⟩
                refine ⟨.ref a, rfl, x, y, 0, _, rfl, c, rfl, x, dx, none, rfl, hx, _, rfl, ?_⟩
                cases w1 : isWh dx none with
                | false =>
                  have z : isRat (.tuple [dx, dy]) = false := by cases dx <;> simp_all [isWh, isRat]
                  rw [z] at q
                  exact itF rfl q
                | true =>
                  obtain ⟨t, rfl⟩ : ∃ t, dx = .int t := by cases dx <;> simp_all [isWh]
                  refine itT rfl ⟨.ref a, rfl, x, y, 1, _, rfl, c, rfl, y, dy, some 1, rfl, hy, _, rfl, ?_⟩
                  cases w2 : isWh dy (some 1) with
                  | false =>
                    have z : isRat (.tuple [.int t, dy]) = false := by cases dy <;> simp_all [isWh, isRat] <;> (intro h; omega)
                    rw [z] at q
                    exact itF rfl q
                  | true =>
                    obtain ⟨b, rfl⟩ : ∃ b, dy = .int b := by cases dy <;> simp_all [isWh]
                    obtain rfl := dp_int hx
                    obtain rfl := dp_int hy
                    have b1 : (1 : Int) ≤ b := of_decide_eq_true w2
                    refine itT rfl ⟨.ref a, rfl, _, _, 0, _, rfl, c, rfl, .ref a, rfl, _, _, 1, _, rfl, c, rfl, t, b, rfl, rfl, ?_⟩
                    have z : isRat (.tuple [.int t, .int b]) = decide (V.int (g2 t b) = V.int 1) := by
                      show (decide ((1 : Int) ≤ b) && decide (g2 t b = 1)) = _
                      rw [decide_eq_true b1, Bool.true_and]
                      by_cases k : g2 t b = 1
                      · rw [decide_eq_true k, k]; rfl
                      · rw [decide_eq_false k, decide_eq_false (fun z => k (V.int.inj z))]
                    rw [z] at q
                    exact q
        · have e0 : (!decide (V.int (xs.length : Int) = V.int 2)) = true := by
            rw [decide_eq_false (fun z => l2 (by have := V.int.inj z; omega))]; rfl
          have z : isRat (.tuple ds) = false := by
            have dl := DpAll_len hd
            match ds, dl with
            | [], _ => rfl
            | [_], _ => simp [isRat]
            | [_, _], dl => exact absurd dl l2
            | _ :: _ :: _ :: _, _ => simp [isRat]
          rw [z] at q
          exact itT e0 q
abbrev sis_row : Stmt := topS 10
theorem scis_row : FnScope ["thing"] ["thing"] (defScope sis_row) := ⟨rfl, rfl, rfl, by decide +kernel, rfl, by decide +kernel, by decide +kernel⟩
theorem okis_row (T : Txt K mg "is_row" sis_row) (misinstance : mg "isinstance" = none) (mtuple : mg "tuple" = none) (mlist : mg "list" = none) : DefOk P w K mg base CX0 "is_row" 1 ["thing"] (spRow K isRo) := by
  obtain ⟨f, fd, F, gf⟩ := T
  refine ⟨f, fd, gf, F.kp, F.binds (fun _ _ _ _ _ _ us hl => match us, hl with | [_], _ => rfl), F.ok scis_row (fun vs H Q E h => ?_) (fun cdv A outer s H vs Q E hr h => ?_)⟩
  · obtain ⟨v, d, rfl, _⟩ := h; rfl
  · obtain ⟨v, d, rfl, hv, q⟩ := h
    refine ⟨_, (pss_one (ps_ret (pe_callB call_isiT (by rfl) misinstance boot_isinstance (pa_cons (pv 0) (pa_cons (pe_tup (pa_cons (pe_bltn (v := .ty "list") (by rfl) mlist (by decide +kernel) rfl) (pa_cons (pe_bltn (v := .ty "tuple") (by rfl) mtuple (by decide +kernel) rfl) pa_nil))) pa_nil))))), ?_⟩
    refine ⟨v, rfl, (by show 2 ≤ sizeLine; decide), fun p np => ?_⟩
    exact ⟨v, p, _, _, _, _, rfl, upd_same, .cons (.ty _) (.cons (.ty _) .nil), dp_tyx (Dp_same (PB.same_new np) hv), kit_row d, q _ (PB.same_new np)⟩
abbrev sis_place : Stmt := topS 21
theorem scis_place : FnScope ["thing"] ["thing"] (defScope sis_place) := ⟨rfl, rfl, rfl, by decide +kernel, rfl, by decide +kernel, by decide +kernel⟩
theorem okis_place (T : Txt K mg "is_place" sis_place) (Gis_row : DefOk P w K mg base CX0 "is_row" 1 ["thing"] (spRow K isRo)) (Gis_ratio : DefOk P w K mg base CX0 "is_ratio" 2 ["thing"] (spIsR K)) (mlen : mg "len" = none) : DefOk P w K mg base CX0 "is_place" 3 ["thing"] (spRow K isPla) := by
  obtain ⟨f, fd, F, gf⟩ := T
  refine ⟨f, fd, gf, F.kp, F.binds (fun _ _ _ _ _ _ us hl => match us, hl with | [_], _ => rfl), F.ok scis_place (fun vs H Q E h => ?_) (fun cdv A outer s H vs Q E hr h => ?_)⟩
  · obtain ⟨v, d, rfl, _⟩ := h; rfl
  · obtain ⟨v, d, rfl, hv, q⟩ := h
    refine ⟨_, (pss_one (ps_ret (pe_and (pe_def Gis_row (hr.mono (by decide)) (by rfl) (pa_cons (pv 0) pa_nil)) (pe_and (pe_cmpR op_eq (pe_callB call_len_seq (by rfl) mlen PySem.boot_len (pa_cons (pv 0) pa_nil)) pe_int (nomark _)) (pe_and (pe_def Gis_ratio (hr.mono (by decide)) (by rfl) (pa_cons (pe_ix ix_it (pv 0) pe_int (fun _ _ => rfl)) pa_nil)) (pe_one (pe_def Gis_ratio (hr.mono (by decide)) (by rfl) (pa_cons (pe_ix ix_it (pv 0) pe_int (fun _ _ => rfl)) pa_nil)))))))), ?_⟩
    refine ⟨v, rfl, v, d, rfl, hv, fun H1 s1 => ⟨_, rfl, ?_⟩⟩
    have hv1 := Dp_same s1 hv
    cases eR : isRo d with
    | false =>
      have z : isPla d = false := by cases d <;> simp_all [isRo, isPla]
      have q2 := q H1 s1
      rw [z] at q2
      exact itF rfl q2
    | true =>
      have seq : ∃ a xs ds, v = .ref a ∧ (SqL K H1 a xs ∨ SqT K H1 a xs) ∧ DpAll K H1 xs ds ∧ (d = .list ds ∨ d = .tuple ds) := by
        cases hv1 with
        | non => cases eR
        | bl _ => cases eR
        | int _ => cases eR
        | str _ => cases eR
        | @lst a xs ds hs hd => exact ⟨a, xs, ds, rfl, .inl hs, hd, .inl rfl⟩
        | @tup a xs ds hs hd => exact ⟨a, xs, ds, rfl, .inr hs, hd, .inr rfl⟩
      obtain ⟨a, xs, ds, rfl, hs, hd, ed⟩ := seq
      refine itT rfl ⟨.ref a, rfl, a, xs, rfl, hs, rfl, _, rfl, ?_⟩
      by_cases l2 : xs.length = 2
      · refine itT (by rw [l2]; rfl) ?_
        obtain ⟨x, y, rfl⟩ := len_two' l2
        obtain ⟨dx, dy, rfl⟩ := len_two' (by rw [← DpAll_len hd]; exact l2)
        obtain ⟨x_, y_, e, hx, hy⟩ := dpa2 hd
        cases e
        have c : Cou K H1 (.ref a) x y := ⟨a, rfl, hs.symm⟩
        have z : isPla d = (isRat dx && isRat dy) := by rcases ed with rfl | rfl <;> rfl
        have q2 := q H1 s1
        rw [z] at q2
        refine ⟨.ref a, rfl, x, y, 0, _, rfl, c, rfl, x, dx, rfl, hx, _, rfl, ?_⟩
        cases e1 : isRat dx with
        | false => rw [e1] at q2; exact itF rfl q2
        | true =>
          rw [e1] at q2
          exact itT rfl ⟨.ref a, rfl, x, y, 1, _, rfl, c, rfl, y, dy, rfl, hy, q2⟩
      · refine itF (decide_eq_false (fun z => l2 (by have := V.int.inj z; omega))) ?_
        have z : isPla d = false := by
          have dl := DpAll_len hd
          have k : ds.length ≠ 2 := by rw [← dl]; exact l2
          match ds, k with
          | [], _ => rcases ed with rfl | rfl <;> rfl
          | [_], _ => rcases ed with rfl | rfl <;> simp [isPla]
          | [_, _], k => exact absurd rfl k
          | _ :: _ :: _ :: _, _ => rcases ed with rfl | rfl <;> simp [isPla]
        have q2 := q H1 s1
        rw [z] at q2
        exact q2
end
end F3
set_option Elab.async false
set_option linter.all false
set_option maxRecDepth 100000
set_option maxHeartbeats 4000000
set_option exponentiation.threshold 3000
namespace F3
open PySem PySem.Spec PyProof.Rows L2 FX RM PB
section
variable {X : Cx}
theorem pe_defX {x : Str} {k : Nat} {ps : List Str} {sp : Sp} {E : XK} {e : Expr} {es : List Expr} {t : TA} {p pos : Pos} (D : DefOk X.prog X.w X.K X.mg X.base (L2.CX X.prog X.w) x k ps sp) (hr : Room k X.A) (hg : Gl X x) (ha : PA X (e :: es) t) (tk : Takes X (fun cls d _ H => E cls d H))
    (hdb : (x == ("__debug__" : Str)) = false := by decide) (he : starEach (e :: es) X.env = (false, eval e X.env) :: starEach es X.env := by rfl) (hpl : (backTo pos (starEach es X.env)).any (·.1) = false := by rfl) :
    PE X (.Call (.Name x p) (e :: es) [] pos) (tCall sp [] E t) := by
  obtain ⟨f, fd, g, k, b, F⟩ := D.ex
  exact pe_call F hr hg g k b .nil (passes_call tk fun _ _ _ _ h => h) ha hdb he hpl
theorem pe_defS {x : Str} {k : Nat} {ps : List Str} {sp : Sp} {W : WX} {e : Expr} {es : List Expr} {t : TA} {p pos : Pos} (D : DefOk X.prog X.w X.K X.mg X.base (L2.CX X.prog X.w) x k ps sp) (hr : Room k X.A) (hg : Gl X x) (ha : PA X (e :: es) t) (tk : Takes X W)
    (hdb : (x == ("__debug__" : Str)) = false := by decide) (he : starEach (e :: es) X.env = (false, eval e X.env) :: starEach es X.env := by rfl) (hpl : (backTo pos (starEach es X.env)).any (·.1) = false := by rfl) :
    PE X (.Call (.Name x p) (e :: es) [] pos) (tCallS sp (WE W) t) := by
  obtain ⟨f, fd, g, k, b, F⟩ := D.ex
  exact pe_callS F hr hg g k b (fun σ => passAt tk σ) ha hdb he hpl
end
def isSz : PyData → Bool
  | .tuple [.int t, .int b] => isRat (.tuple [.int t, .int b]) && decide (0 < t)
  | _ => false
def spCkP (K : PySem.W.Frag) : Sp := fun vs H Q E => ∃ v d, vs = [v] ∧ Dp K H v d ∧ (∀ a b, (d = .tuple [a, b] ∨ d = .list [a, b]) → isPla d = true → ∀ H' z, Same H H' → Dp K H' z (.tuple [a, b]) → Q z H') ∧ (isPla d = false → ∀ H', Same H H' → E (.ref (He.ga K "BadPlace")) none H')
def spCkA (K : PySem.W.Frag) (o : PyData → Bool) (x : Str) : Sp := fun vs H Q E => ∃ v d, vs = [v] ∧ Dp K H v d ∧ (o d = true → Q v H) ∧ (o d = false → E (.ref (He.ga K x)) none H)
def spWdX (K : PySem.W.Frag) : Sp := fun vs H Q E => ∃ x y : Int, vs = [.int x, .int y] ∧ Sz 8000 x ∧ Sz 8000 y ∧ ((x ≠ 0 ∨ y ≠ 0) → ∀ H' z, Same H H' → Dp K H' z (rD (norm x y)) → Q z H') ∧ ((x = 0 ∧ y = 0) → E (.ref (He.ga K "BadDirection")) none H)
def spDirX (K : PySem.W.Frag) : Sp := fun vs H Q E => ∃ v p, vs = [v] ∧ Pla K H v p ∧ RatP p ∧ SzP 2000 p ∧ ((p.1.1 ≠ 0 ∨ p.2.1 ≠ 0) → ∀ H' z, Same H H' → Dp K H' z (rD (dirOf p)) → Q z H') ∧ ((p.1.1 = 0 ∧ p.2.1 = 0) → E (.ref (He.ga K "BadDirection")) none H)
def spNorX (K : PySem.W.Frag) : Sp := fun vs H Q E => ∃ v u p s, vs = [v, u] ∧ Pla K H v p ∧ Pla K H u s ∧ RatP p ∧ RatP s ∧ SzP 600 p ∧ SzP 600 s ∧ (((stepF p s).1.1 ≠ 0 ∨ (stepF p s).2.1 ≠ 0) → ∀ H' z, Same H H' → Dp K H' z (rD (dirOf ((stepF p s).2, rneg (stepF p s).1))) → Q z H') ∧
  (((stepF p s).1.1 = 0 ∧ (stepF p s).2.1 = 0) → ∀ H', Same H H' → E (.ref (He.ga K "BadDirection")) none H')
section
variable {P : Program} {w : World} {K : PySem.W.Frag} {mg : Str → Option Value} {base : Heap}
abbrev scheck_place : Stmt := topS 22
theorem sccheck_place : FnScope ["place"] ["place"] (defScope scheck_place) := ⟨rfl, rfl, rfl, by decide +kernel, rfl, by decide +kernel, by decide +kernel⟩
theorem okXcheck_place (T : Txt K mg "check_place" scheck_place) (Gis_place : DefOk P w K mg base CX0 "is_place" 3 ["thing"] (spRow K isPla)) (cBadPlace : ClsOk K "BadPlace" []) (gBadPlace : mg "BadPlace" = some (.ref (He.ga K "BadPlace"))) : DefOk P w K mg base (L2.CX P w) "check_place" 4 ["place"] (spCkP K) := by
  obtain ⟨f, fd, F, gf⟩ := T
  refine ⟨f, fd, gf, F.kp, F.binds (fun _ _ _ _ _ _ us hl => match us, hl with | [_], _ => rfl), F.okX sccheck_place (fun vs H Q E h => ?_) (fun cdv A outer s H vs Q E hr h => ?_)⟩
  · obtain ⟨v, d, rfl, _⟩ := h; rfl
  · obtain ⟨v, d, rfl, hv, q, qE⟩ := h
    refine ⟨_, (pss_cons (ps_if (pt_not (pt_val (pe_def Gis_place (hr.mono (by decide)) (by rfl) (pa_cons (pv 0) pa_nil)))) (pss_one (ps_raise rfl (takes_of rfl rfl rfl rfl) (pmk_ex0 H rfl rfl cBadPlace.o (cBadPlace.xin rfl) (by rfl) gBadPlace))) pss_nil) (pss_one (ps_ret (pe_tup (pa_cons (pe_ix ix_it (pv 0) pe_int (fun _ _ => rfl)) (pa_cons (pe_ix ix_it (pv 0) pe_int (fun _ _ => rfl)) pa_nil)))))), ?_⟩
    refine ⟨v, rfl, v, d, rfl, hv, fun H1 s1 => ⟨_, rfl, ?_⟩⟩
    cases eP : isPla d with
    | false => exact itT rfl ⟨fun a na => s1.free na, qE eP H1 s1⟩
    | true =>
      have hv1 := Dp_same s1 hv
      have two : ∃ a b x y, (d = .tuple [a, b] ∨ d = .list [a, b]) ∧ Cou K H1 v x y ∧ Dp K H1 x a ∧ Dp K H1 y b := by
        match d, hv1, eP with
        | .tuple [a, b], hv1, _ =>
          obtain ⟨p, x, y, rfl, hs, hx, hy⟩ := dp_t2 hv1
          exact ⟨a, b, x, y, .inl rfl, ⟨p, rfl, .inl hs⟩, hx, hy⟩
        | .list [a, b], hv1, _ =>
          obtain ⟨p, x, y, rfl, hs, hx, hy⟩ := dp_l2 hv1
          exact ⟨a, b, x, y, .inr rfl, ⟨p, rfl, .inr hs⟩, hx, hy⟩
      obtain ⟨a, b, x, y, ed, c, hx, hy⟩ := two
      refine itF rfl ⟨v, rfl, x, y, 0, _, rfl, c, rfl, v, rfl, x, y, 1, _, rfl, c, rfl, (by show 2 ≤ sizeLine; decide), fun p np => ?_⟩
      exact q a b ed eP _ _ (s1.trans (PB.same_new np)) (dp_mk2 np hx hy)
abbrev scheck_amount : Stmt := topS 23
theorem sccheck_amount : FnScope ["amount"] ["amount"] (defScope scheck_amount) := ⟨rfl, rfl, rfl, by decide +kernel, rfl, by decide +kernel, by decide +kernel⟩
theorem okXcheck_amount (T : Txt K mg "check_amount" scheck_amount) (Gis_ratio : DefOk P w K mg base CX0 "is_ratio" 2 ["thing"] (spIsR K)) (cBadAmount : ClsOk K "BadAmount" []) (gBadAmount : mg "BadAmount" = some (.ref (He.ga K "BadAmount"))) : DefOk P w K mg base (L2.CX P w) "check_amount" 3 ["amount"] (spCkA K isRat "BadAmount") := by
  obtain ⟨f, fd, F, gf⟩ := T
  refine ⟨f, fd, gf, F.kp, F.binds (fun _ _ _ _ _ _ us hl => match us, hl with | [_], _ => rfl), F.okX sccheck_amount (fun vs H Q E h => ?_) (fun cdv A outer s H vs Q E hr h => ?_)⟩
  · obtain ⟨v, d, rfl, _⟩ := h; rfl
  · obtain ⟨v, d, rfl, hv, q, qE⟩ := h
    refine ⟨_, (pss_cons (ps_if (pt_not (pt_val (pe_def Gis_ratio (hr.mono (by decide)) (by rfl) (pa_cons (pv 0) pa_nil)))) (pss_one (ps_raise rfl (takes_of rfl rfl rfl rfl) (pmk_ex0 H rfl rfl cBadAmount.o (cBadAmount.xin rfl) (by rfl) gBadAmount))) pss_nil) (pss_one (ps_ret (pv 0)))), ?_⟩
    refine ⟨v, rfl, v, d, rfl, hv, _, rfl, ?_⟩
    cases eP : isRat d with
    | false => exact itT rfl ⟨fun a na => na, qE eP⟩
    | true => exact itF rfl ⟨v, rfl, q eP⟩
abbrev scheck_size : Stmt := topS 24
theorem sccheck_size : FnScope ["size"] ["size"] (defScope scheck_size) := ⟨rfl, rfl, rfl, by decide +kernel, rfl, by decide +kernel, by decide +kernel⟩
theorem okXcheck_size (T : Txt K mg "check_size" scheck_size) (Gis_ratio : DefOk P w K mg base CX0 "is_ratio" 2 ["thing"] (spIsR K)) (cBadSize : ClsOk K "BadSize" []) (gBadSize : mg "BadSize" = some (.ref (He.ga K "BadSize"))) : DefOk P w K mg base (L2.CX P w) "check_size" 3 ["size"] (spCkA K isSz "BadSize") := by
  obtain ⟨f, fd, F, gf⟩ := T
  refine ⟨f, fd, gf, F.kp, F.binds (fun _ _ _ _ _ _ us hl => match us, hl with | [_], _ => rfl), F.okX sccheck_size (fun vs H Q E h => ?_) (fun cdv A outer s H vs Q E hr h => ?_)⟩
  · obtain ⟨v, d, rfl, _⟩ := h; rfl
  · obtain ⟨v, d, rfl, hv, q, qE⟩ := h
    refine ⟨_, (pss_cons (ps_if (PW.pt (pw_or (pt_not (pt_val (pe_def Gis_ratio (hr.mono (by decide)) (by rfl) (pa_cons (pv 0) pa_nil)))) (pw_or1 (pt_cmpR op_le (pe_ix ix_it (pv 0) pe_int (fun _ _ => rfl)) pe_int (nomark _))))) (pss_one (ps_raise rfl (takes_of rfl rfl rfl rfl) (pmk_ex0 H rfl rfl cBadSize.o (cBadSize.xin rfl) (by rfl) gBadSize))) pss_nil) (pss_one (ps_ret (pv 0)))), ?_⟩
    refine ⟨v, rfl, v, d, rfl, hv, _, rfl, ?_⟩
    cases eP : isRat d with
    | false =>
      have z : isSz d = false := by
        unfold isSz
        split
        · rw [eP]; rfl
        · rfl
      exact itT rfl (itT rfl ⟨fun a na => na, qE z⟩)
    | true =>
      obtain ⟨t, b, rfl⟩ : ∃ t b, d = .tuple [.int t, .int b] := by
        unfold isRat at eP
        split at eP
        · exact ⟨_, _, rfl⟩
        · cases eP
      have c := cou_r (r := (t, b)) hv
      have z : isSz (.tuple [.int t, .int b]) = decide (0 < t) := by show (isRat (.tuple [.int t, .int b]) && decide (0 < t)) = _; rw [eP]; rfl
      refine itF rfl ⟨v, rfl, _, _, 0, _, rfl, c, rfl, _, _, rfl, rfl, _, rfl, ?_⟩
      by_cases k : t ≤ 0
      · exact itT (decide_eq_true k) ⟨fun a na => na, qE (by rw [z]; exact decide_eq_false (by omega))⟩
      · exact itF (decide_eq_false k) ⟨v, rfl, q (by rw [z]; exact decide_eq_true (by omega))⟩
theorem okXwhole_direction (T : Txt K mg "whole_direction" swhole_direction) (mgcd : mg "gcd" = some (.builtin "math.gcd")) (cBadDirection : ClsOk K "BadDirection" []) (gBadDirection : mg "BadDirection" = some (.ref (He.ga K "BadDirection"))) : DefOk P w K mg base (L2.CX P w) "whole_direction" 1 ["x", "y"] (spWdX K) := by
  obtain ⟨f, fd, F, gf⟩ := T
  refine ⟨f, fd, gf, F.kp, F.binds (fun _ _ _ _ _ _ us hl => match us, hl with | [_, _], _ => rfl), F.okX scwhole_direction (fun vs H Q E h => ?_) (fun cdv A outer s H vs Q E hr h => ?_)⟩
  · obtain ⟨x, y, rfl, _⟩ := h; rfl
  · obtain ⟨x, y, rfl, zx, zy, q, qE⟩ := h
    refine ⟨_, (pss_cons (ps_set (i := 2) scwhole_direction.nd rfl (.inl rfl) (pe_callBfun cr_gcd (by rfl) mgcd (pa_cons (pv 0) (pa_cons (pv 1) pa_nil)))) (pss_cons (ps_if (pt_cmpR op_eq (pv 2) pe_int (nomark _)) (pss_one (ps_raise rfl (takes_of rfl rfl rfl rfl) (pmk_ex0 H rfl rfl cBadDirection.o (cBadDirection.xin rfl) (by rfl) gBadDirection))) pss_nil) (pss_one (ps_ret (pe_tup (pa_cons (pe_op op_fdivW (pv 0) (pv 2)) (pa_cons (pe_op op_fdivW (pv 1) (pv 2)) pa_nil))))))), ?_⟩
    refine ⟨_, rfl, _, rfl, x, y, rfl, ?_⟩
    show tSeq _ _ _ [some (.int x), some (.int y), some (.int (g2 x y))] H
    by_cases nz : x ≠ 0 ∨ y ≠ 0
    · have gp := g2_posO nz
      have gz := sz_gg nz zx zy
      refine ⟨_, rfl, rfl, _, rfl, ?_⟩
      refine itF (decide_eq_false (fun z => by have := V.int.inj z; omega)) ⟨_, rfl, _, rfl, _, _, rfl, rfl, wide_div gp gz (by decide) (by decide), _, rfl, _, rfl, _, _, rfl, rfl, wide_div gp gz (by decide) (by decide), (by show 2 ≤ sizeLine; decide), fun p np => q nz _ _ (PB.same_new np) (dp_mkr np)⟩
    · have hx : x = 0 := by omega
      have hy : y = 0 := by omega
      refine ⟨_, rfl, rfl, _, rfl, itT (decide_eq_true ?_) ⟨fun a na => na, qE ⟨hx, hy⟩⟩⟩
      rw [hx, hy]; rfl
theorem okXside_normal (T : Txt K mg "side_normal" sside_normal) (Graw_step : DefOk P w K mg base CX0 "raw_step" 2 ["one", "other"] (spRawS K)) (Xwhole_direction : DefOk P w K mg base (L2.CX P w) "whole_direction" 1 ["x", "y"] (spWdX K)) : DefOk P w K mg base (L2.CX P w) "side_normal" 5 ["one", "other"] (spNorX K) := by
  obtain ⟨f, fd, F, gf⟩ := T
  refine ⟨f, fd, gf, F.kp, F.binds (fun _ _ _ _ _ _ us hl => match us, hl with | [_, _], _ => rfl), F.okX scside_normal (fun vs H Q E h => ?_) (fun cdv A outer s H vs Q E hr h => ?_)⟩
  · obtain ⟨v, u, p, s_, rfl, _⟩ := h; rfl
  · obtain ⟨v, u, p, s_, rfl, hv, hu, rp, rs, zp, zs, q, qE⟩ := h
    refine ⟨_, (pss_cons (ps_asg (pe_def Graw_step (hr.mono (by decide)) (by rfl) (pa_cons (pv 0) (pa_cons (pv 1) pa_nil))) (pg_cou rfl (pgs_cons (pg_name (i := 2) scside_normal.nd rfl (.inl rfl)) (pgs_cons (pg_name (i := 3) scside_normal.nd rfl (.inl rfl)) pgs_nil)))) (pss_one (ps_ret (pe_defX (E := E) Xwhole_direction (hr.mono (by decide)) (by rfl) (pa_cons (pv 3) (pa_cons (pe_un un_neg (pv 2)) pa_nil)) (takes_of rfl rfl rfl rfl))))), ?_⟩
    obtain ⟨zx, zy⟩ := rstep_sz zp zs
    refine ⟨v, rfl, u, rfl, v, u, p, s_, rfl, hv, hu, rp, rs, zp, zs, fun H1 z1 s1 h1 => ?_⟩
    refine ⟨_, _, cou_r h1, _, _, rfl, _, _, rfl, rfl, ?_⟩
    refine ⟨_, rfl, _, rfl, _, rfl, _, _, rfl, sz_mono zy (by decide), sz_mono (sz_neg zx) (by decide), fun nz H2 z s2 hz => q ?_ H2 z (s1.trans s2) ?_, fun nz => qE ⟨?_, ?_⟩ _ s1⟩
    · rcases nz with nz | nz
      · exact .inr (fun z => nz (((rstep_zero rp rs).2).mpr z))
      · exact .inl (fun z => nz (by have := ((rstep_zero rp rs).1).mpr z; omega))
    · rw [← rstep_dir rp rs]; exact hz
    · exact ((rstep_zero rp rs).1).mp (by have := nz.2; omega)
    · exact ((rstep_zero rp rs).2).mp nz.1
end
end F3
set_option Elab.async false
set_option linter.all false
set_option maxRecDepth 100000
set_option maxHeartbeats 4000000
set_option exponentiation.threshold 3000
namespace F3
open PySem PySem.Spec PyProof.Rows L2 FX RM PB
def spGcd : Sp := fun vs H Q _ => ∃ x y : Int, vs = [.int x, .int y] ∧ Q (.int (g2 x y)) H
def amtL (d : Int × Int) (p : Pl) : Rt := radd (rmul (d.1, 1) p.1) (rmul (d.2, 1) p.2)
def crossL (a b c : Pl) : Rt := rsub (rmul (rsub b.1 a.1) (rsub c.2 a.2)) (rmul (rsub b.2 a.2) (rsub c.1 a.1))
def spAmtL (K : PySem.W.Frag) : Sp := fun vs H Q _ => ∃ v u d p, vs = [v, u] ∧ Dp K H v (rD d) ∧ Dp K H u (pD p) ∧ RatP p ∧ SzR 600 d ∧ SzP 600 p ∧ ∀ H' z, Same H H' → Dp K H' z (rD (amtL d p)) → Q z H'
def spCroL (K : PySem.W.Frag) : Sp := fun vs H Q _ => ∃ v u t a b c, vs = [v, u, t] ∧ Dp K H v (pD a) ∧ Dp K H u (pD b) ∧ Dp K H t (pD c) ∧ RatP a ∧ RatP b ∧ RatP c ∧ SzP 300 a ∧ SzP 300 b ∧ SzP 300 c ∧ ∀ H' z, Same H H' → Dp K H' z (rD (crossL a b c)) → Q z H'
def spPT (K : PySem.W.Frag) (o : Pl → Pl → Pl) : Sp := fun vs H Q _ => ∃ v u p s, vs = [v, u] ∧ Dp K H v (pD p) ∧ Dp K H u (pD s) ∧ RatP p ∧ RatP s ∧ SzP 2000 p ∧ SzP 2000 s ∧ ∀ H' z, Same H H' → Dp K H' z (pD (o p s)) → Q z H'
def spPlain (K : PySem.W.Frag) : Sp := fun vs H Q _ => ∃ v u r, vs = [v, u] ∧ Dp K H v (rD r) ∧ Dp K H u (rD r) ∧ Q (.bl true) H
theorem rat_int (n : Int) : IsRat (n, 1) := ⟨by show (0 : Int) < 1; decide, by show Nat.gcd n.natAbs 1 = 1; exact Nat.gcd_one_right _⟩
theorem szr_int {n : Nat} {x : Int} (h : Sz n x) (k : 1 ≤ n) : SzR n (x, 1) := ⟨h, sz_mono (by show (1 : Int).natAbs < 2 ^ 1; decide) k⟩
theorem shaped_r (r : Rt) : SeqAt.shaped (rD r) = true ∧ PyData.canLay0 (rD r) = true := by
  have c : PyData.canLay0 (rD r) = true := by simp [rD, PyData.canLay0, PyData.canLayAll0]
  exact ⟨by unfold SeqAt.shaped; rw [c]; simp [rD, PyData.depth, PyData.depthAll], c⟩
theorem shaped_p (p : Pl) : SeqAt.shaped (pD p) = true ∧ PyData.canLay0 (pD p) = true := by
  have c : PyData.canLay0 (pD p) = true := by simp [pD, rD, PyData.canLay0, PyData.canLayAll0]
  exact ⟨by unfold SeqAt.shaped; rw [c]; simp [pD, rD, PyData.depth, PyData.depthAll], c⟩
/-- == and != of equal data -/
theorem eq_same {K : PySem.W.Frag} {H : Hp} {v u : V} {d : PyData} {Q : VK} (s : SeqAt.shaped d = true ∧ PyData.canLay0 d = true) (h1 : Dp K H v d) (h2 : Dp K H u d) (q : Q (.bl true) H) : rEqD K v u H Q :=
  ⟨d, d, h1, h2, s.1, s.1, by rw [SeqAt.eqv_refl _ s.2]; exact q⟩
theorem ne_same {K : PySem.W.Frag} {H : Hp} {v u : V} {d : PyData} {Q : VK} (s : SeqAt.shaped d = true ∧ PyData.canLay0 d = true) (h1 : Dp K H v d) (h2 : Dp K H u d) (q : Q (.bl false) H) : rNeD K v u H Q :=
  ⟨d, d, h1, h2, s.1, s.1, by rw [SeqAt.eqv_refl _ s.2]; exact q⟩
section
variable {P : Program} {w : World} {K : PySem.W.Frag} {mg : Str → Option Value} {base : Heap}
abbrev s_law_gcd : Stmt := topS 44
theorem sc_law_gcd : FnScope ["_law_one", "_law_other"] ["_law_one", "_law_other"] (defScope s_law_gcd) := ⟨rfl, rfl, rfl, by decide +kernel, rfl, by decide +kernel, by decide +kernel⟩
theorem ok_law_gcd (T : Txt K mg "_law_gcd" s_law_gcd) (mint : mg "int" = none) (mabs : mg "abs" = none) : DefOk P w K mg base CX0 "_law_gcd" 1 ["_law_one", "_law_other"] spGcd := by
  obtain ⟨f, fd, F, gf⟩ := T
  refine ⟨f, fd, gf, F.kp, F.binds (fun _ _ _ _ _ _ us hl => match us, hl with | [_, _], _ => rfl), F.ok sc_law_gcd (fun vs H Q E h => ?_) (fun cdv A outer s H vs Q E hr h => ?_)⟩
  · obtain ⟨x, y, rfl, _⟩ := h; rfl
  · obtain ⟨x, y, rfl, q⟩ := h
    refine ⟨_, (pss_cons (ps_par (i := 0) (j := 1) rfl sc_law_gcd.nd rfl rfl (by decide) rfl rfl (pa_cons (pe_callB call_abs (by rfl) mabs (by decide +kernel) (pa_cons (pv 0) pa_nil)) (pa_cons (pe_callB call_abs (by rfl) mabs (by decide +kernel) (pa_cons (pv 1) pa_nil)) pa_nil)) rfl) (pss_cons (ps_while PassesOwn.never (pt_truth (pv 1) (fun _ => rfl)) (pss_one (ps_par (i := 0) (j := 1) rfl sc_law_gcd.nd rfl rfl (by decide) rfl rfl (pa_cons (pv 1) (pa_cons (pe_op op_mod (pe_callTy call_int1 (by rfl) mint boot_int (pa_cons (pv 0) pa_nil)) (pv 1)) pa_nil)) rfl))) (pss_one (ps_ret (pv 0))))), ?_⟩
    have ab : ∀ i : Int, (if i < 0 then -i else i) = (i.natAbs : Int) := fun i => by split <;> omega
    refine ⟨_, rfl, x, rfl, _, rfl, y, rfl, _, _, rfl, ?_⟩
    rw [ab, ab]
    dsimp only [tSeq]
    refine while_by (fun σ H' => ∃ a b : Nat, σ = [some (.int (a : Int)), some (.int (b : Int))] ∧ Nat.gcd a b = Nat.gcd x.natAbs y.natAbs ∧ H' = H)
      (fun σ H' => match σ with | [_, some (.int b)] => b.toNat | _ => 0) ⟨_, _, rfl, rfl, rfl⟩ ?_ (fun σ H Q Q' hq hc => by
      obtain ⟨v, e, k, t, q⟩ := hc
      exact ⟨v, e, k, t, hq _ _ q⟩)
    rintro σ H' ⟨a, b, rfl, e, rfl⟩
    refine ⟨_, rfl, ((b : Int) != 0), rfl, ?_⟩
    by_cases b0 : b = 0
    · subst b0
      refine itF rfl ?_
      refine ⟨_, rfl, ?_⟩
      rw [Nat.gcd_zero_right] at e
      rw [e]; exact q
    · refine itT (by simp [b0]) ?_
      refine ⟨_, rfl, _, rfl, .inl ⟨_, rfl, _, rfl, _, _, rfl, rfl, (by show (0 : Int) < _; omega), _, _, rfl, ⟨b, a % b, rfl, ?_, rfl⟩, ?_⟩⟩
      · rw [← e, Nat.gcd_comm a b, Nat.gcd_rec b a, Nat.gcd_comm]
      · show ((a : Int) % (b : Int)).toNat < ((b : Int)).toNat
        have := Int.emod_lt_of_pos (a : Int) (by omega : (0 : Int) < (b : Int))
        omega
abbrev s_law_ratio : Stmt := topS 45
theorem sc_law_ratio : FnScope ["_law_top", "_law_bottom", "_law_part"] ["_law_top", "_law_bottom"] (defScope s_law_ratio) := ⟨rfl, rfl, rfl, by decide +kernel, rfl, by decide +kernel, by decide +kernel⟩
theorem ok_law_ratio (T : Txt K mg "_law_ratio" s_law_ratio) (G_law_gcd : DefOk P w K mg base CX0 "_law_gcd" 1 ["_law_one", "_law_other"] spGcd) : DefOk P w K mg base CX0 "_law_ratio" 2 ["_law_top", "_law_bottom"] (spLow K) := by
  obtain ⟨f, fd, F, gf⟩ := T
  refine ⟨f, fd, gf, F.kp, F.binds (fun _ _ _ _ _ _ us hl => match us, hl with | [_, _], _ => rfl), F.ok sc_law_ratio (fun vs H Q E h => ?_) (fun cdv A outer s H vs Q E hr h => ?_)⟩
  · obtain ⟨t, b, rfl, _⟩ := h; rfl
  · obtain ⟨t, b, rfl, b0, zt, zb, q⟩ := h
    refine ⟨_, (pss_cons (ps_set (i := 2) sc_law_ratio.nd rfl (.inl rfl) (pe_def G_law_gcd (hr.mono (by decide)) (by rfl) (pa_cons (pv 0) (pa_cons (pv 1) pa_nil)))) (pss_cons (ps_if (pt_cmpR op_lt (pv 1) pe_int (nomark _)) (pss_one (ps_set (i := 2) sc_law_ratio.nd rfl (.inl rfl) (pe_un un_neg (pv 2)))) pss_nil) (pss_one (ps_ret (pe_tup (pa_cons (pe_op op_fdivW (pv 0) (pv 2)) (pa_cons (pe_op op_fdivW (pv 1) (pv 2)) pa_nil))))))), ?_⟩
    have bn : b ≠ 0 := by omega
    have gp := g2_pos (t := t) bn
    have gz := sz_g (t := t) bn zb
    refine ⟨_, rfl, _, rfl, t, b, rfl, ?_⟩
    refine ⟨_, rfl, _, _, rfl, rfl, _, rfl, itF (decide_eq_false (by omega)) ?_⟩
    refine ⟨_, rfl, _, rfl, _, _, rfl, rfl, wide_div gp gz (by decide) (by decide), _, rfl, _, rfl, _, _, rfl, rfl, wide_div gp gz (by decide) (by decide), (by show 2 ≤ sizeLine; decide), fun p np => q _ _ (PB.same_new np) (dp_mkr np)⟩
abbrev s_law_plus : Stmt := topS 46
theorem sc_law_plus : FnScope ["_law_one", "_law_other"] ["_law_one", "_law_other"] (defScope s_law_plus) := ⟨rfl, rfl, rfl, by decide +kernel, rfl, by decide +kernel, by decide +kernel⟩
theorem ok_law_plus (T : Txt K mg "_law_plus" s_law_plus) (G_law_ratio : DefOk P w K mg base CX0 "_law_ratio" 2 ["_law_top", "_law_bottom"] (spLow K)) : DefOk P w K mg base CX0 "_law_plus" 3 ["_law_one", "_law_other"] (spBin K radd) := by
  obtain ⟨f, fd, F, gf⟩ := T
  refine ⟨f, fd, gf, F.kp, F.binds (fun _ _ _ _ _ _ us hl => match us, hl with | [_, _], _ => rfl), F.ok sc_law_plus (fun vs H Q E h => ?_) (fun cdv A outer s H vs Q E hr h => ?_)⟩
  · obtain ⟨v, u, r, s_, rfl, _⟩ := h; rfl
  · obtain ⟨v, u, r, s_, rfl, hv, hu, ir, is_, zr, zs, q⟩ := h
    refine ⟨_, (pss_one (ps_ret (pe_def G_law_ratio (hr.mono (by decide)) (by rfl) (pa_cons (pe_op op_add (pe_op op_mulW (pe_ix ix_it (pv 0) pe_int (fun _ _ => rfl)) (pe_ix ix_it (pv 1) pe_int (fun _ _ => rfl))) (pe_op op_mulW (pe_ix ix_it (pv 1) pe_int (fun _ _ => rfl)) (pe_ix ix_it (pv 0) pe_int (fun _ _ => rfl)))) (pa_cons (pe_op op_mulW (pe_ix ix_it (pv 0) pe_int (fun _ _ => rfl)) (pe_ix ix_it (pv 1) pe_int (fun _ _ => rfl))) pa_nil))))), ?_⟩
    have c1 := cou_r hv
    have c2 := cou_r hu
    refine ⟨v, rfl, _, _, 0, _, rfl, c1, rfl, u, rfl, _, _, 1, _, rfl, c2, rfl, _, _, rfl, rfl, wide_mul zr.1 zs.2 (by decide) (by decide) (by decide), u, rfl, _, _, 0, _, rfl, c2, rfl, v, rfl, _, _, 1, _, rfl, c1, rfl, _, _, rfl, rfl, wide_mul zs.1 zr.2 (by decide) (by decide) (by decide), _, _, rfl, rfl, ?_⟩
    exact ⟨v, rfl, _, _, 1, _, rfl, c1, rfl, u, rfl, _, _, 1, _, rfl, c2, rfl, _, _, rfl, rfl, wide_mul zr.2 zs.2 (by decide) (by decide) (by decide), _, _, rfl, Int.mul_pos ir.1 is_.1, sz_mono (sz_add (sz_mul zr.1 zs.2) (sz_mul zs.1 zr.2)) (by decide), sz_mono (sz_mul zr.2 zs.2) (by decide), fun H' z sm hz => q H' z sm hz⟩
abbrev s_law_less : Stmt := topS 47
theorem sc_law_less : FnScope ["_law_one", "_law_other"] ["_law_one", "_law_other"] (defScope s_law_less) := ⟨rfl, rfl, rfl, by decide +kernel, rfl, by decide +kernel, by decide +kernel⟩
theorem ok_law_less (T : Txt K mg "_law_less" s_law_less) (G_law_ratio : DefOk P w K mg base CX0 "_law_ratio" 2 ["_law_top", "_law_bottom"] (spLow K)) : DefOk P w K mg base CX0 "_law_less" 3 ["_law_one", "_law_other"] (spBin K rsub) := by
  obtain ⟨f, fd, F, gf⟩ := T
  refine ⟨f, fd, gf, F.kp, F.binds (fun _ _ _ _ _ _ us hl => match us, hl with | [_, _], _ => rfl), F.ok sc_law_less (fun vs H Q E h => ?_) (fun cdv A outer s H vs Q E hr h => ?_)⟩
  · obtain ⟨v, u, r, s_, rfl, _⟩ := h; rfl
  · obtain ⟨v, u, r, s_, rfl, hv, hu, ir, is_, zr, zs, q⟩ := h
    refine ⟨_, (pss_one (ps_ret (pe_def G_law_ratio (hr.mono (by decide)) (by rfl) (pa_cons (pe_op op_sub (pe_op op_mulW (pe_ix ix_it (pv 0) pe_int (fun _ _ => rfl)) (pe_ix ix_it (pv 1) pe_int (fun _ _ => rfl))) (pe_op op_mulW (pe_ix ix_it (pv 1) pe_int (fun _ _ => rfl)) (pe_ix ix_it (pv 0) pe_int (fun _ _ => rfl)))) (pa_cons (pe_op op_mulW (pe_ix ix_it (pv 0) pe_int (fun _ _ => rfl)) (pe_ix ix_it (pv 1) pe_int (fun _ _ => rfl))) pa_nil))))), ?_⟩
    have c1 := cou_r hv
    have c2 := cou_r hu
    refine ⟨v, rfl, _, _, 0, _, rfl, c1, rfl, u, rfl, _, _, 1, _, rfl, c2, rfl, _, _, rfl, rfl, wide_mul zr.1 zs.2 (by decide) (by decide) (by decide), u, rfl, _, _, 0, _, rfl, c2, rfl, v, rfl, _, _, 1, _, rfl, c1, rfl, _, _, rfl, rfl, wide_mul zs.1 zr.2 (by decide) (by decide) (by decide), _, _, rfl, rfl, ?_⟩
    exact ⟨v, rfl, _, _, 1, _, rfl, c1, rfl, u, rfl, _, _, 1, _, rfl, c2, rfl, _, _, rfl, rfl, wide_mul zr.2 zs.2 (by decide) (by decide) (by decide), _, _, rfl, Int.mul_pos ir.1 is_.1, sz_mono (sz_sub (sz_mul zr.1 zs.2) (sz_mul zs.1 zr.2)) (by decide), sz_mono (sz_mul zr.2 zs.2) (by decide), fun H' z sm hz => q H' z sm hz⟩
abbrev s_law_times : Stmt := topS 48
theorem sc_law_times : FnScope ["_law_one", "_law_other"] ["_law_one", "_law_other"] (defScope s_law_times) := ⟨rfl, rfl, rfl, by decide +kernel, rfl, by decide +kernel, by decide +kernel⟩
theorem ok_law_times (T : Txt K mg "_law_times" s_law_times) (G_law_ratio : DefOk P w K mg base CX0 "_law_ratio" 2 ["_law_top", "_law_bottom"] (spLow K)) : DefOk P w K mg base CX0 "_law_times" 3 ["_law_one", "_law_other"] (spBin K rmul) := by
  obtain ⟨f, fd, F, gf⟩ := T
  refine ⟨f, fd, gf, F.kp, F.binds (fun _ _ _ _ _ _ us hl => match us, hl with | [_, _], _ => rfl), F.ok sc_law_times (fun vs H Q E h => ?_) (fun cdv A outer s H vs Q E hr h => ?_)⟩
  · obtain ⟨v, u, r, s_, rfl, _⟩ := h; rfl
  · obtain ⟨v, u, r, s_, rfl, hv, hu, ir, is_, zr, zs, q⟩ := h
    refine ⟨_, (pss_one (ps_ret (pe_def G_law_ratio (hr.mono (by decide)) (by rfl) (pa_cons (pe_op op_mulW (pe_ix ix_it (pv 0) pe_int (fun _ _ => rfl)) (pe_ix ix_it (pv 1) pe_int (fun _ _ => rfl))) (pa_cons (pe_op op_mulW (pe_ix ix_it (pv 0) pe_int (fun _ _ => rfl)) (pe_ix ix_it (pv 1) pe_int (fun _ _ => rfl))) pa_nil))))), ?_⟩
    have c1 := cou_r hv
    have c2 := cou_r hu
    exact ⟨v, rfl, _, _, 0, _, rfl, c1, rfl, u, rfl, _, _, 0, _, rfl, c2, rfl, _, _, rfl, rfl, wide_mul zr.1 zs.1 (by decide) (by decide) (by decide), v, rfl, _, _, 1, _, rfl, c1, rfl, u, rfl, _, _, 1, _, rfl, c2, rfl, _, _, rfl, rfl, wide_mul zr.2 zs.2 (by decide) (by decide) (by decide), _, _, rfl, Int.mul_pos ir.1 is_.1, sz_mono (sz_mul zr.1 zs.1) (by decide), sz_mono (sz_mul zr.2 zs.2) (by decide), fun H' z sm hz => q H' z sm hz⟩
abbrev s_law_amount : Stmt := topS 49
theorem sc_law_amount : FnScope ["_law_direction_here", "_law_place_here"] ["_law_direction_here", "_law_place_here"] (defScope s_law_amount) := ⟨rfl, rfl, rfl, by decide +kernel, rfl, by decide +kernel, by decide +kernel⟩
theorem ok_law_amount (T : Txt K mg "_law_amount" s_law_amount) (G_law_plus : DefOk P w K mg base CX0 "_law_plus" 3 ["_law_one", "_law_other"] (spBin K radd)) (G_law_times : DefOk P w K mg base CX0 "_law_times" 3 ["_law_one", "_law_other"] (spBin K rmul)) : DefOk P w K mg base CX0 "_law_amount" 4 ["_law_direction_here", "_law_place_here"] (spAmtL K) := by
  obtain ⟨f, fd, F, gf⟩ := T
  refine ⟨f, fd, gf, F.kp, F.binds (fun _ _ _ _ _ _ us hl => match us, hl with | [_, _], _ => rfl), F.ok sc_law_amount (fun vs H Q E h => ?_) (fun cdv A outer s H vs Q E hr h => ?_)⟩
  · obtain ⟨v, u, d, p, rfl, _⟩ := h; rfl
  · obtain ⟨v, u, d, p, rfl, hv, hu, rp, zd, zp, q⟩ := h
    refine ⟨_, (pss_one (ps_ret (pe_def G_law_plus (hr.mono (by decide)) (by rfl) (pa_cons (pe_def G_law_times (hr.mono (by decide)) (by rfl) (pa_cons (pe_tup (pa_cons (pe_ix ix_it (pv 0) pe_int (fun _ _ => rfl)) (pa_cons pe_int pa_nil))) (pa_cons (pe_ix ix_it (pv 1) pe_int (fun _ _ => rfl)) pa_nil))) (pa_cons (pe_def G_law_times (hr.mono (by decide)) (by rfl) (pa_cons (pe_tup (pa_cons (pe_ix ix_it (pv 0) pe_int (fun _ _ => rfl)) (pa_cons pe_int pa_nil))) (pa_cons (pe_ix ix_it (pv 1) pe_int (fun _ _ => rfl)) pa_nil))) pa_nil))))), ?_⟩
    have cd := cou_r hv
    obtain ⟨x, y, cu, hx, hy⟩ := pla_t hu
    refine ⟨v, rfl, _, _, 0, _, rfl, cd, rfl, (by show 2 ≤ sizeLine; decide), fun a na => ?_⟩
    have s1 := PB.same_new (o := .tup [.int d.1, .int 1]) na
    refine ⟨u, rfl, _, _, 0, _, rfl, cu.same s1, rfl, _, _, _, _, rfl, dp_mkr na, Dp_same s1 hx, rat_int _, rp.1, szr_int (sz_mono zd.1 (by decide)) (by decide), szr_mono zp.1 (by decide), fun H2 z1 s2 h1 => ?_⟩
    have s12 := s1.trans s2
    refine ⟨v, rfl, _, _, 1, _, rfl, cd.same s12, rfl, (by show 2 ≤ sizeLine; decide), fun b nb => ?_⟩
    have s3 := PB.same_new (o := .tup [.int d.2, .int 1]) nb
    refine ⟨u, rfl, _, _, 1, _, rfl, (cu.same s12).same s3, rfl, _, _, _, _, rfl, dp_mkr nb, Dp_same s3 (Dp_same s12 hy), rat_int _, rp.2, szr_int (sz_mono zd.2 (by decide)) (by decide), szr_mono zp.2 (by decide), fun H4 z2 s4 h2 => ?_⟩
    refine ⟨_, _, _, _, rfl, Dp_same (s3.trans s4) h1, h2, rat_mul (rat_int _) rp.1, rat_mul (rat_int _) rp.2, szr_mono (szr_mul (rat_int _) rp.1 (szr_int zd.1 (by decide)) zp.1) (by decide), szr_mono (szr_mul (rat_int _) rp.2 (szr_int zd.2 (by decide)) zp.2) (by decide), fun H5 z3 s5 h3 => q H5 z3 ((s12.trans (s3.trans s4)).trans s5) h3⟩
abbrev s_law_direction : Stmt := topS 50
theorem sc_law_direction : FnScope ["_law_x", "_law_y", "_law_part"] ["_law_x", "_law_y"] (defScope s_law_direction) := ⟨rfl, rfl, rfl, by decide +kernel, rfl, by decide +kernel, by decide +kernel⟩
theorem ok_law_direction (T : Txt K mg "_law_direction" s_law_direction) (G_law_gcd : DefOk P w K mg base CX0 "_law_gcd" 1 ["_law_one", "_law_other"] spGcd) : DefOk P w K mg base CX0 "_law_direction" 2 ["_law_x", "_law_y"] (spWd K) := by
  obtain ⟨f, fd, F, gf⟩ := T
  refine ⟨f, fd, gf, F.kp, F.binds (fun _ _ _ _ _ _ us hl => match us, hl with | [_, _], _ => rfl), F.ok sc_law_direction (fun vs H Q E h => ?_) (fun cdv A outer s H vs Q E hr h => ?_)⟩
  · obtain ⟨x, y, rfl, _⟩ := h; rfl
  · obtain ⟨x, y, rfl, nz, zx, zy, q⟩ := h
    refine ⟨_, (pss_cons (ps_set (i := 2) sc_law_direction.nd rfl (.inl rfl) (pe_def G_law_gcd (hr.mono (by decide)) (by rfl) (pa_cons (pv 0) (pa_cons (pv 1) pa_nil)))) (pss_one (ps_ret (pe_tup (pa_cons (pe_op op_fdivW (pv 0) (pv 2)) (pa_cons (pe_op op_fdivW (pv 1) (pv 2)) pa_nil)))))), ?_⟩
    have gp := g2_posO nz
    have gz := sz_gg nz zx zy
    refine ⟨_, rfl, _, rfl, x, y, rfl, ?_⟩
    exact ⟨_, rfl, _, rfl, _, _, rfl, rfl, wide_div gp gz (by decide) (by decide), _, rfl, _, rfl, _, _, rfl, rfl, wide_div gp gz (by decide) (by decide), (by show 2 ≤ sizeLine; decide), fun p np => q _ _ (PB.same_new np) (dp_mkr np)⟩
abbrev s_law_by : Stmt := topS 58
theorem sc_law_by : FnScope ["_law_place_here", "_law_step_here"] ["_law_place_here", "_law_step_here"] (defScope s_law_by) := ⟨rfl, rfl, rfl, by decide +kernel, rfl, by decide +kernel, by decide +kernel⟩
theorem ok_law_by (T : Txt K mg "_law_by" s_law_by) (G_law_plus : DefOk P w K mg base CX0 "_law_plus" 3 ["_law_one", "_law_other"] (spBin K radd)) : DefOk P w K mg base CX0 "_law_by" 4 ["_law_place_here", "_law_step_here"] (spPT K byP) := by
  obtain ⟨f, fd, F, gf⟩ := T
  refine ⟨f, fd, gf, F.kp, F.binds (fun _ _ _ _ _ _ us hl => match us, hl with | [_, _], _ => rfl), F.ok sc_law_by (fun vs H Q E h => ?_) (fun cdv A outer s H vs Q E hr h => ?_)⟩
  · obtain ⟨v, u, p, s_, rfl, _⟩ := h; rfl
  · obtain ⟨v, u, p, s_, rfl, hv, hu, rp, rs, zp, zs, q⟩ := h
    refine ⟨_, (pss_one (ps_ret (pe_tup (pa_cons (pe_def G_law_plus (hr.mono (by decide)) (by rfl) (pa_cons (pe_ix ix_it (pv 0) pe_int (fun _ _ => rfl)) (pa_cons (pe_ix ix_it (pv 1) pe_int (fun _ _ => rfl)) pa_nil))) (pa_cons (pe_def G_law_plus (hr.mono (by decide)) (by rfl) (pa_cons (pe_ix ix_it (pv 0) pe_int (fun _ _ => rfl)) (pa_cons (pe_ix ix_it (pv 1) pe_int (fun _ _ => rfl)) pa_nil))) pa_nil))))), ?_⟩
    obtain ⟨x, y, cv, hx, hy⟩ := pla_t hv
    obtain ⟨x_, y_, cu, hx_, hy_⟩ := pla_t hu
    refine ⟨v, rfl, _, _, 0, _, rfl, cv, rfl, u, rfl, _, _, 0, _, rfl, cu, rfl, _, _, _, _, rfl, hx, hx_, rp.1, rs.1, zp.1, zs.1, fun H1 z1 s1 h1 => ?_⟩
    refine ⟨v, rfl, _, _, 1, _, rfl, (cv.same s1), rfl, u, rfl, _, _, 1, _, rfl, (cu.same s1), rfl, _, _, _, _, rfl, Dp_same s1 hy, Dp_same s1 hy_, rp.2, rs.2, zp.2, zs.2, fun H2 z2 s2 h2 => ⟨(by show 2 ≤ sizeLine; decide), fun r nr => q _ _ ((s1.trans s2).trans (PB.same_new nr)) (dp_mk2 nr (Dp_same s2 h1) h2)⟩⟩
abbrev s_law_step : Stmt := topS 59
theorem sc_law_step : FnScope ["_law_one", "_law_other"] ["_law_one", "_law_other"] (defScope s_law_step) := ⟨rfl, rfl, rfl, by decide +kernel, rfl, by decide +kernel, by decide +kernel⟩
theorem ok_law_step (T : Txt K mg "_law_step" s_law_step) (G_law_less : DefOk P w K mg base CX0 "_law_less" 3 ["_law_one", "_law_other"] (spBin K rsub)) : DefOk P w K mg base CX0 "_law_step" 4 ["_law_one", "_law_other"] (spPT K stepF) := by
  obtain ⟨f, fd, F, gf⟩ := T
  refine ⟨f, fd, gf, F.kp, F.binds (fun _ _ _ _ _ _ us hl => match us, hl with | [_, _], _ => rfl), F.ok sc_law_step (fun vs H Q E h => ?_) (fun cdv A outer s H vs Q E hr h => ?_)⟩
  · obtain ⟨v, u, p, s_, rfl, _⟩ := h; rfl
  · obtain ⟨v, u, p, s_, rfl, hv, hu, rp, rs, zp, zs, q⟩ := h
    refine ⟨_, (pss_one (ps_ret (pe_tup (pa_cons (pe_def G_law_less (hr.mono (by decide)) (by rfl) (pa_cons (pe_ix ix_it (pv 1) pe_int (fun _ _ => rfl)) (pa_cons (pe_ix ix_it (pv 0) pe_int (fun _ _ => rfl)) pa_nil))) (pa_cons (pe_def G_law_less (hr.mono (by decide)) (by rfl) (pa_cons (pe_ix ix_it (pv 1) pe_int (fun _ _ => rfl)) (pa_cons (pe_ix ix_it (pv 0) pe_int (fun _ _ => rfl)) pa_nil))) pa_nil))))), ?_⟩
    obtain ⟨x, y, cv, hx, hy⟩ := pla_t hv
    obtain ⟨x_, y_, cu, hx_, hy_⟩ := pla_t hu
    refine ⟨u, rfl, _, _, 0, _, rfl, cu, rfl, v, rfl, _, _, 0, _, rfl, cv, rfl, _, _, _, _, rfl, hx_, hx, rs.1, rp.1, zs.1, zp.1, fun H1 z1 s1 h1 => ?_⟩
    refine ⟨u, rfl, _, _, 1, _, rfl, (cu.same s1), rfl, v, rfl, _, _, 1, _, rfl, (cv.same s1), rfl, _, _, _, _, rfl, Dp_same s1 hy_, Dp_same s1 hy, rs.2, rp.2, zs.2, zp.2, fun H2 z2 s2 h2 => ⟨(by show 2 ≤ sizeLine; decide), fun r nr => q _ _ ((s1.trans s2).trans (PB.same_new nr)) (dp_mk2 nr (Dp_same s2 h1) h2)⟩⟩
abbrev s_law_plain : Stmt := topS 54
theorem sc_law_plain : FnScope ["_law_told", "_law_due"] ["_law_told", "_law_due"] (defScope s_law_plain) := ⟨rfl, rfl, rfl, by decide +kernel, rfl, by decide +kernel, by decide +kernel⟩
theorem ok_law_plain (T : Txt K mg "_law_plain" s_law_plain) (misinstance : mg "isinstance" = none) (mtuple : mg "tuple" = none) (mint : mg "int" = none) (mbool : mg "bool" = none) : DefOk P w K mg base CX0 "_law_plain" 1 ["_law_told", "_law_due"] (spPlain K) := by
  obtain ⟨f, fd, F, gf⟩ := T
  refine ⟨f, fd, gf, F.kp, F.binds (fun _ _ _ _ _ _ us hl => match us, hl with | [_, _], _ => rfl), F.ok sc_law_plain (fun vs H Q E h => ?_) (fun cdv A outer s H vs Q E hr h => ?_)⟩
  · obtain ⟨v, u, r, rfl, _⟩ := h; rfl
  · obtain ⟨v, u, r, rfl, hv, hu, q⟩ := h
    refine ⟨_, (pss_one (ps_ret (pe_and (pe_callB call_isi (by rfl) misinstance boot_isinstance (pa_cons (pv 0) (pa_cons (pe_bltn (v := .ty "tuple") (by rfl) mtuple (by decide +kernel) rfl) pa_nil))) (pe_and (pe_cmpR (op_eqD hr.units) (pv 0) (pv 1) (nomark _)) (pe_and (pe_callB call_isi (by rfl) misinstance boot_isinstance (pa_cons (pe_ix ix_it (pv 0) pe_int (fun _ _ => rfl)) (pa_cons (pe_bltn (v := .ty "int") (by rfl) mint (by decide +kernel) rfl) pa_nil))) (pe_and (pe_not (pe_callB call_isi (by rfl) misinstance boot_isinstance (pa_cons (pe_ix ix_it (pv 0) pe_int (fun _ _ => rfl)) (pa_cons (pe_bltn (v := .ty "bool") (by rfl) mbool (by decide +kernel) rfl) pa_nil)))) (pe_one (pe_not (pe_callB call_isi (by rfl) misinstance boot_isinstance (pa_cons (pe_ix ix_it (pv 0) pe_int (fun _ _ => rfl)) (pa_cons (pe_bltn (v := .ty "bool") (by rfl) mbool (by decide +kernel) rfl) pa_nil))))))))))), ?_⟩
    have c := cou_r hv
    refine ⟨v, rfl, v, _, _, _, _, rfl, .ty _, dp_tyx hv, kit_ty (kit_tuple (rD r)), true, rfl, itT rfl ?_⟩
    refine ⟨v, rfl, u, rfl, eq_same (shaped_r r) hv hu ⟨true, rfl, itT rfl ?_⟩⟩
    refine ⟨v, rfl, _, _, 0, _, rfl, c, rfl, _, _, _, _, _, rfl, .ty _, .base (.int _), kit_ty (kit_int (.int r.1)), true, rfl, itT rfl ?_⟩
    refine ⟨v, rfl, _, _, 0, _, rfl, c, rfl, _, _, _, _, _, rfl, .ty _, .base (.int _), kit_ty (kit_bool (.int r.1)), _, rfl, _, rfl, itT rfl ?_⟩
    exact ⟨v, rfl, _, _, 1, _, rfl, c, rfl, _, _, _, _, _, rfl, .ty _, .base (.int _), kit_ty (kit_bool (.int r.2)), _, rfl, q⟩
abbrev s_law_cross : Stmt := topS 51
theorem sc_law_cross : FnScope ["_law_first", "_law_second", "_law_third", "_law_one", "_law_other"] ["_law_first", "_law_second", "_law_third"] (defScope s_law_cross) := ⟨rfl, rfl, rfl, by decide +kernel, rfl, by decide +kernel, by decide +kernel⟩
theorem ok_law_cross (T : Txt K mg "_law_cross" s_law_cross) (G_law_less : DefOk P w K mg base CX0 "_law_less" 3 ["_law_one", "_law_other"] (spBin K rsub)) (G_law_times : DefOk P w K mg base CX0 "_law_times" 3 ["_law_one", "_law_other"] (spBin K rmul)) : DefOk P w K mg base CX0 "_law_cross" 4 ["_law_first", "_law_second", "_law_third"] (spCroL K) := by
  obtain ⟨f, fd, F, gf⟩ := T
  refine ⟨f, fd, gf, F.kp, F.binds (fun _ _ _ _ _ _ us hl => match us, hl with | [_, _, _], _ => rfl), F.ok sc_law_cross (fun vs H Q E h => ?_) (fun cdv A outer s H vs Q E hr h => ?_)⟩
  · obtain ⟨v, u, t, a, b, c, rfl, _⟩ := h; rfl
  · obtain ⟨v, u, t, a, b, c, rfl, hv, hu, ht, ra, rb, rc, za, zb, zc, q⟩ := h
    refine ⟨_, (pss_cons (ps_set (i := 3) sc_law_cross.nd rfl (.inl rfl) (pe_tup (pa_cons (pe_def G_law_less (hr.mono (by decide)) (by rfl) (pa_cons (pe_ix ix_it (pv 1) pe_int (fun _ _ => rfl)) (pa_cons (pe_ix ix_it (pv 0) pe_int (fun _ _ => rfl)) pa_nil))) (pa_cons (pe_def G_law_less (hr.mono (by decide)) (by rfl) (pa_cons (pe_ix ix_it (pv 1) pe_int (fun _ _ => rfl)) (pa_cons (pe_ix ix_it (pv 0) pe_int (fun _ _ => rfl)) pa_nil))) pa_nil)))) (pss_cons (ps_set (i := 4) sc_law_cross.nd rfl (.inl rfl) (pe_tup (pa_cons (pe_def G_law_less (hr.mono (by decide)) (by rfl) (pa_cons (pe_ix ix_it (pv 2) pe_int (fun _ _ => rfl)) (pa_cons (pe_ix ix_it (pv 0) pe_int (fun _ _ => rfl)) pa_nil))) (pa_cons (pe_def G_law_less (hr.mono (by decide)) (by rfl) (pa_cons (pe_ix ix_it (pv 2) pe_int (fun _ _ => rfl)) (pa_cons (pe_ix ix_it (pv 0) pe_int (fun _ _ => rfl)) pa_nil))) pa_nil)))) (pss_one (ps_ret (pe_def G_law_less (hr.mono (by decide)) (by rfl) (pa_cons (pe_def G_law_times (hr.mono (by decide)) (by rfl) (pa_cons (pe_ix ix_it (pv 3) pe_int (fun _ _ => rfl)) (pa_cons (pe_ix ix_it (pv 4) pe_int (fun _ _ => rfl)) pa_nil))) (pa_cons (pe_def G_law_times (hr.mono (by decide)) (by rfl) (pa_cons (pe_ix ix_it (pv 3) pe_int (fun _ _ => rfl)) (pa_cons (pe_ix ix_it (pv 4) pe_int (fun _ _ => rfl)) pa_nil))) pa_nil))))))), ?_⟩
    obtain ⟨ax, ay, ca, hax, hay⟩ := pla_t hv
    obtain ⟨bx, by_, cb, hbx, hby⟩ := pla_t hu
    obtain ⟨cx, cy, cc, hcx, hcy⟩ := pla_t ht
    have m := fun {r : Rt} (h : SzR 300 r) => (szr_mono h (by decide) : SzR 2000 r)
    refine ⟨u, rfl, _, _, 0, _, rfl, cb, rfl, v, rfl, _, _, 0, _, rfl, ca, rfl, _, _, _, _, rfl, hbx, hax, rb.1, ra.1, m zb.1, m za.1, fun H1 z1 s1 h1 => ?_⟩
    refine ⟨u, rfl, _, _, 1, _, rfl, cb.same s1, rfl, v, rfl, _, _, 1, _, rfl, ca.same s1, rfl, _, _, _, _, rfl, Dp_same s1 hby, Dp_same s1 hay, rb.2, ra.2, m zb.2, m za.2, fun H2 z2 s2 h2 => ⟨(by show 2 ≤ sizeLine; decide), fun p1 np1 => ?_⟩⟩
    have s3 := (s1.trans s2).trans (PB.same_new (o := .tup [z1, z2]) np1)
    have k1 := dp_mk2 np1 (Dp_same s2 h1) h2
    refine ⟨t, rfl, _, _, 0, _, rfl, cc.same s3, rfl, v, rfl, _, _, 0, _, rfl, ca.same s3, rfl, _, _, _, _, rfl, Dp_same s3 hcx, Dp_same s3 hax, rc.1, ra.1, m zc.1, m za.1, fun H4 z3 s4 h3 => ?_⟩
    have s34 := s3.trans s4
    refine ⟨t, rfl, _, _, 1, _, rfl, cc.same s34, rfl, v, rfl, _, _, 1, _, rfl, ca.same s34, rfl, _, _, _, _, rfl, Dp_same s34 hcy, Dp_same s34 hay, rc.2, ra.2, m zc.2, m za.2, fun H5 z4 s5 h4 => ⟨(by show 2 ≤ sizeLine; decide), fun p2 np2 => ?_⟩⟩
    have s6 := (s4.trans s5).trans (PB.same_new (o := .tup [z3, z4]) np2)
    have k2 := dp_mk2 np2 (Dp_same s5 h3) h4
    have k1' := Dp_same s6 k1
    have q1 := s3.trans s6
    generalize upd H5 p2 (.tup [z3, z4]) = H6 at k2 k1' q1 ⊢
    obtain ⟨o0, o1, co, ho0, ho1⟩ := pla_t (p := (rsub b.1 a.1, rsub b.2 a.2)) k1'
    obtain ⟨r0, r1, cr, hr0, hr1⟩ := pla_t (p := (rsub c.1 a.1, rsub c.2 a.2)) k2
    have z6 := fun {r s : Rt} (hr : IsRat r) (hs : IsRat s) (h : SzR 300 r) (k : SzR 300 s) => (szr_sub hr hs h k : SzR 601 (rsub r s))
    have i1 := rat_sub rb.1 ra.1
    have i2 := rat_sub rb.2 ra.2
    have i3 := rat_sub rc.1 ra.1
    have i4 := rat_sub rc.2 ra.2
    refine ⟨_, rfl, _, _, 0, _, rfl, co, rfl, _, rfl, _, _, 1, _, rfl, cr, rfl, _, _, _, _, rfl, ho0, hr1, i1, i4, szr_mono (z6 rb.1 ra.1 zb.1 za.1) (by decide), szr_mono (z6 rc.2 ra.2 zc.2 za.2) (by decide), fun H7 z7 s7 h7 => ?_⟩
    refine ⟨_, rfl, _, _, 1, _, rfl, co.same s7, rfl, _, rfl, _, _, 0, _, rfl, cr.same s7, rfl, _, _, _, _, rfl, Dp_same s7 ho1, Dp_same s7 hr0, i2, i3, szr_mono (z6 rb.2 ra.2 zb.2 za.2) (by decide), szr_mono (z6 rc.1 ra.1 zc.1 za.1) (by decide), fun H8 z8 s8 h8 => ?_⟩
    refine ⟨_, _, _, _, rfl, Dp_same s8 h7, h8, rat_mul i1 i4, rat_mul i2 i3, szr_mono (szr_mul i1 i4 (z6 rb.1 ra.1 zb.1 za.1) (z6 rc.2 ra.2 zc.2 za.2)) (by decide), szr_mono (szr_mul i2 i3 (z6 rb.2 ra.2 zb.2 za.2) (z6 rc.1 ra.1 zc.1 za.1)) (by decide), fun H9 z9 s9 h9 => q H9 z9 (((q1.trans s7).trans s8).trans s9) h9⟩
end
end F3
set_option Elab.async false
set_option linter.all false
set_option maxRecDepth 100000
set_option maxHeartbeats 4000000
set_option exponentiation.threshold 3000
namespace F3
open PySem PySem.Spec PyProof.Rows L2 FX RM PB
/-! the text -/
abbrev sHand : Stmt := topS 41
abbrev sMixed : Stmt := topS 42
abbrev sTake : Stmt := topS 43
theorem scHand : FnScope ["_law_script", "_law_total", "_law_cells", "_law_cell"] ["_law_script"] (defScope sHand) := ⟨rfl, rfl, rfl, by decide +kernel, rfl, by decide +kernel, by decide +kernel⟩
theorem scMixed : FnScope ["_law_number_here", "_law_turn", "_law_once", "_law_twice"] ["_law_number_here", "_law_turn"] (defScope sMixed) := ⟨rfl, rfl, rfl, by decide +kernel, rfl, by decide +kernel, by decide +kernel⟩
theorem scTake : FnScope ["_law_hand_here", "_law_many", "_law_cell", "_law_rest"] ["_law_hand_here", "_law_many"] (defScope sTake) := ⟨rfl, rfl, rfl, by decide +kernel, rfl, by decide +kernel, by decide +kernel⟩
/-! heaps -/
theorem same_updH {H : Hp} {p : Addr} {o : HO} (h : H p = none) : Same H (upd H p o) := fun b x e => by
  rw [upd_ne (ne_of_none e h)]; exact e
/-- all but what stands at p is as it was -/
def SameBut (p : Addr) (H H' : Hp) : Prop := (∀ b o, b ≠ p → H b = some o → H' b = some o) ∧ ∀ c l, H p = some (.lst (.ref c :: l)) → ∃ l', H' p = some (.lst (.ref c :: l'))
theorem SameBut.rfl {p : Addr} {H : Hp} : SameBut p H H := ⟨fun _ _ _ e => e, fun _ l e => ⟨l, e⟩⟩
theorem sb_upd {H : Hp} {p c : Addr} {l l' : List V} (h : H p = some (.lst (.ref c :: l))) : SameBut p H (upd H p (.lst (.ref c :: l'))) := ⟨fun b x n e => by rw [upd_ne n]; exact e, fun c2 l2 e => by rw [h] at e; cases e; exact ⟨_, upd_same⟩⟩
theorem SameBut.trans {p : Addr} {H H1 H2 : Hp} (a : SameBut p H H1) (b : SameBut p H1 H2) : SameBut p H H2 := ⟨fun c o n e => b.1 c o n (a.1 c o n e), fun c l e => by obtain ⟨l1, e1⟩ := a.2 c l e; exact b.2 c l1 e1⟩
/-- the hand that a law draws from -/
def HandIs (H : Hp) (p c : Addr) (cs : List Int) (i r t : Int) : Prop :=
  H p = some (.lst [.ref c, .int i, .int r, .int t]) ∧ H c = some (.lst (cs.map V.int)) ∧ (∀ z ∈ cs, 0 ≤ z) ∧ 0 ≤ i ∧ i ≤ cs.length ∧ cs.length ≤ 63 ∧ 0 ≤ r ∧ 0 ≤ t ∧ t < 2147483629
def HandAt (H : Hp) (p : Addr) : Prop := ∃ c cs i r t, HandIs H p c cs i r t
theorem HandIs.ne {H : Hp} {p c : Addr} {cs : List Int} {i r t : Int} (h : HandIs H p c cs i r t) : c ≠ p := fun e => by
  obtain ⟨a, b, _⟩ := h
  subst e
  rw [a] at b
  have z := HO.lst.inj (Option.some.inj b)
  cases cs with
  | nil => cases z
  | cons x l => cases z
theorem HandIs.put {H : Hp} {p c : Addr} {cs : List Int} {i r t i' r' t' : Int} (h : HandIs H p c cs i r t) (hi : 0 ≤ i') (hi2 : i' ≤ cs.length) (hr : 0 ≤ r') (ht : 0 ≤ t') (ht2 : t' < 2147483629) :
    HandIs (upd H p (.lst [.ref c, .int i', .int r', .int t'])) p c cs i' r' t' := by
  have n := h.ne
  obtain ⟨a, b, c1, _, _, c4, _⟩ := h
  exact ⟨upd_same, by rw [upd_ne n]; exact b, c1, hi, hi2, c4, hr, ht, ht2⟩
theorem HandAt.same {H H' : Hp} {p : Addr} (h : HandAt H p) (s : Same H H') : HandAt H' p := by
  obtain ⟨c, cs, i, r, t, a, b, q⟩ := h
  exact ⟨c, cs, i, r, t, s _ _ a, s _ _ b, q⟩
/-! promises -/
def spHand (K : PySem.W.Frag) : Sp := fun vs H Q _ => ∃ (a : Addr) (ns : List Int), vs = [.ref a] ∧ SqL K H a (ns.map V.int) ∧ ns.length ≤ 63 ∧ ∀ H' p, Same H H' → H p = none → HandAt H' p → Q (.ref p) H'
def spMixed : Sp := fun vs H Q _ => ∃ (n t : Int), vs = [.int n, .int t] ∧ 0 ≤ n ∧ n < 2147483647 ∧ 0 ≤ t ∧ t ≤ 1000 ∧ ∀ z, Q (.int z) H
def spTake : Sp := fun vs H Q _ => ∃ (p : Addr) (m : Int), vs = [.ref p, .int m] ∧ HandAt H p ∧ 0 < m ∧ m < 1073741824 ∧ ∀ v H', 0 ≤ v → v < m → HandAt H' p → SameBut p H H' → Q (.int v) H'
section
variable {P : Program} {w : World} {K : PySem.W.Frag} {mg : Str → Option Value} {base : Heap}
theorem ok_mixed {f : Addr} {fd : FuncData} {k : Nat} (F : Fun K "_law_mixed" "_law_mixed" sMixed f fd) (mi : mg "int" = none) : FnOk P w K mg base CX0 (k + 1) f fd ["_law_number_here", "_law_turn"] spMixed := by
  refine F.ok scMixed (fun vs H Q E h => ?_) (fun cdv A outer s H vs Q E hr h => ?_)
  · obtain ⟨n, t, rfl, _⟩ := h; rfl
  · obtain ⟨n, t, rfl, n0, n1, t0, t1, q⟩ := h
    refine ⟨_, pss_cons (ps_set (i := 2) scMixed.nd rfl (.inl rfl) (pe_op op_mod (pe_callTy call_int1 (by rfl) mi boot_int (pa_cons
          (pe_op op_add (pe_op op_add (pe_op op_mul (pv 0) pe_int) (pe_op op_mul (pv 1) pe_int)) pe_int) pa_nil)) pe_int))
      (pss_cons (ps_set (i := 3) scMixed.nd rfl (.inl rfl) (pe_op op_mod (pe_callTy call_int1 (by rfl) mi boot_int (pa_cons
          (pe_op op_add (pe_op op_add (pe_op op_mul (pv 2) (pv 2)) (pe_op op_mul (pv 1) pe_int)) (pe_op op_fdiv (pv 2) pe_int)) pa_nil)) pe_int))
      (pss_one (ps_ret (pe_op op_fdiv (pe_callTy call_int1 (by rfl) mi boot_int (pa_cons
          (pe_op op_mod (pe_callTy call_int1 (by rfl) mi boot_int (pa_cons (pe_op op_add (pe_op op_mul (pv 3) pe_int) (pe_op op_fdiv (pv 2) pe_int)) pa_nil)) pe_int) pa_nil)) pe_int)))), ?_⟩
    refine ⟨_, rfl, _, _, rfl, rfl, .inl ⟨by omega, by omega⟩, _, rfl, _, _, rfl, rfl, .inl ⟨by omega, by omega⟩, _, _, rfl, rfl, _, _, rfl, rfl, .inl ⟨_, rfl, _, _, rfl, rfl, (by show (0 : Int) < _; decide), ?_⟩⟩
    generalize hx : (n * 48271 + t * 7919 + 65537) % 2147483647 = x
    have x0 : 0 ≤ x := by omega
    have x1 : x < 2147483647 := by omega
    refine ⟨_, rfl, _, rfl, _, _, rfl, rfl, .inl ⟨by omega, by omega⟩, _, rfl, _, _, rfl, rfl, .inl ⟨by omega, by omega⟩, _, _, rfl, rfl, _, rfl, _, _, rfl, rfl, ⟨by decide, by decide⟩, _, _, rfl, rfl, .inl ⟨_, rfl, _, _, rfl, rfl, (by show (0 : Int) < _; decide), ?_⟩⟩
    generalize hy : (x * x + t * 104729 + x / 127) % 2147483629 = y
    have y0 : 0 ≤ y := by omega
    have y1 : y < 2147483629 := by omega
    refine ⟨_, rfl, _, _, rfl, rfl, .inl ⟨by omega, by omega⟩, _, rfl, _, _, rfl, rfl, ⟨by decide, by decide⟩, _, _, rfl, rfl, .inl ⟨_, rfl, _, _, rfl, rfl, (by show (0 : Int) < _; decide), .inl ⟨_, rfl, _, _, rfl, rfl, ⟨by decide, by decide⟩, q _⟩⟩⟩
theorem ok_hand {f : Addr} {fd : FuncData} {k : Nat} (F : Fun K "_law_hand" "_law_hand" sHand f fd) (mi : mg "int" = none) (ml : mg "len" = none) : FnOk P w K mg base CX0 (k + 1) f fd ["_law_script"] (spHand K) := by
  refine F.ok scHand (fun vs H Q E h => ?_) (fun cdv A outer s H vs Q E hr h => ?_)
  · obtain ⟨a, ns, rfl, _⟩ := h; rfl
  · obtain ⟨a, ns, rfl, hS, hlen, q⟩ := h
    refine ⟨_, pss_cons (ps_set (i := 1) scHand.nd rfl (.inl rfl) (pe_op op_add (pe_callB call_len_seq (by rfl) ml PySem.boot_len (pa_cons (pv 0) pa_nil)) pe_int))
      (pss_cons (ps_set (i := 2) scHand.nd rfl (.inl rfl) (pe_lst pa_nil))
      (pss_cons (ps_for PassesOwn.never rfl (pi_list (pv 0)) (pg_name (i := 3) scHand.nd rfl (.inl rfl))
        (pss_cons (ps_set (i := 1) scHand.nd rfl (.inl rfl) (pe_op op_mod (pe_callTy call_int1 (by rfl) mi boot_int (pa_cons
            (pe_op op_add (pe_op op_mul (pv 1) pe_int) (pe_callTy call_int1 (by rfl) mi boot_int (pa_cons (pv 3) pa_nil))) pa_nil)) pe_int))
        (pss_one (ps_expr (pe_bm PySem.F.plainAttrs_list PySem.F.slot_list_append PySem.F.type_list_append mt_append (pv 2) (pa_cons
          (pe_ifExp (pt_cmpR op_ge (pv 3) pe_int (nomark _)) (pe_callTy call_int1 (by rfl) mi boot_int (pa_cons (pv 3) pa_nil))
            (pe_un un_neg (pe_callTy call_int1 (by rfl) mi boot_int (pa_cons (pv 3) pa_nil)))) pa_nil))))))
      (pss_one (ps_ret (pe_lst (pa_cons (pv 2) (pa_cons pe_int (pa_cons pe_int (pa_cons (pv 1) pa_nil))))))))), ?_⟩
    refine ⟨.ref a, rfl, a, _, rfl, .inl hS, _, _, rfl, rfl, Nat.zero_le _, fun c nc => ?_⟩
    refine ⟨.ref a, rfl, a, rfl, ⟨_, (same_updH nc).seq hS⟩, for_list (K := K) (a := a) (xs := ns.map V.int)
      (fun i σ H' => ∃ (t : Int) (y : Option V) (cs : List Int), σ = [some (.ref a), some (.int t), some (.ref c), y] ∧ 0 ≤ t ∧ t < 2147483629 ∧ (∀ z ∈ cs, 0 ≤ z) ∧ cs.length = i ∧ Same H H' ∧ H' c = some (.lst (cs.map V.int)))
      ⟨_, none, [], rfl, ?_, ?_, (fun z hz => nomatch hz), rfl, same_updH nc, upd_same⟩ (fun i σ H' _ ⟨_, _, _, _, _, _, _, _, s5, _⟩ => s5.seq hS) ?_ ?_⟩
    · rw [List.length_map]; omega
    · rw [List.length_map]; omega
    · rintro i x σ H' hi ⟨t, y, cs, rfl, t0, t1, c0, cl, sm, hc⟩
      obtain ⟨z, rfl⟩ : ∃ z, x = V.int z := by
        rw [List.getElem?_map] at hi
        cases e : ns[i]? with
        | none => rw [e] at hi; cases hi
        | some z => rw [e] at hi; exact ⟨z, (Option.some.inj hi).symm⟩
      have il : i < 63 := by
        have := (List.getElem?_eq_some_iff.mp hi).1
        rw [List.length_map] at this
        omega
      refine ⟨_, rfl, _, _, rfl, rfl, .inl ⟨by omega, by omega⟩, .int z, rfl, .inl ⟨_, rfl, _, _, rfl, rfl, .inl ⟨_, rfl, _, _, rfl, rfl, (by show (0 : Int) < _; decide), ?_⟩⟩⟩
      have go : ∀ y : Int, 0 ≤ y → ∃ l xs y', V.ref c = V.ref l ∧ [V.int y] = [y'] ∧ H' l = some (.lst xs) ∧ xs.length < sizeLine ∧ (∃ (t' : Int) (v : Option V) (cs' : List Int), [some (V.ref a), some (V.int ((t * 1019 + z) % 2147483629)), some (V.ref c), some (V.int z)] = [some (.ref a), some (.int t'), some (.ref c), v] ∧ 0 ≤ t' ∧ t' < 2147483629 ∧ (∀ z ∈ cs', 0 ≤ z) ∧ cs'.length = i + 1 ∧ Same H (upd H' l (.lst (xs ++ [y']))) ∧ upd H' l (.lst (xs ++ [y'])) c = some (.lst (cs'.map V.int))) := fun y hy => by
        refine ⟨c, _, .int y, rfl, rfl, hc, by rw [List.length_map]; exact small1000 (by omega), _, _, cs ++ [y], rfl, by omega, by omega, ?_, by simp [cl], fun b o e => ?_, ?_⟩
        · intro z hz
          rcases List.mem_append.mp hz with hz | hz
          · exact c0 z hz
          · rw [List.mem_singleton.mp hz]; exact hy
        · rw [upd_ne (ne_of_none e nc)]; exact sm _ _ e
        · rw [upd_same, List.map_append]; rfl
      refine ⟨.ref c, rfl, .inl ⟨rfl, _, .inl (.inl hc)⟩, .int z, rfl, _, _, rfl, rfl, _, rfl, ite2 (fun e => ?_) (fun e => ?_)⟩
      · exact ⟨_, rfl, .inl ⟨_, rfl, go z (of_decide_eq_true e)⟩⟩
      · exact ⟨_, rfl, .inl ⟨_, rfl, _, rfl, go (-z) (by have : ¬ (0 : Int) ≤ z := fun h => e (decide_eq_true h); omega)⟩⟩
    · rintro σ H' ⟨t, y, cs, rfl, t0, t1, c0, cl, sm, hc⟩
      refine ⟨_, rfl, _, rfl, (by show 4 ≤ sizeLine; decide), fun p np => q _ p ?_ (sm.free np) ?_⟩
      · exact sm.trans (same_updH np)
      · refine ⟨c, cs, 0, 0, t, upd_same, ?_, c0, by omega, by omega, ?_, by omega, t0, t1⟩
        · rw [upd_ne (ne_of_none hc np)]; exact hc
        · rw [cl, List.length_map]; exact hlen
theorem ok_take {f fM : Addr} {fd fdM : FuncData} {k : Nat} (F : Fun K "_law_take" "_law_take" sTake f fd) (FM : Fun K "_law_mixed" "_law_mixed" sMixed fM fdM) (bM : Binds K fdM ["_law_number_here", "_law_turn"] []) (gM : mg "_law_mixed" = some (.ref fM))
    (mi : mg "int" = none) (ml : mg "len" = none) : FnOk P w K mg base CX0 (k + 2) f fd ["_law_hand_here", "_law_many"] spTake := by
  have GM : FnOk P w K mg base CX0 (k + 1) fM fdM ["_law_number_here", "_law_turn"] spMixed := ok_mixed FM mi
  refine F.ok scTake (fun vs H Q E h => ?_) (fun cdv A outer s H vs Q E hr h => ?_)
  · obtain ⟨p, m, rfl, _⟩ := h; rfl
  · obtain ⟨p, m, rfl, hH, m0, m1, q⟩ := h
    obtain ⟨c, cs, i, r, t, hh⟩ := hH
    refine ⟨_, pss_cons (ps_if (PW.pt (pw_and (pt_cmpR op_eq (pe_ix ix_list (pv 0) pe_int (fun _ _ => rfl)) pe_int (nomark _))
          (pw_and1 (pt_cmpR op_lt (pe_ix ix_list (pv 0) pe_int (fun _ _ => rfl)) (pe_callB call_len_seq (by rfl) ml PySem.boot_len (pa_cons (pe_ix ix_list (pv 0) pe_int (fun _ _ => rfl)) pa_nil)) (nomark _)))))
        (pss_cons (ps_set (i := 2) scTake.nd rfl (.inl rfl) (pe_ix ix_list (pe_ix ix_list (pv 0) pe_int (fun _ _ => rfl)) (pe_ix ix_list (pv 0) pe_int (fun _ _ => rfl)) (fun _ _ => rfl)))
        (pss_cons (ps_asg (pe_op op_add (pe_ix ix_list (pv 0) pe_int (fun _ _ => rfl)) pe_int) (pg_sub (pv 0) pe_int set_list))
        (pss_cons (ps_if (pt_cmpR op_lt (pv 2) (pe_op op_pow pe_int pe_int) (nomark _))
          (pss_one (ps_ret (pe_op op_mod (pe_callTy call_int1 (by rfl) mi boot_int (pa_cons (pe_call GM hr (by rfl) gM FM.kp bM .nil pass0
            (pa_cons (pe_op op_mod (pe_callTy call_int1 (by rfl) mi boot_int (pa_cons (pv 2) pa_nil)) pe_int) (pa_cons (pe_ix ix_list (pv 0) pe_int (fun _ _ => rfl)) pa_nil))) pa_nil)) (pv 1)))) pss_nil)
        (pss_one (ps_asg (pv 2) (pg_sub (pv 0) pe_int set_list)))))) pss_nil)
      (pss_cons (ps_if (pt_cmpR op_gt (pe_ix ix_list (pv 0) pe_int (fun _ _ => rfl)) pe_int (nomark _))
        (pss_cons (ps_set (i := 3) scTake.nd rfl (.inl rfl) (pe_ix ix_list (pv 0) pe_int (fun _ _ => rfl)))
        (pss_cons (ps_asg (pe_op op_fdiv (pe_callTy call_int1 (by rfl) mi boot_int (pa_cons (pv 3) pa_nil)) (pv 1)) (pg_sub (pv 0) pe_int set_list))
        (pss_one (ps_ret (pe_op op_mod (pe_callTy call_int1 (by rfl) mi boot_int (pa_cons (pv 3) pa_nil)) (pv 1)))))) pss_nil)
      (pss_cons (ps_asg (pe_op op_mod (pe_callTy call_int1 (by rfl) mi boot_int (pa_cons (pe_op op_add (pe_ix ix_list (pv 0) pe_int (fun _ _ => rfl)) pe_int) pa_nil)) pe_int) (pg_sub (pv 0) pe_int set_list))
      (pss_one (ps_ret (pe_op op_mod (pe_callTy call_int1 (by rfl) mi boot_int (pa_cons (pe_call GM hr (by rfl) gM FM.kp bM .nil pass0
            (pa_cons (pe_ix ix_list (pv 0) pe_int (fun _ _ => rfl)) (pa_cons (pe_ix ix_list (pv 0) pe_int (fun _ _ => rfl)) pa_nil))) pa_nil)) (pv 1)))))), ?_⟩
    have nn := hh.ne
    obtain ⟨hp, hc, c0, i0, i1, cl, r0, t0, t1⟩ := id hh
    -- what stands behind the first if
    have tail : ∀ (H1 : Hp) (i r : Int) (x2 : Option V), HandIs H1 p c cs i r t → SameBut p H H1 → tSeq
        (tIfS (tTest (tOp (rI0 fun i j => .bl (decide (j < i))) (tOp (rIxL K) (tVar 0) (tC (.int 2))) (tC (.int 0)))) (tSeq (tAsg (tOp (rIxL K) (tVar 0) (tC (.int 2))) (gName 3))
          (tSeq (tAsg (tOp (rI CDiv fun i j => .int (i / j)) (tCB (fun xs H Q => (∃ i, xs = [.int i] ∧ Q (.int i) H) ∨ ∃ k, xs = [.bl k] ∧ Q (.int (if k then 1 else 0)) H) (tCons (tVar 3) tNil)) (tVar 1)) (gSub (tVar 0) (tC (.int 2)) rSetL))
            (tRet (tOp (rI (fun _ j => 0 < j) fun i j => .int (i % j)) (tCB (fun xs H Q => (∃ i, xs = [.int i] ∧ Q (.int i) H) ∨ ∃ k, xs = [.bl k] ∧ Q (.int (if k then 1 else 0)) H) (tCons (tVar 3) tNil)) (tVar 1))))) tNext)
        (tSeq (tAsg (tOp (rI (fun _ j => 0 < j) fun i j => .int (i % j)) (tCB (fun xs H Q => (∃ i, xs = [.int i] ∧ Q (.int i) H) ∨ ∃ k, xs = [.bl k] ∧ Q (.int (if k then 1 else 0)) H)
            (tCons (tOp (rI0 fun i j => .int (i + j)) (tOp (rIxL K) (tVar 0) (tC (.int 3))) (tC (.int 1))) tNil)) (tC (.int 2147483629))) (gSub (tVar 0) (tC (.int 3)) rSetL))
          (tRet (tOp (rI (fun _ j => 0 < j) fun i j => .int (i % j)) (tCB (fun xs H Q => (∃ i, xs = [.int i] ∧ Q (.int i) H) ∨ ∃ k, xs = [.bl k] ∧ Q (.int (if k then 1 else 0)) H)
            (tCons (tCall spMixed [] E0 (tCons (tOp (rIxL K) (tVar 0) (tC (.int 3))) (tCons (tOp (rIxL K) (tVar 0) (tC (.int 1))) tNil))) tNil)) (tVar 1))))
        { nx := fun _ H' => Q .non H', rt := Q } [some (.ref p), some (.int m), x2, none] H1 := by
      intro H1 i r x2 h1 sb
      obtain ⟨hp1, hc1, _, i0', i1', _, r0', _, _⟩ := id h1
      refine ⟨.ref p, rfl, p, _, 2, _, rfl, rfl, .of hp1, rfl, _, _, rfl, rfl, _, rfl, ite2 (fun e => ?_) (fun e => ?_)⟩
      · have rp : 0 < r := of_decide_eq_true e
        refine ⟨.ref p, rfl, p, _, 2, _, rfl, rfl, .of hp1, rfl, .int r, rfl, .inl ⟨_, rfl, .int m, rfl, _, _, rfl, rfl, ⟨m0, m1⟩, .ref p, rfl, p, _, 2, 2, rfl, rfl, hp1, rfl, ?_⟩⟩
        refine ⟨.int r, rfl, .inl ⟨_, rfl, .int m, rfl, _, _, rfl, rfl, m0, q _ _ (Int.emod_nonneg _ (by omega)) (Int.emod_lt_of_pos _ m0) ⟨c, cs, i, r / m, t, ?_⟩ (sb.trans (sb_upd hp1))⟩⟩
        exact h1.put i0' i1' (Int.ediv_nonneg r0' (by omega)) t0 t1
      · refine ⟨.ref p, rfl, p, _, 3, _, rfl, rfl, .of hp1, rfl, _, _, rfl, rfl, .inl ⟨_, rfl, _, _, rfl, rfl, (by show (0 : Int) < _; decide), .ref p, rfl, p, _, 3, 3, rfl, rfl, hp1, rfl, ?_⟩⟩
        have z0 : 0 ≤ (t + 1) % 2147483629 := by omega
        have z1 : (t + 1) % 2147483629 < 2147483629 := by omega
        have h2 := h1.put (i' := i) (r' := r) i0' i1' r0' z0 z1
        refine ⟨.ref p, rfl, p, _, 3, _, rfl, rfl, .of upd_same, rfl, .ref p, rfl, p, _, 1, _, rfl, rfl, .of upd_same, rfl, _, _, rfl, z0, by omega, i0', by omega, fun z => .inl ⟨_, rfl, .int m, rfl, _, _, rfl, rfl, m0, ?_⟩⟩
        exact q _ _ (Int.emod_nonneg _ (by omega)) (Int.emod_lt_of_pos _ m0) ⟨c, cs, i, r, _, h2⟩ (sb.trans (sb_upd hp1))
    refine ⟨.ref p, rfl, p, _, 2, _, rfl, rfl, .of hp, rfl, rfl, _, rfl, ite2 (fun e => ?_) (fun e => ?_)⟩
    · have re : r = 0 := V.int.inj (of_decide_eq_true e)
      refine ⟨.ref p, rfl, p, _, 1, _, rfl, rfl, .of hp, rfl, .ref p, rfl, p, _, 0, _, rfl, rfl, .of hp, rfl, c, _, rfl, .inl (.of hc), _, _, rfl, rfl, _, rfl, ite2 (fun e => ?_) (fun e => ?_)⟩
      · have il : i < cs.length := by
          have := of_decide_eq_true e
          rw [List.length_map] at this
          exact this
        obtain ⟨n, rfl⟩ := Int.eq_ofNat_of_zero_le i0
        have nl : n < cs.length := by omega
        have g : (cs.map V.int)[n]? = some (.int cs[n]) := by rw [List.getElem?_map, List.getElem?_eq_getElem nl]; rfl
        have z0 : 0 ≤ cs[n] := c0 _ (List.getElem_mem nl)
        have h2 := hh.put (i' := n + 1) (r' := r) (t' := t) (by omega) (by omega) r0 t0 t1
        refine ⟨.ref p, rfl, p, _, 0, _, rfl, rfl, .of hp, rfl, .ref p, rfl, p, _, 1, _, rfl, rfl, .of hp, rfl, c, _, _, _, rfl, rfl, .of hc, atI_nat g, ?_⟩
        refine ⟨.ref p, rfl, p, _, 1, _, rfl, rfl, .of hp, rfl, _, _, rfl, rfl, .ref p, rfl, p, _, 1, 1, rfl, rfl, hp, rfl, ?_⟩
        refine ⟨_, rfl, _, _, rfl, rfl, ⟨by decide, by decide, by decide⟩, _, _, rfl, rfl, _, rfl, ite2 (fun e => ?_) (fun e => ?_)⟩
        · refine ⟨_, rfl, .inl ⟨_, rfl, _, _, rfl, rfl, (by show (0 : Int) < _; decide), .ref p, rfl, p, _, 1, _, rfl, rfl, .of upd_same, rfl, _, _, rfl, by omega, by omega, by omega, by omega, fun z => .inl ⟨_, rfl, .int m, rfl, _, _, rfl, rfl, m0, ?_⟩⟩⟩
          exact q _ _ (Int.emod_nonneg _ (by omega)) (Int.emod_lt_of_pos _ m0) ⟨c, cs, _, r, t, h2⟩ (sb_upd hp)
        · refine ⟨_, rfl, .ref p, rfl, p, _, 2, 2, rfl, rfl, upd_same, rfl, ?_⟩
          rw [upd_upd]
          exact tail _ (n + 1) _ _ (hh.put (by omega) (by omega) z0 t0 t1) (sb_upd hp)
      · exact tail H i r _ hh SameBut.rfl
    · exact tail H i r _ hh SameBut.rfl

theorem dkHand (T : Txt K mg "_law_hand" sHand) (mint : mg "int" = none) (mlen : mg "len" = none) : DefOk P w K mg base CX0 "_law_hand" 1 ["_law_script"] (spHand K) := by
  obtain ⟨f, fd, F, g⟩ := T
  exact ⟨f, fd, g, F.kp, F.binds (fun _ _ _ _ _ _ us hl => match us, hl with | [_], _ => rfl), ok_hand (k := 0) F mint mlen⟩
theorem dkTake (T : Txt K mg "_law_take" sTake) (TM : Txt K mg "_law_mixed" sMixed) (mint : mg "int" = none) (mlen : mg "len" = none) : DefOk P w K mg base CX0 "_law_take" 2 ["_law_hand_here", "_law_many"] spTake := by
  obtain ⟨f, fd, F, g⟩ := T
  obtain ⟨fM, fdM, FM, gM⟩ := TM
  exact ⟨f, fd, g, F.kp, F.binds (fun _ _ _ _ _ _ us hl => match us, hl with | [_, _], _ => rfl), ok_take (k := 0) F FM (FM.binds (fun _ _ _ _ _ _ us hl => match us, hl with | [_, _], _ => rfl)) gM mint mlen⟩
/-- the hand goes on; data without lists stays -/
theorem HandAt.dp {H H' : Hp} {p : Addr} {v : V} {d : PyData} (h : HandAt H p) (s : SameBut p H H') (n : noL d = true) (k : Dp K H v d) : Dp K H' v d := by
  obtain ⟨c, cs, i, r, t, a, _⟩ := h
  exact Dp_but a s.1 n k
theorem noL_r (r : Rt) : noL (rD r) = true := by simp [rD, noL, noLs]
theorem noL_p (p : Pl) : noL (pD p) = true := by simp [pD, rD, noL, noLs]
theorem Same.but {H H' : Hp} {p : Addr} (s : Same H H') : SameBut p H H' := ⟨fun b o _ e => s b o e, fun c l e => ⟨l, s _ _ e⟩⟩
/-! what is drawn -/
def spNum (n : Nat) : Sp := fun vs H Q _ => ∃ p, vs = [.ref p] ∧ HandAt H p ∧ ∀ (x : Int) H', Sz n x → HandAt H' p → SameBut p H H' → Q (.int x) H'
def spDraw (K : PySem.W.Frag) (ok : Rt → Prop) : Sp := fun vs H Q _ => ∃ p, vs = [.ref p] ∧ HandAt H p ∧ ∀ (r : Rt) v H', ok r → Dp K H' v (rD r) → HandAt H' p → SameBut p H H' → Q v H'
def spDrawP (K : PySem.W.Frag) : Sp := fun vs H Q _ => ∃ p, vs = [.ref p] ∧ HandAt H p ∧ ∀ (r : Pl) v H', RatP r → SzP 151 r → Dp K H' v (pD r) → HandAt H' p → SameBut p H H' → Q v H'
abbrev s_law_number : Stmt := topS 53
theorem sc_law_number : FnScope ["_law_hand_here", "_law_kind", "_law_total", "_law_turn"] ["_law_hand_here"] (defScope s_law_number) := ⟨rfl, rfl, rfl, by decide +kernel, rfl, by decide +kernel, by decide +kernel⟩
theorem ok_law_number (T : Txt K mg "_law_number" s_law_number) (G_law_take : DefOk P w K mg base CX0 "_law_take" 2 ["_law_hand_here", "_law_many"] spTake) (mrange : mg "range" = none) : DefOk P w K mg base CX0 "_law_number" 3 ["_law_hand_here"] (spNum 151) := by
  obtain ⟨f, fd, F, gf⟩ := T
  refine ⟨f, fd, gf, F.kp, F.binds (fun _ _ _ _ _ _ us hl => match us, hl with | [_], _ => rfl), F.ok sc_law_number (fun vs H Q E h => ?_) (fun cdv A outer s H vs Q E hr h => ?_)⟩
  · obtain ⟨p, rfl, _⟩ := h; rfl
  · obtain ⟨p, rfl, hH, q⟩ := h
    refine ⟨_, (pss_cons (ps_set (i := 1) sc_law_number.nd rfl (.inl rfl) (pe_def G_law_take (hr.mono (by decide)) (by rfl) (pa_cons (pv 0) (pa_cons pe_int pa_nil)))) (pss_cons (ps_if (pt_cmpR op_lt (pv 1) pe_int (nomark _)) (pss_one (ps_ret (pe_op op_sub (pe_def G_law_take (hr.mono (by decide)) (by rfl) (pa_cons (pv 0) (pa_cons pe_int pa_nil))) pe_int))) pss_nil) (pss_cons (ps_set (i := 2) sc_law_number.nd rfl (.inl rfl) pe_int) (pss_cons (ps_for PassesOwn.never rfl (pi_range1 (by rfl) mrange (pa_cons (pe_ifExp (pt_cmpR op_lt (pv 1) pe_int (nomark _)) pe_int pe_int) pa_nil)) (pg_name (i := 3) sc_law_number.nd rfl (.inl rfl)) (pss_one (ps_set (i := 2) sc_law_number.nd rfl (.inl rfl) (pe_op op_add (pe_op op_mulW (pv 2) (pe_op op_pow pe_int pe_int)) (pe_def G_law_take (hr.mono (by decide)) (by rfl) (pa_cons (pv 0) (pa_cons (pe_op op_pow pe_int pe_int) pa_nil))))))) (pss_one (ps_ret (pe_op op_mulW (pv 2) (pe_op op_sub pe_int (pe_op op_mulW pe_int (pe_def G_law_take (hr.mono (by decide)) (by rfl) (pa_cons (pv 0) (pa_cons pe_int pa_nil)))))))))))), ?_⟩
    have ten : CPow 10 9 := ⟨by decide, by decide, by decide⟩
    refine ⟨.ref p, rfl, p, 9, rfl, hH, by decide, by decide, fun k H1 k0 k9 h1 s1 => ?_⟩
    refine ⟨_, rfl, _, _, rfl, rfl, _, rfl, ite2 (fun e => ?_) (fun e => ?_)⟩
    · refine ⟨.ref p, rfl, p, 25, rfl, h1, by decide, by decide, fun x H2 x0 x25 h2 s2 => ⟨_, _, rfl, rfl, q _ _ ?_ h2 (s1.trans s2)⟩⟩
      exact sz_mono (n := 5) (by show (x - 12).natAbs < 2 ^ 5; omega) (by decide)
    · have run : ∀ n : Nat, n ≤ 5 → tFor (iRng1 (fun _ H Q => Q [.int (n : Int)] H)) (gName 3) (tAsg (tOp (rI0 fun i j => .int (i + j)) (tOp (rI CMulW fun i j => .int (i * j)) (tVar 2) (tOp (rI CPow fun i j => .int (i ^ j.toNat)) (tC (.int 10)) (tC (.int 9))))
          (tCall spTake [] E0 (tCons (tVar 0) (tCons (tOp (rI CPow fun i j => .int (i ^ j.toNat)) (tC (.int 10)) (tC (.int 9))) tNil)))) (gName 2))
          ⟨tRet (tOp (rI CMulW fun i j => .int (i * j)) (tVar 2) (tOp (rI0 fun i j => .int (i - j)) (tC (.int 1)) (tOp (rI CMulW fun i j => .int (i * j)) (tC (.int 2)) (tCall spTake [] E0 (tCons (tVar 0) (tCons (tC (.int 2)) tNil)))))) ⟨fun _ H' => Q .non H', Q, fun _ _ => False, fun _ _ => False⟩, Q, fun _ _ => False, fun _ _ => False⟩
          [some (.ref p), some (.int k), some (.int 0), none] H1 := fun n hn => by
        have big : ∀ i : Nat, i ≤ 5 → ((10 : Int) ^ 9) ^ i ≤ 2 ^ 150 := fun i hi => by
          match i, hi with
          | 0, _ => decide
          | 1, _ => decide
          | 2, _ => decide
          | 3, _ => decide
          | 4, _ => decide
          | 5, _ => decide
        have szb : ∀ (i : Nat) (t : Int), i ≤ 5 → 0 ≤ t → t < ((10 : Int) ^ 9) ^ i → Sz 150 t := fun i t hi t0 t1 => by
          have b := big i hi
          have c : t < 2 ^ 150 := Int.lt_of_lt_of_le t1 b
          show t.natAbs < 2 ^ 150
          have d : ((t.natAbs : Nat) : Int) = t := Int.natAbs_of_nonneg t0
          have e : ((t.natAbs : Nat) : Int) < ((2 ^ 150 : Nat) : Int) := by rw [d]; exact c
          exact Int.ofNat_lt.mp e
        refine ⟨_, rfl, by omega, by omega, for_range (n := n) (fun i σ H' => ∃ (t : Int) (y : Option V), σ = [some (.ref p), some (.int k), some (.int t), y] ∧ 0 ≤ t ∧ t < ((10 : Int) ^ 9) ^ i ∧ HandAt H' p ∧ SameBut p H1 H')
          ⟨0, none, rfl, by decide, by decide, h1, SameBut.rfl⟩ ?_ ?_⟩
        · rintro i σ H' hi ⟨t, y, rfl, t0, t1, h2, s2⟩
          refine ⟨_, rfl, _, _, rfl, rfl, ten, _, _, rfl, rfl, wide_mul (szb i t (by omega) t0 t1) (by decide : ((10 : Int) ^ (9 : Int).toNat).natAbs < 2 ^ 30) (by decide) (by decide) (by decide), ?_⟩
          refine ⟨.ref p, rfl, _, _, rfl, rfl, ten, p, _, rfl, h2, by decide, by decide, fun x H3 x0 x1 h3 s3 => ⟨_, _, rfl, rfl, _, _, rfl, ?_, ?_, h3, s2.trans s3⟩⟩
          · have : (0 : Int) ≤ t * 10 ^ (9 : Int).toNat := Int.mul_nonneg t0 (by decide)
            omega
          · show t * 10 ^ (9 : Int).toNat + x < ((10 : Int) ^ 9) ^ (i + 1)
            have e : (10 : Int) ^ (9 : Int).toNat = 1000000000 := by decide
            have e2 : ((10 : Int) ^ 9) = 1000000000 := by decide
            rw [e] at x1 ⊢
            rw [e2] at t1 ⊢
            rw [Int.pow_succ]
            generalize (1000000000 : Int) ^ i = m at t1 ⊢
            omega
        · rintro σ H' ⟨t, y, rfl, t0, t1, h2, s2⟩
          have tz := szb n t hn t0 t1
          refine ⟨_, rfl, .ref p, rfl, p, 2, rfl, h2, by decide, by decide, fun x H3 x0 x2 h3 s3 => ?_⟩
          have xz : Sz 1 (1 - 2 * x) := by show (1 - 2 * x).natAbs < 2; omega
          refine ⟨_, _, rfl, rfl, wide_mul (by decide : (2 : Int).natAbs < 2 ^ 2) (by show x.natAbs < 2 ^ 2; omega) (by decide) (by decide) (by decide), _, _, rfl, rfl, _, _, rfl, rfl, wide_mul tz xz (by decide) (by decide) (by decide), q _ _ ?_ h3 ((s1.trans s2).trans s3)⟩
          exact sz_mul tz xz
      refine ⟨_, rfl, _, _, rfl, rfl, _, rfl, ite2 (fun e => ?_) (fun e => ?_)⟩
      · exact run 1 (by decide)
      · exact run 5 (by decide)
end
end F3
set_option Elab.async false
set_option linter.all false
set_option maxRecDepth 100000
set_option maxHeartbeats 4000000
set_option exponentiation.threshold 3000
namespace F3
open PySem PySem.Spec PyProof.Rows L2 FX RM PB
def Lay (K : PySem.W.Frag) (t : TA) (rs : List Rt) : Prop := ∀ σ H (Q : List V → Hp → Prop), (∀ H' vs, Same H H' → DpAll K H' vs (rs.map rD) → Q vs H') → t σ H Q
theorem lay_nil {K : PySem.W.Frag} : Lay K tNil [] := fun _ H Q q => q H [] (fun _ _ e => e) .nil
theorem lay_cons {K : PySem.W.Frag} {a b : Int} {t2 t : TA} {rs : List Rt} (h : ∀ σ H (Q : List V → Hp → Prop), Q [.int a, .int b] H → t2 σ H Q) (k : Lay K t rs) : Lay K (tCons (tTup t2) t) ((a, b) :: rs) :=
  fun σ H Q q => h σ H _ ⟨(by show 2 ≤ sizeLine; decide), fun p np => k σ _ _ fun H' vs s hv => q H' (.ref p :: vs) ((PB.same_new np).trans s) (.cons (Dp_same s (dp_mkr np)) hv)⟩
theorem DpAll_app {K : PySem.W.Frag} {H : Hp} : ∀ {vs us : List V} {ds es : List PyData}, DpAll K H vs ds → DpAll K H us es → DpAll K H (vs ++ us) (ds ++ es)
  | _, _, _, _, .nil, h => h
  | _, _, _, _, .cons a b, h => .cons a (DpAll_app b h)
section
variable {P : Program} {w : World} {K : PySem.W.Frag} {mg : Str → Option Value} {base : Heap}
def rows1 : List Rt := [(1, 0), (0, 1), (-1, 0), (0, -1), (1, 1), (-1, 1), (-1, -1), (1, -1)]
def rows2 : List Rt := [(2, 1), (1, 2), (-1, 2), (-2, 1), (-2, -1), (-1, -2), (1, -2), (2, -1)]
theorem rows_sz : ∀ r ∈ rows1 ++ rows2, SzR 151 r := fun r hr => szr_mono (n := 2) ((by decide : ∀ r ∈ rows1 ++ rows2, r.1.natAbs < 2 ^ 2 ∧ r.2.natAbs < 2 ^ 2) r hr) (by decide)
theorem lay1 : Lay K (tCons (tTup (tCons (tC (.int 1)) (tCons (tC (.int 0)) tNil))) (tCons (tTup (tCons (tC (.int 0)) (tCons (tC (.int 1)) tNil))) (tCons (tTup (tCons (tUn (rU fun i => .int (-i)) (tC (.int 1))) (tCons (tC (.int 0)) tNil))) (tCons (tTup (tCons (tC (.int 0)) (tCons (tUn (rU fun i => .int (-i)) (tC (.int 1))) tNil))) (tCons (tTup (tCons (tC (.int 1)) (tCons (tC (.int 1)) tNil))) (tCons (tTup (tCons (tUn (rU fun i => .int (-i)) (tC (.int 1))) (tCons (tC (.int 1)) tNil))) (tCons (tTup (tCons (tUn (rU fun i => .int (-i)) (tC (.int 1))) (tCons (tUn (rU fun i => .int (-i)) (tC (.int 1))) tNil))) (tCons (tTup (tCons (tC (.int 1)) (tCons (tUn (rU fun i => .int (-i)) (tC (.int 1))) tNil))) (tNil))))))))) rows1 := (lay_cons (fun _ _ _ q => q) (lay_cons (fun _ _ _ q => q) (lay_cons (fun _ _ _ q => ⟨_, rfl, q⟩) (lay_cons (fun _ _ _ q => ⟨_, rfl, q⟩) (lay_cons (fun _ _ _ q => q) (lay_cons (fun _ _ _ q => ⟨_, rfl, q⟩) (lay_cons (fun _ _ _ q => ⟨_, rfl, _, rfl, q⟩) (lay_cons (fun _ _ _ q => ⟨_, rfl, q⟩) lay_nil))))))))
theorem lay2 : Lay K (tCons (tTup (tCons (tC (.int 2)) (tCons (tC (.int 1)) tNil))) (tCons (tTup (tCons (tC (.int 1)) (tCons (tC (.int 2)) tNil))) (tCons (tTup (tCons (tUn (rU fun i => .int (-i)) (tC (.int 1))) (tCons (tC (.int 2)) tNil))) (tCons (tTup (tCons (tUn (rU fun i => .int (-i)) (tC (.int 2))) (tCons (tC (.int 1)) tNil))) (tCons (tTup (tCons (tUn (rU fun i => .int (-i)) (tC (.int 2))) (tCons (tUn (rU fun i => .int (-i)) (tC (.int 1))) tNil))) (tCons (tTup (tCons (tUn (rU fun i => .int (-i)) (tC (.int 1))) (tCons (tUn (rU fun i => .int (-i)) (tC (.int 2))) tNil))) (tCons (tTup (tCons (tC (.int 1)) (tCons (tUn (rU fun i => .int (-i)) (tC (.int 2))) tNil))) (tCons (tTup (tCons (tC (.int 2)) (tCons (tUn (rU fun i => .int (-i)) (tC (.int 1))) tNil))) (tNil))))))))) rows2 := (lay_cons (fun _ _ _ q => q) (lay_cons (fun _ _ _ q => q) (lay_cons (fun _ _ _ q => ⟨_, rfl, q⟩) (lay_cons (fun _ _ _ q => ⟨_, rfl, q⟩) (lay_cons (fun _ _ _ q => ⟨_, rfl, _, rfl, q⟩) (lay_cons (fun _ _ _ q => ⟨_, rfl, _, rfl, q⟩) (lay_cons (fun _ _ _ q => ⟨_, rfl, q⟩) (lay_cons (fun _ _ _ q => ⟨_, rfl, q⟩) lay_nil))))))))
abbrev s_law_way : Stmt := topS 52
theorem sc_law_way : FnScope ["_law_hand_here", "_law_rows"] ["_law_hand_here"] (defScope s_law_way) := ⟨rfl, rfl, rfl, by decide +kernel, rfl, by decide +kernel, by decide +kernel⟩
theorem ok_law_way (T : Txt K mg "_law_way" s_law_way) (G_law_take : DefOk P w K mg base CX0 "_law_take" 2 ["_law_hand_here", "_law_many"] spTake) : DefOk P w K mg base CX0 "_law_way" 3 ["_law_hand_here"] (spDraw K (SzR 151)) := by
  obtain ⟨f, fd, F, gf⟩ := T
  refine ⟨f, fd, gf, F.kp, F.binds (fun _ _ _ _ _ _ us hl => match us, hl with | [_], _ => rfl), F.ok sc_law_way (fun vs H Q E h => ?_) (fun cdv A outer s H vs Q E hr h => ?_)⟩
  · obtain ⟨p, rfl, _⟩ := h; rfl
  · obtain ⟨p, rfl, hH, q⟩ := h
    refine ⟨_, (pss_cons (ps_set (i := 1) sc_law_way.nd rfl (.inl rfl) (pe_lst (pa_cons (pe_tup (pa_cons pe_int (pa_cons pe_int pa_nil))) (pa_cons (pe_tup (pa_cons pe_int (pa_cons pe_int pa_nil))) (pa_cons (pe_tup (pa_cons (pe_un un_neg pe_int) (pa_cons pe_int pa_nil))) (pa_cons (pe_tup (pa_cons pe_int (pa_cons (pe_un un_neg pe_int) pa_nil))) (pa_cons (pe_tup (pa_cons pe_int (pa_cons pe_int pa_nil))) (pa_cons (pe_tup (pa_cons (pe_un un_neg pe_int) (pa_cons pe_int pa_nil))) (pa_cons (pe_tup (pa_cons (pe_un un_neg pe_int) (pa_cons (pe_un un_neg pe_int) pa_nil))) (pa_cons (pe_tup (pa_cons pe_int (pa_cons (pe_un un_neg pe_int) pa_nil))) pa_nil)))))))))) (pss_cons (ps_set (i := 1) sc_law_way.nd rfl (.inl rfl) (pe_op op_cat (pv 1) (pe_lst (pa_cons (pe_tup (pa_cons pe_int (pa_cons pe_int pa_nil))) (pa_cons (pe_tup (pa_cons pe_int (pa_cons pe_int pa_nil))) (pa_cons (pe_tup (pa_cons (pe_un un_neg pe_int) (pa_cons pe_int pa_nil))) (pa_cons (pe_tup (pa_cons (pe_un un_neg pe_int) (pa_cons pe_int pa_nil))) (pa_cons (pe_tup (pa_cons (pe_un un_neg pe_int) (pa_cons (pe_un un_neg pe_int) pa_nil))) (pa_cons (pe_tup (pa_cons (pe_un un_neg pe_int) (pa_cons (pe_un un_neg pe_int) pa_nil))) (pa_cons (pe_tup (pa_cons pe_int (pa_cons (pe_un un_neg pe_int) pa_nil))) (pa_cons (pe_tup (pa_cons pe_int (pa_cons (pe_un un_neg pe_int) pa_nil))) pa_nil))))))))))) (pss_one (ps_ret (pe_ix ix_list (pv 1) (pe_def G_law_take (hr.mono (by decide)) (by rfl) (pa_cons (pv 0) (pa_cons pe_int pa_nil))) (fun _ _ => rfl)))))), ?_⟩
    dsimp only [tSeq, tAsg, tLst]
    refine lay1 (K := K) _ _ _ fun H1 vs s1 hv => ?_
    have lv : vs.length = 8 := DpAll_len hv
    refine ⟨by rw [lv]; decide, fun l nl => ?_⟩
    dsimp only [gName, tOp, tVar]
    refine ⟨.ref l, rfl, ?_⟩
    refine lay2 (K := K) _ _ _ fun H2 us s2 hu => ?_
    have lu : us.length = 8 := DpAll_len hu
    refine ⟨by rw [lu]; decide, fun m nm => ?_⟩
    have e1 : H2 l = some (.lst vs) := s2 _ _ upd_same
    have ne : l ≠ m := ne_of_none e1 nm
    refine ⟨l, m, vs, us, rfl, rfl, by rw [upd_ne ne]; exact e1, upd_same, by rw [lv, lu]; decide, fun n nn => ?_⟩
    have hl3 : (upd (upd H2 m (.lst us)) n (.lst (vs ++ us))) n = some (.lst (vs ++ us)) := upd_same
    have s3 : Same H (upd (upd H2 m (.lst us)) n (.lst (vs ++ us))) := ((s1.trans (PB.same_new nl)).trans (s2.trans (PB.same_new nm))).trans (PB.same_new nn)
    have hall : DpAll K (upd (upd H2 m (.lst us)) n (.lst (vs ++ us))) (vs ++ us) ((rows1 ++ rows2).map rD) := by
      rw [List.map_append]
      refine DpAll_app (DpAll_same ?_ hv) (DpAll_same ?_ hu)
      · exact ((PB.same_new nl).trans (s2.trans (PB.same_new nm))).trans (PB.same_new nn)
      · exact (PB.same_new nm).trans (PB.same_new nn)
    have hnp : n ≠ p := by
      obtain ⟨c, cs, i, r, t, a, _⟩ := hH
      intro e
      have : (upd H2 m (.lst us)) p = some (.lst _) := ((s1.trans (PB.same_new nl)).trans (s2.trans (PB.same_new nm))) _ _ a
      rw [e, this] at nn
      cases nn
    have hH3 := hH.same s3
    generalize upd (upd H2 m (.lst us)) n (.lst (vs ++ us)) = H3 at hl3 s3 hall hH3 ⊢
    refine ⟨.ref n, rfl, .ref p, rfl, p, 16, rfl, hH3, by decide, by decide, fun x H4 x0 x1 h4 s4 => ?_⟩
    have lx : x.toNat < (vs ++ us).length := by rw [List.length_append, lv, lu]; omega
    have ex : (vs ++ us)[x.toNat]? = some (vs ++ us)[x.toNat] := List.getElem?_eq_getElem lx
    obtain ⟨d, ed, hd⟩ := DpAll_at hall ex
    rw [List.getElem?_map] at ed
    cases er : (rows1 ++ rows2)[x.toNat]? with
    | none => rw [er] at ed; cases ed
    | some r =>
      rw [er] at ed
      cases ed
      refine ⟨n, _, x, _, rfl, rfl, .inl (.inl (s4.1 _ _ hnp hl3)), ?_, q r _ _ (rows_sz r (List.mem_of_getElem? er)) (hH3.dp s4 (noL_r r) hd) h4 ((Same.but s3).trans s4)⟩
      have := atI_nat ex
      rw [Int.toNat_of_nonneg x0] at this
      exact this
abbrev s_law_small : Stmt := topS 55
theorem sc_law_small : FnScope ["_law_hand_here"] ["_law_hand_here"] (defScope s_law_small) := ⟨rfl, rfl, rfl, by decide +kernel, rfl, by decide +kernel, by decide +kernel⟩
theorem ok_law_small (T : Txt K mg "_law_small" s_law_small) (G_law_take : DefOk P w K mg base CX0 "_law_take" 2 ["_law_hand_here", "_law_many"] spTake) (G_law_ratio : DefOk P w K mg base CX0 "_law_ratio" 2 ["_law_top", "_law_bottom"] (spLow K)) : DefOk P w K mg base CX0 "_law_small" 3 ["_law_hand_here"] (spDraw K fun r => IsRat r ∧ SzR 5 r) := by
  obtain ⟨f, fd, F, gf⟩ := T
  refine ⟨f, fd, gf, F.kp, F.binds (fun _ _ _ _ _ _ us hl => match us, hl with | [_], _ => rfl), F.ok sc_law_small (fun vs H Q E h => ?_) (fun cdv A outer s H vs Q E hr h => ?_)⟩
  · obtain ⟨p, rfl, _⟩ := h; rfl
  · obtain ⟨p, rfl, hH, q⟩ := h
    refine ⟨_, (pss_one (ps_ret (pe_def G_law_ratio (hr.mono (by decide)) (by rfl) (pa_cons (pe_op op_sub (pe_def G_law_take (hr.mono (by decide)) (by rfl) (pa_cons (pv 0) (pa_cons pe_int pa_nil))) pe_int) (pa_cons (pe_op op_add pe_int (pe_def G_law_take (hr.mono (by decide)) (by rfl) (pa_cons (pv 0) (pa_cons pe_int pa_nil)))) pa_nil))))), ?_⟩
    refine ⟨.ref p, rfl, p, 13, rfl, hH, by decide, by decide, fun x H1 x0 x13 h1 s1 => ⟨_, _, rfl, rfl, ?_⟩⟩
    refine ⟨.ref p, rfl, p, 4, rfl, h1, by decide, by decide, fun y H2 y0 y4 h2 s2 => ⟨_, _, rfl, rfl, ?_⟩⟩
    have z1 : Sz 5 (x - 6) := by show (x - 6).natAbs < 2 ^ 5; omega
    have z2 : Sz 5 (1 + y) := by show (1 + y).natAbs < 2 ^ 5; omega
    have b0 : 0 < 1 + y := by omega
    exact ⟨_, _, rfl, b0, sz_mono z1 (by decide), sz_mono z2 (by decide), fun H3 v s3 hv => q _ _ _ ⟨norm_rat b0, szr_norm b0 z1 z2⟩ hv (h2.same s3) ((s1.trans s2).trans (Same.but s3))⟩
abbrev s_law_place : Stmt := topS 56
theorem sc_law_place : FnScope ["_law_hand_here"] ["_law_hand_here"] (defScope s_law_place) := ⟨rfl, rfl, rfl, by decide +kernel, rfl, by decide +kernel, by decide +kernel⟩
theorem ok_law_place (T : Txt K mg "_law_place" s_law_place) (G_law_take : DefOk P w K mg base CX0 "_law_take" 2 ["_law_hand_here", "_law_many"] spTake) (G_law_small : DefOk P w K mg base CX0 "_law_small" 3 ["_law_hand_here"] (spDraw K fun r => IsRat r ∧ SzR 5 r)) (G_law_number : DefOk P w K mg base CX0 "_law_number" 3 ["_law_hand_here"] (spNum 151)) (G_law_ratio : DefOk P w K mg base CX0 "_law_ratio" 2 ["_law_top", "_law_bottom"] (spLow K)) : DefOk P w K mg base CX0 "_law_place" 4 ["_law_hand_here"] (spDrawP K) := by
  obtain ⟨f, fd, F, gf⟩ := T
  refine ⟨f, fd, gf, F.kp, F.binds (fun _ _ _ _ _ _ us hl => match us, hl with | [_], _ => rfl), F.ok sc_law_place (fun vs H Q E h => ?_) (fun cdv A outer s H vs Q E hr h => ?_)⟩
  · obtain ⟨p, rfl, _⟩ := h; rfl
  · obtain ⟨p, rfl, hH, q⟩ := h
    refine ⟨_, (pss_cons (ps_if (pt_truth (pe_def G_law_take (hr.mono (by decide)) (by rfl) (pa_cons (pv 0) (pa_cons pe_int pa_nil))) (fun _ => rfl)) (pss_one (ps_ret (pe_tup (pa_cons (pe_def G_law_small (hr.mono (by decide)) (by rfl) (pa_cons (pv 0) pa_nil)) (pa_cons (pe_def G_law_small (hr.mono (by decide)) (by rfl) (pa_cons (pv 0) pa_nil)) pa_nil))))) pss_nil) (pss_one (ps_ret (pe_tup (pa_cons (pe_def G_law_ratio (hr.mono (by decide)) (by rfl) (pa_cons (pe_def G_law_number (hr.mono (by decide)) (by rfl) (pa_cons (pv 0) pa_nil)) (pa_cons (pe_op op_add pe_int (pe_def G_law_take (hr.mono (by decide)) (by rfl) (pa_cons (pv 0) (pa_cons pe_int pa_nil)))) pa_nil))) (pa_cons (pe_def G_law_ratio (hr.mono (by decide)) (by rfl) (pa_cons (pe_def G_law_number (hr.mono (by decide)) (by rfl) (pa_cons (pv 0) pa_nil)) (pa_cons (pe_op op_add pe_int (pe_def G_law_take (hr.mono (by decide)) (by rfl) (pa_cons (pv 0) (pa_cons pe_int pa_nil)))) pa_nil))) pa_nil)))))), ?_⟩
    refine ⟨.ref p, rfl, p, 4, rfl, hH, by decide, by decide, fun k H1 k0 k4 h1 s1 => ?_⟩
    refine ⟨_, rfl, ite2 (fun e => ?_) (fun e => ?_)⟩
    · refine ⟨.ref p, rfl, p, rfl, h1, fun r1 v1 H2 o1 hv1 h2 s2 => ?_⟩
      refine ⟨.ref p, rfl, p, rfl, h2, fun r2 v2 H3 o2 hv2 h3 s3 => ?_⟩
      refine ⟨(by show 2 ≤ sizeLine; decide), fun a na => ?_⟩
      have sn := PB.same_new (o := .tup [v1, v2]) na
      exact q (r1, r2) _ _ ⟨o1.1, o2.1⟩ ⟨szr_mono o1.2 (by decide), szr_mono o2.2 (by decide)⟩ (dp_mk2 na (h2.dp s3 (noL_r _) hv1) hv2) (h3.same sn) (((s1.trans s2).trans s3).trans (Same.but sn))
    · refine ⟨.ref p, rfl, p, rfl, h1, fun xa H2 za h2 s2 => ?_⟩
      refine ⟨.ref p, rfl, p, 7, rfl, h2, by decide, by decide, fun ya H3 y0a y7a h3 s3 => ⟨_, _, rfl, rfl, ?_⟩⟩
      have zza : Sz 151 (1 + ya) := sz_mono (n := 4) (by show (1 + ya).natAbs < 2 ^ 4; omega) (by decide)
      have b0a : 0 < 1 + ya := by omega
      refine ⟨_, _, rfl, b0a, sz_mono za (by decide), sz_mono zza (by decide), fun H4 va s4 hva => ?_⟩
      have h4 := h3.same s4
      refine ⟨.ref p, rfl, p, rfl, h4, fun xb H5 zb h5 s5 => ?_⟩
      refine ⟨.ref p, rfl, p, 7, rfl, h5, by decide, by decide, fun yb H6 y0b y7b h6 s6 => ⟨_, _, rfl, rfl, ?_⟩⟩
      have zzb : Sz 151 (1 + yb) := sz_mono (n := 4) (by show (1 + yb).natAbs < 2 ^ 4; omega) (by decide)
      have b0b : 0 < 1 + yb := by omega
      refine ⟨_, _, rfl, b0b, sz_mono zb (by decide), sz_mono zzb (by decide), fun H7 vb s7 hvb => ?_⟩
      have h7 := h6.same s7
      refine ⟨(by show 2 ≤ sizeLine; decide), fun a na => ?_⟩
      have sn := PB.same_new (o := .tup [va, vb]) na
      refine q (_, _) _ _ ⟨norm_rat b0a, norm_rat b0b⟩ ⟨szr_norm b0a za zza, szr_norm b0b zb zzb⟩ (dp_mk2 na (Dp_same s7 (h5.dp s6 (noL_r _) (h4.dp s5 (noL_r _) hva))) hvb) (h7.same sn) ?_
      exact ((((((s1.trans s2).trans s3).trans (Same.but s4)).trans s5).trans s6).trans (Same.but s7)).trans (Same.but sn)
abbrev s_law_any_way : Stmt := topS 57
theorem sc_law_any_way : FnScope ["_law_hand_here", "_law_x", "_law_y"] ["_law_hand_here"] (defScope s_law_any_way) := ⟨rfl, rfl, rfl, by decide +kernel, rfl, by decide +kernel, by decide +kernel⟩
theorem ok_law_any_way (T : Txt K mg "_law_any_way" s_law_any_way) (G_law_take : DefOk P w K mg base CX0 "_law_take" 2 ["_law_hand_here", "_law_many"] spTake) (G_law_way : DefOk P w K mg base CX0 "_law_way" 3 ["_law_hand_here"] (spDraw K (SzR 151))) (G_law_number : DefOk P w K mg base CX0 "_law_number" 3 ["_law_hand_here"] (spNum 151)) (G_law_direction : DefOk P w K mg base CX0 "_law_direction" 2 ["_law_x", "_law_y"] (spWd K)) : DefOk P w K mg base CX0 "_law_any_way" 4 ["_law_hand_here"] (spDraw K (SzR 151)) := by
  obtain ⟨f, fd, F, gf⟩ := T
  refine ⟨f, fd, gf, F.kp, F.binds (fun _ _ _ _ _ _ us hl => match us, hl with | [_], _ => rfl), F.ok sc_law_any_way (fun vs H Q E h => ?_) (fun cdv A outer s H vs Q E hr h => ?_)⟩
  · obtain ⟨p, rfl, _⟩ := h; rfl
  · obtain ⟨p, rfl, hH, q⟩ := h
    refine ⟨_, (pss_cons (ps_if (pt_truth (pe_def G_law_take (hr.mono (by decide)) (by rfl) (pa_cons (pv 0) (pa_cons pe_int pa_nil))) (fun _ => rfl)) (pss_one (ps_ret (pe_def G_law_way (hr.mono (by decide)) (by rfl) (pa_cons (pv 0) pa_nil)))) pss_nil) (pss_cons (ps_par (i := 1) (j := 2) rfl sc_law_any_way.nd rfl rfl (by decide) rfl rfl (pa_cons (pe_def G_law_number (hr.mono (by decide)) (by rfl) (pa_cons (pv 0) pa_nil)) (pa_cons (pe_def G_law_number (hr.mono (by decide)) (by rfl) (pa_cons (pv 0) pa_nil)) pa_nil)) rfl) (pss_one (ps_ret (pe_ifExp (PW.pt (pw_and (pt_cmpR op_eq (pv 1) pe_int (nomark _)) (pw_and1 (pt_cmpR op_eq (pv 2) pe_int (nomark _))))) (pe_tup (pa_cons pe_int (pa_cons (pe_un un_neg pe_int) pa_nil))) (pe_def G_law_direction (hr.mono (by decide)) (by rfl) (pa_cons (pv 1) (pa_cons (pv 2) pa_nil)))))))), ?_⟩
    refine ⟨.ref p, rfl, p, 3, rfl, hH, by decide, by decide, fun k H1 k0 k4 h1 s1 => ?_⟩
    refine ⟨_, rfl, ite2 (fun e => ?_) (fun e => ?_)⟩
    · exact ⟨.ref p, rfl, p, rfl, h1, fun r v H2 o hv h2 s2 => q r v H2 o hv h2 (s1.trans s2)⟩
    · refine ⟨.ref p, rfl, p, rfl, h1, fun x H2 zx h2 s2 => ?_⟩
      refine ⟨.ref p, rfl, p, rfl, h2, fun y H3 zy h3 s3 => ?_⟩
      have s13 := (s1.trans s2).trans s3
      refine ⟨_, _, rfl, ?_⟩
      refine ⟨_, rfl, rfl, _, rfl, ?_⟩
      by_cases x0 : x = 0
      · refine itT (decide_eq_true (by rw [x0])) ⟨_, rfl, rfl, _, rfl, ?_⟩
        by_cases y0 : y = 0
        · refine itT (decide_eq_true (by rw [y0])) ⟨_, rfl, (by show 2 ≤ sizeLine; decide), fun a na => ?_⟩
          have sn := PB.same_new (o := .tup [.int 0, .int (-1)]) na
          exact q (0, -1) _ _ (szr_mono (n := 2) ⟨by show (0 : Int).natAbs < 4; decide, by show (-1 : Int).natAbs < 4; decide⟩ (by decide)) (dp_mkr na) (h3.same sn) (s13.trans (Same.but sn))
        · refine itF (decide_eq_false fun z => y0 (V.int.inj z)) ?_
          exact ⟨_, rfl, _, rfl, x, y, rfl, .inr y0, sz_mono zx (by decide), sz_mono zy (by decide), fun H4 z s4 hz => q _ _ _ ⟨sz_div (.inr y0) zx, sz_div' (.inr y0) zy⟩ hz (h3.same s4) (s13.trans (Same.but s4))⟩
      · refine itF (decide_eq_false fun z => x0 (V.int.inj z)) (itF rfl ?_)
        exact ⟨_, rfl, _, rfl, x, y, rfl, .inl x0, sz_mono zx (by decide), sz_mono zy (by decide), fun H4 z s4 hz => q _ _ _ ⟨sz_div (.inl x0) zx, sz_div' (.inl x0) zy⟩ hz (h3.same s4) (s13.trans (Same.but s4))⟩
end
end F3
set_option Elab.async false
set_option linter.all false
set_option maxRecDepth 100000
set_option maxHeartbeats 4000000
set_option exponentiation.threshold 3000
namespace F3
open PySem PySem.Spec PyProof.Rows L2 FX RM PB
def tupOk : Nat → PyData → Prop
  | 0, .int _ => True
  | n + 1, .tuple ds => ∀ d ∈ ds, tupOk n d
  | _, _ => False
def spTup (K : PySem.W.Frag) (n : Nat) : Sp := fun vs H Q _ => ∃ v d, vs = [v] ∧ Dp K H v d ∧ tupOk n d ∧ ∀ H', Same H H' → Q (.bl true) H'
def spRef (K : PySem.W.Frag) (o : PyData → Bool) : Sp := fun vs H Q _ => ∃ v d, vs = [v] ∧ Dp K H v d ∧ o d = false ∧ ∀ H', Same H H' → Q (.bl true) H'
def spNrm (K : PySem.W.Frag) : Sp := fun vs H Q _ => ∃ v u p s, vs = [v, u] ∧ Pla K H v p ∧ Pla K H u s ∧ RatP p ∧ RatP s ∧ SzP 600 p ∧ SzP 600 s ∧ (((stepF p s).1.1 ≠ 0 ∨ (stepF p s).2.1 ≠ 0) → ∀ H' z, Same H H' → Dp K H' z (rD (dirOf ((stepF p s).2, rneg (stepF p s).1))) → Q z H') ∧
  (((stepF p s).1.1 = 0 ∧ (stepF p s).2.1 = 0) → ∀ H', Same H H' → Q (.str "refused") H')
theorem tup_r (r : Rt) : tupOk 1 (rD r) := by
  intro d hd
  rcases List.mem_cons.mp hd with e | hd
  · rw [e]; trivial
  · rw [List.mem_singleton.mp hd]; trivial
theorem tup_p (p : Pl) : tupOk 2 (pD p) := by
  intro d hd
  rcases List.mem_cons.mp hd with e | hd
  · rw [e]; exact tup_r _
  · rw [List.mem_singleton.mp hd]; exact tup_r _
section
variable {P : Program} {w : World} {K : PySem.W.Frag} {mg : Str → Option Value} {base : Heap}
abbrev s_law_tuples : Stmt := topS 60
theorem sc_law_tuples : FnScope ["_law_thing", "_law_item"] ["_law_thing"] (defScope s_law_tuples) := ⟨rfl, rfl, rfl, by decide +kernel, rfl, by decide +kernel, by decide +kernel⟩
theorem ok_law_tuples (T : Txt K mg "_law_tuples" s_law_tuples) (misinstance : mg "isinstance" = none) (mtuple : mg "tuple" = none) (mint : mg "int" = none) (mbool : mg "bool" = none) : DefOk P w K mg base CX0 "_law_tuples" 1 ["_law_thing"] (spTup K 0) := by
  obtain ⟨f, fd, F, gf⟩ := T
  refine ⟨f, fd, gf, F.kp, F.binds (fun _ _ _ _ _ _ us hl => match us, hl with | [_], _ => rfl), F.ok sc_law_tuples (fun vs H Q E h => ?_) (fun cdv A outer s H vs Q E hr h => ?_)⟩
  · obtain ⟨v, d, rfl, _⟩ := h; rfl
  · obtain ⟨v, d, rfl, hv, ok, q⟩ := h
    refine ⟨_, (pss_cons (ps_if (pt_val (pe_callB call_isi (by rfl) misinstance boot_isinstance (pa_cons (pv 0) (pa_cons (pe_bltn (v := .ty "tuple") (by rfl) mtuple (by decide +kernel) rfl) pa_nil)))) pss_never pss_nil) (pss_one (ps_ret (pe_and (pe_callB call_isi (by rfl) misinstance boot_isinstance (pa_cons (pv 0) (pa_cons (pe_bltn (v := .ty "int") (by rfl) mint (by decide +kernel) rfl) pa_nil))) (pe_one (pe_not (pe_callB call_isi (by rfl) misinstance boot_isinstance (pa_cons (pv 0) (pa_cons (pe_bltn (v := .ty "bool") (by rfl) mbool (by decide +kernel) rfl) pa_nil))))))))), ?_⟩
    obtain ⟨i, rfl⟩ : ∃ i, d = .int i := by
      cases d with
      | int i => exact ⟨i, rfl⟩
      | _ => exact ok.elim
    refine ⟨v, rfl, v, _, _, _, _, rfl, .ty _, dp_tyx hv, kit_ty (kit_tuple (.int i)), _, rfl, itF rfl ?_⟩
    refine ⟨v, rfl, v, _, _, _, _, rfl, .ty _, dp_tyx hv, kit_ty (kit_int (.int i)), true, rfl, itT rfl ?_⟩
    exact ⟨v, rfl, v, _, _, _, _, rfl, .ty _, dp_tyx hv, kit_ty (kit_bool (.int i)), _, rfl, q H (fun _ _ e => e)⟩
theorem okL1_law_tuples (T : Txt K mg "_law_tuples" s_law_tuples) (G_law_tuples : DefOk P w K mg base CX0 "_law_tuples" 1 ["_law_thing"] (spTup K 0)) (misinstance : mg "isinstance" = none) (mtuple : mg "tuple" = none) (mint : mg "int" = none) (mbool : mg "bool" = none) : DefOk P w K mg base CX0 "_law_tuples" 2 ["_law_thing"] (spTup K 1) := by
  obtain ⟨f, fd, F, gf⟩ := T
  refine ⟨f, fd, gf, F.kp, F.binds (fun _ _ _ _ _ _ us hl => match us, hl with | [_], _ => rfl), F.ok sc_law_tuples (fun vs H Q E h => ?_) (fun cdv A outer s H vs Q E hr h => ?_)⟩
  · obtain ⟨v, d, rfl, _⟩ := h; rfl
  · obtain ⟨v, d, rfl, hv, ok, q⟩ := h
    refine ⟨_, (pss_cons (ps_if (pt_val (pe_callB call_isi (by rfl) misinstance boot_isinstance (pa_cons (pv 0) (pa_cons (pe_bltn (v := .ty "tuple") (by rfl) mtuple (by decide +kernel) rfl) pa_nil)))) (pss_one (ps_ret (pe_notT (pe_lc (own := [("_law_item", 1)]) (g := gName 1) (tt := tNot (tB (tCall (spTup K 0) [] E0 (tCons (tVar 1) tNil)))) rfl sc_law_tuples.nd (pi_seq (pv 0)) (blkOk_by (N := ["_law_thing", "_law_item"]) (sc := defScope s_law_tuples) (by decide +kernel)) (fun _ _ _ _ _ => pg_name (i := 1) sc_law_tuples.nd rfl (.inl rfl)) (fun _ _ _ _ _ => (pts_one (pt_not (pt_val (pe_def G_law_tuples (hr.mono (by decide)) (by rfl) (pa_cons (pv 1) pa_nil)))))) (fun _ _ _ _ _ => pe_int))))) pss_nil) (pss_one (ps_ret (pe_and (pe_callB call_isi (by rfl) misinstance boot_isinstance (pa_cons (pv 0) (pa_cons (pe_bltn (v := .ty "int") (by rfl) mint (by decide +kernel) rfl) pa_nil))) (pe_one (pe_not (pe_callB call_isi (by rfl) misinstance boot_isinstance (pa_cons (pv 0) (pa_cons (pe_bltn (v := .ty "bool") (by rfl) mbool (by decide +kernel) rfl) pa_nil))))))))), ?_⟩
    obtain ⟨ds, rfl⟩ : ∃ ds, d = .tuple ds := by
      cases d with
      | tuple ds => exact ⟨ds, rfl⟩
      | _ => exact ok.elim
    refine ⟨v, rfl, v, _, _, _, _, rfl, .ty _, dp_tyx hv, kit_ty (kit_tuple (.tuple ds)), _, rfl, itT rfl ?_⟩
    cases hv with
    | tup hS hA =>
      rename_i a xs
      dsimp only [tRet, tNotT]
      refine .inr ⟨_, rfl, a, rfl, ⟨_, hS⟩, fun D nD => ?_⟩
      refine lc_tup (K := K) (a := a) (xs := xs) (fun i H' => Same H H' ∧ H' D = some (.lst [])) ⟨PB.same_new nD, upd_same⟩ (fun i H' _ h => same_t h.1 hS) ?_ ?_
      · rintro i x H' hi ⟨s1, hD⟩
        obtain ⟨d, ed, hd⟩ := DpAll_at hA hi
        refine ⟨rfl, x, rfl, x, d, rfl, Dp_same s1 hd, ok d (List.mem_of_getElem? ed), fun H3 s3 => ⟨_, rfl, ?_⟩⟩
        exact itF rfl ⟨s1.trans s3, s3 _ _ hD⟩
      · rintro H' ⟨s1, hD⟩
        exact ⟨false, .inl ⟨[], .inl (.inl hD), rfl⟩, q H' s1⟩
theorem okL2_law_tuples (T : Txt K mg "_law_tuples" s_law_tuples) (G_law_tuples : DefOk P w K mg base CX0 "_law_tuples" 2 ["_law_thing"] (spTup K 1)) (misinstance : mg "isinstance" = none) (mtuple : mg "tuple" = none) (mint : mg "int" = none) (mbool : mg "bool" = none) : DefOk P w K mg base CX0 "_law_tuples" 3 ["_law_thing"] (spTup K 2) := by
  obtain ⟨f, fd, F, gf⟩ := T
  refine ⟨f, fd, gf, F.kp, F.binds (fun _ _ _ _ _ _ us hl => match us, hl with | [_], _ => rfl), F.ok sc_law_tuples (fun vs H Q E h => ?_) (fun cdv A outer s H vs Q E hr h => ?_)⟩
  · obtain ⟨v, d, rfl, _⟩ := h; rfl
  · obtain ⟨v, d, rfl, hv, ok, q⟩ := h
    refine ⟨_, (pss_cons (ps_if (pt_val (pe_callB call_isi (by rfl) misinstance boot_isinstance (pa_cons (pv 0) (pa_cons (pe_bltn (v := .ty "tuple") (by rfl) mtuple (by decide +kernel) rfl) pa_nil)))) (pss_one (ps_ret (pe_notT (pe_lc (own := [("_law_item", 1)]) (g := gName 1) (tt := tNot (tB (tCall (spTup K 1) [] E0 (tCons (tVar 1) tNil)))) rfl sc_law_tuples.nd (pi_seq (pv 0)) (blkOk_by (N := ["_law_thing", "_law_item"]) (sc := defScope s_law_tuples) (by decide +kernel)) (fun _ _ _ _ _ => pg_name (i := 1) sc_law_tuples.nd rfl (.inl rfl)) (fun _ _ _ _ _ => (pts_one (pt_not (pt_val (pe_def G_law_tuples (hr.mono (by decide)) (by rfl) (pa_cons (pv 1) pa_nil)))))) (fun _ _ _ _ _ => pe_int))))) pss_nil) (pss_one (ps_ret (pe_and (pe_callB call_isi (by rfl) misinstance boot_isinstance (pa_cons (pv 0) (pa_cons (pe_bltn (v := .ty "int") (by rfl) mint (by decide +kernel) rfl) pa_nil))) (pe_one (pe_not (pe_callB call_isi (by rfl) misinstance boot_isinstance (pa_cons (pv 0) (pa_cons (pe_bltn (v := .ty "bool") (by rfl) mbool (by decide +kernel) rfl) pa_nil))))))))), ?_⟩
    obtain ⟨ds, rfl⟩ : ∃ ds, d = .tuple ds := by
      cases d with
      | tuple ds => exact ⟨ds, rfl⟩
      | _ => exact ok.elim
    refine ⟨v, rfl, v, _, _, _, _, rfl, .ty _, dp_tyx hv, kit_ty (kit_tuple (.tuple ds)), _, rfl, itT rfl ?_⟩
    cases hv with
    | tup hS hA =>
      rename_i a xs
      dsimp only [tRet, tNotT]
      refine .inr ⟨_, rfl, a, rfl, ⟨_, hS⟩, fun D nD => ?_⟩
      refine lc_tup (K := K) (a := a) (xs := xs) (fun i H' => Same H H' ∧ H' D = some (.lst [])) ⟨PB.same_new nD, upd_same⟩ (fun i H' _ h => same_t h.1 hS) ?_ ?_
      · rintro i x H' hi ⟨s1, hD⟩
        obtain ⟨d, ed, hd⟩ := DpAll_at hA hi
        refine ⟨rfl, x, rfl, x, d, rfl, Dp_same s1 hd, ok d (List.mem_of_getElem? ed), fun H3 s3 => ⟨_, rfl, ?_⟩⟩
        exact itF rfl ⟨s1.trans s3, s3 _ _ hD⟩
      · rintro H' ⟨s1, hD⟩
        exact ⟨false, .inl ⟨[], .inl (.inl hD), rfl⟩, q H' s1⟩
abbrev s_law_refuses_place : Stmt := topS 61
theorem sc_law_refuses_place : FnScope ["_law_thing"] ["_law_thing"] (defScope s_law_refuses_place) := ⟨rfl, rfl, rfl, by decide +kernel, rfl, by decide +kernel, by decide +kernel⟩
theorem ok_law_refuses_place (T : Txt K mg "_law_refuses_place" s_law_refuses_place) (Xcheck_place : DefOk P w K mg base (L2.CX P w) "check_place" 4 ["place"] (spCkP K)) (gBadPlace : mg "BadPlace" = some (.ref (He.ga K "BadPlace"))) (mBadPlace : PySem.W.exmOne K (.ref (He.ga K "BadPlace")) (.ref (He.ga K "BadPlace")) = some true) : DefOk P w K mg base CX0 "_law_refuses_place" 5 ["_law_thing"] (spRef K isPla) := by
  obtain ⟨f, fd, F, gf⟩ := T
  refine ⟨f, fd, gf, F.kp, F.binds (fun _ _ _ _ _ _ us hl => match us, hl with | [_], _ => rfl), F.ok sc_law_refuses_place (fun vs H Q E h => ?_) (fun cdv A outer s H vs Q E hr h => ?_)⟩
  · obtain ⟨v, d, rfl, _⟩ := h; rfl
  · obtain ⟨v, d, rfl, hv, ok, q⟩ := h
    refine ⟨_, (pss_cons (ps_try_nm (l := [(.ref (He.ga K "BadPlace"), none, fun _ _ _ => tRet (tC (.bl true)))]) rfl rfl takes0 (fun W pn xe tk _ => (pss_one (ps_expr (pe_defS Xcheck_place (hr.mono (by decide)) (by rfl) (pa_cons (pv 0) pa_nil) tk)))) (.plain (names_own (by rfl) gBadPlace) (fun a oe cls d pn _ _ => (pss_one (ps_ret pe_bl))) .nil)) (pss_one (ps_ret pe_bl))), ?_⟩
    refine ⟨v, rfl, v, d, rfl, hv, (fun a b e t => by rw [ok] at t; cases t), fun _ H1 s1 => ⟨true, mBadPlace, fun _ a na => q _ s1, fun z => nomatch z⟩⟩
abbrev s_law_refuses_amount : Stmt := topS 62
theorem sc_law_refuses_amount : FnScope ["_law_thing"] ["_law_thing"] (defScope s_law_refuses_amount) := ⟨rfl, rfl, rfl, by decide +kernel, rfl, by decide +kernel, by decide +kernel⟩
theorem ok_law_refuses_amount (T : Txt K mg "_law_refuses_amount" s_law_refuses_amount) (Xcheck_amount : DefOk P w K mg base (L2.CX P w) "check_amount" 3 ["amount"] (spCkA K isRat "BadAmount")) (gBadAmount : mg "BadAmount" = some (.ref (He.ga K "BadAmount"))) (mBadAmount : PySem.W.exmOne K (.ref (He.ga K "BadAmount")) (.ref (He.ga K "BadAmount")) = some true) : DefOk P w K mg base CX0 "_law_refuses_amount" 4 ["_law_thing"] (spRef K isRat) := by
  obtain ⟨f, fd, F, gf⟩ := T
  refine ⟨f, fd, gf, F.kp, F.binds (fun _ _ _ _ _ _ us hl => match us, hl with | [_], _ => rfl), F.ok sc_law_refuses_amount (fun vs H Q E h => ?_) (fun cdv A outer s H vs Q E hr h => ?_)⟩
  · obtain ⟨v, d, rfl, _⟩ := h; rfl
  · obtain ⟨v, d, rfl, hv, ok, q⟩ := h
    refine ⟨_, (pss_cons (ps_try_nm (l := [(.ref (He.ga K "BadAmount"), none, fun _ _ _ => tRet (tC (.bl true)))]) rfl rfl takes0 (fun W pn xe tk _ => (pss_one (ps_expr (pe_defS Xcheck_amount (hr.mono (by decide)) (by rfl) (pa_cons (pv 0) pa_nil) tk)))) (.plain (names_own (by rfl) gBadAmount) (fun a oe cls d pn _ _ => (pss_one (ps_ret pe_bl))) .nil)) (pss_one (ps_ret pe_bl))), ?_⟩
    refine ⟨v, rfl, v, d, rfl, hv, (fun t => by rw [ok] at t; cases t), fun _ => ⟨true, mBadAmount, fun _ a na => q _ (fun _ _ e => e), fun z => nomatch z⟩⟩
abbrev s_law_refuses_size : Stmt := topS 63
theorem sc_law_refuses_size : FnScope ["_law_thing"] ["_law_thing"] (defScope s_law_refuses_size) := ⟨rfl, rfl, rfl, by decide +kernel, rfl, by decide +kernel, by decide +kernel⟩
theorem ok_law_refuses_size (T : Txt K mg "_law_refuses_size" s_law_refuses_size) (Xcheck_size : DefOk P w K mg base (L2.CX P w) "check_size" 3 ["size"] (spCkA K isSz "BadSize")) (gBadSize : mg "BadSize" = some (.ref (He.ga K "BadSize"))) (mBadSize : PySem.W.exmOne K (.ref (He.ga K "BadSize")) (.ref (He.ga K "BadSize")) = some true) : DefOk P w K mg base CX0 "_law_refuses_size" 4 ["_law_thing"] (spRef K isSz) := by
  obtain ⟨f, fd, F, gf⟩ := T
  refine ⟨f, fd, gf, F.kp, F.binds (fun _ _ _ _ _ _ us hl => match us, hl with | [_], _ => rfl), F.ok sc_law_refuses_size (fun vs H Q E h => ?_) (fun cdv A outer s H vs Q E hr h => ?_)⟩
  · obtain ⟨v, d, rfl, _⟩ := h; rfl
  · obtain ⟨v, d, rfl, hv, ok, q⟩ := h
    refine ⟨_, (pss_cons (ps_try_nm (l := [(.ref (He.ga K "BadSize"), none, fun _ _ _ => tRet (tC (.bl true)))]) rfl rfl takes0 (fun W pn xe tk _ => (pss_one (ps_expr (pe_defS Xcheck_size (hr.mono (by decide)) (by rfl) (pa_cons (pv 0) pa_nil) tk)))) (.plain (names_own (by rfl) gBadSize) (fun a oe cls d pn _ _ => (pss_one (ps_ret pe_bl))) .nil)) (pss_one (ps_ret pe_bl))), ?_⟩
    refine ⟨v, rfl, v, d, rfl, hv, (fun t => by rw [ok] at t; cases t), fun _ => ⟨true, mBadSize, fun _ a na => q _ (fun _ _ e => e), fun z => nomatch z⟩⟩
abbrev s_law_normal : Stmt := topS 64
theorem sc_law_normal : FnScope ["_law_one", "_law_other", "_law_found"] ["_law_one", "_law_other"] (defScope s_law_normal) := ⟨rfl, rfl, rfl, by decide +kernel, rfl, by decide +kernel, by decide +kernel⟩
theorem ok_law_normal (T : Txt K mg "_law_normal" s_law_normal) (Xside_normal : DefOk P w K mg base (L2.CX P w) "side_normal" 5 ["one", "other"] (spNorX K)) (gBadDirection : mg "BadDirection" = some (.ref (He.ga K "BadDirection"))) (mBadDirection : PySem.W.exmOne K (.ref (He.ga K "BadDirection")) (.ref (He.ga K "BadDirection")) = some true) : DefOk P w K mg base CX0 "_law_normal" 6 ["_law_one", "_law_other"] (spNrm K) := by
  obtain ⟨f, fd, F, gf⟩ := T
  refine ⟨f, fd, gf, F.kp, F.binds (fun _ _ _ _ _ _ us hl => match us, hl with | [_, _], _ => rfl), F.ok sc_law_normal (fun vs H Q E h => ?_) (fun cdv A outer s H vs Q E hr h => ?_)⟩
  · obtain ⟨v, u, p, s_, rfl, _⟩ := h; rfl
  · obtain ⟨v, u, p, s_, rfl, hv, hu, rp, rs, zp, zs, q1, q2⟩ := h
    refine ⟨_, (pss_cons (ps_try_nm (l := [(.ref (He.ga K "BadDirection"), none, fun _ _ _ => tRet (tC (.str "refused")))]) rfl rfl takes0 (fun W pn xe tk _ => (pss_one (ps_set (i := 2) sc_law_normal.nd rfl (.inl rfl) (pe_defS Xside_normal (hr.mono (by decide)) (by rfl) (pa_cons (pv 0) (pa_cons (pv 1) pa_nil)) tk)))) (.plain (names_own (by rfl) gBadDirection) (fun a oe cls d pn _ _ => (pss_one (ps_ret pe_str))) .nil)) (pss_one (ps_ret (pv 2)))), ?_⟩
    refine ⟨v, rfl, u, rfl, v, u, p, s_, rfl, hv, hu, rp, rs, zp, zs, fun nz H1 z s1 hz => ?_, fun zz H1 s1 => ?_⟩
    · exact ⟨z, rfl, q1 nz H1 z s1 hz⟩
    · exact ⟨true, mBadDirection, fun _ a na => q2 zz H1 s1, fun z => nomatch z⟩
end
end F3
set_option Elab.async false
set_option linter.all false
set_option maxRecDepth 100000
set_option maxHeartbeats 4000000
set_option exponentiation.threshold 3000
namespace F3
open PySem PySem.Spec PyProof.Rows L2 FX RM PB
def LE (K : PySem.W.Frag) (σ : L2.St) (B : Hp → Prop) (te : TE) (d : PyData) : Prop := ∀ H (Q : VK), B H → (∀ H' v, Same H H' → Dp K H' v d → Q v H') → te σ H Q
def LA (K : PySem.W.Frag) (σ : L2.St) (B : Hp → Prop) (t : TA) (ds : List PyData) : Prop := ∀ H (Q : List V → Hp → Prop), B H → (∀ H' vs, Same H H' → DpAll K H' vs ds → Q vs H') → t σ H Q
section
variable {K : PySem.W.Frag} {σ : L2.St} {B : Hp → Prop}
theorem le_int {i : Int} : LE K σ B (tC (.int i)) (.int i) := fun H Q _ q => q H _ (fun _ _ e => e) (.int i)
theorem le_neg {i : Int} : LE K σ B (tUn (rU fun i => .int (-i)) (tC (.int i))) (.int (-i)) := fun H Q _ q => ⟨i, rfl, q H _ (fun _ _ e => e) (.int _)⟩
theorem le_str {i : Str} : LE K σ B (tC (.str i)) (.str i) := fun H Q _ q => q H _ (fun _ _ e => e) (.str i)
theorem le_bl {i : Bool} : LE K σ B (tC (.bl i)) (.bool i) := fun H Q _ q => q H _ (fun _ _ e => e) (.bl i)
theorem le_non : LE K σ B (tC .non) .none := fun H Q _ q => q H _ (fun _ _ e => e) .non
theorem la_nil : LA K σ B tNil [] := fun H Q _ q => q H [] (fun _ _ e => e) .nil
theorem la_cons {te : TE} {t : TA} {d : PyData} {ds : List PyData} (hB : ∀ H H', Same H H' → B H → B H') (h : LE K σ B te d) (k : LA K σ B t ds) : LA K σ B (tCons te t) (d :: ds) :=
  fun H Q b q => h H _ b fun H1 v s1 hv => k H1 _ (hB _ _ s1 b) fun H2 vs s2 hvs => q H2 _ (s1.trans s2) (.cons (Dp_same s2 hv) hvs)
theorem le_tup {t : TA} {ds : List PyData} (h : LA K σ B t ds) (hl : ds.length ≤ 1000) : LE K σ B (tTup t) (.tuple ds) :=
  fun H Q b q => h H _ b fun H1 vs s1 hvs => ⟨Nat.le_of_lt (small1000 (n := vs.length) (by rw [DpAll_len hvs]; exact hl)), fun p np => q _ _ (s1.trans (PB.same_new np)) (.tup (.inl (.inl upd_same)) (DpAll_same (PB.same_new np) hvs))⟩
theorem le_lst {t : TA} {ds : List PyData} (h : LA K σ B t ds) (hl : ds.length ≤ 1000) : LE K σ B (tLst t) (.list ds) :=
  fun H Q b q => h H _ b fun H1 vs s1 hvs => ⟨Nat.le_of_lt (small1000 (n := vs.length) (by rw [DpAll_len hvs]; exact hl)), fun p np => q _ _ (s1.trans (PB.same_new np)) (.lst (.inl (.inl upd_same)) (DpAll_same (PB.same_new np) hvs))⟩
end

theorem loop_ref {K : PySem.W.Frag} {o : PyData → Bool} {te : TE} {ds : List PyData} {vp va : V} {y : Option V} {B : Hp → Prop} {H : Hp} {D : Ends} (hl : LE K [some vp, some va, y] B te (.list ds)) (b : B H) (ho : ∀ d ∈ ds, o d = false)
    (q : ∀ y' H', Same H H' → D.nx [some vp, some va, y'] H') :
    tFor (iList K te) (gName 2) (tIfS (tNot (tB (tCall (spRef K o) [] E0 (tCons (tVar 2) tNil)))) (tRet (tC (.bl false))) tNext) D [some vp, some va, y] H := by
  refine hl H _ b fun H1 v s1 hv => ?_
  cases hv with
  | lst hS hA =>
    rename_i a xs
    refine ⟨_, rfl, ⟨_, hS⟩, for_list (K := K) (a := a) (xs := xs) (fun i σ H' => ∃ y', σ = [some vp, some va, y'] ∧ Same H1 H') ⟨y, rfl, fun _ _ e => e⟩ (fun i σ H' _ ⟨_, _, s⟩ => s.seq hS) ?_ ?_⟩
    · rintro i x σ H' hi ⟨y', rfl, s2⟩
      obtain ⟨d, ed, hd⟩ := DpAll_at hA hi
      exact ⟨x, rfl, x, d, rfl, Dp_same s2 hd, ho d (List.mem_of_getElem? ed), fun H3 s3 => ⟨_, rfl, itF rfl ⟨some x, rfl, s2.trans s3⟩⟩⟩
    · rintro σ H' ⟨y', rfl, s2⟩
      exact q y' H' (s1.trans s2)
def spChk (K : PySem.W.Frag) : Sp := fun vs H Q _ => ∃ v u p r, vs = [v, u] ∧ Dp K H v (pD p) ∧ Dp K H u (rD r) ∧ RatP p ∧ IsRat r ∧ SzR 2000 r ∧ ∀ H', Same H H' → Q (.bl true) H'
theorem isRat_of {r : Rt} (h : IsRat r) : isRat (rD r) = true := by
  have a : (1 : Int) ≤ r.2 := h.1
  have b : g2 r.1 r.2 = 1 := by unfold g2; rw [h.2]; rfl
  show (decide ((1 : Int) ≤ r.2) && decide (g2 r.1 r.2 = 1)) = true
  rw [decide_eq_true a, decide_eq_true b]; rfl
theorem isPla_t {p : Pl} (h : RatP p) : isPla (pD p) = true := by
  show (isRat (rD p.1) && isRat (rD p.2)) = true
  rw [isRat_of h.1, isRat_of h.2]; rfl
theorem isPla_l {p : Pl} (h : RatP p) : isPla (plD p) = true := by
  show (isRat (rD p.1) && isRat (rD p.2)) = true
  rw [isRat_of h.1, isRat_of h.2]; rfl
theorem rat_two (a b : Int) : isRat (.tuple [.int (a * 2), .int (b * 2)]) = false := by
  have : g2 (a * 2) (b * 2) ≠ 1 := by
    unfold g2
    rw [Int.natAbs_mul, Int.natAbs_mul, Nat.gcd_mul_right]
    show ((Nat.gcd a.natAbs b.natAbs * 2 : Nat) : Int) ≠ 1
    omega
  show (decide ((1 : Int) ≤ b * 2) && decide (g2 (a * 2) (b * 2) = 1)) = false
  rw [decide_eq_false this, Bool.and_false]
section
variable {K : PySem.W.Frag} {vp va : V} {y : Option V} {p : Pl} {r : Rt}
abbrev BB (K : PySem.W.Frag) (vp va : V) (p : Pl) (r : Rt) : Hp → Prop := fun H => Dp K H vp (pD p) ∧ Dp K H va (rD r)
theorem bbm : ∀ H H', Same H H' → BB K vp va p r H → BB K vp va p r H' := fun _ _ s h => ⟨Dp_same s h.1, Dp_same s h.2⟩
abbrev LEB (K : PySem.W.Frag) (vp va : V) (y : Option V) (p : Pl) (r : Rt) (te : TE) (d : PyData) : Prop := LE K [some vp, some va, y] (BB K vp va p r) te d
theorem le_p0 : LEB K vp va y p r (tOp (rIt K) (tVar 0) (tC (.int 0))) (rD p.1) := fun H Q b q => by
  obtain ⟨x, y, c, hx, hy⟩ := pla_t b.1
  exact ⟨vp, rfl, x, y, 0, x, rfl, c, rfl, q H x (fun _ _ e => e) hx⟩
theorem le_p1 : LEB K vp va y p r (tOp (rIt K) (tVar 0) (tC (.int 1))) (rD p.2) := fun H Q b q => by
  obtain ⟨x, y, c, hx, hy⟩ := pla_t b.1
  exact ⟨vp, rfl, x, y, 1, y, rfl, c, rfl, q H y (fun _ _ e => e) hy⟩
theorem le_a0 : LEB K vp va y p r (tOp (rIt K) (tVar 1) (tC (.int 0))) (.int r.1) := fun H Q b q => by
  have c := cou_r b.2
  exact ⟨va, rfl, _, _, 0, _, rfl, c, rfl, q H _ (fun _ _ e => e) (.int _)⟩
theorem le_am0 (z : SzR 2000 r) : LEB K vp va y p r (tOp (rI CMulW fun i j => .int (i * j)) (tOp (rIt K) (tVar 1) (tC (.int 0))) (tC (.int 2))) (.int (r.1 * 2)) := fun H Q b q => by
  have c := cou_r b.2
  exact ⟨va, rfl, _, _, 0, _, rfl, c, rfl, _, _, rfl, rfl, wide_mul z.1 (by decide : (2 : Int).natAbs < 2 ^ 2) (by decide) (by decide) (by decide), q H _ (fun _ _ e => e) (.int _)⟩
theorem le_am1 (z : SzR 2000 r) : LEB K vp va y p r (tOp (rI CMulW fun i j => .int (i * j)) (tOp (rIt K) (tVar 1) (tC (.int 1))) (tC (.int 2))) (.int (r.2 * 2)) := fun H Q b q => by
  have c := cou_r b.2
  exact ⟨va, rfl, _, _, 1, _, rfl, c, rfl, _, _, rfl, rfl, wide_mul z.2 (by decide : (2 : Int).natAbs < 2 ^ 2) (by decide) (by decide) (by decide), q H _ (fun _ _ e => e) (.int _)⟩
theorem le_va : LEB K vp va y p r (tVar 1) (rD r) := fun H Q b q => ⟨va, rfl, q H va (fun _ _ e => e) b.2⟩
theorem le_cat : LEB K vp va y p r (tOp (rCatT K) (tVar 0) (tTup (tCons (tVar 1) tNil))) (.tuple [rD p.1, rD p.2, rD r]) := fun H Q b q => by
  obtain ⟨a, x, y, rfl, hs, hx, hy⟩ := dp_t2 b.1
  refine ⟨_, rfl, va, rfl, (by show 1 ≤ sizeLine; decide), fun t nt => ?_⟩
  have s1 := PB.same_new (o := .tup [va]) nt
  refine ⟨a, t, [x, y], [va], rfl, rfl, same_t s1 hs, .inl (.inl upd_same), List.cons_ne_nil _ _, (by show 3 ≤ sizeLine; decide), (fun e => nomatch e), fun _ u nu => ?_⟩
  have s2 := s1.trans (PB.same_new (o := .tup ([x, y] ++ [va])) nu)
  exact q _ _ s2 (.tup (.inl (.inl upd_same)) (.cons (Dp_same s2 hx) (.cons (Dp_same s2 hy) (.cons (Dp_same s2 b.2) .nil))))
theorem le_list : LEB K vp va y p r (tCB (fun xs H Q => ∃ p ys, xs = [.ref p] ∧ (SqL K H p ys ∨ SqT K H p ys) ∧ ∀ l, H l = none → Q (.ref l) (upd H l (.lst ys))) (tCons (tVar 1) tNil)) (.list [.int r.1, .int r.2]) := fun H Q b q => by
  obtain ⟨a, rfl, hs⟩ := dp_r b.2
  exact ⟨_, rfl, a, _, rfl, .inr hs, fun l nl => q _ _ (PB.same_new nl) (.lst (.inl (.inl upd_same)) (.cons (.int _) (.cons (.int _) .nil)))⟩
end
section
variable {P : Program} {w : World} {K : PySem.W.Frag} {mg : Str → Option Value} {base : Heap}
abbrev s_law_checks : Stmt := topS 65
theorem sc_law_checks : FnScope ["_law_place_here", "_law_amount_here", "_law_thing"] ["_law_place_here", "_law_amount_here"] (defScope s_law_checks) := ⟨rfl, rfl, rfl, by decide +kernel, rfl, by decide +kernel, by decide +kernel⟩
theorem ok_law_checks (T : Txt K mg "_law_checks" s_law_checks) (Xcheck_place : DefOk P w K mg base (L2.CX P w) "check_place" 4 ["place"] (spCkP K)) (Xcheck_amount : DefOk P w K mg base (L2.CX P w) "check_amount" 3 ["amount"] (spCkA K isRat "BadAmount")) (Xcheck_size : DefOk P w K mg base (L2.CX P w) "check_size" 3 ["size"] (spCkA K isSz "BadSize")) (G_law_refuses_place : DefOk P w K mg base CX0 "_law_refuses_place" 5 ["_law_thing"] (spRef K isPla)) (G_law_refuses_amount : DefOk P w K mg base CX0 "_law_refuses_amount" 4 ["_law_thing"] (spRef K isRat)) (G_law_refuses_size : DefOk P w K mg base CX0 "_law_refuses_size" 4 ["_law_thing"] (spRef K isSz)) (misinstance : mg "isinstance" = none) (mtuple : mg "tuple" = none) (mlist : mg "list" = none) : DefOk P w K mg base CX0 "_law_checks" 6 ["_law_place_here", "_law_amount_here"] (spChk K) := by
  obtain ⟨f, fd, F, gf⟩ := T
  refine ⟨f, fd, gf, F.kp, F.binds (fun _ _ _ _ _ _ us hl => match us, hl with | [_, _], _ => rfl), F.ok sc_law_checks (fun vs H Q E h => ?_) (fun cdv A outer s H vs Q E hr h => ?_)⟩
  · obtain ⟨v, u, p, r, rfl, _⟩ := h; rfl
  · obtain ⟨v, u, p, r, rfl, hv, hu, rp, ir, zr, q⟩ := h
    refine ⟨_, (pss_cons (ps_if (PW.pt (pw_or (pt_cmpR (op_neD hr.units) (pe_def Xcheck_place (hr.mono (by decide)) (by rfl) (pa_cons (pe_callTy call_list_of (by rfl) mlist (by decide +kernel) (pa_cons (pv 0) pa_nil)) pa_nil)) (pv 0) (nomark _)) (pw_or (pt_not (pt_val (pe_callB call_isi (by rfl) misinstance boot_isinstance (pa_cons (pe_def Xcheck_place (hr.mono (by decide)) (by rfl) (pa_cons (pe_callTy call_list_of (by rfl) mlist (by decide +kernel) (pa_cons (pv 0) pa_nil)) pa_nil)) (pa_cons (pe_bltn (v := .ty "tuple") (by rfl) mtuple (by decide +kernel) rfl) pa_nil))))) (pw_or1 (pt_cmpR (op_neD hr.units) (pe_def Xcheck_place (hr.mono (by decide)) (by rfl) (pa_cons (pv 0) pa_nil)) (pv 0) (nomark _)))))) (pss_one (ps_ret pe_bl)) pss_nil) (pss_cons (ps_for PassesOwn.never rfl (pi_list (pe_lst (pa_cons (pe_op op_catT (pv 0) (pe_tup (pa_cons (pv 1) pa_nil))) (pa_cons (pe_tup (pa_cons (pe_ix ix_it (pv 0) pe_int (fun _ _ => rfl)) pa_nil)) (pa_cons (pe_tup (pa_cons (pe_ix ix_it (pv 0) pe_int (fun _ _ => rfl)) (pa_cons pe_int pa_nil))) (pa_cons (pe_tup (pa_cons (pe_lst (pa_cons pe_int (pa_cons pe_int pa_nil))) (pa_cons (pe_ix ix_it (pv 0) pe_int (fun _ _ => rfl)) pa_nil))) (pa_cons (pe_tup (pa_cons (pe_ix ix_it (pv 0) pe_int (fun _ _ => rfl)) (pa_cons (pe_tup (pa_cons pe_int (pa_cons pe_int pa_nil))) pa_nil))) (pa_cons pe_non (pa_cons pe_str (pa_cons pe_int (pa_cons (pe_tup (pa_cons (pe_ix ix_it (pv 0) pe_int (fun _ _ => rfl)) (pa_cons pe_non pa_nil))) (pa_cons (pe_lst (pa_cons pe_int (pa_cons pe_int pa_nil))) (pa_cons (pe_tup (pa_cons (pe_ix ix_it (pv 0) pe_int (fun _ _ => rfl)) (pa_cons (pe_tup (pa_cons pe_bl (pa_cons pe_int pa_nil))) pa_nil))) pa_nil))))))))))))) (pg_name (i := 2) sc_law_checks.nd rfl (.inl rfl)) (pss_one (ps_if (pt_not (pt_val (pe_def G_law_refuses_place (hr.mono (by decide)) (by rfl) (pa_cons (pv 2) pa_nil)))) (pss_one (ps_ret pe_bl)) pss_nil))) (pss_cons (ps_if (pt_cmpR (op_neD hr.units) (pe_def Xcheck_amount (hr.mono (by decide)) (by rfl) (pa_cons (pv 1) pa_nil)) (pv 1) (nomark _)) (pss_one (ps_ret pe_bl)) pss_nil) (pss_cons (ps_for PassesOwn.never rfl (pi_list (pe_lst (pa_cons (pe_ix ix_it (pv 1) pe_int (fun _ _ => rfl)) (pa_cons (pe_callTy call_list_of (by rfl) mlist (by decide +kernel) (pa_cons (pv 1) pa_nil)) (pa_cons (pe_tup (pa_cons (pe_op op_mulW (pe_ix ix_it (pv 1) pe_int (fun _ _ => rfl)) pe_int) (pa_cons (pe_op op_mulW (pe_ix ix_it (pv 1) pe_int (fun _ _ => rfl)) pe_int) pa_nil))) (pa_cons pe_non (pa_cons pe_bl (pa_cons pe_str (pa_cons (pe_tup (pa_cons (pe_ix ix_it (pv 1) pe_int (fun _ _ => rfl)) (pa_cons pe_int pa_nil))) pa_nil))))))))) (pg_name (i := 2) sc_law_checks.nd rfl (.inl rfl)) (pss_one (ps_if (pt_not (pt_val (pe_def G_law_refuses_amount (hr.mono (by decide)) (by rfl) (pa_cons (pv 2) pa_nil)))) (pss_one (ps_ret pe_bl)) pss_nil))) (pss_cons (ps_for PassesOwn.never rfl (pi_list (pe_lst (pa_cons (pe_tup (pa_cons pe_int (pa_cons pe_int pa_nil))) (pa_cons (pe_tup (pa_cons (pe_un un_neg pe_int) (pa_cons pe_int pa_nil))) (pa_cons pe_int (pa_cons (pe_lst (pa_cons pe_int (pa_cons pe_int pa_nil))) (pa_cons (pe_tup (pa_cons pe_int (pa_cons pe_int pa_nil))) (pa_cons pe_non pa_nil)))))))) (pg_name (i := 2) sc_law_checks.nd rfl (.inl rfl)) (pss_one (ps_if (pt_not (pt_val (pe_def G_law_refuses_size (hr.mono (by decide)) (by rfl) (pa_cons (pv 2) pa_nil)))) (pss_one (ps_ret pe_bl)) pss_nil))) (pss_one (ps_ret (pe_cmpR (op_eqD hr.units) (pe_def Xcheck_size (hr.mono (by decide)) (by rfl) (pa_cons (pe_tup (pa_cons pe_int (pa_cons pe_int pa_nil))) pa_nil)) (pe_tup (pa_cons pe_int (pa_cons pe_int pa_nil))) (nomark _))))))))), ?_⟩
    have CP : ∀ {H1 : Hp} {Q1 : VK}, Same H H1 → (∀ H2 z, Same H1 H2 → Dp K H2 z (pD p) → Q1 z H2) → tCall (spCkP K) [] E0 (tCons (tCB (fun xs H Q => ∃ p ys, xs = [.ref p] ∧ (SqL K H p ys ∨ SqT K H p ys) ∧ ∀ l, H l = none → Q (.ref l) (upd H l (.lst ys))) (tCons (tVar 0) tNil)) tNil) [some v, some u, none] H1 Q1 := fun {H1 Q1} s1 k => by
      obtain ⟨a, x, y, e, hs, hx, hy⟩ := dp_t2 (Dp_same s1 hv)
      subst e
      refine ⟨_, rfl, a, _, rfl, .inr hs, fun l nl => ?_⟩
      have s2 := PB.same_new (o := .lst [x, y]) nl
      refine ⟨.ref l, plD p, rfl, .lst (.inl (.inl upd_same)) (.cons (Dp_same s2 hx) (.cons (Dp_same s2 hy) .nil)), fun a b e _ H3 z s3 hz => ?_, fun t => by rw [isPla_l rp] at t; cases t⟩
      rcases e with e | e
      · cases e
      · cases e
        exact k H3 z (s2.trans s3) hz
    refine CP (fun _ _ e => e) fun H1 z1 s1 h1 => ⟨v, rfl, ne_same (shaped_p p) h1 (Dp_same s1 hv) ⟨_, rfl, itF rfl ?_⟩⟩
    refine CP s1 fun H2 z2 s2 h2 => ⟨_, _, _, _, _, rfl, .ty _, dp_tyx h2, kit_ty (kit_tuple (pD p)), _, rfl, itF rfl ?_⟩
    have s12 := s1.trans s2
    refine ⟨v, rfl, v, pD p, rfl, Dp_same s12 hv, fun a b e _ H3 z s3 hz => ?_, fun t => by rw [isPla_t rp] at t; cases t⟩
    have hz2 : Dp K H3 z (pD p) := by
      rcases e with e | e
      · cases e; exact hz
      · cases e
    have s13 := s12.trans s3
    refine ⟨v, rfl, ne_same (shaped_p p) hz2 (Dp_same s13 hv) ⟨_, rfl, itF rfl ?_⟩⟩
    refine loop_ref (B := BB K v u p r) (ds := [.tuple [rD p.1, rD p.2, rD r], .tuple [rD p.1], .tuple [rD p.1, .int 1], .tuple [.list [.int 0, .int 1], rD p.2], .tuple [rD p.1, .tuple [.int 2, .int 4]], .none, .str "ab", .int 3, .tuple [rD p.1, .none], .list [.int 1, .int 2], .tuple [rD p.1, .tuple [.bool true, .int 1]]]) (le_lst (la_cons bbm le_cat (la_cons bbm (le_tup (la_cons bbm le_p0 la_nil) (by show 1 ≤ 1000; decide)) (la_cons bbm (le_tup (la_cons bbm le_p0 (la_cons bbm le_int la_nil)) (by show 2 ≤ 1000; decide)) (la_cons bbm (le_tup (la_cons bbm (le_lst (la_cons bbm le_int (la_cons bbm le_int la_nil)) (by show 2 ≤ 1000; decide)) (la_cons bbm le_p1 la_nil)) (by show 2 ≤ 1000; decide)) (la_cons bbm (le_tup (la_cons bbm le_p0 (la_cons bbm (le_tup (la_cons bbm le_int (la_cons bbm le_int la_nil)) (by show 2 ≤ 1000; decide)) la_nil)) (by show 2 ≤ 1000; decide)) (la_cons bbm le_non (la_cons bbm le_str (la_cons bbm le_int (la_cons bbm (le_tup (la_cons bbm le_p0 (la_cons bbm le_non la_nil)) (by show 2 ≤ 1000; decide)) (la_cons bbm (le_lst (la_cons bbm le_int (la_cons bbm le_int la_nil)) (by show 2 ≤ 1000; decide)) (la_cons bbm (le_tup (la_cons bbm le_p0 (la_cons bbm (le_tup (la_cons bbm le_bl (la_cons bbm le_int la_nil)) (by show 2 ≤ 1000; decide)) la_nil)) (by show 2 ≤ 1000; decide)) la_nil))))))))))) (by show 11 ≤ 1000; decide)) ⟨Dp_same s13 hv, Dp_same s13 hu⟩ ?_ fun y1 H4 s4 => ?_
    · simp [isPla, isRat, rD]
      exact fun _ _ => by decide +kernel
    have s14 := s13.trans s4
    refine ⟨u, rfl, u, rD r, rfl, Dp_same s14 hu, fun _ => ?_, fun t => by rw [isRat_of ir] at t; cases t⟩
    refine ⟨u, rfl, ne_same (shaped_r r) (Dp_same s14 hu) (Dp_same s14 hu) ⟨_, rfl, itF rfl ?_⟩⟩
    refine loop_ref (B := BB K v u p r) (ds := [.int r.1, .list [.int r.1, .int r.2], .tuple [.int (r.1 * 2), .int (r.2 * 2)], .none, .bool true, .str "1", .tuple [.int r.1, .int 0]]) (le_lst (la_cons bbm le_a0 (la_cons bbm le_list (la_cons bbm (le_tup (la_cons bbm (le_am0 zr) (la_cons bbm (le_am1 zr) la_nil)) (by show 2 ≤ 1000; decide)) (la_cons bbm le_non (la_cons bbm le_bl (la_cons bbm le_str (la_cons bbm (le_tup (la_cons bbm le_a0 (la_cons bbm le_int la_nil)) (by show 2 ≤ 1000; decide)) la_nil))))))) (by show 7 ≤ 1000; decide)) ⟨Dp_same s14 hv, Dp_same s14 hu⟩ ?_ fun y2 H5 s5 => ?_
    · have := rat_two r.1 r.2
      simp [isRat, rD] at this ⊢
      exact this
    have s15 := s14.trans s5
    refine loop_ref (B := BB K v u p r) (ds := [.tuple [.int 0, .int 1], .tuple [.int (-1), .int 3], .int 2, .list [.int 1, .int 2], .tuple [.int 2, .int 2], .none]) (le_lst (la_cons bbm (le_tup (la_cons bbm le_int (la_cons bbm le_int la_nil)) (by show 2 ≤ 1000; decide)) (la_cons bbm (le_tup (la_cons bbm le_neg (la_cons bbm le_int la_nil)) (by show 2 ≤ 1000; decide)) (la_cons bbm le_int (la_cons bbm (le_lst (la_cons bbm le_int (la_cons bbm le_int la_nil)) (by show 2 ≤ 1000; decide)) (la_cons bbm (le_tup (la_cons bbm le_int (la_cons bbm le_int la_nil)) (by show 2 ≤ 1000; decide)) (la_cons bbm le_non la_nil)))))) (by show 6 ≤ 1000; decide)) ⟨Dp_same s15 hv, Dp_same s15 hu⟩ ?_ fun y3 H6 s6 => ?_
    · decide +kernel
    have s16 := s15.trans s6
    refine ⟨(by show 2 ≤ sizeLine; decide), fun a na => ?_⟩
    have s7 := PB.same_new (o := .tup [.int 1, .int 7]) na
    refine ⟨.ref a, rD (1, 7), rfl, dp_mkr na, fun _ => ?_, fun t => absurd t (by decide +kernel)⟩
    refine ⟨(by show 2 ≤ sizeLine; decide), fun b nb => ?_⟩
    have s8 := PB.same_new (o := .tup [.int 1, .int 7]) nb
    exact eq_same (shaped_r (1, 7)) (Dp_same s8 (dp_mkr (a := 1) (b := 7) na)) (dp_mkr nb) (q _ ((s16.trans s7).trans s8))
end
end F3
set_option Elab.async false
set_option linter.all false
set_option maxRecDepth 100000
set_option maxHeartbeats 4000000
set_option exponentiation.threshold 3000
/-! the sums of the law and of the program are the same -/
namespace F3
open PySem PySem.Spec PyProof.Rows L2 FX RM PB
theorem amt_eq {d : Int × Int} {p : Pl} (h : RatP p) : amt d p = amtL d p := by
  have r1 := rep_norm (t := (rawA d p).1) (b := (rawA d p).2) (Int.mul_pos h.1.1 h.2.1)
  have r2 := rep_add (rep_mul (rep_self (rat_int d.1)) (rep_self h.1)) (rep_mul (rep_self (rat_int d.2)) (rep_self h.2))
  refine rep_eq r1 r2 ?_
  show (d.1 * p.1.1 * p.2.2 + d.2 * p.2.1 * p.1.2) * ((1 * p.1.2) * (1 * p.2.2)) = ((d.1 * p.1.1) * (1 * p.2.2) + (d.2 * p.2.1) * (1 * p.1.2)) * (p.1.2 * p.2.2)
  grind
theorem by_step {r s : Rt} (h : IsRat r) (k : IsRat s) : radd r (rsub s r) = s := by
  refine rep_eq (rep_add (rep_self h) (rep_sub (rep_self k) (rep_self h))) (rep_self k) ?_
  grind
theorem by0 {r s : Rt} (h : IsRat r) (k : IsRat s) : radd r (rmul (rsub s r) (0, 1)) = r := by
  refine rep_eq (rep_add (rep_self h) (rep_mul (rep_sub (rep_self k) (rep_self h)) (rep_self rat_zero))) (rep_self h) ?_
  grind
theorem by1 {r s : Rt} (h : IsRat r) (k : IsRat s) : radd r (rmul (rsub s r) (1, 1)) = s := by
  refine rep_eq (rep_add (rep_self h) (rep_mul (rep_sub (rep_self k) (rep_self h)) (rep_self rat_one))) (rep_self k) ?_
  grind
theorem rmul_comm (r s : Rt) : rmul r s = rmul s r := by
  unfold rmul
  rw [Int.mul_comm r.1, Int.mul_comm r.2]
theorem byP_step {p s : Pl} (h : RatP p) (k : RatP s) : byP p (stepF p s) = s := Prod.ext (by_step h.1 k.1) (by_step h.2 k.2)
theorem byP_0 {p s : Pl} (h : RatP p) (k : RatP s) : byP p (growP (stepF p s) (0, 1)) = p := Prod.ext (by0 h.1 k.1) (by0 h.2 k.2)
theorem byP_1 {p s : Pl} (h : RatP p) (k : RatP s) : byP p (growP (stepF p s) (1, 1)) = s := Prod.ext (by1 h.1 k.1) (by1 h.2 k.2)
theorem wrow_rep {p : Pl} (h : RatP p) : Rep p.1 (wrow p).1 (wrow p).2.2 ∧ Rep p.2 (wrow p).2.1 (wrow p).2.2 := by
  unfold wrow
  split
  · rename_i e
    refine ⟨rep_self h.1, ?_⟩
    rw [e]; exact rep_self h.2
  · have bp : 0 < p.1.2 * p.2.2 := Int.mul_pos h.1.1 h.2.1
    refine ⟨⟨h.1, bp, ?_⟩, ⟨h.2, bp, ?_⟩⟩
    · show p.1.1 * (p.1.2 * p.2.2) = p.1.1 * p.2.2 * p.1.2
      grind
    · show p.2.1 * (p.1.2 * p.2.2) = p.2.1 * p.1.2 * p.2.2
      grind
theorem cross_alg (ax ay ab bx by_ bb cx cy cb : Int) :
    (bx * ab - ax * bb) * (cy * ab - ay * cb) - (by_ * ab - ay * bb) * (cx * ab - ax * cb) = ab * (ab * (bx * cy - by_ * cx) + bb * (cx * ay - cy * ax) + cb * (ax * by_ - ay * bx)) := by
  grind
theorem cross_eq {a b c : Pl} (ha : RatP a) (hb : RatP b) (hc : RatP c) : crossP a b c = crossL a b c := by
  obtain ⟨a1, a2⟩ := wrow_rep ha
  obtain ⟨b1, b2⟩ := wrow_rep hb
  obtain ⟨c1, c2⟩ := wrow_rep hc
  have r2 := rep_sub (rep_mul (rep_sub b1 a1) (rep_sub c2 a2)) (rep_mul (rep_sub b2 a2) (rep_sub c1 a1))
  have dp : 0 < (rawC (wrow a) (wrow b) (wrow c)).2 := Int.mul_pos (Int.mul_pos a1.2.1 b1.2.1) c1.2.1
  refine rep_eq (rep_norm dp) r2 ?_
  generalize wrow a = f
  generalize wrow b = g
  generalize wrow c = h
  obtain ⟨ax, ay, ab⟩ := f
  obtain ⟨bx, by_, bb⟩ := g
  obtain ⟨cx, cy, cb⟩ := h
  have e := cross_alg ax ay ab bx by_ bb cx cy cb
  show (ab * (bx * cy - by_ * cx) + bb * (cx * ay - cy * ax) + cb * (ax * by_ - ay * bx)) * ((bb * ab) * (cb * ab) * ((bb * ab) * (cb * ab))) =
    ((bx * ab - ax * bb) * (cy * ab - ay * cb) * ((bb * ab) * (cb * ab)) - (by_ * ab - ay * bb) * (cx * ab - ax * cb) * ((bb * ab) * (cb * ab))) * (ab * bb * cb)
  generalize (bx * ab - ax * bb) * (cy * ab - ay * cb) = A at e ⊢
  generalize (by_ * ab - ay * bb) * (cx * ab - ax * cb) = C at e ⊢
  generalize ab * (bx * cy - by_ * cx) + bb * (cx * ay - cy * ax) + cb * (ax * by_ - ay * bx) = N at e ⊢
  have e2 : A = C + ab * N := by omega
  rw [e2]
  grind
theorem cross_0 {a c : Pl} (ha : RatP a) (hc : RatP c) : crossP a a c = (0, 1) := by
  obtain ⟨a1, a2⟩ := wrow_rep ha
  obtain ⟨c1, c2⟩ := wrow_rep hc
  have dp : 0 < (rawC (wrow a) (wrow a) (wrow c)).2 := Int.mul_pos (Int.mul_pos a1.2.1 a1.2.1) c1.2.1
  refine rep_eq (rep_norm dp) (rep_self rat_zero) ?_
  generalize wrow a = f
  generalize wrow c = h
  obtain ⟨ax, ay, ab⟩ := f
  obtain ⟨cx, cy, cb⟩ := h
  show (ab * (ax * cy - ay * cx) + ab * (cx * ay - cy * ax) + cb * (ax * ay - ay * ax)) * 1 = 0 * (ab * ab * cb)
  grind
theorem rsub_0 {r s : Rt} (h : IsRat r) (k : IsRat s) (e : (rsub s r).1 = 0) : r = s := by
  have z := (rep_sub (rep_self k) (rep_self h))
  have z2 := z.2.2
  rw [e, Int.zero_mul] at z2
  have b : (rsub s r).2 ≠ 0 := by have := z.1.1; omega
  rcases Int.mul_eq_zero.mp z2.symm with q | q
  · exact rat_eq h k (by omega)
  · exact absurd q b
theorem rsub_self (r : Rt) (h : IsRat r) : (rsub r r).1 = 0 := by
  have z := (rep_sub (rep_self h) (rep_self h)).2.2
  have e : r.1 * r.2 - r.1 * r.2 = 0 := by omega
  rw [e, Int.zero_mul] at z
  rcases Int.mul_eq_zero.mp z with q | q
  · exact q
  · exact absurd q (by have := Int.mul_pos h.1 h.1; omega)
theorem step_nz {p s : Pl} (h : RatP p) (k : RatP s) (n : p ≠ s) : (stepF p s).1.1 ≠ 0 ∨ (stepF p s).2.1 ≠ 0 := by
  by_cases a : (stepF p s).1.1 = 0
  · by_cases b : (stepF p s).2.1 = 0
    · exact absurd (Prod.ext (rsub_0 h.1 k.1 a) (rsub_0 h.2 k.2 b)) n
    · exact .inr b
  · exact .inl a
theorem step_z {p : Pl} (h : RatP p) : (stepF p p).1.1 = 0 ∧ (stepF p p).2.1 = 0 := ⟨rsub_self _ h.1, rsub_self _ h.2⟩
theorem norm_turn {X Y : Int} (h : X ≠ 0 ∨ Y ≠ 0) : norm Y (-X) = ((norm X Y).2, -(norm X Y).1) := by
  have e : g2 Y (-X) = g2 X Y := by unfold g2; rw [Int.natAbs_neg, Nat.gcd_comm]
  unfold norm
  rw [e]
  obtain ⟨k, hk⟩ := g2_l X Y
  have gp := g2_posO h
  have e1 : X / g2 X Y = k := Int.ediv_eq_of_eq_mul_right (by omega) hk
  have e2 : -X / g2 X Y = -k := Int.ediv_eq_of_eq_mul_right (by omega) (by rw [Int.mul_neg, ← hk])
  rw [e1, e2]
theorem dir_turn {S : Pl} (h : RatP S) (n : S.1.1 ≠ 0 ∨ S.2.1 ≠ 0) : dirOf (S.2, rneg S.1) = ((dirOf S).2, -(dirOf S).1) := by
  unfold dirOf
  have z : S.1.1 * S.2.2 ≠ 0 ∨ S.2.1 * S.1.2 ≠ 0 := by
    rcases n with n | n
    · exact .inl (Int.mul_ne_zero n (by have := h.2.1; omega))
    · exact .inr (Int.mul_ne_zero n (by have := h.1.1; omega))
  have := norm_turn z
  rw [← this]
  show norm (S.2.1 * S.1.2) (-S.1.1 * S.2.2) = norm (S.2.1 * S.1.2) (-(S.1.1 * S.2.2))
  rw [Int.neg_mul]
theorem eqv_r (r s : Rt) : PyData.eqv (rD r) (rD s) = true → r = s := by
  intro h
  simp [rD, PyData.eqv, PyData.eqvAll] at h
  exact Prod.ext h.1 h.2
theorem eqv_p (p s : Pl) (n : p ≠ s) : PyData.eqv (pD p) (pD s) = false := by
  cases e : PyData.eqv (pD p) (pD s) with
  | false => rfl
  | true =>
    exfalso
    apply n
    have h : PyData.eqv (rD p.1) (rD s.1) = true ∧ PyData.eqv (rD p.2) (rD s.2) = true := by
      unfold pD at e
      simpa [PyData.eqv, PyData.eqvAll] using e
    exact Prod.ext (eqv_r _ _ h.1) (eqv_r _ _ h.2)
end F3
set_option Elab.async false
set_option linter.all false
set_option maxRecDepth 100000
set_option maxHeartbeats 8000000
set_option exponentiation.threshold 3000
set_option pp.maxSteps 300
namespace F3
open PySem PySem.Spec PyProof.Rows L2 FX RM PB
theorem HandAt.updD {H1 H4 : Hp} {p D : Addr} {o : HO} (h1 : HandAt H1 p) (nD : H1 D = none) (s : SameBut p H1 H4) (h4 : HandAt H4 p) : HandAt (upd H4 D o) p := by
  obtain ⟨c, cs, i, r, t, a, b, q⟩ := h1
  obtain ⟨c', cs', i', r', t', a', b', q'⟩ := h4
  obtain ⟨l', e⟩ := s.2 c _ a
  have np : p ≠ D := ne_of_none a nD
  have nc : c ≠ D := ne_of_none b nD
  have ec : c' = c := by
    rw [e] at a'
    cases a'
    rfl
  subst ec
  exact ⟨c', cs', i', r', t', by rw [upd_ne np]; exact a', by rw [upd_ne nc]; exact b', q'⟩
theorem SameBut.updD {H1 H4 : Hp} {p D : Addr} {o : HO} (s : SameBut p H1 H4) (nD : H1 D = none) : SameBut p H1 (upd H4 D o) :=
  ⟨fun b x nb e => by rw [upd_ne (ne_of_none e nD)]; exact s.1 b x nb e, fun c l e => by
    obtain ⟨l', e'⟩ := s.2 c l e
    exact ⟨l', by rw [upd_ne (ne_of_none e nD)]; exact e'⟩⟩
theorem HandAt.neD {H1 : Hp} {p D : Addr} (h1 : HandAt H1 p) (nD : H1 D = none) : D ≠ p := by
  obtain ⟨c, cs, i, r, t, a, b, q⟩ := h1
  exact (ne_of_none a nD).symm
theorem HandAt.dps {H H' : Hp} {K : PySem.W.Frag} {p : Addr} {vs : List V} {ps : List Pl} (h : HandAt H p) (s : SameBut p H H') (k : DpAll K H vs (ps.map pD)) : DpAll K H' vs (ps.map pD) := by
  obtain ⟨c, cs, i, r, t, a, _⟩ := h
  refine DpAll_but a s.1 (noLs_all fun d hd => ?_) k
  obtain ⟨x, _, rfl⟩ := List.mem_map.mp hd
  exact noL_p x
/-- one more place behind the list at D -/
theorem dps_snoc {H4 : Hp} {K : PySem.W.Frag} {D : Addr} {acc : List V} {ps : List Pl} {v : V} {r : Pl} (hD : H4 D = some (.lst acc)) (hA : DpAll K H4 acc (ps.map pD)) (hv : Dp K H4 v (pD r)) : DpAll K (upd H4 D (.lst (acc ++ [v]))) (acc ++ [v]) ((ps ++ [r]).map pD) := by
  rw [List.map_append]
  refine DpAll_but hD (fun b o n e => by rw [upd_ne n]; exact e) (noLs_all fun d hd => ?_) (DpAll_snoc hv hA)
  rcases List.mem_append.mp hd with hd | hd
  · obtain ⟨x, _, rfl⟩ := List.mem_map.mp hd
    exact noL_p x
  · obtain ⟨x, _, rfl⟩ := List.mem_map.mp hd
    exact noL_p x
theorem dpa4 {K : PySem.W.Frag} {H : Hp} {vs : List V} {a b c d : PyData} (h : DpAll K H vs [a, b, c, d]) : ∃ x y z t, vs = [x, y, z, t] ∧ Dp K H x a ∧ Dp K H y b ∧ Dp K H z c ∧ Dp K H t d := by
  cases h with
  | cons h1 h => cases h with
    | cons h2 h => cases h with
      | cons h3 h => cases h with
        | cons h4 h => cases h with
          | nil => exact ⟨_, _, _, _, rfl, h1, h2, h3, h4⟩
theorem ix_listK {X : Cx} (K : PySem.W.Frag) (e : X.K = K := by rfl) : IxR X (rIxL K) := e ▸ ix_list
def spLaw (K : PySem.W.Frag) : Sp := fun vs H Q _ => ∃ (a : Addr) (ns : List Int), vs = [.ref a] ∧ SqL K H a (ns.map V.int) ∧ ns.length ≤ 63 ∧ ∀ H', Q (.bl true) H'
abbrev slaw : Stmt := topS 66
theorem sclaw : FnScope ["_law_script", "_law_hand_here", "_law_places", "_law_one", "_law_other", "_law_third", "_law_way_here", "_law_share", "_law_size", "_law_told", "_law_step_here", "_law_part", "_law_many", "_law_row", "_law_x", "_law_y", "_law_place_here", "_law_due", "_law_along", "_law_turn"] ["_law_script"] (defScope slaw) := ⟨rfl, rfl, rfl, by decide +kernel, rfl, by decide +kernel, by decide +kernel⟩
/-- what the tail begins with -/
structure Pre (K : PySem.W.Frag) (p D : Addr) (a b c d : Pl) (v0 v1 v2 v3 : V) (H : Hp) : Prop where
  h : HandAt H p
  ne : D ≠ p
  hD : H D = some (.lst [v0, v1, v2, v3])
  f0 : Dp K H v0 (pD a)
  f1 : Dp K H v1 (pD b)
  f2 : Dp K H v2 (pD c)
  f3 : Dp K H v3 (pD d)
  r : RatP a ∧ RatP b ∧ RatP c ∧ RatP d
  z : SzP 151 a ∧ SzP 151 b ∧ SzP 151 c ∧ SzP 151 d
theorem Pre.go {K : PySem.W.Frag} {p D : Addr} {a b c d : Pl} {v0 v1 v2 v3 : V} {H H' : Hp} (P : Pre K p D a b c d v0 v1 v2 v3 H) (s : SameBut p H H') (h' : HandAt H' p) : Pre K p D a b c d v0 v1 v2 v3 H' :=
  ⟨h', P.ne, s.1 _ _ P.ne P.hD, P.h.dp s (noL_p _) P.f0, P.h.dp s (noL_p _) P.f1, P.h.dp s (noL_p _) P.f2, P.h.dp s (noL_p _) P.f3, P.r, P.z⟩
theorem szp_mono {n m : Nat} {p : Pl} (h : SzP n p) (k : n ≤ m) : SzP m p := ⟨szr_mono h.1 k, szr_mono h.2 k⟩
/-- list(v) of a couple -/
theorem mk_l {K : PySem.W.Frag} {H : Hp} {l : Addr} {x y : V} (nl : H l = none) : Cou K (upd H l (.lst [x, y])) (.ref l) x y := ⟨l, rfl, .inr (.inl (.inl upd_same))⟩
section
variable {P : Program} {w : World} {K : PySem.W.Frag} {mg : Str → Option Value} {base : Heap}
theorem law_tail (G_law_hand : DefOk P w K mg base CX0 "_law_hand" 1 ["_law_script"] (spHand K)) (G_law_any_way : DefOk P w K mg base CX0 "_law_any_way" 4 ["_law_hand_here"] (spDraw K (SzR 151))) (Gamount_at : DefOk P w K mg base CX0 "amount_at" 2 ["direction", "place"] (spRawA K amt)) (Gstep_from : DefOk P w K mg base CX0 "step_from" 4 ["one", "other"] (spPP K 2000 stepF)) (G_law_place : DefOk P w K mg base CX0 "_law_place" 4 ["_law_hand_here"] (spDrawP K)) (G_law_take : DefOk P w K mg base CX0 "_law_take" 2 ["_law_hand_here", "_law_many"] spTake) (G_law_small : DefOk P w K mg base CX0 "_law_small" 3 ["_law_hand_here"] (spDraw K fun r => IsRat r ∧ SzR 5 r)) (G_law_ratio : DefOk P w K mg base CX0 "_law_ratio" 2 ["_law_top", "_law_bottom"] (spLow K)) (G_law_times : DefOk P w K mg base CX0 "_law_times" 3 ["_law_one", "_law_other"] (spBin K rmul)) (G_law_direction : DefOk P w K mg base CX0 "_law_direction" 2 ["_law_x", "_law_y"] (spWd K)) (G_law_checks : DefOk P w K mg base CX0 "_law_checks" 6 ["_law_place_here", "_law_amount_here"] (spChk K)) (G_law_plain : DefOk P w K mg base CX0 "_law_plain" 1 ["_law_told", "_law_due"] (spPlain K)) (G_law_step : DefOk P w K mg base CX0 "_law_step" 4 ["_law_one", "_law_other"] (spPT K stepF)) (G_law_tuples : DefOk P w K mg base CX0 "_law_tuples" 3 ["_law_thing"] (spTup K 2)) (Gplace_by : DefOk P w K mg base CX0 "place_by" 3 ["place", "step"] (spPP K 2000 byP)) (G_law_by : DefOk P w K mg base CX0 "_law_by" 4 ["_law_place_here", "_law_step_here"] (spPT K byP)) (Gplace_on : DefOk P w K mg base CX0 "place_on" 5 ["one", "other", "share"] (spOn K)) (Gcross_at : DefOk P w K mg base CX0 "cross_at" 3 ["first", "second", "third"] (spCross K crossP)) (G_law_cross : DefOk P w K mg base CX0 "_law_cross" 4 ["_law_first", "_law_second", "_law_third"] (spCroL K)) (G_law_plus : DefOk P w K mg base CX0 "_law_plus" 3 ["_law_one", "_law_other"] (spBin K radd)) (Gmean_place : DefOk P w K mg base CX0 "mean_place" 4 ["places"] (spMean K)) (Gturn_place : DefOk P w K mg base CX0 "turn_place" 2 ["place"] (spP1 K fun p => (rneg p.2, p.1))) (Gmirror_place : DefOk P w K mg base CX0 "mirror_place" 2 ["place"] (spP1 K fun p => (rneg p.1, p.2))) (Ggrow_place : DefOk P w K mg base CX0 "grow_place" 3 ["place", "size"] (spGrow K)) (G_law_normal : DefOk P w K mg base CX0 "_law_normal" 6 ["_law_one", "_law_other"] (spNrm K)) (G_law_amount : DefOk P w K mg base CX0 "_law_amount" 4 ["_law_direction_here", "_law_place_here"] (spAmtL K)) (mrange : mg "range" = none) (mlist : mg "list" = none) (mtuple : mg "tuple" = none) {f : Addr} {cdv : Value} {A : Around} {outer : List Env} {s : Shared} {H0 : Hp} {E : XK} (hr : Room 6 (A.deeper (envOfC "law" (defScope slaw) s.heap.objs.size f cdv))) : ∃ t, PSs (cxOf CX0 P w K mg base ["_law_script", "_law_hand_here", "_law_places", "_law_one", "_law_other", "_law_third", "_law_way_here", "_law_share", "_law_size", "_law_told", "_law_step_here", "_law_part", "_law_many", "_law_row", "_law_x", "_law_y", "_law_place_here", "_law_due", "_law_along", "_law_turn"] "law" (defScope slaw) f cdv A outer s H0 E).nox (List.drop 3 (defBody slaw)) t ∧
    ∀ (p D : Addr) (a b c d : Pl) (v0 v1 v2 v3 vs yt : V) (DE : Ends) (H : Hp), Pre K p D a b c d v0 v1 v2 v3 H → (∀ H', DE.rt (.bl true) H') → t DE [some vs, some (.ref p), some (.ref D), none, none, none, none, none, none, none, none, none, none, none, none, none, none, none, none, none] H := by
  refine ⟨_, (pss_cons (ps_par3 (i := 3) (j := 4) (l := 5) rfl sclaw.nd rfl rfl rfl (by decide) (by decide) (by decide) rfl rfl rfl (pa_cons (pe_ix ix_list (pv 2) pe_int (fun _ _ => rfl)) (pa_cons (pe_ix ix_list (pv 2) pe_int (fun _ _ => rfl)) (pa_cons (pe_ix ix_list (pv 2) pe_int (fun _ _ => rfl)) pa_nil))) rfl) (pss_cons (ps_set (i := 6) sclaw.nd rfl (.inl rfl) (pe_def G_law_any_way (hr.mono (by decide)) (by rfl) (pa_cons (pv 1) pa_nil))) (pss_cons (ps_par (i := 7) (j := 8) rfl sclaw.nd rfl rfl (by decide) rfl rfl (pa_cons (pe_def G_law_small (hr.mono (by decide)) (by rfl) (pa_cons (pv 1) pa_nil)) (pa_cons (pe_def G_law_ratio (hr.mono (by decide)) (by rfl) (pa_cons (pe_op op_add pe_int (pe_def G_law_take (hr.mono (by decide)) (by rfl) (pa_cons (pv 1) (pa_cons pe_int pa_nil)))) (pa_cons (pe_op op_add pe_int (pe_def G_law_take (hr.mono (by decide)) (by rfl) (pa_cons (pv 1) (pa_cons pe_int pa_nil)))) pa_nil))) pa_nil)) rfl) (pss_cons (ps_set (i := 9) sclaw.nd rfl (.inl rfl) (pe_def Gamount_at (hr.mono (by decide)) (by rfl) (pa_cons (pv 6) (pa_cons (pv 3) pa_nil)))) (pss_cons (ps_if (PW.pt (pw_or (pt_not (pt_val (pe_def G_law_plain (hr.mono (by decide)) (by rfl) (pa_cons (pv 9) (pa_cons (pe_def G_law_amount (hr.mono (by decide)) (by rfl) (pa_cons (pv 6) (pa_cons (pv 3) pa_nil))) pa_nil))))) (pw_or1 (pt_cmpR (op_neD hr.units) (pe_def Gamount_at (hr.mono (by decide)) (by rfl) (pa_cons (pe_callTy call_list_of (by rfl) mlist (by decide +kernel) (pa_cons (pv 6) pa_nil)) (pa_cons (pe_callTy call_list_of (by rfl) mlist (by decide +kernel) (pa_cons (pv 3) pa_nil)) pa_nil))) (pv 9) (nomark _))))) (pss_one (ps_ret pe_bl)) pss_nil) (pss_cons (ps_set (i := 10) sclaw.nd rfl (.inl rfl) (pe_def Gstep_from (hr.mono (by decide)) (by rfl) (pa_cons (pv 3) (pa_cons (pv 4) pa_nil)))) (pss_cons (ps_if (PW.pt (pw_or (pt_cmpR (op_neD hr.units) (pv 10) (pe_def G_law_step (hr.mono (by decide)) (by rfl) (pa_cons (pv 3) (pa_cons (pv 4) pa_nil))) (nomark _)) (pw_or (pt_not (pt_val (pe_def G_law_tuples (hr.mono (by decide)) (by rfl) (pa_cons (pv 10) pa_nil)))) (pw_or (pt_cmpR (op_neD hr.units) (pe_def Gplace_by (hr.mono (by decide)) (by rfl) (pa_cons (pv 3) (pa_cons (pv 10) pa_nil))) (pv 4) (nomark _)) (pw_or1 (pt_cmpR (op_neD hr.units) (pe_def Gplace_by (hr.mono (by decide)) (by rfl) (pa_cons (pe_callTy call_list_of (by rfl) mlist (by decide +kernel) (pa_cons (pv 5) pa_nil)) (pa_cons (pe_callTy call_list_of (by rfl) mlist (by decide +kernel) (pa_cons (pv 10) pa_nil)) pa_nil))) (pe_def G_law_by (hr.mono (by decide)) (by rfl) (pa_cons (pv 5) (pa_cons (pv 10) pa_nil))) (nomark _))))))) (pss_one (ps_ret pe_bl)) pss_nil) (pss_cons (ps_set (i := 11) sclaw.nd rfl (.inl rfl) (pe_tup (pa_cons (pe_def G_law_times (hr.mono (by decide)) (by rfl) (pa_cons (pv 7) (pa_cons (pe_ix ix_it (pv 10) pe_int (fun _ _ => rfl)) pa_nil))) (pa_cons (pe_def G_law_times (hr.mono (by decide)) (by rfl) (pa_cons (pv 7) (pa_cons (pe_ix ix_it (pv 10) pe_int (fun _ _ => rfl)) pa_nil))) pa_nil)))) (pss_cons (ps_if (PW.pt (pw_or (pt_cmpR (op_neD hr.units) (pe_def Gplace_on (hr.mono (by decide)) (by rfl) (pa_cons (pv 3) (pa_cons (pv 4) (pa_cons (pv 7) pa_nil)))) (pe_def G_law_by (hr.mono (by decide)) (by rfl) (pa_cons (pv 3) (pa_cons (pv 11) pa_nil))) (nomark _)) (pw_or (pt_cmpR (op_neD hr.units) (pe_def Gplace_on (hr.mono (by decide)) (by rfl) (pa_cons (pv 3) (pa_cons (pv 4) (pa_cons (pe_tup (pa_cons pe_int (pa_cons pe_int pa_nil))) pa_nil)))) (pv 3) (nomark _)) (pw_or1 (pt_cmpR (op_neD hr.units) (pe_def Gplace_on (hr.mono (by decide)) (by rfl) (pa_cons (pe_callTy call_list_of (by rfl) mlist (by decide +kernel) (pa_cons (pv 3) pa_nil)) (pa_cons (pe_callTy call_list_of (by rfl) mlist (by decide +kernel) (pa_cons (pv 4) pa_nil)) (pa_cons (pe_tup (pa_cons pe_int (pa_cons pe_int pa_nil))) pa_nil)))) (pv 4) (nomark _)))))) (pss_one (ps_ret pe_bl)) pss_nil) (pss_cons (ps_if (PW.pt (pw_or (pt_cmpR (op_neD hr.units) (pe_def Gcross_at (hr.mono (by decide)) (by rfl) (pa_cons (pv 3) (pa_cons (pv 4) (pa_cons (pv 5) pa_nil)))) (pe_def G_law_cross (hr.mono (by decide)) (by rfl) (pa_cons (pv 3) (pa_cons (pv 4) (pa_cons (pv 5) pa_nil)))) (nomark _)) (pw_or1 (pt_cmpR (op_neD hr.units) (pe_def Gcross_at (hr.mono (by decide)) (by rfl) (pa_cons (pv 3) (pa_cons (pv 3) (pa_cons (pv 5) pa_nil)))) (pe_tup (pa_cons pe_int (pa_cons pe_int pa_nil))) (nomark _))))) (pss_one (ps_ret pe_bl)) pss_nil) (pss_cons (ps_set (i := 12) sclaw.nd rfl (.inl rfl) (pe_op op_add pe_int (pe_def G_law_take (hr.mono (by decide)) (by rfl) (pa_cons (pv 1) (pa_cons pe_int pa_nil))))) (pss_cons (ps_setLc (i := 13) (own := [("_law_turn", 19)]) (g := gName 19) (tt := tYes) rfl sclaw.nd rfl rfl (sw_true rfl rfl rfl (by decide +kernel)) (pi_range1 (by rfl) mrange (pa_cons (pv 12) pa_nil)) (blkOk_by (N := ["_law_script", "_law_hand_here", "_law_places", "_law_one", "_law_other", "_law_third", "_law_way_here", "_law_share", "_law_size", "_law_told", "_law_step_here", "_law_part", "_law_many", "_law_row", "_law_x", "_law_y", "_law_place_here", "_law_due", "_law_along", "_law_turn"]) (sc := defScope slaw) (by decide +kernel)) (fun _ _ _ _ _ => pg_name (i := 19) sclaw.nd rfl (.inl rfl)) (fun _ _ _ _ _ => pts_nil) (fun _ _ _ _ _ => (pe_ix (ix_listK K) (pv 2) (pe_def G_law_take (hr.mono (by decide)) (by rfl) (pa_cons (pv 1) (pa_cons pe_int pa_nil))) (fun _ _ => rfl)))) (pss_cons (ps_asg (pe_tup (pa_cons (pe_tup (pa_cons pe_int (pa_cons pe_int pa_nil))) (pa_cons (pe_tup (pa_cons pe_int (pa_cons pe_int pa_nil))) pa_nil))) (pg_cou rfl (pgs_cons (pg_name (i := 14) sclaw.nd rfl (.inl rfl)) (pgs_cons (pg_name (i := 15) sclaw.nd rfl (.inl rfl)) pgs_nil)))) (pss_cons (ps_for PassesOwn.never rfl (pi_list (pv 13)) (pg_name (i := 16) sclaw.nd rfl (.inl rfl)) (pss_one (ps_par (i := 14) (j := 15) rfl sclaw.nd rfl rfl (by decide) rfl rfl (pa_cons (pe_def G_law_plus (hr.mono (by decide)) (by rfl) (pa_cons (pv 14) (pa_cons (pe_ix ix_it (pv 16) pe_int (fun _ _ => rfl)) pa_nil))) (pa_cons (pe_def G_law_plus (hr.mono (by decide)) (by rfl) (pa_cons (pv 15) (pa_cons (pe_ix ix_it (pv 16) pe_int (fun _ _ => rfl)) pa_nil))) pa_nil)) rfl))) (pss_cons (ps_if (PW.pt (pw_or (pt_cmpR (op_neD hr.units) (pe_def Gmean_place (hr.mono (by decide)) (by rfl) (pa_cons (pv 13) pa_nil)) (pe_tup (pa_cons (pe_def G_law_times (hr.mono (by decide)) (by rfl) (pa_cons (pv 14) (pa_cons (pe_tup (pa_cons pe_int (pa_cons (pv 12) pa_nil))) pa_nil))) (pa_cons (pe_def G_law_times (hr.mono (by decide)) (by rfl) (pa_cons (pv 15) (pa_cons (pe_tup (pa_cons pe_int (pa_cons (pv 12) pa_nil))) pa_nil))) pa_nil))) (nomark _)) (pw_or1 (pt_not (pt_val (pe_def G_law_tuples (hr.mono (by decide)) (by rfl) (pa_cons (pe_def Gmean_place (hr.mono (by decide)) (by rfl) (pa_cons (pe_callTy call_tuple_of (by rfl) mtuple (by decide +kernel) (pa_cons (pv 13) pa_nil)) pa_nil)) pa_nil))))))) (pss_one (ps_ret pe_bl)) pss_nil) (pss_cons (ps_if (PW.pt (pw_or (pt_cmpR (op_neD hr.units) (pe_def Gturn_place (hr.mono (by decide)) (by rfl) (pa_cons (pv 3) pa_nil)) (pe_tup (pa_cons (pe_tup (pa_cons (pe_un un_neg (pe_ix ix_it (pe_ix ix_it (pv 3) pe_int (fun _ _ => rfl)) pe_int (fun _ _ => rfl))) (pa_cons (pe_ix ix_it (pe_ix ix_it (pv 3) pe_int (fun _ _ => rfl)) pe_int (fun _ _ => rfl)) pa_nil))) (pa_cons (pe_ix ix_it (pv 3) pe_int (fun _ _ => rfl)) pa_nil))) (nomark _)) (pw_or1 (pt_cmpR (op_neD hr.units) (pe_def Gmirror_place (hr.mono (by decide)) (by rfl) (pa_cons (pv 3) pa_nil)) (pe_tup (pa_cons (pe_tup (pa_cons (pe_un un_neg (pe_ix ix_it (pe_ix ix_it (pv 3) pe_int (fun _ _ => rfl)) pe_int (fun _ _ => rfl))) (pa_cons (pe_ix ix_it (pe_ix ix_it (pv 3) pe_int (fun _ _ => rfl)) pe_int (fun _ _ => rfl)) pa_nil))) (pa_cons (pe_ix ix_it (pv 3) pe_int (fun _ _ => rfl)) pa_nil))) (nomark _))))) (pss_one (ps_ret pe_bl)) pss_nil) (pss_cons (ps_if (PW.pt (pw_or (pt_cmpR (op_neD hr.units) (pe_def Ggrow_place (hr.mono (by decide)) (by rfl) (pa_cons (pv 3) (pa_cons (pv 8) pa_nil))) (pe_tup (pa_cons (pe_def G_law_times (hr.mono (by decide)) (by rfl) (pa_cons (pe_ix ix_it (pv 3) pe_int (fun _ _ => rfl)) (pa_cons (pv 8) pa_nil))) (pa_cons (pe_def G_law_times (hr.mono (by decide)) (by rfl) (pa_cons (pe_ix ix_it (pv 3) pe_int (fun _ _ => rfl)) (pa_cons (pv 8) pa_nil))) pa_nil))) (nomark _)) (pw_or1 (pt_not (pt_val (pe_def G_law_tuples (hr.mono (by decide)) (by rfl) (pa_cons (pe_def Ggrow_place (hr.mono (by decide)) (by rfl) (pa_cons (pe_callTy call_list_of (by rfl) mlist (by decide +kernel) (pa_cons (pv 3) pa_nil)) (pa_cons (pv 8) pa_nil))) pa_nil))))))) (pss_one (ps_ret pe_bl)) pss_nil) (pss_cons (ps_set (i := 17) sclaw.nd rfl (.inl rfl) pe_str) (pss_cons (ps_if (pt_cmpR (op_neD hr.units) (pv 3) (pv 4) (nomark _)) (pss_cons (ps_set (i := 18) sclaw.nd rfl (.inl rfl) (pe_def G_law_direction (hr.mono (by decide)) (by rfl) (pa_cons (pe_op op_mulW (pe_ix ix_it (pe_ix ix_it (pv 10) pe_int (fun _ _ => rfl)) pe_int (fun _ _ => rfl)) (pe_ix ix_it (pe_ix ix_it (pv 10) pe_int (fun _ _ => rfl)) pe_int (fun _ _ => rfl))) (pa_cons (pe_op op_mulW (pe_ix ix_it (pe_ix ix_it (pv 10) pe_int (fun _ _ => rfl)) pe_int (fun _ _ => rfl)) (pe_ix ix_it (pe_ix ix_it (pv 10) pe_int (fun _ _ => rfl)) pe_int (fun _ _ => rfl))) pa_nil)))) (pss_one (ps_set (i := 17) sclaw.nd rfl (.inl rfl) (pe_tup (pa_cons (pe_ix ix_it (pv 18) pe_int (fun _ _ => rfl)) (pa_cons (pe_un un_neg (pe_ix ix_it (pv 18) pe_int (fun _ _ => rfl))) pa_nil)))))) pss_nil) (pss_one (ps_ret (pe_and (pe_cmpR (op_eqD hr.units) (pe_def G_law_normal (hr.mono (by decide)) (by rfl) (pa_cons (pv 3) (pa_cons (pv 4) pa_nil))) (pv 17) (nomark _)) (pe_and (pe_cmpR op_eq (pe_def G_law_normal (hr.mono (by decide)) (by rfl) (pa_cons (pv 3) (pa_cons (pv 3) pa_nil))) pe_str (nomark _)) (pe_one (pe_def G_law_checks (hr.mono (by decide)) (by rfl) (pa_cons (pv 5) (pa_cons (pe_def G_law_amount (hr.mono (by decide)) (by rfl) (pa_cons (pv 6) (pa_cons (pv 5) pa_nil))) pa_nil))))))))))))))))))))))))))), ?_⟩
  · intro p D a b c d v0 v1 v2 v3 vs yt DE H hP q
    obtain ⟨ra, rb, rc, rd⟩ := hP.r
    obtain ⟨za, zb, zc, zd⟩ := hP.z
    refine ⟨.ref D, rfl, D, _, 0, _, rfl, rfl, .of hP.hD, rfl, .ref D, rfl, D, _, 1, _, rfl, rfl, .of hP.hD, rfl, .ref D, rfl, D, _, 2, _, rfl, rfl, .of hP.hD, rfl, _, _, _, rfl, ?_⟩
    refine ⟨.ref p, rfl, p, rfl, hP.h, fun dw vw H1 zw hw h1 s1 => ?_⟩
    refine ⟨.ref p, rfl, p, rfl, h1, fun sh vsh H2 ⟨ish, zsh⟩ hsh h2 s2 => ?_⟩
    refine ⟨.ref p, rfl, p, 9, rfl, h2, by decide, by decide, fun m1 H3 m0 m9 h3 s3 => ⟨_, _, rfl, rfl, ?_⟩⟩
    refine ⟨.ref p, rfl, p, 5, rfl, h3, by decide, by decide, fun n1 H4 n0 n5 h4 s4 => ⟨_, _, rfl, rfl, ?_⟩⟩
    have z1 : Sz 5 (1 + m1) := by show (1 + m1).natAbs < 2 ^ 5; omega
    have z2 : Sz 5 (1 + n1) := by show (1 + n1).natAbs < 2 ^ 5; omega
    have b0 : 0 < 1 + n1 := by omega
    refine ⟨_, _, rfl, b0, sz_mono z1 (by decide), sz_mono z2 (by decide), fun H5 vsz s5 hsz => ⟨_, _, rfl, ?_⟩⟩
    have isz := norm_rat (t := 1 + m1) b0
    have zsz := szr_norm b0 z1 z2
    generalize norm (1 + m1) (1 + n1) = sz at hsz isz zsz
    have S25 := ((s3.trans s4).trans (Same.but s5))
    have S15 := s2.trans S25
    have h5 := h4.same s5
    replace hP := hP.go (s1.trans S15) h5
    replace hw := h1.dp S15 (noL_r _) hw
    replace hsh := h2.dp S25 (noL_r _) hsh
    clear s1 s2 s3 s4 s5 h1 h2 h3 h4 S25 S15 z1 z2 b0
    obtain ⟨_, ne, hD, f0, f1, f2, f3, _, _⟩ := hP
    obtain ⟨qw, ew, hsw⟩ := dp_r hw
    subst ew
    obtain ⟨q0, x0, y0, e0, hs0, hx0, hy0⟩ := dp_t2 f0
    subst e0
    obtain ⟨q1, x1, y1, e1, hs1, hx1, hy1⟩ := dp_t2 f1
    subst e1
    obtain ⟨q2, x2, y2, e2, hs2, hx2, hy2⟩ := dp_t2 f2
    subst e2
    -- told
    refine ⟨_, rfl, _, rfl, _, _, dw, a, rfl, dir_t hw, pla_t f0, ra, szr_mono zw (by decide), szp_mono za (by decide), fun H6 vt s6 ht => ?_⟩
    rw [amt_eq ra] at ht
    refine ⟨vt, rfl, _, rfl, _, rfl, _, _, dw, a, rfl, Dp_same s6 hw, Dp_same s6 f0, ra, szr_mono zw (by decide), szp_mono za (by decide), fun H7 z7 s7 h7 => ?_⟩
    refine ⟨vt, z7, _, rfl, Dp_same s7 ht, h7, _, rfl, itF rfl ?_⟩
    have t7 := s6.trans s7
    refine ⟨_, rfl, qw, _, rfl, .inr (same_t t7 hsw), fun l1 nl1 => ?_⟩
    refine ⟨_, rfl, q0, _, rfl, .inr (same_t (t7.trans (PB.same_new nl1)) hs0), fun l2 nl2 => ?_⟩
    have u1 := PB.same_new (o := .lst [.int dw.1, .int dw.2]) nl1
    have u2 := PB.same_new (o := .lst [x0, y0]) nl2
    have t8 := t7.trans (u1.trans u2)
    refine ⟨_, _, dw, a, rfl, (mk_l nl1).same u2, ⟨x0, y0, mk_l nl2, Dp_same t8 hx0, Dp_same t8 hy0⟩, ra, szr_mono zw (by decide), szp_mono za (by decide), fun H9 z9 s9 h9 => ?_⟩
    rw [amt_eq ra] at h9
    have t9 := t8.trans s9
    refine ⟨vt, rfl, ne_same (shaped_r _) h9 (Dp_same (s7.trans ((u1.trans u2).trans s9)) ht) ⟨_, rfl, itF rfl ?_⟩⟩
    have hb9 := h5.same t9
    clear h7 h9 ht u1 u2 t8 t7 s6 s7 s9 nl1 nl2
    -- the step
    have r1 : RatP (stepF a b) := ⟨rat_sub rb.1 ra.1, rat_sub rb.2 ra.2⟩
    have e1 : SzP 303 (stepF a b) := ⟨szr_sub rb.1 ra.1 zb.1 za.1, szr_sub rb.2 ra.2 zb.2 za.2⟩
    refine ⟨_, rfl, _, rfl, _, _, a, b, rfl, pla_t (Dp_same t9 f0), pla_t (Dp_same t9 f1), ra, rb, szp_mono za (by decide), szp_mono zb (by decide), fun H10 vs s10 hst => ?_⟩
    have t10 := t9.trans s10
    obtain ⟨qs, xs, ys, es, hss, hxs, hys⟩ := dp_t2 hst
    subst es
    refine ⟨_, rfl, _, rfl, _, rfl, _, _, a, b, rfl, Dp_same t10 f0, Dp_same t10 f1, ra, rb, szp_mono za (by decide), szp_mono zb (by decide), fun H11 z11 s11 h11 => ?_⟩
    refine ne_same (shaped_p _) (Dp_same s11 hst) h11 ⟨_, rfl, itF rfl ?_⟩
    refine ⟨_, rfl, _, _, rfl, Dp_same s11 hst, tup_p _, fun H12 s12 => ⟨_, rfl, itF rfl ?_⟩⟩
    have t12 := t10.trans (s11.trans s12)
    have w12 := s11.trans s12
    refine ⟨_, rfl, _, rfl, _, _, a, stepF a b, rfl, pla_t (Dp_same t12 f0), pla_t (Dp_same w12 hst), ra, r1, szp_mono za (by decide), szp_mono e1 (by decide), fun H13 z13 s13 h13 => ?_⟩
    rw [byP_step ra rb] at h13
    have t13 := t12.trans s13
    have w13 := w12.trans s13
    refine ⟨_, rfl, ne_same (shaped_p _) h13 (Dp_same t13 f1) ⟨_, rfl, itF rfl ?_⟩⟩
    refine ⟨_, rfl, q2, _, rfl, .inr (same_t t13 hs2), fun l1 nl1 => ?_⟩
    refine ⟨_, rfl, qs, _, rfl, .inr (same_t (w13.trans (PB.same_new nl1)) hss), fun l2 nl2 => ?_⟩
    have u1 := PB.same_new (o := .lst [x2, y2]) nl1
    have u2 := PB.same_new (o := .lst [xs, ys]) nl2
    have t14 := t13.trans (u1.trans u2)
    have w14 := w13.trans (u1.trans u2)
    refine ⟨_, _, c, stepF a b, rfl, ⟨x2, y2, (mk_l nl1).same u2, Dp_same t14 hx2, Dp_same t14 hy2⟩, ⟨xs, ys, mk_l nl2, Dp_same w14 hxs, Dp_same w14 hys⟩, rc, r1, szp_mono zc (by decide), szp_mono e1 (by decide), fun H15 z15 s15 h15 => ?_⟩
    have t15 := t14.trans s15
    have w15 := w14.trans s15
    refine ⟨_, rfl, _, rfl, _, _, c, stepF a b, rfl, Dp_same t15 f2, Dp_same w15 hst, rc, r1, szp_mono zc (by decide), szp_mono e1 (by decide), fun H16 z16 s16 h16 => ?_⟩
    refine ne_same (shaped_p _) (Dp_same s16 h15) h16 ⟨_, rfl, itF rfl ?_⟩
    have t16 := t15.trans s16
    have w16 := w15.trans s16
    clear h11 h13 h15 h16 u1 u2 t14 w14 t12 w12 t13 w13 t15 w15 s11 s12 s13 s15 s16 nl1 nl2
    -- part
    refine ⟨vsh, rfl, _, rfl, _, _, 0, _, rfl, ⟨qs, rfl, .inl (same_t w16 hss)⟩, rfl, _, _, _, _, rfl, Dp_same t16 hsh, Dp_same w16 hxs, ish, r1.1, szr_mono zsh (by decide), szr_mono e1.1 (by decide), fun H17 z17 s17 h17 => ?_⟩
    have t17 := t16.trans s17
    have w17 := w16.trans s17
    refine ⟨vsh, rfl, _, rfl, _, _, 1, _, rfl, ⟨qs, rfl, .inl (same_t w17 hss)⟩, rfl, _, _, _, _, rfl, Dp_same t17 hsh, Dp_same w17 hys, ish, r1.2, szr_mono zsh (by decide), szr_mono e1.2 (by decide), fun H18 z18 s18 h18 => ⟨(by show 2 ≤ sizeLine; decide), fun pp np => ?_⟩⟩
    have u1 := PB.same_new (o := .tup [z17, z18]) np
    have fp : Dp K (upd H18 pp (.tup [z17, z18])) (.ref pp) (pD (rmul sh (stepF a b).1, rmul sh (stepF a b).2)) := dp_mk2 np (Dp_same s18 h17) h18
    have t19 := t17.trans (s18.trans u1)
    have w19 := w17.trans (s18.trans u1)
    have eG : growP (stepF a b) sh = (rmul sh (stepF a b).1, rmul sh (stepF a b).2) := Prod.ext (rmul_comm _ _) (rmul_comm _ _)
    have rG : RatP (rmul sh (stepF a b).1, rmul sh (stepF a b).2) := ⟨rat_mul ish r1.1, rat_mul ish r1.2⟩
    have zG : SzP 2000 (rmul sh (stepF a b).1, rmul sh (stepF a b).2) := ⟨szr_mono (szr_mul ish r1.1 zsh e1.1) (by decide), szr_mono (szr_mul ish r1.2 zsh e1.2) (by decide)⟩
    generalize (rmul sh (stepF a b).1, rmul sh (stepF a b).2) = G at fp eG rG zG
    dsimp only [gName]
    generalize upd H18 pp (.tup [z17, z18]) = H19 at fp t19 w19 ⊢
    clear h17 h18 u1 s17 s18 np t16 t17 w16 w17
    replace f0 := Dp_same t19 f0
    replace f1 := Dp_same t19 f1
    replace f2 := Dp_same t19 f2
    replace f3 := Dp_same t19 f3
    replace hw := Dp_same t19 hw
    replace hsh := Dp_same t19 hsh
    replace hsz := Dp_same t19 hsz
    replace hx0 := Dp_same t19 hx0
    replace hy0 := Dp_same t19 hy0
    replace hx1 := Dp_same t19 hx1
    replace hy1 := Dp_same t19 hy1
    replace hs0 := same_t t19 hs0
    replace hs1 := same_t t19 hs1
    replace h5 := h5.same t19
    replace hD := t19 _ _ hD
    replace hst := Dp_same w19 hst
    clear t19 w19
    have t19 : Same H19 H19 := fun _ _ e => e
    -- places on the way
    refine ⟨_, rfl, _, rfl, _, rfl, _, _, _, a, b, sh, rfl, pla_t (Dp_same t19 f0), pla_t (Dp_same t19 f1), Dp_same t19 hsh, ra, rb, ish, szp_mono za (by decide), szp_mono zb (by decide), szr_mono zsh (by decide), fun H20 z20 s20 h20 => ?_⟩
    rw [eG] at h20
    have t20 := t19.trans s20
    refine ⟨_, rfl, _, rfl, _, _, a, G, rfl, Dp_same t20 f0, Dp_same s20 fp, ra, rG, szp_mono za (by decide), zG, fun H21 z21 s21 h21 => ?_⟩
    refine ne_same (shaped_p _) (Dp_same s21 h20) h21 ⟨_, rfl, itF rfl ?_⟩
    have t21 := t20.trans s21
    refine ⟨_, rfl, _, rfl, (by show 2 ≤ sizeLine; decide), fun l nl => ?_⟩
    have u1 := PB.same_new (o := .tup [.int 0, .int 1]) nl
    have t22 := t21.trans u1
    refine ⟨_, _, _, a, b, (0, 1), rfl, pla_t (Dp_same t22 f0), pla_t (Dp_same t22 f1), dp_mkr nl, ra, rb, rat_zero, szp_mono za (by decide), szp_mono zb (by decide), szr_mono szr_zero (by decide), fun H23 z23 s23 h23 => ?_⟩
    rw [byP_0 ra rb] at h23
    have t23 := t22.trans s23
    refine ⟨_, rfl, ne_same (shaped_p _) h23 (Dp_same t23 f0) ⟨_, rfl, itF rfl ?_⟩⟩
    clear h20 h21 h23 u1 s20 s21 s23 t20 t21 t22 nl
    refine ⟨_, rfl, q0, _, rfl, .inr (same_t t23 hs0), fun l1 nl1 => ?_⟩
    refine ⟨_, rfl, q1, _, rfl, .inr (same_t (t23.trans (PB.same_new nl1)) hs1), fun l2 nl2 => ?_⟩
    refine ⟨(by show 2 ≤ sizeLine; decide), fun l3 nl3 => ?_⟩
    have u1 := PB.same_new (o := .lst [x0, y0]) nl1
    have u2 := PB.same_new (o := .lst [x1, y1]) nl2
    have u3 := PB.same_new (o := .tup [.int 1, .int 1]) nl3
    have t24 := t23.trans (u1.trans (u2.trans u3))
    refine ⟨_, _, _, a, b, (1, 1), rfl, ⟨x0, y0, (mk_l nl1).same (u2.trans u3), Dp_same t24 hx0, Dp_same t24 hy0⟩, ⟨x1, y1, (mk_l nl2).same u3, Dp_same t24 hx1, Dp_same t24 hy1⟩, dp_mkr nl3, ra, rb, rat_one, szp_mono za (by decide), szp_mono zb (by decide), szr_mono (n := 1) ⟨by show (1 : Int).natAbs < 2; decide, by show (1 : Int).natAbs < 2; decide⟩ (by decide), fun H25 z25 s25 h25 => ?_⟩
    rw [byP_1 ra rb] at h25
    have t25 := t24.trans s25
    refine ⟨_, rfl, ne_same (shaped_p _) h25 (Dp_same t25 f1) ⟨_, rfl, itF rfl ?_⟩⟩
    clear u1 u2 u3 t24 s25 h25 nl1 nl2 nl3 t23
    -- crosses
    refine ⟨_, rfl, _, rfl, _, rfl, _, _, _, a, b, c, rfl, pla_t (Dp_same t25 f0), pla_t (Dp_same t25 f1), pla_t (Dp_same t25 f2), ra, rb, rc, szp_mono za (by decide), szp_mono zb (by decide), szp_mono zc (by decide), fun H26 z26 s26 h26 => ?_⟩
    rw [cross_eq ra rb rc] at h26
    have t26 := t25.trans s26
    refine ⟨_, rfl, _, rfl, _, rfl, _, _, _, a, b, c, rfl, Dp_same t26 f0, Dp_same t26 f1, Dp_same t26 f2, ra, rb, rc, szp_mono za (by decide), szp_mono zb (by decide), szp_mono zc (by decide), fun H27 z27 s27 h27 => ?_⟩
    have t27 := t26.trans s27
    refine ne_same (shaped_r _) (Dp_same s27 h26) h27 ⟨_, rfl, itF rfl ?_⟩
    refine ⟨_, rfl, _, rfl, _, rfl, _, _, _, a, a, c, rfl, pla_t (Dp_same t27 f0), pla_t (Dp_same t27 f0), pla_t (Dp_same t27 f2), ra, ra, rc, szp_mono za (by decide), szp_mono za (by decide), szp_mono zc (by decide), fun H28 z28 s28 h28 => ?_⟩
    rw [cross_0 ra rc] at h28
    refine ⟨(by show 2 ≤ sizeLine; decide), fun l nl => ?_⟩
    have u1 := PB.same_new (o := .tup [.int 0, .int 1]) nl
    have t29 := t27.trans (s28.trans u1)
    refine ne_same (shaped_r (0, 1)) (Dp_same u1 h28) (dp_mkr nl) ⟨_, rfl, itF rfl ?_⟩
    have h29 := h5.same t29
    generalize upd H28 l (.tup [.int 0, .int 1]) = H29 at t29 h29 ⊢
    clear h26 h27 h28 u1 s26 s27 s28 t26 t27 nl t25
    -- the row
    refine ⟨.ref p, rfl, p, 4, rfl, h29, by decide, by decide, fun mi H30 mi0 mi4 h30 s30 => ⟨_, _, rfl, rfl, ?_⟩⟩
    obtain ⟨n, rfl⟩ := Int.eq_ofNat_of_zero_le mi0
    dsimp only [gName]
    rw [show (1 : Int) + (n : Int) = ((n + 1 : Nat) : Int) by omega]
    have S30 := (Same.but (p := p) t29).trans s30
    have fAll : DpAll K H30 [.ref q0, .ref q1, .ref q2, v3] ([a, b, c, d].map pD) := h5.dps S30 (.cons f0 (.cons f1 (.cons f2 (.cons f3 .nil))))
    have hD30 : H30 D = some (.lst [.ref q0, .ref q1, .ref q2, v3]) := S30.1 _ _ ne hD
    refine ⟨_, rfl, ((n + 1 : Nat) : Int), rfl, by omega, by omega, fun R nR => lc_range (n := n + 1) (fun i H' => HandAt H' p ∧ SameBut p H30 H' ∧ ∃ (ps : List Pl) (acc : List V), H' R = some (.lst acc) ∧ DpAll K H' acc (ps.map pD) ∧ ps.length = i ∧ ∀ r ∈ ps, RatP r ∧ SzP 151 r)
      ⟨h30.same (PB.same_new nR), Same.but (PB.same_new nR), [], [], upd_same, .nil, rfl, fun _ h => nomatch h⟩ ?_ ?_⟩
    · rintro i H' hi ⟨h2, s2, ps, acc, hR, hA, hl, ok⟩
      have hD2 : H' D = some (.lst [.ref q0, .ref q1, .ref q2, v3]) := s2.1 _ _ ne hD30
      refine ⟨rfl, .ref D, rfl, .ref p, rfl, p, 4, rfl, h2, by decide, by decide, fun k H4 k0 k4 h4 s4 => ?_⟩
      obtain ⟨k, rfl⟩ := Int.eq_ofNat_of_zero_le k0
      have kl : k < [V.ref q0, V.ref q1, V.ref q2, v3].length := by show k < 4; omega
      have ek : [V.ref q0, V.ref q1, V.ref q2, v3][k]? = some [V.ref q0, V.ref q1, V.ref q2, v3][k] := List.getElem?_eq_getElem kl
      obtain ⟨dd, ed, hdd⟩ := DpAll_at (h30.dps (s2.trans s4) fAll) ek
      rw [List.getElem?_map] at ed
      cases er : [a, b, c, d][k]? with
      | none => rw [er] at ed; cases ed
      | some r =>
        rw [er] at ed
        cases ed
        have okr : RatP r ∧ SzP 151 r := by
          have m := List.mem_of_getElem? er
          simp only [List.mem_cons, List.not_mem_nil, or_false] at m
          rcases m with rfl | rfl | rfl | rfl
          · exact ⟨ra, za⟩
          · exact ⟨rb, zb⟩
          · exact ⟨rc, zc⟩
          · exact ⟨rd, zd⟩
        have neR := h30.neD nR
        refine ⟨D, _, _, _, rfl, rfl, .of (s4.1 _ _ ne hD2), atI_nat ek, acc, s4.1 _ _ neR hR, small1000 (by rw [DpAll_len hA, List.length_map]; omega), ?_⟩
        refine ⟨h30.updD nR (s2.trans s4) h4, (s2.trans s4).updD nR, ps ++ [r], acc ++ [_], upd_same, dps_snoc (s4.1 _ _ neR hR) (h2.dps s4 hA) hdd, by simp [hl], fun x hx => ?_⟩
        rcases List.mem_append.mp hx with hx | hx
        · exact ok x hx
        · rw [List.mem_singleton.mp hx]; exact okr
    rintro H31 ⟨h31, s31, ps, acc, hR, hA, hl, ok⟩
    have S31 := S30.trans s31
    replace hw := h5.dp S31 (noL_r _) hw
    replace hsh := h5.dp S31 (noL_r _) hsh
    replace hsz := h5.dp S31 (noL_r _) hsz
    replace f0 := h5.dp S31 (noL_p _) f0
    replace f1 := h5.dp S31 (noL_p _) f1
    replace f2 := h5.dp S31 (noL_p _) f2
    replace hst := h5.dp S31 (noL_p _) hst
    have f3' := f3
    clear hs0 hs1 hs2 hx0 hx1 hx2 hy0 hy1 hy2 hss hxs hys t19 t29 fp eG rG zG hsw fAll hD30 hD h29 h30 s30 s31 S30 S31
    obtain ⟨q0', x0, y0, e0, hs0, hx0, hy0⟩ := dp_t2 f0
    cases e0
    obtain ⟨qs', xs, ys, es, hss, hxs, hys⟩ := dp_t2 hst
    cases es
    refine ⟨(by show 2 ≤ sizeLine; decide), fun l1 nl1 => ⟨(by show 2 ≤ sizeLine; decide), fun l2 nl2 => ⟨(by show 2 ≤ sizeLine; decide), fun l3 nl3 => ?_⟩⟩⟩
    refine ⟨_, _, ⟨l3, rfl, .inl (.inl (.inl upd_same))⟩, _, _, rfl, _, _, rfl, rfl, ?_⟩
    have u1 := PB.same_new (o := .tup [.int 0, .int 1]) nl1
    have u2 := PB.same_new (o := .tup [.int 0, .int 1]) nl2
    have u3 := PB.same_new (o := .tup [.ref l1, .ref l2]) nl3
    have g1 := Dp_same (u2.trans u3) (dp_mkr (a := 0) (b := 1) nl1 (K := K))
    have g2 := Dp_same u3 (dp_mkr (a := 0) (b := 1) nl2 (K := K))
    have t34 := u1.trans (u2.trans u3)
    generalize upd (upd (upd H31 l1 (.tup [.int 0, .int 1])) l2 (.tup [.int 0, .int 1])) l3 (.tup [.ref l1, .ref l2]) = H34 at g1 g2 t34 ⊢
    have hR34 := t34 _ _ hR
    have hA34 := DpAll_same t34 hA
    have n4 : n < 4 := by omega
    have len4 : ps.length ≤ 4 := by omega
    have sums : ∀ (i : Nat) (k : Pl → Rt), (∀ r ∈ ps, IsRat (k r) ∧ SzR 151 (k r)) → IsRat (sumR ((ps.take i).map k)) ∧ SzR 2000 (sumR ((ps.take i).map k)) := fun i k hk => by
      obtain ⟨a1, b1⟩ := sum_ok (n := 151) (rs := (ps.take i).map k) (fun r hr => by obtain ⟨x, hx, rfl⟩ := List.mem_map.mp hr; exact hk x (List.mem_of_mem_take hx))
      refine ⟨a1, szr_mono b1 ?_⟩
      rw [List.length_map, List.length_take]
      have : min i ps.length ≤ 4 := by omega
      omega
    have k1 : ∀ r ∈ ps, IsRat (r.1) ∧ SzR 151 (r.1) := fun r hr => ⟨(ok r hr).1.1, (ok r hr).2.1⟩
    have k2 : ∀ r ∈ ps, IsRat (r.2) ∧ SzR 151 (r.2) := fun r hr => ⟨(ok r hr).1.2, (ok r hr).2.2⟩
    refine ⟨.ref R, rfl, R, rfl, ⟨_, .of hR34⟩, for_list (K := K) (a := R) (xs := acc) (fun i σ H' => ∃ (vx vy : V) (y16 : Option V), σ = [some vs, some (.ref p), some (.ref D), some (.ref q0), some (.ref q1), some (.ref q2), some (.ref qw), some vsh, some vsz, some vt, some (.ref qs), some (.ref pp), some (.int ((n + 1 : Nat) : Int)), some (.ref R), some vx, some vy, y16, none, none, none] ∧ Same H34 H' ∧ Dp K H' vx (rD (sumR ((ps.take i).map (·.1)))) ∧ Dp K H' vy (rD (sumR ((ps.take i).map (·.2)))))
      ⟨.ref l1, .ref l2, none, rfl, fun _ _ e => e, g1, g2⟩ (fun i σ H' _ ⟨_, _, _, _, s1, _⟩ => s1.seq (.of hR34)) ?_ ?_⟩
    · rintro i x σ H' hi ⟨vx, vy, y16, rfl, s1, g1, g2⟩
      obtain ⟨dd, ed, hdd⟩ := DpAll_at hA34 hi
      rw [List.getElem?_map] at ed
      cases er : ps[i]? with
      | none => rw [er] at ed; cases ed
      | some r =>
        rw [er] at ed
        cases ed
        have rm := List.mem_of_getElem? er
        obtain ⟨xr, yr, cr, hxr, hyr⟩ := pla_t (Dp_same s1 hdd)
        obtain ⟨i1, j1⟩ := sums i (·.1) k1
        obtain ⟨i2, j2⟩ := sums i (·.2) k2
        refine ⟨vx, rfl, x, rfl, _, _, 0, _, rfl, cr, rfl, _, _, _, _, rfl, g1, hxr, i1, (k1 r rm).1, j1, szr_mono (k1 r rm).2 (by decide), fun H2 z1 s2 p1 => ?_⟩
        refine ⟨vy, rfl, x, rfl, _, _, 1, _, rfl, cr.same s2, rfl, _, _, _, _, rfl, Dp_same s2 g2, Dp_same s2 hyr, i2, (k2 r rm).1, j2, szr_mono (k2 r rm).2 (by decide), fun H3 z2 s3 p2 => ⟨_, _, rfl, z1, z2, some x, rfl, s1.trans (s2.trans s3), ?_, ?_⟩⟩
        · rw [List.take_add_one, er]
          show Dp K H3 z1 (rD (sumR ((ps.take i ++ [r]).map (·.1))))
          rw [List.map_append, List.map_cons, List.map_nil, sumR_snoc]
          exact Dp_same s3 p1
        · rw [List.take_add_one, er]
          show Dp K H3 z2 (rD (sumR ((ps.take i ++ [r]).map (·.2))))
          rw [List.map_append, List.map_cons, List.map_nil, sumR_snoc]
          exact p2
    rintro σ H35 ⟨vx, vy, y16, rfl, s35, g1', g2'⟩
    have lacc : acc.length = ps.length := by rw [DpAll_len hA, List.length_map]
    rw [lacc, List.take_length] at g1' g2'
    have t35 := t34.trans s35
    replace f0 := Dp_same t35 f0
    replace f1 := Dp_same t35 f1
    replace f2 := Dp_same t35 f2
    replace hw := Dp_same t35 hw
    replace hsz := Dp_same t35 hsz
    replace hst := Dp_same t35 hst
    replace hx0 := Dp_same t35 hx0
    replace hy0 := Dp_same t35 hy0
    replace hs0 := same_t t35 hs0
    replace hxs := Dp_same t35 hxs
    replace hys := Dp_same t35 hys
    replace hss := same_t t35 hss
    have hR35 := s35 _ _ hR34
    have hA35 := DpAll_same s35 hA34
    obtain ⟨i1, j1⟩ := sums ps.length (·.1) k1
    obtain ⟨i2, j2⟩ := sums ps.length (·.2) k2
    rw [List.take_length] at i1 j1 i2 j2
    clear g1 g2 u1 u2 u3 t34 s35 t35 hR34 hA34 hR hA nl1 nl2 nl3
    -- the mean
    have in1 : IsRat (1, ((n + 1 : Nat) : Int)) := ⟨by show (0 : Int) < ((n + 1 : Nat) : Int); omega, by show Nat.gcd (1 : Int).natAbs _ = 1; exact Nat.gcd_one_left _⟩
    have zn1 : SzR 2000 (1, ((n + 1 : Nat) : Int)) := szr_mono (n := 3) ⟨by show (1 : Int).natAbs < 2 ^ 3; decide, by show ((n + 1 : Nat) : Int).natAbs < 2 ^ 3; omega⟩ (by decide)
    have em : meanP ps = (rmul (sumR (ps.map (·.1))) (1, ((n + 1 : Nat) : Int)), rmul (sumR (ps.map (·.2))) (1, ((n + 1 : Nat) : Int))) := by unfold meanP; rw [hl]
    refine ⟨_, rfl, R, acc, ps, rfl, .inl (.of hR35), hA35, by omega, len4, fun r hr => ⟨(ok r hr).1, szp_mono (ok r hr).2 (by decide)⟩, fun H36 z36 s36 h36 => ?_⟩
    rw [em] at h36
    refine ⟨vx, rfl, _, rfl, (by show 2 ≤ sizeLine; decide), fun l1 nl1 => ?_⟩
    have u1 := PB.same_new (o := .tup [.int 1, .int ((n + 1 : Nat) : Int)]) nl1
    refine ⟨_, _, _, _, rfl, Dp_same (s36.trans u1) g1', dp_mkr nl1, i1, in1, j1, zn1, fun H37 z37 s37 h37 => ?_⟩
    have t37 := (s36.trans u1).trans s37
    refine ⟨vy, rfl, _, rfl, (by show 2 ≤ sizeLine; decide), fun l2 nl2 => ?_⟩
    have u2 := PB.same_new (o := .tup [.int 1, .int ((n + 1 : Nat) : Int)]) nl2
    refine ⟨_, _, _, _, rfl, Dp_same (t37.trans u2) g2', dp_mkr nl2, i2, in1, j2, zn1, fun H38 z38 s38 h38 => ⟨(by show 2 ≤ sizeLine; decide), fun l3 nl3 => ?_⟩⟩
    have u3 := PB.same_new (o := .tup [z37, z38]) nl3
    have t39 := t37.trans ((u2.trans s38).trans u3)
    refine ne_same (shaped_p (_, _)) (Dp_same ((u1.trans s37).trans ((u2.trans s38).trans u3)) h36) (dp_mk2 nl3 (Dp_same (u2.trans s38) h37) h38) ⟨_, rfl, itF rfl ?_⟩
    generalize upd H38 l3 (.tup [z37, z38]) = H39 at t39 ⊢
    refine ⟨_, rfl, R, acc, rfl, .inl ⟨.of (t39 _ _ hR35), fun l4 nl4 => ?_⟩⟩
    have u4 := PB.same_new (o := .tup acc) nl4
    refine ⟨l4, acc, ps, rfl, .inr (.inl (.inl upd_same)), DpAll_same (t39.trans u4) hA35, by omega, len4, fun r hr => ⟨(ok r hr).1, szp_mono (ok r hr).2 (by decide)⟩, fun H40 z40 s40 h40 => ?_⟩
    refine ⟨_, _, rfl, h40, tup_p _, fun H41 s41 => ⟨_, rfl, itF rfl ?_⟩⟩
    have t41 := (t39.trans u4).trans (s40.trans s41)
    clear nl1 nl2 nl3 nl4 u1 u2 u3 u4 h36 h37 h38 h40 t37 t39 s36 s37 s38 s40 s41 g1' g2' hR35 hA35 em
    -- turned, mirrored
    have c0 : ∀ {H' : Hp}, Same H35 H' → Cou K H' (.ref q0) x0 y0 := fun s => ⟨q0, rfl, .inl (same_t s hs0)⟩
    refine ⟨_, rfl, _, a, rfl, pla_t (Dp_same t41 f0), fun H42 z42 s42 h42 => ?_⟩
    have t42 := t41.trans s42
    refine ⟨_, rfl, _, _, 1, _, rfl, c0 t42, rfl, _, _, 0, _, rfl, cou_r (Dp_same t42 hy0), rfl, _, rfl, _, rfl, _, _, 1, _, rfl, c0 t42, rfl, _, _, 1, _, rfl, cou_r (Dp_same t42 hy0), rfl, (by show 2 ≤ sizeLine; decide), fun l1 nl1 => ?_⟩
    have u1 := PB.same_new (o := .tup [.int (-a.2.1), .int a.2.2]) nl1
    refine ⟨_, rfl, _, _, 0, _, rfl, c0 (t42.trans u1), rfl, (by show 2 ≤ sizeLine; decide), fun l2 nl2 => ?_⟩
    have u2 := PB.same_new (o := .tup [.ref l1, x0]) nl2
    refine ne_same (shaped_p (rneg a.2, a.1)) (Dp_same (u1.trans u2) h42) (dp_mk2 nl2 (dp_mkr nl1) (Dp_same (t42.trans u1) hx0)) ⟨_, rfl, itF rfl ?_⟩
    have t43 := t42.trans (u1.trans u2)
    clear u1 u2
    refine ⟨_, rfl, _, a, rfl, pla_t (Dp_same t43 f0), fun H44 z44 s44 h44 => ?_⟩
    have t44 := t43.trans s44
    refine ⟨_, rfl, _, _, 0, _, rfl, c0 t44, rfl, _, _, 0, _, rfl, cou_r (Dp_same t44 hx0), rfl, _, rfl, _, rfl, _, _, 0, _, rfl, c0 t44, rfl, _, _, 1, _, rfl, cou_r (Dp_same t44 hx0), rfl, (by show 2 ≤ sizeLine; decide), fun l3 nl3 => ?_⟩
    have u1 := PB.same_new (o := .tup [.int (-a.1.1), .int a.1.2]) nl3
    refine ⟨_, rfl, _, _, 1, _, rfl, c0 (t44.trans u1), rfl, (by show 2 ≤ sizeLine; decide), fun l4 nl4 => ?_⟩
    have u2 := PB.same_new (o := .tup [.ref l3, y0]) nl4
    refine ne_same (shaped_p (rneg a.1, a.2)) (Dp_same (u1.trans u2) h44) (dp_mk2 nl4 (dp_mkr nl3) (Dp_same (t44.trans u1) hy0)) ⟨_, rfl, itF rfl ?_⟩
    have t45 := t44.trans (u1.trans u2)
    generalize upd (upd H44 l3 (.tup [.int (-a.1.1), .int a.1.2])) l4 (.tup [.ref l3, y0]) = H45 at t45 ⊢
    clear u1 u2 t41 t42 t43 t44 h42 h44 nl1 nl2 nl3 nl4 s42 s44
    -- grown
    refine ⟨_, rfl, _, rfl, _, _, a, sz, rfl, pla_t (Dp_same t45 f0), Dp_same t45 hsz, ra, isz, szp_mono za (by decide), szr_mono zsz (by decide), fun H46 z46 s46 h46 => ?_⟩
    have t46 := t45.trans s46
    refine ⟨_, rfl, _, _, 0, _, rfl, c0 t46, rfl, _, rfl, _, _, _, _, rfl, Dp_same t46 hx0, Dp_same t46 hsz, ra.1, isz, szr_mono za.1 (by decide), szr_mono zsz (by decide), fun H47 z47 s47 h47 => ?_⟩
    have t47 := t46.trans s47
    refine ⟨_, rfl, _, _, 1, _, rfl, c0 t47, rfl, _, rfl, _, _, _, _, rfl, Dp_same t47 hy0, Dp_same t47 hsz, ra.2, isz, szr_mono za.2 (by decide), szr_mono zsz (by decide), fun H48 z48 s48 h48 => ⟨(by show 2 ≤ sizeLine; decide), fun l1 nl1 => ?_⟩⟩
    have u1 := PB.same_new (o := .tup [z47, z48]) nl1
    refine ne_same (shaped_p (growP a sz)) (Dp_same ((s47.trans s48).trans u1) h46) (dp_mk2 nl1 (Dp_same s48 h47) h48) ⟨_, rfl, itF rfl ?_⟩
    have t49 := t47.trans (s48.trans u1)
    refine ⟨_, rfl, q0, _, rfl, .inr (same_t t49 hs0), fun l2 nl2 => ?_⟩
    have u2 := PB.same_new (o := .lst [x0, y0]) nl2
    have t50 := t49.trans u2
    refine ⟨_, rfl, _, _, a, sz, rfl, ⟨x0, y0, mk_l nl2, Dp_same t50 hx0, Dp_same t50 hy0⟩, Dp_same t50 hsz, ra, isz, szp_mono za (by decide), szr_mono zsz (by decide), fun H51 z51 s51 h51 => ?_⟩
    refine ⟨_, _, rfl, h51, tup_p _, fun H52 s52 => ⟨_, rfl, itF rfl ?_⟩⟩
    have t52 := t50.trans (s51.trans s52)
    clear u1 u2 t45 t46 t47 t49 t50 h46 h47 h48 h51 nl1 nl2 s46 s47 s48 s51 s52
    -- the direction to the right
    refine ⟨_, rfl, _, rfl, pD a, pD b, Dp_same t52 f0, Dp_same t52 f1, (shaped_p a).1, (shaped_p b).1, _, rfl, ?_⟩
    by_cases hab : a = b
    · subst hab
      refine itF (by rw [SeqAt.eqv_refl _ (shaped_p _).2]; rfl) ?_
      refine ⟨_, rfl, _, rfl, _, _, a, a, rfl, pla_t (Dp_same t52 f0), pla_t (Dp_same t52 f1), ra, ra, szp_mono za (by decide), szp_mono za (by decide), fun nz => absurd nz (by have := step_z ra; omega), fun _ H53 s53 => ⟨_, rfl, ?_⟩⟩
      refine eq_same (d := .str "refused") ⟨by decide +kernel, by decide +kernel⟩ (.str _) (.str _) ⟨_, rfl, itT rfl ?_⟩
      have t53 := t52.trans s53
      refine ⟨_, rfl, _, rfl, _, _, a, a, rfl, pla_t (Dp_same t53 f0), pla_t (Dp_same t53 f0), ra, ra, szp_mono za (by decide), szp_mono za (by decide), fun nz => absurd nz (by have := step_z ra; omega), fun _ H60 s60 => ⟨rfl, _, rfl, itT (decide_eq_true rfl) ?_⟩⟩
      have t60 := Same.trans t53 s60
      refine ⟨_, rfl, _, rfl, _, rfl, _, _, dw, c, rfl, Dp_same t60 hw, Dp_same t60 f2, rc, szr_mono zw (by decide), szp_mono zc (by decide), fun H61 z61 s61 h61 => ?_⟩
      refine ⟨_, _, c, amtL dw c, rfl, Dp_same (t60.trans s61) f2, h61, rc, rat_add (rat_mul (rat_int _) rc.1) (rat_mul (rat_int _) rc.2), ?_, fun H62 _ => q H62⟩
      exact szr_mono (szr_add (rat_mul (rat_int _) rc.1) (rat_mul (rat_int _) rc.2) (szr_mul (rat_int _) rc.1 (szr_int zw.1 (by decide)) zc.1) (szr_mul (rat_int _) rc.2 (szr_int zw.2 (by decide)) zc.2)) (by decide)
    · refine itT (by rw [eqv_p _ _ hab]; rfl) ?_
      have nz := step_nz ra rb hab
      have cS : ∀ {H' : Hp}, Same H35 H' → Cou K H' (.ref qs) xs ys := fun s => ⟨qs, rfl, .inl (same_t s hss)⟩
      have nz2 : (stepF a b).1.1 * (stepF a b).2.2 ≠ 0 ∨ (stepF a b).2.1 * (stepF a b).1.2 ≠ 0 := by
        rcases nz with n1 | n1
        · exact .inl (Int.mul_ne_zero n1 (by have := r1.2.1; omega))
        · exact .inr (Int.mul_ne_zero n1 (by have := r1.1.1; omega))
      refine ⟨_, rfl, _, _, 0, _, rfl, cS t52, rfl, _, _, 0, _, rfl, cou_r (Dp_same t52 hxs), rfl, _, rfl, _, _, 1, _, rfl, cS t52, rfl, _, _, 1, _, rfl, cou_r (Dp_same t52 hys), rfl, _, _, rfl, rfl, wide_mul e1.1.1 e1.2.2 (by decide) (by decide) (by decide), ?_⟩
      refine ⟨_, rfl, _, _, 1, _, rfl, cS t52, rfl, _, _, 0, _, rfl, cou_r (Dp_same t52 hys), rfl, _, rfl, _, _, 0, _, rfl, cS t52, rfl, _, _, 1, _, rfl, cou_r (Dp_same t52 hxs), rfl, _, _, rfl, rfl, wide_mul e1.2.1 e1.1.2 (by decide) (by decide) (by decide), ?_⟩
      refine ⟨_, _, rfl, nz2, sz_mono (sz_mul e1.1.1 e1.2.2) (by decide), sz_mono (sz_mul e1.2.1 e1.1.2) (by decide), fun H53 z53 s53 h53 => ?_⟩
      have t53 := t52.trans s53
      have cA := cou_r h53
      refine ⟨_, rfl, _, _, 1, _, rfl, cA, rfl, _, rfl, _, _, 0, _, rfl, cA, rfl, _, rfl, (by show 2 ≤ sizeLine; decide), fun l1 nl1 => ?_⟩
      have u1 := PB.same_new (o := .tup [.int (dirOf (stepF a b)).2, .int (-(dirOf (stepF a b)).1)]) nl1
      have hdue : Dp K (upd H53 l1 (.tup [.int (dirOf (stepF a b)).2, .int (-(dirOf (stepF a b)).1)])) (.ref l1) (rD ((dirOf (stepF a b)).2, -(dirOf (stepF a b)).1)) := dp_mkr nl1
      have t54 := t53.trans u1
      refine ⟨_, rfl, _, rfl, _, _, a, b, rfl, pla_t (Dp_same t54 f0), pla_t (Dp_same t54 f1), ra, rb, szp_mono za (by decide), szp_mono zb (by decide), fun _ H55 z55 s55 h55 => ?_, fun zz => absurd nz (by omega)⟩
      rw [dir_turn r1 nz] at h55
      refine ⟨_, rfl, eq_same (shaped_r _) h55 (Dp_same s55 hdue) ⟨_, rfl, itT rfl ?_⟩⟩
      have t55 := t54.trans s55
      refine ⟨_, rfl, _, rfl, _, _, a, a, rfl, pla_t (Dp_same t55 f0), pla_t (Dp_same t55 f0), ra, ra, szp_mono za (by decide), szp_mono za (by decide), fun nz => absurd nz (by have := step_z ra; omega), fun _ H60 s60 => ⟨rfl, _, rfl, itT (decide_eq_true rfl) ?_⟩⟩
      have t60 := Same.trans t55 s60
      refine ⟨_, rfl, _, rfl, _, rfl, _, _, dw, c, rfl, Dp_same t60 hw, Dp_same t60 f2, rc, szr_mono zw (by decide), szp_mono zc (by decide), fun H61 z61 s61 h61 => ?_⟩
      refine ⟨_, _, c, amtL dw c, rfl, Dp_same (t60.trans s61) f2, h61, rc, rat_add (rat_mul (rat_int _) rc.1) (rat_mul (rat_int _) rc.2), ?_, fun H62 _ => q H62⟩
      exact szr_mono (szr_add (rat_mul (rat_int _) rc.1) (rat_mul (rat_int _) rc.2) (szr_mul (rat_int _) rc.1 (szr_int zw.1 (by decide)) zc.1) (szr_mul (rat_int _) rc.2 (szr_int zw.2 (by decide)) zc.2)) (by decide)
end
end F3
set_option Elab.async false
set_option linter.all false
set_option maxRecDepth 100000
set_option maxHeartbeats 8000000
set_option exponentiation.threshold 3000
set_option pp.maxSteps 300
namespace F3
open PySem PySem.Spec PyProof.Rows L2 FX RM PB
section
variable {P : Program} {w : World} {K : PySem.W.Frag} {mg : Str → Option Value} {base : Heap}
theorem ok_law {f : Addr} {fd : FuncData} (F : Fun K "law" "law" slaw f fd) (G_law_hand : DefOk P w K mg base CX0 "_law_hand" 1 ["_law_script"] (spHand K)) (G_law_any_way : DefOk P w K mg base CX0 "_law_any_way" 4 ["_law_hand_here"] (spDraw K (SzR 151))) (Gamount_at : DefOk P w K mg base CX0 "amount_at" 2 ["direction", "place"] (spRawA K amt)) (Gstep_from : DefOk P w K mg base CX0 "step_from" 4 ["one", "other"] (spPP K 2000 stepF)) (G_law_place : DefOk P w K mg base CX0 "_law_place" 4 ["_law_hand_here"] (spDrawP K)) (G_law_take : DefOk P w K mg base CX0 "_law_take" 2 ["_law_hand_here", "_law_many"] spTake) (G_law_small : DefOk P w K mg base CX0 "_law_small" 3 ["_law_hand_here"] (spDraw K fun r => IsRat r ∧ SzR 5 r)) (G_law_ratio : DefOk P w K mg base CX0 "_law_ratio" 2 ["_law_top", "_law_bottom"] (spLow K)) (G_law_times : DefOk P w K mg base CX0 "_law_times" 3 ["_law_one", "_law_other"] (spBin K rmul)) (G_law_direction : DefOk P w K mg base CX0 "_law_direction" 2 ["_law_x", "_law_y"] (spWd K)) (G_law_checks : DefOk P w K mg base CX0 "_law_checks" 6 ["_law_place_here", "_law_amount_here"] (spChk K)) (G_law_plain : DefOk P w K mg base CX0 "_law_plain" 1 ["_law_told", "_law_due"] (spPlain K)) (G_law_step : DefOk P w K mg base CX0 "_law_step" 4 ["_law_one", "_law_other"] (spPT K stepF)) (G_law_tuples : DefOk P w K mg base CX0 "_law_tuples" 3 ["_law_thing"] (spTup K 2)) (Gplace_by : DefOk P w K mg base CX0 "place_by" 3 ["place", "step"] (spPP K 2000 byP)) (G_law_by : DefOk P w K mg base CX0 "_law_by" 4 ["_law_place_here", "_law_step_here"] (spPT K byP)) (Gplace_on : DefOk P w K mg base CX0 "place_on" 5 ["one", "other", "share"] (spOn K)) (Gcross_at : DefOk P w K mg base CX0 "cross_at" 3 ["first", "second", "third"] (spCross K crossP)) (G_law_cross : DefOk P w K mg base CX0 "_law_cross" 4 ["_law_first", "_law_second", "_law_third"] (spCroL K)) (G_law_plus : DefOk P w K mg base CX0 "_law_plus" 3 ["_law_one", "_law_other"] (spBin K radd)) (Gmean_place : DefOk P w K mg base CX0 "mean_place" 4 ["places"] (spMean K)) (Gturn_place : DefOk P w K mg base CX0 "turn_place" 2 ["place"] (spP1 K fun p => (rneg p.2, p.1))) (Gmirror_place : DefOk P w K mg base CX0 "mirror_place" 2 ["place"] (spP1 K fun p => (rneg p.1, p.2))) (Ggrow_place : DefOk P w K mg base CX0 "grow_place" 3 ["place", "size"] (spGrow K)) (G_law_normal : DefOk P w K mg base CX0 "_law_normal" 6 ["_law_one", "_law_other"] (spNrm K)) (G_law_amount : DefOk P w K mg base CX0 "_law_amount" 4 ["_law_direction_here", "_law_place_here"] (spAmtL K)) (mrange : mg "range" = none) (mlist : mg "list" = none) (mtuple : mg "tuple" = none) : FnOk P w K mg base CX0 7 f fd ["_law_script"] (spLaw K) := by
  refine F.ok sclaw (fun vs H Q E h => ?_) (fun cdv A outer s H vs Q E hr h => ?_)
  · obtain ⟨a, ns, rfl, _⟩ := h; rfl
  · obtain ⟨sa, ns, rfl, hS, hlen, q⟩ := h
    obtain ⟨t2, d2, k2⟩ := law_tail G_law_hand G_law_any_way Gamount_at Gstep_from G_law_place G_law_take G_law_small G_law_ratio G_law_times G_law_direction G_law_checks G_law_plain G_law_step G_law_tuples Gplace_by G_law_by Gplace_on Gcross_at G_law_cross G_law_plus Gmean_place Gturn_place Gmirror_place Ggrow_place G_law_normal G_law_amount mrange mlist mtuple (outer := outer) (H0 := H) (E := E) hr
    refine ⟨_, pss_cons (ps_set (i := 1) sclaw.nd rfl (.inr rfl) (pe_def G_law_hand (hr.mono (by decide)) (by rfl) (pa_cons (pv 0) pa_nil))) (pss_cons (ps_set (i := 2) sclaw.nd rfl (.inr rfl) (pe_lc (own := [("_law_turn", 19)]) (g := gName 19) (tt := tYes) rfl sclaw.nd (pi_range1 (by rfl) mrange (pa_cons pe_int pa_nil)) (blkOk_by (N := ["_law_script", "_law_hand_here", "_law_places", "_law_one", "_law_other", "_law_third", "_law_way_here", "_law_share", "_law_size", "_law_told", "_law_step_here", "_law_part", "_law_many", "_law_row", "_law_x", "_law_y", "_law_place_here", "_law_due", "_law_along", "_law_turn"]) (sc := defScope slaw) (by decide +kernel)) (fun _ _ _ _ _ => pg_name (i := 19) sclaw.nd rfl (.inl rfl)) (fun _ _ _ _ _ => pts_nil) (fun _ _ _ _ _ => (pe_def G_law_place (hr.mono (by decide)) (by rfl) (pa_cons (pv 1) pa_nil))))) (pss_cons (ps_if (pt_cmpR op_eq (pe_def G_law_take (hr.mono (by decide)) (by rfl) (pa_cons (pv 1) (pa_cons pe_int pa_nil))) pe_int (nomark _)) (pss_one (ps_asg (pe_ix ix_list (pv 2) pe_int (fun _ _ => rfl)) (pg_sub (pv 2) pe_int set_list))) pss_nil) d2)), ?_⟩
    refine ⟨.ref sa, rfl, sa, ns, rfl, hS, hlen, fun H1 p s1 np h1 => ?_⟩
    refine ⟨4, rfl, by decide, by decide, fun D nD => lc_range (n := 4) (fun i H' => HandAt H' p ∧ SameBut p H1 H' ∧ ∃ (ps : List Pl) (acc : List V), H' D = some (.lst acc) ∧ DpAll K H' acc (ps.map pD) ∧ ps.length = i ∧ ∀ r ∈ ps, RatP r ∧ SzP 151 r)
      ⟨h1.same (PB.same_new nD), Same.but (PB.same_new nD), [], [], upd_same, .nil, rfl, fun _ h => nomatch h⟩ ?_ ?_⟩
    · rintro i H' hi ⟨h2, s2, ps, acc, hD, hA, hl, ok⟩
      have ne := h1.neD nD
      refine ⟨rfl, .ref p, rfl, p, rfl, h2, fun r v H4 rr rz hv h4 s4 => ⟨acc, s4.1 _ _ ne hD, small1000 (by rw [DpAll_len hA, List.length_map]; omega), ?_⟩⟩
      refine ⟨h1.updD nD (s2.trans s4) h4, (s2.trans s4).updD nD, ps ++ [r], acc ++ [v], upd_same, dps_snoc (s4.1 _ _ ne hD) (h2.dps s4 hA) hv, by simp [hl], fun x hx => ?_⟩
      rcases List.mem_append.mp hx with hx | hx
      · exact ok x hx
      · rw [List.mem_singleton.mp hx]; exact ⟨rr, rz⟩
    rintro H2 ⟨h2, s2, ps, acc, hD, hA, hl, ok⟩
    have ne := h1.neD nD
    obtain ⟨a, b, c, d, rfl⟩ : ∃ a b c d, ps = [a, b, c, d] := by
      match ps, hl with
      | [a, b, c, d], _ => exact ⟨a, b, c, d, rfl⟩
    obtain ⟨v0, v1, v2, v3, rfl, f0, f1, f2, f3⟩ := dpa4 hA
    have oa := ok a (by simp)
    have ob := ok b (by simp)
    have oc := ok c (by simp)
    have od := ok d (by simp)
    refine ⟨.ref p, rfl, p, 4, rfl, h2, by decide, by decide, fun k H3 k0 k4 h3 s3 => ⟨rfl, _, rfl, ite2 (fun e => ?_) (fun e => ?_)⟩⟩
    · have hD3 := s3.1 _ _ ne hD
      refine ⟨.ref D, rfl, D, _, 0, _, rfl, rfl, .of hD3, rfl, .ref D, rfl, D, _, 1, 1, rfl, rfl, hD3, rfl, ?_⟩
      have g : ∀ {v : V} {r : Pl}, Dp K H2 v (pD r) → Dp K (upd H3 D (.lst [v0, v0, v2, v3])) v (pD r) := fun {v r} hv =>
        Dp_but hD3 (fun b o n e => by rw [upd_ne n]; exact e) (noL_p _) (h2.dp s3 (noL_p _) hv)
      exact k2 p D a a c d v0 v0 v2 v3 (.ref sa) v0 _ _ ⟨h1.updD nD (s2.trans s3) h3, ne, upd_same, g f0, g f0, g f2, g f3, ⟨oa.1, oa.1, oc.1, od.1⟩, ⟨oa.2, oa.2, oc.2, od.2⟩⟩ q
    · have g : ∀ {v : V} {r : Pl}, Dp K H2 v (pD r) → Dp K H3 v (pD r) := fun {v r} hv => h2.dp s3 (noL_p _) hv
      exact k2 p D a b c d v0 v1 v2 v3 (.ref sa) v0 _ _ ⟨h3, ne, s3.1 _ _ ne hD, g f0, g f1, g f2, g f3, ⟨oa.1, ob.1, oc.1, od.1⟩, ⟨oa.2, ob.2, oc.2, od.2⟩⟩ q
end
end F3
set_option Elab.async false
set_option linter.all false
set_option maxRecDepth 100000
set_option maxHeartbeats 0
namespace F3
open PySem PySem.Spec PyProof.Rows L2 FX RM PB
def dD (x : Str) (i : Nat) : He.DefD := ⟨(x, none), x, x, defArgs (topS i), defBody (topS i), defScope (topS i), [], []⟩
def dW (x : Str) (i : Nat) : He.DefD := ⟨(x, none), x, x, defArgs (topS i), defBody (topS i), defScope (topS i), [.non, .non], []⟩
def fn : List He.DefD := [dD "is_row" 10, dW "is_whole" 11, dD "is_ratio" 12, dD "lowest_terms" 13, dD "plus" 14, dD "minus" 15, dD "times" 16, dD "over" 17, dD "negative" 18, dD "sum_of" 19, dD "is_place" 21, dD "check_place" 22, dD "check_amount" 23, dD "check_size" 24, dD "whole_direction" 25, dD "raw_amount" 26, dD "amount_at" 27, dD "step_from" 28, dD "place_by" 29, dD "place_on" 30, dD "mean_place" 31, dD "whole_row" 32, dD "raw_step" 33, dD "raw_cross" 34, dD "cross_at" 35, dD "side_normal" 36, dD "turn_place" 37, dD "mirror_place" 38, dD "grow_place" 39, dD "_law_hand" 41, dD "_law_mixed" 42, dD "_law_take" 43, dD "_law_gcd" 44, dD "_law_ratio" 45, dD "_law_plus" 46, dD "_law_less" 47, dD "_law_times" 48, dD "_law_amount" 49, dD "_law_direction" 50, dD "_law_cross" 51, dD "_law_way" 52, dD "_law_number" 53, dD "_law_plain" 54, dD "_law_small" 55, dD "_law_place" 56, dD "_law_any_way" 57, dD "_law_by" 58, dD "_law_step" 59, dD "_law_tuples" 60, dD "_law_refuses_place" 61, dD "_law_refuses_amount" 62, dD "_law_refuses_size" 63, dD "_law_normal" 64, dD "_law_checks" 65, dD "law" 66]
def fa : List He.Fa := [.glo "is_row", .glo "is_whole", .glo "is_ratio", .glo "lowest_terms", .glo "plus", .glo "minus", .glo "times", .glo "over", .glo "negative", .glo "sum_of", .glo "is_place", .glo "check_place", .glo "check_amount", .glo "check_size", .glo "whole_direction", .glo "raw_amount", .glo "amount_at", .glo "step_from", .glo "place_by", .glo "place_on", .glo "mean_place", .glo "whole_row", .glo "raw_step", .glo "raw_cross", .glo "cross_at", .glo "side_normal", .glo "turn_place", .glo "mirror_place", .glo "grow_place", .glo "_law_hand", .glo "_law_mixed", .glo "_law_take", .glo "_law_gcd", .glo "_law_ratio", .glo "_law_plus", .glo "_law_less", .glo "_law_times", .glo "_law_amount", .glo "_law_direction", .glo "_law_cross", .glo "_law_way", .glo "_law_number", .glo "_law_plain", .glo "_law_small", .glo "_law_place", .glo "_law_any_way", .glo "_law_by", .glo "_law_step", .glo "_law_tuples", .glo "_law_refuses_place", .glo "_law_refuses_amount", .glo "_law_refuses_size", .glo "_law_normal", .glo "_law_checks", .glo "law", .free "len", .free "int", .free "abs", .free "isinstance", .free "tuple", .free "list", .free "bool", .free "range", .glo "ZERO"]
def cl : List Str := ["BadPlace", "BadDirection", "BadAmount", "BadSize"]
def ck (K : PySem.W.Frag) : Bool := (cl.all fun x => clsB K x [] && (He.Fa.exm x x true).ok K) && (He.eqO (PySem.W.nsIn K mainGlobals "gcd") (some (some (.builtin "math.gcd"))) && He.tupB K "ZERO" [.int 0, .int 1])
def says (K : PySem.W.Frag) : Prop := ck K = true ∧ He.SaysD fa fn K
def obsM (n : Nat) (g : Addr → Option Obj) : Bool × He.AlD := (ck (He.frG g (He.asD g n)), He.obsDG n fa fn g)
def hookM (n : Nat) : PySem.W.Hook where
  α := Bool × He.AlD
  obs := fun s => obsM n s.heap.get?
  val := fun _ => (true, He.valD fn)
  says := fun _ h => ∃ K : PySem.W.Frag, K.In h ∧ says K
  of := fun _ _ e => ⟨_, He.frG_in, congrArg (fun z : Bool × He.AlD => z.1) e, congrArg (fun z : Bool × He.AlD => z.2) e⟩
  keeps := fun _ _ _ ⟨K, hK, c⟩ k => ⟨K, PySem.W.Frag.In.keeps hK k, c⟩
theorem obsM_eq {n : Nat} {g : Addr → Option Obj} {s : Shared} (h : ∀ a, g a = s.heap.get? a) : obsM n g = (hookM n).obs s := by
  have e : g = s.heap.get? := funext h
  rw [e] <;> rfl
abbrev R : PySem.W.OpenRow := PySem.W.OpenLaw.row PySem.Challenge.rw_feltstone_k03_whole_places_and_amounts
def ob (s : PySem.W.SharedT) : Bool × He.AlD := obsM 5 (HandSHeadRun.getT s)
theorem ob_eq (s : PySem.W.SharedT) : ob s = (hookM 5).obs s.abs := obsM_eq (HandSHeadRun.getT_eq s)
def n0 : List Str := ["FeltError", "BadRatio", "BadPlace", "BadDirection", "BadAmount", "BadSize", "ZERO", "is_row", "is_whole", "is_ratio", "lowest_terms", "plus", "minus", "times", "over", "negative", "sum_of", "is_place", "check_place", "check_amount", "check_size", "whole_direction", "raw_amount", "amount_at", "step_from", "place_by", "place_on", "mean_place", "whole_row", "raw_step"]
def n1 : List Str := ["raw_cross", "cross_at", "side_normal", "turn_place", "mirror_place", "grow_place", "_law_hand", "_law_mixed", "_law_take", "_law_gcd", "_law_ratio", "_law_plus", "_law_less", "_law_times", "_law_amount", "_law_direction", "_law_cross", "_law_way", "_law_number", "_law_plain", "_law_small", "_law_place", "_law_any_way", "_law_by", "_law_step", "_law_tuples", "_law_refuses_place", "_law_refuses_amount", "_law_refuses_size", "_law_normal"]
def n2 : List Str := ["_law_checks"]
def names : List Str := n0 ++ n1 ++ n2
theorem run (w : World) : HandSHeadRun.RunEqI R (PySem.W.view R.prog [0, 66]) (hookM 5) ob 60000 names w := by
  unfold HandSHeadRun.RunEqI
  kernel_rfl
end F3
set_option Elab.async false
set_option linter.all false
set_option maxRecDepth 100000
set_option maxHeartbeats 0
namespace F3
open PySem PySem.Spec PyProof.Rows L2 FX RM PB
theorem def_at {K : PySem.W.Frag} (c : He.SaysD fa fn K) {x : Str} {st : Stmt} (i : Nat) {d : He.DefD} (h : fn[i]? = some d) (e : d = ⟨(x, none), x, x, defArgs st, defBody st, defScope st, [], []⟩) : ∃ fd, FunD K x x (defArgs st) (defBody st) (defScope st) [] [] (He.ga K x) fd := by
  obtain ⟨fd, F⟩ := c.def_ i h
  subst e
  exact ⟨fd, F⟩
theorem def_atW {K : PySem.W.Frag} (c : He.SaysD fa fn K) {x : Str} {st : Stmt} (i : Nat) {d : He.DefD} (h : fn[i]? = some d) (e : d = ⟨(x, none), x, x, defArgs st, defBody st, defScope st, [.non, .non], []⟩) : ∃ fd, FunD K x x (defArgs st) (defBody st) (defScope st) [.non, .non] [] (He.ga K x) fd := by
  obtain ⟨fd, F⟩ := c.def_ i h
  subst e
  exact ⟨fd, F⟩
section
variable {P : Program} {w : World} {K : PySem.W.Frag} {mg : Str → Option Value} {base h : Heap}
theorem facts (X : K.In h) (G : h.Ns mainGlobals mg) {f : Addr} (hfa : mg ("law" : Str) = some (.ref f)) (c : says K) :
    ∃ fd : FuncData, (∀ (s : Shared) (v : Value), BindsTo s fd ⟨[v], []⟩ [("_law_script", v)]) ∧ ∀ base : Heap, K.In base → base.Ns mainGlobals mg → FnOk P w K mg base CX0 7 f fd ["_law_script"] (spLaw K) := by
  obtain ⟨c1, c2⟩ := c
  obtain ⟨k1, k2⟩ := He.ba c1
  obtain ⟨k3, k4⟩ := He.ba k2
  have mgcd : mg "gcd" = some (.builtin "math.gcd") := PySem.W.mg_of X G (He.eqO_ok k3)
  have hZ : ∀ H, SqT K H (He.ga K "ZERO") [.int 0, .int 1] := fun H => He.tupB_ok k4 H
  have cl_ : ∀ x ∈ cl, ClsOk K x [] ∧ PySem.W.exmOne K (.ref (He.ga K x)) (.ref (He.ga K x)) = some true := fun x hx => by
    obtain ⟨a, b⟩ := He.ba (List.all_eq_true.mp k1 x hx)
    exact ⟨clsB_ok a, He.exm_ok b⟩
  have cBadPlace := (cl_ "BadPlace" (by decide)).1
  have mBadPlace := (cl_ "BadPlace" (by decide)).2
  have gBadPlace := He.glo_ok X G cBadPlace.glo
  have cBadDirection := (cl_ "BadDirection" (by decide)).1
  have mBadDirection := (cl_ "BadDirection" (by decide)).2
  have gBadDirection := He.glo_ok X G cBadDirection.glo
  have cBadAmount := (cl_ "BadAmount" (by decide)).1
  have mBadAmount := (cl_ "BadAmount" (by decide)).2
  have gBadAmount := He.glo_ok X G cBadAmount.glo
  have cBadSize := (cl_ "BadSize" (by decide)).1
  have mBadSize := (cl_ "BadSize" (by decide)).2
  have gBadSize := He.glo_ok X G cBadSize.glo
  have mlen := He.free_ok X G (c2.fact 55 (f := .free "len") rfl)
  have mint := He.free_ok X G (c2.fact 56 (f := .free "int") rfl)
  have mabs := He.free_ok X G (c2.fact 57 (f := .free "abs") rfl)
  have misinstance := He.free_ok X G (c2.fact 58 (f := .free "isinstance") rfl)
  have mtuple := He.free_ok X G (c2.fact 59 (f := .free "tuple") rfl)
  have mlist := He.free_ok X G (c2.fact 60 (f := .free "list") rfl)
  have mbool := He.free_ok X G (c2.fact 61 (f := .free "bool") rfl)
  have mrange := He.free_ok X G (c2.fact 62 (f := .free "range") rfl)
  have gZ := He.glo_ok X G (c2.fact 63 (f := .glo "ZERO") rfl)
  obtain ⟨fdis_row, Fis_row⟩ := def_at c2 (x := "is_row") (st := topS 10) 0 rfl rfl
  have gis_row := He.glo_ok X G (c2.fact 0 (f := .glo "is_row") rfl)
  have tis_row : Txt K mg "is_row" (topS 10) := ⟨_, _, fun_of Fis_row, gis_row⟩
  obtain ⟨fdis_whole, Fis_whole⟩ := def_atW c2 (x := "is_whole") (st := topS 11) 1 rfl rfl
  have gis_whole := He.glo_ok X G (c2.fact 1 (f := .glo "is_whole") rfl)
  obtain ⟨fdis_ratio, Fis_ratio⟩ := def_at c2 (x := "is_ratio") (st := topS 12) 2 rfl rfl
  have gis_ratio := He.glo_ok X G (c2.fact 2 (f := .glo "is_ratio") rfl)
  have tis_ratio : Txt K mg "is_ratio" (topS 12) := ⟨_, _, fun_of Fis_ratio, gis_ratio⟩
  obtain ⟨fdlowest_terms, Flowest_terms⟩ := def_at c2 (x := "lowest_terms") (st := topS 13) 3 rfl rfl
  have glowest_terms := He.glo_ok X G (c2.fact 3 (f := .glo "lowest_terms") rfl)
  have tlowest_terms : Txt K mg "lowest_terms" (topS 13) := ⟨_, _, fun_of Flowest_terms, glowest_terms⟩
  obtain ⟨fdplus, Fplus⟩ := def_at c2 (x := "plus") (st := topS 14) 4 rfl rfl
  have gplus := He.glo_ok X G (c2.fact 4 (f := .glo "plus") rfl)
  have tplus : Txt K mg "plus" (topS 14) := ⟨_, _, fun_of Fplus, gplus⟩
  obtain ⟨fdminus, Fminus⟩ := def_at c2 (x := "minus") (st := topS 15) 5 rfl rfl
  have gminus := He.glo_ok X G (c2.fact 5 (f := .glo "minus") rfl)
  have tminus : Txt K mg "minus" (topS 15) := ⟨_, _, fun_of Fminus, gminus⟩
  obtain ⟨fdtimes, Ftimes⟩ := def_at c2 (x := "times") (st := topS 16) 6 rfl rfl
  have gtimes := He.glo_ok X G (c2.fact 6 (f := .glo "times") rfl)
  have ttimes : Txt K mg "times" (topS 16) := ⟨_, _, fun_of Ftimes, gtimes⟩
  obtain ⟨fdover, Fover⟩ := def_at c2 (x := "over") (st := topS 17) 7 rfl rfl
  have gover := He.glo_ok X G (c2.fact 7 (f := .glo "over") rfl)
  have tover : Txt K mg "over" (topS 17) := ⟨_, _, fun_of Fover, gover⟩
  obtain ⟨fdnegative, Fnegative⟩ := def_at c2 (x := "negative") (st := topS 18) 8 rfl rfl
  have gnegative := He.glo_ok X G (c2.fact 8 (f := .glo "negative") rfl)
  have tnegative : Txt K mg "negative" (topS 18) := ⟨_, _, fun_of Fnegative, gnegative⟩
  obtain ⟨fdsum_of, Fsum_of⟩ := def_at c2 (x := "sum_of") (st := topS 19) 9 rfl rfl
  have gsum_of := He.glo_ok X G (c2.fact 9 (f := .glo "sum_of") rfl)
  have tsum_of : Txt K mg "sum_of" (topS 19) := ⟨_, _, fun_of Fsum_of, gsum_of⟩
  obtain ⟨fdis_place, Fis_place⟩ := def_at c2 (x := "is_place") (st := topS 21) 10 rfl rfl
  have gis_place := He.glo_ok X G (c2.fact 10 (f := .glo "is_place") rfl)
  have tis_place : Txt K mg "is_place" (topS 21) := ⟨_, _, fun_of Fis_place, gis_place⟩
  obtain ⟨fdcheck_place, Fcheck_place⟩ := def_at c2 (x := "check_place") (st := topS 22) 11 rfl rfl
  have gcheck_place := He.glo_ok X G (c2.fact 11 (f := .glo "check_place") rfl)
  have tcheck_place : Txt K mg "check_place" (topS 22) := ⟨_, _, fun_of Fcheck_place, gcheck_place⟩
  obtain ⟨fdcheck_amount, Fcheck_amount⟩ := def_at c2 (x := "check_amount") (st := topS 23) 12 rfl rfl
  have gcheck_amount := He.glo_ok X G (c2.fact 12 (f := .glo "check_amount") rfl)
  have tcheck_amount : Txt K mg "check_amount" (topS 23) := ⟨_, _, fun_of Fcheck_amount, gcheck_amount⟩
  obtain ⟨fdcheck_size, Fcheck_size⟩ := def_at c2 (x := "check_size") (st := topS 24) 13 rfl rfl
  have gcheck_size := He.glo_ok X G (c2.fact 13 (f := .glo "check_size") rfl)
  have tcheck_size : Txt K mg "check_size" (topS 24) := ⟨_, _, fun_of Fcheck_size, gcheck_size⟩
  obtain ⟨fdwhole_direction, Fwhole_direction⟩ := def_at c2 (x := "whole_direction") (st := topS 25) 14 rfl rfl
  have gwhole_direction := He.glo_ok X G (c2.fact 14 (f := .glo "whole_direction") rfl)
  have twhole_direction : Txt K mg "whole_direction" (topS 25) := ⟨_, _, fun_of Fwhole_direction, gwhole_direction⟩
  obtain ⟨fdraw_amount, Fraw_amount⟩ := def_at c2 (x := "raw_amount") (st := topS 26) 15 rfl rfl
  have graw_amount := He.glo_ok X G (c2.fact 15 (f := .glo "raw_amount") rfl)
  have traw_amount : Txt K mg "raw_amount" (topS 26) := ⟨_, _, fun_of Fraw_amount, graw_amount⟩
  obtain ⟨fdamount_at, Famount_at⟩ := def_at c2 (x := "amount_at") (st := topS 27) 16 rfl rfl
  have gamount_at := He.glo_ok X G (c2.fact 16 (f := .glo "amount_at") rfl)
  have tamount_at : Txt K mg "amount_at" (topS 27) := ⟨_, _, fun_of Famount_at, gamount_at⟩
  obtain ⟨fdstep_from, Fstep_from⟩ := def_at c2 (x := "step_from") (st := topS 28) 17 rfl rfl
  have gstep_from := He.glo_ok X G (c2.fact 17 (f := .glo "step_from") rfl)
  have tstep_from : Txt K mg "step_from" (topS 28) := ⟨_, _, fun_of Fstep_from, gstep_from⟩
  obtain ⟨fdplace_by, Fplace_by⟩ := def_at c2 (x := "place_by") (st := topS 29) 18 rfl rfl
  have gplace_by := He.glo_ok X G (c2.fact 18 (f := .glo "place_by") rfl)
  have tplace_by : Txt K mg "place_by" (topS 29) := ⟨_, _, fun_of Fplace_by, gplace_by⟩
  obtain ⟨fdplace_on, Fplace_on⟩ := def_at c2 (x := "place_on") (st := topS 30) 19 rfl rfl
  have gplace_on := He.glo_ok X G (c2.fact 19 (f := .glo "place_on") rfl)
  have tplace_on : Txt K mg "place_on" (topS 30) := ⟨_, _, fun_of Fplace_on, gplace_on⟩
  obtain ⟨fdmean_place, Fmean_place⟩ := def_at c2 (x := "mean_place") (st := topS 31) 20 rfl rfl
  have gmean_place := He.glo_ok X G (c2.fact 20 (f := .glo "mean_place") rfl)
  have tmean_place : Txt K mg "mean_place" (topS 31) := ⟨_, _, fun_of Fmean_place, gmean_place⟩
  obtain ⟨fdwhole_row, Fwhole_row⟩ := def_at c2 (x := "whole_row") (st := topS 32) 21 rfl rfl
  have gwhole_row := He.glo_ok X G (c2.fact 21 (f := .glo "whole_row") rfl)
  have twhole_row : Txt K mg "whole_row" (topS 32) := ⟨_, _, fun_of Fwhole_row, gwhole_row⟩
  obtain ⟨fdraw_step, Fraw_step⟩ := def_at c2 (x := "raw_step") (st := topS 33) 22 rfl rfl
  have graw_step := He.glo_ok X G (c2.fact 22 (f := .glo "raw_step") rfl)
  have traw_step : Txt K mg "raw_step" (topS 33) := ⟨_, _, fun_of Fraw_step, graw_step⟩
  obtain ⟨fdraw_cross, Fraw_cross⟩ := def_at c2 (x := "raw_cross") (st := topS 34) 23 rfl rfl
  have graw_cross := He.glo_ok X G (c2.fact 23 (f := .glo "raw_cross") rfl)
  have traw_cross : Txt K mg "raw_cross" (topS 34) := ⟨_, _, fun_of Fraw_cross, graw_cross⟩
  obtain ⟨fdcross_at, Fcross_at⟩ := def_at c2 (x := "cross_at") (st := topS 35) 24 rfl rfl
  have gcross_at := He.glo_ok X G (c2.fact 24 (f := .glo "cross_at") rfl)
  have tcross_at : Txt K mg "cross_at" (topS 35) := ⟨_, _, fun_of Fcross_at, gcross_at⟩
  obtain ⟨fdside_normal, Fside_normal⟩ := def_at c2 (x := "side_normal") (st := topS 36) 25 rfl rfl
  have gside_normal := He.glo_ok X G (c2.fact 25 (f := .glo "side_normal") rfl)
  have tside_normal : Txt K mg "side_normal" (topS 36) := ⟨_, _, fun_of Fside_normal, gside_normal⟩
  obtain ⟨fdturn_place, Fturn_place⟩ := def_at c2 (x := "turn_place") (st := topS 37) 26 rfl rfl
  have gturn_place := He.glo_ok X G (c2.fact 26 (f := .glo "turn_place") rfl)
  have tturn_place : Txt K mg "turn_place" (topS 37) := ⟨_, _, fun_of Fturn_place, gturn_place⟩
  obtain ⟨fdmirror_place, Fmirror_place⟩ := def_at c2 (x := "mirror_place") (st := topS 38) 27 rfl rfl
  have gmirror_place := He.glo_ok X G (c2.fact 27 (f := .glo "mirror_place") rfl)
  have tmirror_place : Txt K mg "mirror_place" (topS 38) := ⟨_, _, fun_of Fmirror_place, gmirror_place⟩
  obtain ⟨fdgrow_place, Fgrow_place⟩ := def_at c2 (x := "grow_place") (st := topS 39) 28 rfl rfl
  have ggrow_place := He.glo_ok X G (c2.fact 28 (f := .glo "grow_place") rfl)
  have tgrow_place : Txt K mg "grow_place" (topS 39) := ⟨_, _, fun_of Fgrow_place, ggrow_place⟩
  obtain ⟨fd_law_hand, F_law_hand⟩ := def_at c2 (x := "_law_hand") (st := topS 41) 29 rfl rfl
  have g_law_hand := He.glo_ok X G (c2.fact 29 (f := .glo "_law_hand") rfl)
  have t_law_hand : Txt K mg "_law_hand" (topS 41) := ⟨_, _, fun_of F_law_hand, g_law_hand⟩
  obtain ⟨fd_law_mixed, F_law_mixed⟩ := def_at c2 (x := "_law_mixed") (st := topS 42) 30 rfl rfl
  have g_law_mixed := He.glo_ok X G (c2.fact 30 (f := .glo "_law_mixed") rfl)
  have t_law_mixed : Txt K mg "_law_mixed" (topS 42) := ⟨_, _, fun_of F_law_mixed, g_law_mixed⟩
  obtain ⟨fd_law_take, F_law_take⟩ := def_at c2 (x := "_law_take") (st := topS 43) 31 rfl rfl
  have g_law_take := He.glo_ok X G (c2.fact 31 (f := .glo "_law_take") rfl)
  have t_law_take : Txt K mg "_law_take" (topS 43) := ⟨_, _, fun_of F_law_take, g_law_take⟩
  obtain ⟨fd_law_gcd, F_law_gcd⟩ := def_at c2 (x := "_law_gcd") (st := topS 44) 32 rfl rfl
  have g_law_gcd := He.glo_ok X G (c2.fact 32 (f := .glo "_law_gcd") rfl)
  have t_law_gcd : Txt K mg "_law_gcd" (topS 44) := ⟨_, _, fun_of F_law_gcd, g_law_gcd⟩
  obtain ⟨fd_law_ratio, F_law_ratio⟩ := def_at c2 (x := "_law_ratio") (st := topS 45) 33 rfl rfl
  have g_law_ratio := He.glo_ok X G (c2.fact 33 (f := .glo "_law_ratio") rfl)
  have t_law_ratio : Txt K mg "_law_ratio" (topS 45) := ⟨_, _, fun_of F_law_ratio, g_law_ratio⟩
  obtain ⟨fd_law_plus, F_law_plus⟩ := def_at c2 (x := "_law_plus") (st := topS 46) 34 rfl rfl
  have g_law_plus := He.glo_ok X G (c2.fact 34 (f := .glo "_law_plus") rfl)
  have t_law_plus : Txt K mg "_law_plus" (topS 46) := ⟨_, _, fun_of F_law_plus, g_law_plus⟩
  obtain ⟨fd_law_less, F_law_less⟩ := def_at c2 (x := "_law_less") (st := topS 47) 35 rfl rfl
  have g_law_less := He.glo_ok X G (c2.fact 35 (f := .glo "_law_less") rfl)
  have t_law_less : Txt K mg "_law_less" (topS 47) := ⟨_, _, fun_of F_law_less, g_law_less⟩
  obtain ⟨fd_law_times, F_law_times⟩ := def_at c2 (x := "_law_times") (st := topS 48) 36 rfl rfl
  have g_law_times := He.glo_ok X G (c2.fact 36 (f := .glo "_law_times") rfl)
  have t_law_times : Txt K mg "_law_times" (topS 48) := ⟨_, _, fun_of F_law_times, g_law_times⟩
  obtain ⟨fd_law_amount, F_law_amount⟩ := def_at c2 (x := "_law_amount") (st := topS 49) 37 rfl rfl
  have g_law_amount := He.glo_ok X G (c2.fact 37 (f := .glo "_law_amount") rfl)
  have t_law_amount : Txt K mg "_law_amount" (topS 49) := ⟨_, _, fun_of F_law_amount, g_law_amount⟩
  obtain ⟨fd_law_direction, F_law_direction⟩ := def_at c2 (x := "_law_direction") (st := topS 50) 38 rfl rfl
  have g_law_direction := He.glo_ok X G (c2.fact 38 (f := .glo "_law_direction") rfl)
  have t_law_direction : Txt K mg "_law_direction" (topS 50) := ⟨_, _, fun_of F_law_direction, g_law_direction⟩
  obtain ⟨fd_law_cross, F_law_cross⟩ := def_at c2 (x := "_law_cross") (st := topS 51) 39 rfl rfl
  have g_law_cross := He.glo_ok X G (c2.fact 39 (f := .glo "_law_cross") rfl)
  have t_law_cross : Txt K mg "_law_cross" (topS 51) := ⟨_, _, fun_of F_law_cross, g_law_cross⟩
  obtain ⟨fd_law_way, F_law_way⟩ := def_at c2 (x := "_law_way") (st := topS 52) 40 rfl rfl
  have g_law_way := He.glo_ok X G (c2.fact 40 (f := .glo "_law_way") rfl)
  have t_law_way : Txt K mg "_law_way" (topS 52) := ⟨_, _, fun_of F_law_way, g_law_way⟩
  obtain ⟨fd_law_number, F_law_number⟩ := def_at c2 (x := "_law_number") (st := topS 53) 41 rfl rfl
  have g_law_number := He.glo_ok X G (c2.fact 41 (f := .glo "_law_number") rfl)
  have t_law_number : Txt K mg "_law_number" (topS 53) := ⟨_, _, fun_of F_law_number, g_law_number⟩
  obtain ⟨fd_law_plain, F_law_plain⟩ := def_at c2 (x := "_law_plain") (st := topS 54) 42 rfl rfl
  have g_law_plain := He.glo_ok X G (c2.fact 42 (f := .glo "_law_plain") rfl)
  have t_law_plain : Txt K mg "_law_plain" (topS 54) := ⟨_, _, fun_of F_law_plain, g_law_plain⟩
  obtain ⟨fd_law_small, F_law_small⟩ := def_at c2 (x := "_law_small") (st := topS 55) 43 rfl rfl
  have g_law_small := He.glo_ok X G (c2.fact 43 (f := .glo "_law_small") rfl)
  have t_law_small : Txt K mg "_law_small" (topS 55) := ⟨_, _, fun_of F_law_small, g_law_small⟩
  obtain ⟨fd_law_place, F_law_place⟩ := def_at c2 (x := "_law_place") (st := topS 56) 44 rfl rfl
  have g_law_place := He.glo_ok X G (c2.fact 44 (f := .glo "_law_place") rfl)
  have t_law_place : Txt K mg "_law_place" (topS 56) := ⟨_, _, fun_of F_law_place, g_law_place⟩
  obtain ⟨fd_law_any_way, F_law_any_way⟩ := def_at c2 (x := "_law_any_way") (st := topS 57) 45 rfl rfl
  have g_law_any_way := He.glo_ok X G (c2.fact 45 (f := .glo "_law_any_way") rfl)
  have t_law_any_way : Txt K mg "_law_any_way" (topS 57) := ⟨_, _, fun_of F_law_any_way, g_law_any_way⟩
  obtain ⟨fd_law_by, F_law_by⟩ := def_at c2 (x := "_law_by") (st := topS 58) 46 rfl rfl
  have g_law_by := He.glo_ok X G (c2.fact 46 (f := .glo "_law_by") rfl)
  have t_law_by : Txt K mg "_law_by" (topS 58) := ⟨_, _, fun_of F_law_by, g_law_by⟩
  obtain ⟨fd_law_step, F_law_step⟩ := def_at c2 (x := "_law_step") (st := topS 59) 47 rfl rfl
  have g_law_step := He.glo_ok X G (c2.fact 47 (f := .glo "_law_step") rfl)
  have t_law_step : Txt K mg "_law_step" (topS 59) := ⟨_, _, fun_of F_law_step, g_law_step⟩
  obtain ⟨fd_law_tuples, F_law_tuples⟩ := def_at c2 (x := "_law_tuples") (st := topS 60) 48 rfl rfl
  have g_law_tuples := He.glo_ok X G (c2.fact 48 (f := .glo "_law_tuples") rfl)
  have t_law_tuples : Txt K mg "_law_tuples" (topS 60) := ⟨_, _, fun_of F_law_tuples, g_law_tuples⟩
  obtain ⟨fd_law_refuses_place, F_law_refuses_place⟩ := def_at c2 (x := "_law_refuses_place") (st := topS 61) 49 rfl rfl
  have g_law_refuses_place := He.glo_ok X G (c2.fact 49 (f := .glo "_law_refuses_place") rfl)
  have t_law_refuses_place : Txt K mg "_law_refuses_place" (topS 61) := ⟨_, _, fun_of F_law_refuses_place, g_law_refuses_place⟩
  obtain ⟨fd_law_refuses_amount, F_law_refuses_amount⟩ := def_at c2 (x := "_law_refuses_amount") (st := topS 62) 50 rfl rfl
  have g_law_refuses_amount := He.glo_ok X G (c2.fact 50 (f := .glo "_law_refuses_amount") rfl)
  have t_law_refuses_amount : Txt K mg "_law_refuses_amount" (topS 62) := ⟨_, _, fun_of F_law_refuses_amount, g_law_refuses_amount⟩
  obtain ⟨fd_law_refuses_size, F_law_refuses_size⟩ := def_at c2 (x := "_law_refuses_size") (st := topS 63) 51 rfl rfl
  have g_law_refuses_size := He.glo_ok X G (c2.fact 51 (f := .glo "_law_refuses_size") rfl)
  have t_law_refuses_size : Txt K mg "_law_refuses_size" (topS 63) := ⟨_, _, fun_of F_law_refuses_size, g_law_refuses_size⟩
  obtain ⟨fd_law_normal, F_law_normal⟩ := def_at c2 (x := "_law_normal") (st := topS 64) 52 rfl rfl
  have g_law_normal := He.glo_ok X G (c2.fact 52 (f := .glo "_law_normal") rfl)
  have t_law_normal : Txt K mg "_law_normal" (topS 64) := ⟨_, _, fun_of F_law_normal, g_law_normal⟩
  obtain ⟨fd_law_checks, F_law_checks⟩ := def_at c2 (x := "_law_checks") (st := topS 65) 53 rfl rfl
  have g_law_checks := He.glo_ok X G (c2.fact 53 (f := .glo "_law_checks") rfl)
  have t_law_checks : Txt K mg "_law_checks" (topS 65) := ⟨_, _, fun_of F_law_checks, g_law_checks⟩
  obtain ⟨fdlaw, Flaw⟩ := def_at c2 (x := "law") (st := topS 66) 54 rfl rfl
  have glaw := He.glo_ok X G (c2.fact 54 (f := .glo "law") rfl)
  have tlaw : Txt K mg "law" (topS 66) := ⟨_, _, fun_of Flaw, glaw⟩
  have e := hfa.symm.trans glaw
  cases e
  have bl := FunD.bindsA (ps := ["_law_script"]) Flaw fun _ _ _ _ _ _ us hl => match us, hl with | [_], _ => rfl
  refine ⟨fdlaw, fun s v => bl s [v] rfl, fun base _ _ => ?_⟩
  have Gw1 := okis_whole1 (P := P) (w := w) (base := base) gis_whole Fis_whole misinstance mint mbool
  have Gw2 := okis_whole2 (P := P) (w := w) (base := base) gis_whole Fis_whole misinstance mint mbool
  have Glowest_terms := oklowest_terms (P := P) (w := w) (base := base) tlowest_terms mgcd
  have Gplus := okplus (P := P) (w := w) (base := base) tplus Glowest_terms
  have Gnegative := oknegative (P := P) (w := w) (base := base) tnegative
  have Gminus := okminus (P := P) (w := w) (base := base) tminus Gplus Gnegative
  have Gtimes := oktimes (P := P) (w := w) (base := base) ttimes Glowest_terms
  have Gover := okover (P := P) (w := w) (base := base) tover Glowest_terms
  have Gis_ratio := okis_ratio (P := P) (w := w) (base := base) tis_ratio Gw1 Gw2 misinstance mtuple mlen mgcd
  have Gis_row := okis_row (P := P) (w := w) (base := base) tis_row misinstance mtuple mlist
  have Gis_place := okis_place (P := P) (w := w) (base := base) tis_place Gis_row Gis_ratio mlen
  have Gsum_of := oksum_of (P := P) (w := w) (base := base) tsum_of Gplus gZ hZ
  have Gwhole_direction := okwhole_direction (P := P) (w := w) (base := base) twhole_direction mgcd
  have Graw_amount := okraw_amount (P := P) (w := w) (base := base) traw_amount
  have Gamount_at := okamount_at (P := P) (w := w) (base := base) tamount_at Glowest_terms Graw_amount
  have Gstep_from := okstep_from (P := P) (w := w) (base := base) tstep_from Gminus
  have Gplace_by := okplace_by (P := P) (w := w) (base := base) tplace_by Gplus
  have Ggrow_place := okgrow_place (P := P) (w := w) (base := base) tgrow_place Gtimes
  have Gplace_on := okplace_on (P := P) (w := w) (base := base) tplace_on Gstep_from Gplace_by Ggrow_place
  have Gturn_place := okturn_place (P := P) (w := w) (base := base) tturn_place Gnegative
  have Gmirror_place := okmirror_place (P := P) (w := w) (base := base) tmirror_place Gnegative
  have Gwhole_row := okwhole_row (P := P) (w := w) (base := base) twhole_row
  have Graw_cross := okraw_cross (P := P) (w := w) (base := base) traw_cross Gwhole_row
  have Gcross_at := okcross_at (P := P) (w := w) (base := base) tcross_at Glowest_terms Graw_cross
  have Graw_step := okraw_step (P := P) (w := w) (base := base) traw_step Gwhole_row
  have Gside_normal := okside_normal (P := P) (w := w) (base := base) tside_normal Graw_step Gwhole_direction
  have Gmean_place := okmean_place (P := P) (w := w) (base := base) tmean_place Gsum_of Gover mlen
  have Xcheck_place := okXcheck_place (P := P) (w := w) (base := base) tcheck_place Gis_place cBadPlace gBadPlace
  have Xcheck_amount := okXcheck_amount (P := P) (w := w) (base := base) tcheck_amount Gis_ratio cBadAmount gBadAmount
  have Xcheck_size := okXcheck_size (P := P) (w := w) (base := base) tcheck_size Gis_ratio cBadSize gBadSize
  have Xwhole_direction := okXwhole_direction (P := P) (w := w) (base := base) twhole_direction mgcd cBadDirection gBadDirection
  have Xside_normal := okXside_normal (P := P) (w := w) (base := base) tside_normal Graw_step Xwhole_direction
  have G_law_gcd := ok_law_gcd (P := P) (w := w) (base := base) t_law_gcd mint mabs
  have G_law_ratio := ok_law_ratio (P := P) (w := w) (base := base) t_law_ratio G_law_gcd
  have G_law_plus := ok_law_plus (P := P) (w := w) (base := base) t_law_plus G_law_ratio
  have G_law_less := ok_law_less (P := P) (w := w) (base := base) t_law_less G_law_ratio
  have G_law_times := ok_law_times (P := P) (w := w) (base := base) t_law_times G_law_ratio
  have G_law_amount := ok_law_amount (P := P) (w := w) (base := base) t_law_amount G_law_plus G_law_times
  have G_law_direction := ok_law_direction (P := P) (w := w) (base := base) t_law_direction G_law_gcd
  have G_law_by := ok_law_by (P := P) (w := w) (base := base) t_law_by G_law_plus
  have G_law_step := ok_law_step (P := P) (w := w) (base := base) t_law_step G_law_less
  have G_law_plain := ok_law_plain (P := P) (w := w) (base := base) t_law_plain misinstance mtuple mint mbool
  have G_law_cross := ok_law_cross (P := P) (w := w) (base := base) t_law_cross G_law_less G_law_times
  have G_law_hand := dkHand (P := P) (w := w) (base := base) t_law_hand mint mlen
  have G_law_take := dkTake (P := P) (w := w) (base := base) t_law_take t_law_mixed mint mlen
  have G_law_number := ok_law_number (P := P) (w := w) (base := base) t_law_number G_law_take mrange
  have G_law_way := ok_law_way (P := P) (w := w) (base := base) t_law_way G_law_take
  have G_law_small := ok_law_small (P := P) (w := w) (base := base) t_law_small G_law_take G_law_ratio
  have G_law_place := ok_law_place (P := P) (w := w) (base := base) t_law_place G_law_take G_law_small G_law_number G_law_ratio
  have G_law_any_way := ok_law_any_way (P := P) (w := w) (base := base) t_law_any_way G_law_take G_law_way G_law_number G_law_direction
  have G_law_tuples := ok_law_tuples (P := P) (w := w) (base := base) t_law_tuples misinstance mtuple mint mbool
  have G_law_tuples := okL1_law_tuples (P := P) (w := w) (base := base) t_law_tuples G_law_tuples misinstance mtuple mint mbool
  have G_law_tuples := okL2_law_tuples (P := P) (w := w) (base := base) t_law_tuples G_law_tuples misinstance mtuple mint mbool
  have G_law_refuses_place := ok_law_refuses_place (P := P) (w := w) (base := base) t_law_refuses_place Xcheck_place gBadPlace mBadPlace
  have G_law_refuses_amount := ok_law_refuses_amount (P := P) (w := w) (base := base) t_law_refuses_amount Xcheck_amount gBadAmount mBadAmount
  have G_law_refuses_size := ok_law_refuses_size (P := P) (w := w) (base := base) t_law_refuses_size Xcheck_size gBadSize mBadSize
  have G_law_normal := ok_law_normal (P := P) (w := w) (base := base) t_law_normal Xside_normal gBadDirection mBadDirection
  have G_law_checks := ok_law_checks (P := P) (w := w) (base := base) t_law_checks Xcheck_place Xcheck_amount Xcheck_size G_law_refuses_place G_law_refuses_amount G_law_refuses_size misinstance mtuple mlist
  exact ok_law (fun_of Flaw) G_law_hand G_law_any_way Gamount_at Gstep_from G_law_place G_law_take G_law_small G_law_ratio G_law_times G_law_direction G_law_checks G_law_plain G_law_step G_law_tuples Gplace_by G_law_by Gplace_on Gcross_at G_law_cross G_law_plus Gmean_place Gturn_place Gmirror_place Ggrow_place G_law_normal G_law_amount mrange mlist mtuple
end
end F3
open PySem PySem.W PySem.Calls PyProof.Rows
theorem PySem.Challenge.cw_feltstone_k03_whole_places_and_amounts_holds : PySem.Challenge.rw_feltstone_k03_whole_places_and_amounts.Holds := by
  w_on; o_law
  refine HandSHeadRun.head_imp (r := OpenLaw.row PySem.Challenge.rw_feltstone_k03_whole_places_and_amounts) (q := view (OpenLaw.row PySem.Challenge.rw_feltstone_k03_whole_places_and_amounts).prog [0, 66]) (H := F3.hookM 5) (ob := F3.ob) (M := 60000) (loose := F3.names)
    (d := HandSHeadRun.topDef (OpenLaw.row PySem.Challenge.rw_feltstone_k03_whole_places_and_amounts).prog 66) (kwd := []) F3.ob_eq F3.run
    (by kernel_rfl) (by kernel_rfl) (by kernel_rfl) (by rfl) (by first | assumption | decide +kernel) (by decide +kernel) ⟨rfl, rfl, rfl, rfl, rfl, by decide +kernel⟩ ?hw ?hc
  case hw => w_witness2
  case hc =>
    refine L2.walk_ofE (l := PySem.Challenge.rw_feltstone_k03_whole_places_and_amounts) (n := 63) (k := 7) (x := "_law_script") (CX := L2.CX0) rfl (by decide) (by kernel_rfl) ⟨rfl, by decide, by decide⟩ ?F (fun _ _ _ _ z => z)
    intro w mg fa h Y G hmg0
    obtain ⟨K, KX, c⟩ := Y
    have hmg : mg ("law" : PySem.Str) = some (.ref fa) := by
      have e : (HandSHeadRun.topDef (OpenLaw.row PySem.Challenge.rw_feltstone_k03_whole_places_and_amounts).prog 66).name = ("law" : PySem.Str) := by kernel_rfl
      rw [← e]
      exact hmg0
    obtain ⟨fd, hb, hF⟩ := F3.facts (P := (PySem.Challenge.rw_feltstone_k03_whole_places_and_amounts).prog) (w := w) KX G hmg c
    exact ⟨K, fd, F3.spLaw K, KX, hb, fun H a ns hl _ hS => ⟨a, ns, rfl, hS, hl, fun _ => rfl⟩, hF⟩
