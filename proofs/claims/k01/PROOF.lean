import PyProof.Rows.All
import Wide.All
import OpenK.AllK
import Wide.FinOn
import HandS.ForMost
import HandS.WordsExc
import HandS.ExcInit
import HandS.ExcIs
import HandS.ExcField
import HandS.ExcValue
import HandS.IsInst
import KE.KExcIs
import HandS.Defaults
import HandS.HeadHook1
import HandS.HeadHook2
import HandS.Wide
import HandS.Gcd
import HandS.NoneIn
import HandS.Codes
import HandS.TryMany
import HandS.WideBits
import HandS.StrMore
import HandS.Style
import HandS.Walk
import HandS.Deep
import KE.KStateDown
import HandS.Head0
import HandS.Head1
import HandS.Head2
import HandS.Head3
import HandS.HeadEnd
import PySem.Challenge.RW_feltstone_k01_whole_ratios_reckoned
set_option Elab.async false
set_option linter.all false
set_option maxRecDepth 100000
set_option maxHeartbeats 4000000
/-! exceptions of own classes as values: made, read, asked for their class -/
namespace FX
open PySem PySem.Spec PyProof.Rows L2
/-- at e an exception of the class at C, with these fields -/
def ExAt (H : Hp) (e C : Addr) (fs : List (Str × V)) : Prop :=
  (fs = [] ∧ H e = some (exo e C none)) ∨ ∃ d, H e = some (exo e C (some d)) ∧ H d = some (exd d fs)
theorem ExAt.same {H H' : Hp} {e C : Addr} {fs : List (Str × V)} (x : ExAt H e C fs) (s : Same H H') : ExAt H' e C fs := by
  rcases x with ⟨a, b⟩ | ⟨d, a, b⟩
  · exact .inl ⟨a, s _ _ b⟩
  · exact .inr ⟨d, s _ _ a, s _ _ b⟩
/-- what an exception class's own constructor does -/
def spInit (C : Addr) (names : List Str) : Sp := fun vs H Q _ => ∃ (a : Addr) (ws : List V), vs = .ref a :: ws ∧ ws.length = names.length ∧ H a = some (exo a C none) ∧
  ∀ H' d, (∀ b o, b ≠ a → H b = some o → H' b = some o) → H' a = some (exo a C (some d)) → H' d = some (exd d (names.zip ws).reverse) → H d = none → Q .non H'
/-- the text's facts of an exception class, as one look -/
def oexB (K : PySem.W.Frag) (C : Addr) : Bool := (match K.lookup C with
    | some ⟨.type "type", _, .cls cd, sl⟩ => (match cd.mro, sl.toList with
      | .ref D :: bm, [_, _, _, _, some (.builtin n), _] => decide (D = C) && (decide (n = "ValueError.__new__") && (!cd.hasDel && (cd.hasDict && PySem.HandSPX.refsVE bm)))
      | _, _ => false)
    | _ => false) && (He.eqO (PySem.W.findIn K (.ref C) "__setattr__") (some (some (.builtin "object.__setattr__"))) && (decide (PySem.W.subIn K (.ref C) (.type "BaseException") = some true) && (decide (PySem.W.typeIn K (.ref C) = some (.type "type")) && PySem.W.keepIn K (.ref C))))
theorem oexB_ok {K : PySem.W.Frag} {C : Addr} (h : oexB K C = true) : OexC K C := by
  obtain ⟨h0, h⟩ := He.ba h
  obtain ⟨h1, h⟩ := He.ba h
  obtain ⟨h2, h⟩ := He.ba h
  obtain ⟨h3, h4⟩ := He.ba h
  refine ⟨?_, He.eqO_ok h1, of_decide_eq_true h2, of_decide_eq_true h3, h4⟩
  split at h0
  · rename_i dd cd sl lk
    split at h0
    · rename_i D bm k0 k1 k2 k3 n k5 em es
      obtain ⟨a, h0⟩ := He.ba h0
      obtain ⟨b, h0⟩ := He.ba h0
      obtain ⟨c, h0⟩ := He.ba h0
      obtain ⟨d, e⟩ := He.ba h0
      obtain rfl := of_decide_eq_true a
      obtain rfl := of_decide_eq_true b
      obtain ⟨nm, bs, mro, ns, qn, hd, sn, sub, ab, col, del⟩ := cd
      obtain ⟨l⟩ := sl
      dsimp only at em es c d
      subst em es d
      have c' : del = false := by simpa using c
      subst c'
      exact ⟨nm, qn, ns, bs, bm, sn, sub, ab, col, dd, k0, k1, k2, k3, k5, lk, e⟩
    · cases h0
  · cases h0
def isB (K : PySem.W.Frag) (D : Addr) : Bool := He.eqO (PySem.W.findIn K (.ref D) "__getattribute__") (some (some (.builtin "BaseException.__getattribute__"))) && (He.eqO (PySem.W.findIn K (.ref D) "__getattr__") (some none) &&
  (decide (PySem.W.subIn K (.ref D) (.type "BaseException") = some true) && (PySem.W.hasDictIn K D && (He.eqO (PySem.W.findIn K (.ref D) "__class__") (some (some (.builtin "object.__class__"))) &&
  (He.eqO (PySem.W.specialIn K (.builtin "object.__class__") "__get__") (some (some (.builtin "getset_descriptor.__get__"))) && (decide (PySem.W.takesIn K (.builtin "object.__class__") = some true) && decide (PySem.W.mroIn K D (.type "object") = some true)))))))
theorem isB_ok {K : PySem.W.Frag} {D : Addr} (h : isB K D = true) : ExcC K D := by
  obtain ⟨h1, h⟩ := He.ba h
  obtain ⟨h2, h⟩ := He.ba h
  obtain ⟨h3, h⟩ := He.ba h
  obtain ⟨h4, h⟩ := He.ba h
  obtain ⟨h5, h⟩ := He.ba h
  obtain ⟨h6, h⟩ := He.ba h
  obtain ⟨h7, h8⟩ := He.ba h
  exact ⟨He.eqO_ok h1, He.eqO_ok h2, of_decide_eq_true h3, h4, He.eqO_ok h5, He.eqO_ok h6, of_decide_eq_true h7, of_decide_eq_true h8⟩
/-- a class with its own constructor (the fields' names), or without one -/
def clsB (K : PySem.W.Frag) (x : Str) (names : List Str) : Bool := (He.Fa.glo x).ok K && (oexB K (He.ga K x) && (isB K (He.ga K x) && (names.all (fun f => (He.Fa.noat x f).ok K) && (if names = [] then PySem.W.excIn K (He.ga K x) He.veBase "ValueError.__new__" else
  (He.eqO (PySem.W.findIn K (.ref (He.ga K x)) "__init__") (some (some (.ref (He.ma K (He.ga K x) "__init__")))) && decide (PySem.W.typeIn K (.ref (He.ma K (He.ga K x) "__init__")) = some (.type "function")))))))
structure ClsOk (K : PySem.W.Frag) (x : Str) (names : List Str) : Prop where
  glo : (He.Fa.glo x).ok K = true
  o : OexC K (He.ga K x)
  is : ExcC K (He.ga K x)
  no : ∀ f ∈ names, PySem.W.findIn K (.ref (He.ga K x)) f = some none
  xin : names = [] → PySem.W.excIn K (He.ga K x) [.type "ValueError", .type "Exception", .type "BaseException", .type "object"] "ValueError.__new__" = true
  ini : names ≠ [] → PySem.W.findIn K (.ref (He.ga K x)) "__init__" = some (some (.ref (He.ma K (He.ga K x) "__init__")))
  ity : names ≠ [] → PySem.W.typeIn K (.ref (He.ma K (He.ga K x) "__init__")) = some (.type "function")
theorem clsB_ok {K : PySem.W.Frag} {x : Str} {names : List Str} (h : clsB K x names = true) : ClsOk K x names := by
  obtain ⟨h1, h⟩ := He.ba h
  obtain ⟨h2, h⟩ := He.ba h
  obtain ⟨h3, h⟩ := He.ba h
  obtain ⟨h4, h5⟩ := He.ba h
  refine ⟨h1, oexB_ok h2, isB_ok h3, fun f hf => He.noat_ok (List.all_eq_true.mp h4 f hf), fun e => ?_, fun e => ?_, fun e => ?_⟩
  · rw [if_pos e] at h5; exact h5
  · rw [if_neg e] at h5; exact He.eqO_ok (He.ba h5).1
  · rw [if_neg e] at h5; exact of_decide_eq_true (He.ba h5).2
theorem fun_of {K : PySem.W.Frag} {x q : Str} {st : Stmt} {f : Addr} {fd : FuncData} (F : FunD K x q (defArgs st) (defBody st) (defScope st) [] [] f fd) : Fun K x q st f fd := by
  obtain ⟨oc, od, dV, kV, doc, pm, an, cdv, ct, osl, rfl, lk, hcd, hD, hK⟩ := F.ex
  rcases hD with ⟨_, rfl⟩ | ⟨e, _⟩
  · exact ⟨⟨oc, od, kV, doc, pm, an, cdv, ct, osl, rfl, lk, hcd⟩, F.kp⟩
  · exact absurd rfl e
section
variable {X : Cx} {pins : List (Addr × Obj)} {σ : L2.St} {H : Hp} {s : Shared}
/-- the exception as the library sees it -/
theorem ExAt.inst {e C : Addr} {fs : List (Str × V)} (I : Inv X pins σ H s) (x : ExAt H e C fs) :
    ∃ (oe : Obj) (od : Option Obj), PySem.W.InstAt s.heap e oe C od ∧ (∀ f v, fs.lookup f = some v → ∃ oo u, od = some oo ∧ PySem.W.lookIn f oo = some (some u) ∧ RelV v u) := by
  rcases x with ⟨rfl, a⟩ | ⟨d, a, b⟩
  · obtain ⟨t1, h1⟩ := exo_at I.hok a
    exact ⟨_, none, ⟨h1, rfl, rfl, trivial⟩, fun f v l => by cases l⟩
  · obtain ⟨t1, h1⟩ := exo_at I.hok a
    obtain ⟨mA, hns, rel⟩ := exd_at I.hok b
    obtain ⟨od, ho, hl⟩ := lookIn_ns hns
    refine ⟨_, some od, ⟨h1, rfl, rfl, ho⟩, fun f v l => ?_⟩
    obtain ⟨u, hu, ru⟩ := RelO.some_of (v := v) (o := mA f) (by rw [← l]; exact rel f)
    exact ⟨od, u, rfl, by rw [hl, hu], ru⟩
/-- isinstance of such a value -/
def rIsX (K : PySem.W.Frag) : List V → Hp → VK → Prop := fun xs H Q => ∃ (e C : Addr) (fs : List (Str × V)) (c : V) (cv : Value) (b : Bool),
  xs = [.ref e, c] ∧ ExAt H e C fs ∧ ExcC K C ∧ ClsV c cv ∧ PySem.W.kitOne K (.ref C) cv = some b ∧ Q (.bl b) H
theorem call_isX : CallR X (.builtin "isinstance") (rIsX X.K) := by
  intro pins s σ H xs us Q I r h
  obtain ⟨e, C, fs, c, cv, b, rfl, x, T, k, hk, q⟩ := h
  obtain ⟨u1, u2, rfl, r1, r2⟩ := vals2 r
  obtain rfl := k.eq r2
  cases (show u1 = Value.ref e from r1)
  obtain ⟨oe, od, J, _⟩ := ExAt.inst I x
  obtain ⟨cd, hcd, _⟩ := PySem.W.any_some T.hd
  exact PySem.W.kia_one (PySem.W.kitx_exc (by rw [hcd]; rfl) T.hg T.hk T.hs T.ha T.hn T.ht T.hm) I.kIn J hk (fun z => nomatch z) fun tk => ⟨.bl b, H, I.tok tk, rfl, q⟩
/-- e.f -/
def tXv (K : PySem.W.Frag) (f : Str) (te : TE) : TE := fun σ H Q => te σ H fun x H1 => ∃ (e C : Addr) (fs : List (Str × V)) (v : V), x = .ref e ∧ ExAt H1 e C fs ∧ ExcC K C ∧ PySem.W.findIn K (.ref C) f = some none ∧ fs.lookup f = some v ∧ Q v H1
theorem pe_xv {e : Expr} {te : TE} {f : Str} {pos : Pos} (he : PE X e te) (hb : attributeBase e f X.env (eval e X.env) = eval e X.env := by rfl) : PE X (.Attribute e f pos) (tXv X.K f te) := by
  refine ⟨fun pins s σ H Q I h => ?_⟩
  refine attr_of hb (thn (he.run pins s σ H _ I h) fun u s1 hh => ?_)
  obtain ⟨x, H1, I1, rx, a, C, fs, v, rfl, ex, T, hno, l, q⟩ := hh
  cases (show u = Value.ref a from rx)
  obtain ⟨oe, od, J, hl⟩ := ExAt.inst I1 ex
  obtain ⟨oo, u, rfl, hu, ru⟩ := hl f v l
  exact PySem.HandSPX.exc_get I1.kIn J T.hg T.hk T.hs (PySem.W.findObj_own T.hd hno rfl hu) (handed_of ru) ⟨v, H1, I1.tok _, ru, q⟩
/-- C(..) as a value -/
def tEx (C : Addr) (names : List Str) (ta : TA) : TE := fun σ H Q => ta σ H fun vs H1 => vs.length = names.length ∧ vs.length ≤ 1000 ∧ ∀ e H', H1 e = none → Same H1 H' → ExAt H' e C (names.zip vs).reverse → Q (.ref e) H'
theorem pe_ex {x : Str} {C fI : Addr} {k : Nat} {fd : FuncData} {ps names : List Str} {e : Expr} {es : List Expr} {ta : TA} {p pos : Pos} (T : OexC X.K C) (iC : PySem.W.findIn X.K (.ref C) "__init__" = some (some (.ref fI))) (tI : PySem.W.typeIn X.K (.ref fI) = some (.type "function"))
    (F1 : FnOk X.prog X.w X.K X.mg X.base CX0 k fI fd ps (spInit C names)) (hr : Room (k + 1) X.A) (hb : Binds X.K fd ps []) (hg : Gl X x) (hm : X.mg x = some (.ref C)) (ha : PA X (e :: es) ta)
    (hdb : (x == ("__debug__" : Str)) = false := by decide) (he : starEach (e :: es) X.env = (false, eval e X.env) :: starEach es X.env := by rfl) (hpl : (backTo pos (starEach es X.env)).any (·.1) = false := by rfl) :
    PE X (.Call (.Name x p) (e :: es) [] pos) (tEx C names ta) := by
  refine ⟨fun pins s σ H Q I h => ?_⟩
  obtain ⟨nm, q, N, bs, bm, sn, sub, ab, col, dd, k0, k1, k2, k3, k5, hC, hbm⟩ := T.cls
  refine wpAny_Call_Name_kw (ld_glob I hg hm ?_ hdb)
  refine PySem.W.callWith_K (h₀ := X.base) I.ok.mod.kin T.kC (thn (ha.run pos pins s σ H _ I h) fun us s1 ⟨vs, H1, I1, r1, hl, hz, q1⟩ => ⟨I1.kIn, ?_⟩) he hpl
  show wpAny _ _ (call (.ref C) us) _ _ _
  obtain ⟨hp, g, dr, tk, os⟩ := s1
  have hsz : hp.objs.size ≤ hp.objs.size + 1 := Nat.le_succ _
  have hn : H1 (hp.objs.size + 1) = none := I1.hok.fresh hsz
  have kk : ∀ b o, hp.get? b = some o → ((hp.push (PySem.W.kdv_tup us)).push (PySem.HandSPX.excO C hp.objs.size)).get? b = some o := fun b o e => Heap.get?_push_of_some _ (Heap.get?_push_of_some _ e)
  have hget : ((hp.push (PySem.W.kdv_tup us)).push (PySem.HandSPX.excO C hp.objs.size)).get? (hp.objs.size + 1) = some (PySem.HandSPX.excO C hp.objs.size) := by heap_get
  have I2 : Inv X pins σ (upd H1 (hp.objs.size + 1) (exo (hp.objs.size + 1) C none)) ⟨(hp.push (PySem.W.kdv_tup us)).push (PySem.HandSPX.excO C hp.objs.size), g, dr, tk, os⟩ :=
    I1.laid (t' := tk) (a := hp.objs.size + 1) (o := exo (hp.objs.size + 1) C none) (h' := (hp.push (PySem.W.kdv_tup us)).push (PySem.HandSPX.excO C hp.objs.size)) kk hsz (exo_ok hget)
  have r2 : Vals (V.ref (hp.objs.size + 1) :: vs) (Value.ref (hp.objs.size + 1) :: us) := .cons rfl r1
  have hq : spInit C names (V.ref (hp.objs.size + 1) :: vs) (upd H1 (hp.objs.size + 1) (exo (hp.objs.size + 1) C none)) (fun v H2 => v = .non ∧ Q (.ref (hp.objs.size + 1)) H2) E0 := by
    refine ⟨_, vs, rfl, hl, upd_same, fun H' d keep ea ed _ => ⟨rfl, q1 _ H' hn (fun b o z => ?_) (.inr ⟨d, ea, ed⟩)⟩⟩
    have nb : b ≠ hp.objs.size + 1 := ne_of_none z hn
    exact keep b o nb (by rw [upd_ne nb]; exact z)
  have hlen : (Value.ref (hp.objs.size + 1) :: us).length = ps.length := by
    have e := r2.length
    rw [F1.len _ _ _ _ hq] at e
    exact e.symm
  have hus : us.length ≤ sizeLine := by
    rw [← Paired.length r1, sizeLine_eq]
    omega
  have bb : BindsTo ⟨(hp.push (PySem.W.kdv_tup us)).push (PySem.HandSPX.excO C hp.objs.size), g, dr, tk, os⟩ fd ⟨Value.ref (hp.objs.size + 1) :: us, []⟩ (ps.zip (Value.ref (hp.objs.size + 1) :: us)) := by
    have z := hb ⟨(hp.push (PySem.W.kdv_tup us)).push (PySem.HandSPX.excO C hp.objs.size), g, dr, tk, os⟩ (Value.ref (hp.objs.size + 1) :: us) I2.kIn (by rw [List.append_nil]; exact hlen)
    rw [List.append_nil] at z
    exact z
  refine wpAny_call (PySem.HandSPX.call_own F.excBase_ValueError (fun Y => PySem.HandSPX.refsVE_contains Y bm hbm) (I1.kIn _ _ hC) (PySem.W.looks_findIn I1.kIn iC) (fun self => PySem.W.bind_fn I1.kIn self tI) hus
    (codeAny_mono (F1.run _ X.stack _ _ ⟨Value.ref (hp.objs.size + 1) :: us, []⟩ (Value.ref (hp.objs.size + 1) :: us) _ _ E0 (hr.make C us []) (I2.env0.make C us []) bb r2 hq) fun r s' hq' => ?_))
  cases r with
  | error er => exact False.elim hq'
  | ok fl =>
    cases fl with
    | ret u =>
      obtain ⟨v, H', I3, rv, ev, q3⟩ := I2.after hq'
      subst ev
      exact ⟨rv, ⟨V.ref (hp.objs.size + 1), H', I3, rfl, q3⟩⟩
    | next => exact False.elim hq'
    | brk => exact False.elim hq'
    | cont => exact False.elim hq'
theorem pe_ex0 {x : Str} {C : Addr} {p pos : Pos} (T : OexC X.K C) (q : PySem.W.excIn X.K C [.type "ValueError", .type "Exception", .type "BaseException", .type "object"] "ValueError.__new__" = true) (hg : Gl X x) (hm : X.mg x = some (.ref C))
    (hdb : (x == ("__debug__" : Str)) = false := by decide) : PE X (.Call (.Name x p) [] [] pos) (tEx C [] tNil) := by
  refine ⟨fun pins s σ H Q I h => ?_⟩
  refine wpAny_Call_Name_kw (ld_glob I hg hm ?_ hdb)
  refine PySem.W.callWith_K0 I.kIn T.kC ?_
  obtain ⟨_, _, q1⟩ := h
  obtain ⟨hp, g, dr, tk, os⟩ := s
  obtain ⟨bm, N, nm, qn, bs, hdct, sn, sub, ab, col, dd, k0, k1, k2, k3, k5, mN, hC, hN, hni, Tl⟩ := exc_obj I.kIn q
  refine wpAny_call_exc_subT F.excBase_ValueError Tl hC hN hni (fun h' a hm => ?_) (by show 0 ≤ sizeLine; exact Nat.zero_le _)
  have hn : H a = none := I.hok.gone hm.new
  obtain ⟨t, ht, _, _⟩ := hm.there
  refine ⟨.ref a, upd H a (exo a C none), I.laidN hm.keeps hm.new hn (exo_ok ht), rfl, q1 a _ hn (fun b o z => ?_) (.inl ⟨rfl, upd_same⟩)⟩
  rw [upd_ne (ne_of_none z hn)]; exact z
end
end FX
set_option Elab.async false
set_option linter.all false
set_option maxRecDepth 100000
set_option maxHeartbeats 4000000
/-! a try with several clauses, each with a name for the error or without one; what a suite asks of the error -/
namespace FX
open PySem PySem.Spec PyProof.Rows L2
abbrev Clau := Value × Option Nat × (Addr → Value → Option Addr → TS)
def endsAs (o : Option Nat) (D : Ends) : Ends := match o with
  | none => D
  | some i => ⟨fun st hp => D.nx (st.set i none) hp, D.rt, fun st hp => D.bk (st.set i none) hp, fun st hp => D.ct (st.set i none) hp⟩
def inAs (o : Option Nat) (a : Addr) (st : L2.St) : L2.St := match o with
  | none => st
  | some i => st.set i (some (.ref a))
def wNm (K : PySem.W.Frag) (Wout : WX) (D : Ends) : List Clau → WX
  | [] => Wout
  | (c, o, ts) :: r => fun cls d st hp => ∃ b, PySem.W.exmOne K cls c = some b ∧ (b = true → ∀ a, hp a = none → ts a cls d (endsAs o D) (inAs o a st) hp) ∧ (b = false → wNm K Wout D r cls d st hp)
inductive HdsN (X : Cx) : List ExceptHandler → List Clau → Prop
  | nil : HdsN X [] []
  | plain {x : Str} {c : Value} {ts : Addr → Value → Option Addr → TS} {b0 : Stmt} {su : List Stmt} {np ps : Pos} {hl : List ExceptHandler} {l : List Clau} (hc : Names X x c)
      (hsu : ∀ (a : Addr) (oe : Obj) (cls : Value) (d : Option Addr) (pn : List (Addr × Obj)), Zc cls d oe → (∃ vs, oe.data = .fields vs) → PSs (X.suite a ((a, oe) :: pn)) (b0 :: su) (ts a cls d)) (r : HdsN X hl l) :
      HdsN X (.ExceptHandler (some (.Name x np)) none (b0 :: su) ps :: hl) ((c, none, ts) :: l)
  | named {x n : Str} {c : Value} {i : Nat} {ts : Addr → Value → Option Addr → TS} {b0 : Stmt} {su : List Stmt} {np ps : Pos} {hl : List ExceptHandler} {l : List Clau} (hc : Names X x c) (hN : X.N.Nodup) (hi : X.N[i]? = some n) (hln : X.env.kindOf n = some .local)
      (hsu : ∀ (a : Addr) (oe : Obj) (cls : Value) (d : Option Addr) (pn : List (Addr × Obj)), Zc cls d oe → (∃ vs, oe.data = .fields vs) → PSs (X.suite a ((a, oe) :: pn)) (b0 :: su) (ts a cls d)) (r : HdsN X hl l) :
      HdsN X (.ExceptHandler (some (.Name x np)) (some n) (b0 :: su) ps :: hl) ((c, some i, ts) :: l)
section
variable {X : Cx}
theorem names_own {x : Str} {C : Addr} (hg : Gl X x) (hm : X.mg x = some (.ref C)) (hd : (x == ("__debug__" : Str)) = false := by decide) : Names X x (.ref C) := ⟨hg, hd, .inl hm⟩
/-- the class that a clause names is asked for -/
theorem ask_class {x : Str} {np : Pos} {c : Value} {a : Addr} {oe : Obj} {pl : List (Addr × Obj)} {st : L2.St} {hp : Hp} {s : Shared} (hc : Names X x c) (J : Inv (X.suite a ((a, oe) :: pl)) [] st hp s) {Q : Value → Shared → Prop} {E : Value → Shared → Prop} (q : Q c s) :
    wpAny (model X.prog X.w) (X.A.mark (some (.ref a))) (eval (.Name x np) X.env) Q E s := by
  rcases hc with ⟨hg, hb, hm | ⟨hm, hv, hnn⟩⟩
  · exact ld_glob (X := X.suite a ((a, oe) :: pl)) J hg hm q hb
  · exact ld_blt (X := X.suite a ((a, oe) :: pl)) J hg hm hv q hnn hb
theorem ps_try_nm {body : List Stmt} {h0 : ExceptHandler} {hl : List ExceptHandler} {l : List Clau} {pos : Pos} {tb : WX → TS} {Wout : WX} (stk : X.stack = X.env :: X.outer) (fra : X.env.frame = some X.env.locals) (tk : Takes X Wout)
    (hb : ∀ (W : WX) (pn : List (Addr × Obj)) (xe : Value → Shared → Prop), Takes (X.tr pn xe) W → PassesOwn (model X.prog X.w) X.A X.env xe → PSs (X.tr pn xe) body (tb W)) (hh : HdsN X (h0 :: hl) l) :
    PS X (.Try body (h0 :: hl) [] [] pos) (fun D st hp => tb (wNm X.K Wout D l) D st hp) := by
  refine ⟨fun pins s σ H D I h => ?_⟩
  have fine := I.ok
  have frs2 : X.A.frames = some (X.env :: X.outer) := fine.frames.trans (congrArg some stk)
  refine wpAny_Try_except (wpAny_mono ((hb (wNm X.K Wout D l) (X.pn ++ pins) (fun x z => wpAny (model X.prog X.w) X.A (noteFrame x X.env) (fun _ z2 => wpAny (model X.prog X.w) X.A (setFlight x none) (fun _ z3 =>
    wpAny (model X.prog X.w) X.A (handleBy x X.env (h0 :: hl)) (SP X pins D) X.xe z3) X.xe z2) X.xe z) (fun u t0 air => ?_) PassesOwn.looking).run [] s σ H D (I.toTry _) h) (fun f t0 got => ?_) (fun _ _ bad => bad))
  · obtain ⟨ad, gr, sI, pp, st, hp, cls, d, rfl, J1, nb, up, sky, na, os, ag, w⟩ := air
    have J : Inv X pins st hp sI := J1.ofTry fine
    have sky2 : Sky gr (X.env :: X.outer) ad (Zc cls d) X.env.locals t0.heap := stk ▸ sky
    show wpAny (model X.prog X.w) X.A (noteFrame (.ref ad) X.env) _ _ _
    refine Sky.land Zc.steady frs2 fra sky2 fun hA flA upA => ?_
    have JA : Inv X pins st hp { t0 with heap := hA } := J.landed nb flA.1 (up.trans upA) os ag
    obtain ⟨oA, vA, gA, zA, dA⟩ := flA.there
    have off : ad ∉ frs (X.env :: X.outer) := fun mem => by
      obtain ⟨_, o2, g2, bad⟩ := flA.2.2.1.mem mem
      rw [gA] at g2
      cases g2
      exact bad _ dA
    have offL : ad ≠ X.env.locals := fun z => off (List.mem_filterMap.mpr ⟨X.env, List.mem_cons_self, by rw [fra, z]⟩)
    have offF : ad ∉ X.fs := fun mem => by
      obtain ⟨v, hv, z⟩ := List.mem_filterMap.mp mem
      exact off (List.mem_filterMap.mpr ⟨v, List.mem_cons_of_mem _ hv, z⟩)
    have SA := JA.suite gA dA na offL offF
    have all : ∀ {hq : List ExceptHandler} {lq : List Clau}, HdsN X hq lq → wNm X.K Wout D lq cls d st hp → wpAny (model X.prog X.w) X.A (handleBy (.ref ad) X.env hq) (SP X pins D) X.xe { t0 with heap := hA } := by
      intro hq lq k
      induction k with
      | nil =>
        intro w
        refine wpAny_handleBy_nil ?_
        obtain ⟨_, _, _, oe, vs, tb2, _, _, he, _, hd, h1, _⟩ := id flA
        unfold PySem.passOn
        refine wpAny_bind (wpAny_field he hd h1 ?_)
        rw [if_neg (show ¬ ((Value.ref tb2 == Value.none) = true) by simp)]
        have fin : wpAny (model X.prog X.w) X.A (setFlight (.ref ad) X.env.frame) (fun _ z4 => wpAny (model X.prog X.w) X.A (throw (.ref ad) : Sem Flow) (SP X pins D) X.xe z4) X.xe { t0 with heap := hA } := by
          rw [fra]
          refine HandSPX.setFlight_upZ flA fun hB hhB upB => wpAny_throw (tk _ _ ?_)
          exact ⟨ad, gr, sI, pins, st, hp, cls, d, rfl, J, nb, (up.trans upA).trans upB, .inr (.inr (stk ▸ hhB)), na, os, ag, w⟩
        first
          | exact wpAny_bind (wpAny_pure (wpAny_bind fin))
          | exact wpAny_bind fin
      | plain hc hsu r ih =>
        intro w
        obtain ⟨b, hb1, yes, no⟩ := w
        refine wpAny_handleBy_cons (codeAny_handlers_test ?_) (by intro q; cases q)
        have look := PySem.W.exm_one (M := model X.prog X.w) JA.kIn (fun A Q E s k q => wpAny_typeOf_ref (k _ _ gA) (by rw [zA.1]; exact q)) hb1
        refine ask_class hc SA (look.here ?_)
        cases b with
        | false => exact ih (no rfl)
        | true =>
          refine codeAny_handlers_suite (HandSPX.lands_againZ flA fun hB flB upB => ?_)
          have JB : Inv X pins st hp { t0 with heap := hB } := J.landed nb flB.1 ((up.trans upA).trans upB) os ag
          obtain ⟨oB, vB, gB, zB, dB⟩ := flB.there
          refine wpAny_mono ((hsu ad oB cls d (X.pn ++ pins) zB ⟨_, dB⟩).run [] _ _ hp _ (JB.suite gB dB na offL offF) (yes rfl ad na)) (fun f z6 got => ?_) (fun _ _ z => False.elim z)
          cases f with
          | ret u => obtain ⟨v6, st6, hp6, S6, r6, q6⟩ := got; exact ⟨_, _, _, S6.unsuite fine, r6, q6⟩
          | next => obtain ⟨st6, hp6, S6, q6⟩ := got; exact ⟨_, _, S6.unsuite fine, q6⟩
          | brk => obtain ⟨st6, hp6, S6, q6⟩ := got; exact ⟨_, _, S6.unsuite fine, q6⟩
          | cont => obtain ⟨st6, hp6, S6, q6⟩ := got; exact ⟨_, _, S6.unsuite fine, q6⟩
      | @named x n c i ts b0 su np ps hl2 l2 hc hN hi hln hsu r ih =>
        intro w
        obtain ⟨b, hb1, yes, no⟩ := w
        refine wpAny_handleBy_cons (codeAny_handlers_test ?_) (by intro q; cases q)
        have look := PySem.W.exm_one (M := model X.prog X.w) JA.kIn (fun A Q E s k q => wpAny_typeOf_ref (k _ _ gA) (by rw [zA.1]; exact q)) hb1
        refine ask_class hc SA (look.here ?_)
        cases b with
        | false => exact ih (no rfl)
        | true =>
          refine codeAny_handlers_suite_as (HandSPX.lands_againZ flA fun hB flB upB => ?_)
          have JB : Inv X pins st hp { t0 with heap := hB } := J.landed nb flB.1 ((up.trans upA).trans upB) os ag
          obtain ⟨oB, vB, gB, zB, dB⟩ := flB.there
          refine store_ok (X := X.suite ad ((ad, oB) :: (X.pn ++ pins))) (v := .ref ad) (JB.suite gB dB na offL offF) hN hi (.inl hln) rfl (fun z5 S5 => ?_) (.inr hln)
          refine wpAny_mono ((hsu ad oB cls d (X.pn ++ pins) zB ⟨_, dB⟩).run [] z5 _ hp _ S5 (yes rfl ad na)) (fun f z6 got => ?_) (fun _ _ z => False.elim z)
          have gone : ∀ {st6 : L2.St} {hp6 : Hp} {Q : Shared → Prop}, Inv (X.suite ad ((ad, oB) :: (X.pn ++ pins))) [] st6 hp6 z6 → (∀ z7, Inv X pins (st6.set i none) hp6 z7 → Q z7) →
              wpAny (model X.prog X.w) X.A (do bindName X.env n .none; unbindBehindTheSuite X.env n ps) (fun _ z7 => Q z7) X.xe z6 := fun S6 hq => gone_ok (S6.unsuite fine) hN hi hln hq
          cases f with
          | ret u => obtain ⟨v6, st6, hp6, S6, r6, q6⟩ := got; exact gone S6 fun z7 J7 => ⟨_, _, _, J7, r6, q6⟩
          | next => obtain ⟨st6, hp6, S6, q6⟩ := got; exact gone S6 fun z7 J7 => ⟨_, _, J7, q6⟩
          | brk => obtain ⟨st6, hp6, S6, q6⟩ := got; exact gone S6 fun z7 J7 => ⟨_, _, J7, q6⟩
          | cont => obtain ⟨st6, hp6, S6, q6⟩ := got; exact gone S6 fun z7 J7 => ⟨_, _, J7, q6⟩
    exact all hh w
  · cases f with
    | ret u => obtain ⟨v, st, hp, J, r, q⟩ := got; exact ⟨v, st, hp, J.ofTry fine, r, q⟩
    | next => obtain ⟨st, hp, J, q⟩ := got; exact wpAny_execs_nil ⟨st, hp, J.ofTry fine, q⟩
    | brk => obtain ⟨st, hp, J, q⟩ := got; exact ⟨st, hp, J.ofTry fine, q⟩
    | cont => obtain ⟨st, hp, J, q⟩ := got; exact ⟨st, hp, J.ofTry fine, q⟩
/-- isinstance of the error that the suite holds -/
def rIsP (K : PySem.W.Frag) (a : Addr) (cls : Value) (d : Option Addr) : List V → Hp → VK → Prop := fun xs hp Q => ∃ (C : Addr) (c : V) (cv : Value) (b : Bool), xs = [.ref a, c] ∧ cls = .ref C ∧ ExcC K C ∧
  (d = none ∨ ∃ dd fs, d = some dd ∧ hp dd = some (.xd fs)) ∧ ClsV c cv ∧ PySem.W.kitOne K (.ref C) cv = some b ∧ Q (.bl b) hp
theorem call_isP {a : Addr} {oe : Obj} {cls : Value} {d : Option Addr} {pn : List (Addr × Obj)} (hz : Zc cls d oe) (hf : ∃ vs, oe.data = .fields vs) : CallR (X.suite a ((a, oe) :: pn)) (.builtin "isinstance") (rIsP X.K a cls d) := by
  intro pins s σ H xs us Q I r h
  obtain ⟨C, c, cv, b, rfl, rfl, T, hd, k, hk, q⟩ := h
  obtain ⟨u1, u2, rfl, r1, r2⟩ := vals2 r
  obtain rfl := k.eq r2
  cases (show u1 = Value.ref a from r1)
  obtain ⟨got, _⟩ := I.pin (a, oe) (List.mem_append_left _ List.mem_cons_self)
  obtain ⟨vs, hv⟩ := hf
  have J : ∃ od, PySem.W.InstAt s.heap a oe C od := by
    rcases hd with rfl | ⟨dd, fs, rfl, e⟩
    · exact ⟨none, got, hz.1, by unfold PySem.W.notCls; rw [hv] <;> rfl, by rw [hz.2]; trivial⟩
    · have hx : ObjOk X.prog X.w H s.heap dd (.xd fs) := I.hok dd _ e
      obtain ⟨mA, hns, _⟩ := hx
      obtain ⟨od, ho, _⟩ := lookIn_ns hns
      exact ⟨some od, got, hz.1, by unfold PySem.W.notCls; rw [hv] <;> rfl, by rw [hz.2]; exact ho⟩
  obtain ⟨od, J⟩ := J
  obtain ⟨cd, hcd, _⟩ := PySem.W.any_some T.hd
  exact PySem.W.kia_one (PySem.W.kitx_exc (by rw [hcd]; rfl) T.hg T.hk T.hs T.ha T.hn T.ht T.hm) I.kIn J hk (fun z => nomatch z) fun tk => ⟨.bl b, H, I.tok tk, rfl, q⟩
/-- an own error without a constructor, made to be raised -/
theorem pmk_ex0 {x : Str} {C : Addr} {p pos : Pos} (H0 : Hp) (e0 : X.H_0 = H0) (hx : X.ex = []) (T : OexC X.K C) (q : PySem.W.excIn X.K C [.type "ValueError", .type "Exception", .type "BaseException", .type "object"] "ValueError.__new__" = true) (hg : Gl X x) (hm : X.mg x = some (.ref C))
    (hdb : (x == ("__debug__" : Str)) = false := by decide) : PMk X (.Call (.Name x p) [] [] pos) (fun st hp Q => (∀ a, hp a = none → H0 a = none) ∧ Q (.ref C) none hp) := by
  have he : PE X (.Call (.Name x p) [] [] pos) (fun _ hp Q => ∀ a, hp a = none → Q (.ref a) (upd hp a (ExO (.ref C) a))) := by
    refine ⟨fun pins s σ H Q I h => ?_⟩
    refine wpAny_Call_Name_kw (ld_glob I hg hm ?_ hdb)
    refine PySem.W.callWith_K0 I.kIn T.kC ?_
    obtain ⟨h0, g, dr, tk, os⟩ := s
    obtain ⟨bm, N, nm, qn, bs, hdct, sn, sub, ab, col, dd, k0, k1, k2, k3, k5, mN, hC, hN, hni, Tl⟩ := exc_obj I.kIn q
    refine wpAny_call_exc_subT F.excBase_ValueError Tl hC hN hni (fun h' a hm => ?_) (by show 0 ≤ sizeLine; exact Nat.zero_le _)
    have hn : H a = none := I.hok.gone hm.new
    obtain ⟨t, ht, _, _⟩ := hm.there
    exact ⟨.ref a, upd H a (ExO (.ref C) a), I.laidN hm.keeps hm.new hn (exO_ok ht ⟨rfl, rfl⟩ rfl rfl rfl (show 4 < 6 by decide)), rfl, h a hn⟩
  intro pins s σ H Q I h
  obtain ⟨h0, hq⟩ := h
  refine pmk_ret hx he pins s σ H Q I fun a na => ⟨a, .ref C, rfl, upd_same, fr0_none (by rw [e0]; exact h0 a na), raises_own T.exC T.tyC, ?_⟩
  rw [delH_new na]
  exact hq
end
end FX
set_option Elab.async false
set_option linter.all false
set_option maxHeartbeats 4000000
/-! ratios as couples of ints, without the program -/
namespace RM
abbrev Rt := Int × Int
def g2 (t b : Int) : Int := ((Nat.gcd t.natAbs b.natAbs : Nat) : Int)
/-- lowest terms, for a bottom above 0 -/
def norm (t b : Int) : Rt := (t / g2 t b, b / g2 t b)
def IsRat (r : Rt) : Prop := 0 < r.2 ∧ Nat.gcd r.1.natAbs r.2.natAbs = 1
/-- r is t / b -/
def Rep (r : Rt) (t b : Int) : Prop := IsRat r ∧ 0 < b ∧ r.1 * b = t * r.2
theorem g2_pos {t b : Int} (hb : b ≠ 0) : 0 < g2 t b := by
  have : 0 < Nat.gcd t.natAbs b.natAbs := Nat.gcd_pos_of_pos_right _ (by omega)
  unfold g2; omega
theorem g2_pos' {t b : Int} (hb : t ≠ 0) : 0 < g2 t b := by
  have : 0 < Nat.gcd t.natAbs b.natAbs := Nat.gcd_pos_of_pos_left _ (by omega)
  unfold g2; omega
theorem g2_l (t b : Int) : ∃ k, t = g2 t b * k := by
  have h : ((Nat.gcd t.natAbs b.natAbs : Nat) : Int) ∣ t := Int.natAbs_dvd_natAbs.mp (by rw [Int.natAbs_natCast]; exact Nat.gcd_dvd_left _ _)
  exact h
theorem g2_r (t b : Int) : ∃ k, b = g2 t b * k := by
  have h : ((Nat.gcd t.natAbs b.natAbs : Nat) : Int) ∣ b := Int.natAbs_dvd_natAbs.mp (by rw [Int.natAbs_natCast]; exact Nat.gcd_dvd_right _ _)
  exact h
/-- both parts taken out -/
theorem g2_parts {t b : Int} (h : t ≠ 0 ∨ b ≠ 0) : ∃ x y, t = g2 t b * x ∧ b = g2 t b * y ∧ t / g2 t b = x ∧ b / g2 t b = y ∧ Nat.gcd x.natAbs y.natAbs = 1 := by
  have gp : 0 < g2 t b := by
    rcases h with h | h
    · exact g2_pos' h
    · exact g2_pos h
  obtain ⟨x, hx⟩ := g2_l t b
  obtain ⟨y, hy⟩ := g2_r t b
  have gn : g2 t b ≠ 0 := by omega
  refine ⟨x, y, hx, hy, Int.ediv_eq_of_eq_mul_right gn hx, Int.ediv_eq_of_eq_mul_right gn hy, ?_⟩
  have e : (g2 t b).natAbs = Nat.gcd t.natAbs b.natAbs := by unfold g2; exact Int.natAbs_natCast _
  have ex : t.natAbs = (g2 t b).natAbs * x.natAbs := by rw [← Int.natAbs_mul, ← hx]
  have ey : b.natAbs = (g2 t b).natAbs * y.natAbs := by rw [← Int.natAbs_mul, ← hy]
  have k : (g2 t b).natAbs = (g2 t b).natAbs * Nat.gcd x.natAbs y.natAbs := by
    rw [← Nat.gcd_mul_left, ← ex, ← ey]; exact e
  have gp2 : 0 < (g2 t b).natAbs := by omega
  exact Nat.eq_of_mul_eq_mul_left gp2 (by rw [Nat.mul_one]; exact k.symm)
theorem rep_norm {t b : Int} (hb : 0 < b) : Rep (norm t b) t b := by
  obtain ⟨x, y, hx, hy, dx, dy, c⟩ := g2_parts (t := t) (b := b) (.inr (by omega))
  have gp : 0 < g2 t b := g2_pos (by omega)
  unfold norm
  rw [dx, dy]
  refine ⟨⟨?_, c⟩, hb, ?_⟩
  · show 0 < y
    have z : 0 < g2 t b * y := hy ▸ hb
    exact (by
      rcases Int.lt_trichotomy 0 y with h | h | h
      · exact h
      · rw [← h, Int.mul_zero] at z; omega
      · have := Int.mul_neg_of_pos_of_neg gp h; omega)
  · show x * b = t * y
    have e1 : x * b = x * (g2 t b * y) := congrArg (x * ·) hy
    have e2 : t * y = (g2 t b * x) * y := congrArg (· * y) hx
    rw [e1, e2]; grind
theorem rep_self {r : Rt} (h : IsRat r) : Rep r r.1 r.2 := ⟨h, h.1, rfl⟩
theorem rat_eq {r s : Rt} (h : IsRat r) (k : IsRat s) (e : r.1 * s.2 = s.1 * r.2) : r = s := by
  obtain ⟨a, b⟩ := r
  obtain ⟨c, d⟩ := s
  obtain ⟨hb, h1⟩ := h
  obtain ⟨hd, k1⟩ := k
  dsimp only at *
  have en : a.natAbs * d.natAbs = c.natAbs * b.natAbs := by rw [← Int.natAbs_mul, ← Int.natAbs_mul, e]
  have bd : b.natAbs ∣ d.natAbs := by
    have : b.natAbs ∣ a.natAbs * d.natAbs := ⟨c.natAbs, by rw [en, Nat.mul_comm]⟩
    exact Nat.Coprime.dvd_of_dvd_mul_left (by rw [Nat.coprime_iff_gcd_eq_one, Nat.gcd_comm]; exact h1) this
  have db : d.natAbs ∣ b.natAbs := by
    have : d.natAbs ∣ c.natAbs * b.natAbs := ⟨a.natAbs, by rw [← en, Nat.mul_comm]⟩
    exact Nat.Coprime.dvd_of_dvd_mul_left (by rw [Nat.coprime_iff_gcd_eq_one, Nat.gcd_comm]; exact k1) this
  have e2 : b.natAbs = d.natAbs := Nat.dvd_antisymm bd db
  have e3 : b = d := by omega
  subst e3
  have e4 : a = c := Int.eq_of_mul_eq_mul_right (by omega) e
  rw [e4]
theorem rep_eq {r s : Rt} {t b t' b' : Int} (h : Rep r t b) (k : Rep s t' b') (e : t * b' = t' * b) : r = s := by
  obtain ⟨h1, hb, h2⟩ := h
  obtain ⟨k1, kb, k2⟩ := k
  refine rat_eq h1 k1 ?_
  have nz : b * b' ≠ 0 := by
    have : 0 < b * b' := Int.mul_pos hb kb
    omega
  refine Int.eq_of_mul_eq_mul_right nz ?_
  have e1 : r.1 * s.2 * (b * b') = (r.1 * b) * (s.2 * b') := by grind
  have e2 : s.1 * r.2 * (b * b') = (s.1 * b') * (r.2 * b) := by grind
  rw [e1, e2, h2, k2]
  have e3 : t * r.2 * (s.2 * b') = (t * b') * (r.2 * s.2) := by grind
  have e4 : t' * s.2 * (r.2 * b) = (t' * b) * (r.2 * s.2) := by grind
  rw [e3, e4, e]
theorem norm_of {r : Rt} {t b : Int} (h : Rep r t b) : norm t b = r := rep_eq (rep_norm h.2.1) h rfl
theorem norm_eq {t b t' b' : Int} (h : 0 < b) (k : 0 < b') (e : t * b' = t' * b) : norm t b = norm t' b' := rep_eq (rep_norm h) (rep_norm k) e
theorem norm_rat {t b : Int} (h : 0 < b) : IsRat (norm t b) := (rep_norm h).1
def radd (r s : Rt) : Rt := norm (r.1 * s.2 + s.1 * r.2) (r.2 * s.2)
def rneg (r : Rt) : Rt := (-r.1, r.2)
def rsub (r s : Rt) : Rt := norm (r.1 * s.2 - s.1 * r.2) (r.2 * s.2)
def rmul (r s : Rt) : Rt := norm (r.1 * s.1) (r.2 * s.2)
theorem rep_add {r s : Rt} {t b t' b' : Int} (h : Rep r t b) (k : Rep s t' b') : Rep (radd r s) (t * b' + t' * b) (b * b') := by
  obtain ⟨h1, hb, h2⟩ := h
  obtain ⟨k1, kb, k2⟩ := k
  have z := rep_norm (t := r.1 * s.2 + s.1 * r.2) (Int.mul_pos h1.1 k1.1)
  have pp : 0 < r.2 * s.2 := Int.mul_pos h1.1 k1.1
  refine ⟨z.1, Int.mul_pos hb kb, ?_⟩
  have nz : r.2 * s.2 ≠ 0 := by omega
  refine Int.eq_of_mul_eq_mul_right nz ?_
  have e := z.2.2
  show (norm (r.1 * s.2 + s.1 * r.2) (r.2 * s.2)).1 * (b * b') * (r.2 * s.2) = (t * b' + t' * b) * (norm (r.1 * s.2 + s.1 * r.2) (r.2 * s.2)).2 * (r.2 * s.2)
  generalize norm (r.1 * s.2 + s.1 * r.2) (r.2 * s.2) = n at e ⊢
  have e1 : n.1 * (b * b') * (r.2 * s.2) = (n.1 * (r.2 * s.2)) * (b * b') := by grind
  have e2 : (t * b' + t' * b) * n.2 * (r.2 * s.2) = ((t * r.2) * (s.2 * b') + (t' * s.2) * (r.2 * b)) * n.2 := by grind
  rw [e1, e2, e, ← h2, ← k2]; grind
theorem rep_neg {r : Rt} {t b : Int} (h : Rep r t b) : Rep (rneg r) (-t) b := by
  obtain ⟨⟨h0, h1⟩, hb, h2⟩ := h
  refine ⟨⟨h0, ?_⟩, hb, ?_⟩
  · show Nat.gcd (-r.1).natAbs r.2.natAbs = 1
    rw [Int.natAbs_neg]; exact h1
  · show -r.1 * b = -t * r.2
    rw [Int.neg_mul, Int.neg_mul, h2]
theorem rsub_eq (r s : Rt) : rsub r s = radd r (rneg s) := by
  unfold rsub radd rneg
  have : r.1 * s.2 - s.1 * r.2 = r.1 * s.2 + -s.1 * r.2 := by grind
  rw [this]
theorem rep_sub {r s : Rt} {t b t' b' : Int} (h : Rep r t b) (k : Rep s t' b') : Rep (rsub r s) (t * b' - t' * b) (b * b') := by
  rw [rsub_eq]
  have z := rep_add h (rep_neg k)
  have e : t * b' - t' * b = t * b' + -t' * b := by grind
  rw [e]; exact z
theorem rep_mul {r s : Rt} {t b t' b' : Int} (h : Rep r t b) (k : Rep s t' b') : Rep (rmul r s) (t * t') (b * b') := by
  obtain ⟨h1, hb, h2⟩ := h
  obtain ⟨k1, kb, k2⟩ := k
  have z := rep_norm (t := r.1 * s.1) (Int.mul_pos h1.1 k1.1)
  have pp : 0 < r.2 * s.2 := Int.mul_pos h1.1 k1.1
  refine ⟨z.1, Int.mul_pos hb kb, ?_⟩
  have nz : r.2 * s.2 ≠ 0 := by omega
  refine Int.eq_of_mul_eq_mul_right nz ?_
  have e := z.2.2
  show (norm (r.1 * s.1) (r.2 * s.2)).1 * (b * b') * (r.2 * s.2) = (t * t') * (norm (r.1 * s.1) (r.2 * s.2)).2 * (r.2 * s.2)
  generalize norm (r.1 * s.1) (r.2 * s.2) = n at e ⊢
  have e1 : n.1 * (b * b') * (r.2 * s.2) = (n.1 * (r.2 * s.2)) * (b * b') := by grind
  have e2 : (t * t') * n.2 * (r.2 * s.2) = ((t * r.2) * (t' * s.2)) * n.2 := by grind
  rw [e1, e2, e, ← h2, ← k2]; grind
/-! sizes -/
def Sz (n : Nat) (x : Int) : Prop := x.natAbs < 2 ^ n
theorem sz_mono {n m : Nat} {x : Int} (h : Sz n x) (k : n ≤ m) : Sz m x := Nat.lt_of_lt_of_le h (Nat.pow_le_pow_right (by decide) k)
theorem sz_neg {n : Nat} {x : Int} (h : Sz n x) : Sz n (-x) := by unfold Sz; rw [Int.natAbs_neg]; exact h
theorem sz_mul {n m : Nat} {x y : Int} (h : Sz n x) (k : Sz m y) : Sz (n + m) (x * y) := by
  unfold Sz
  rw [Int.natAbs_mul, Nat.pow_add]
  exact Nat.mul_lt_mul'' h k
theorem sz_add {n : Nat} {x y : Int} (h : Sz n x) (k : Sz n y) : Sz (n + 1) (x + y) := by
  unfold Sz at *
  have := Int.natAbs_add_le x y
  rw [Nat.pow_succ]; omega
theorem sz_sub {n : Nat} {x y : Int} (h : Sz n x) (k : Sz n y) : Sz (n + 1) (x - y) := by
  rw [Int.sub_eq_add_neg]; exact sz_add h (sz_neg k)
theorem sz_div {n : Nat} {t b : Int} (hb : t ≠ 0 ∨ b ≠ 0) (h : Sz n t) : Sz n (t / g2 t b) := by
  obtain ⟨x, y, hx, hy, dx, dy, c⟩ := g2_parts hb
  rw [dx]
  refine Nat.lt_of_le_of_lt ?_ h
  have e : t.natAbs = (g2 t b).natAbs * x.natAbs := by rw [← Int.natAbs_mul, ← hx]
  have gp : 0 < (g2 t b).natAbs := by
    rcases hb with z | z
    · have := g2_pos' (b := b) z; omega
    · have := g2_pos (t := t) z; omega
  rw [e]
  exact Nat.le_mul_of_pos_left _ gp
theorem sz_div' {n : Nat} {t b : Int} (hb : t ≠ 0 ∨ b ≠ 0) (h : Sz n b) : Sz n (b / g2 t b) := by
  obtain ⟨x, y, hx, hy, dx, dy, c⟩ := g2_parts hb
  rw [dy]
  refine Nat.lt_of_le_of_lt ?_ h
  have e : b.natAbs = (g2 t b).natAbs * y.natAbs := by rw [← Int.natAbs_mul, ← hy]
  have gp : 0 < (g2 t b).natAbs := by
    rcases hb with z | z
    · have := g2_pos' (b := b) z; omega
    · have := g2_pos (t := t) z; omega
  rw [e]
  exact Nat.le_mul_of_pos_left _ gp
theorem sz_g {n : Nat} {t b : Int} (hb : b ≠ 0) (h : Sz n b) : Sz n (g2 t b) := by
  refine Nat.lt_of_le_of_lt ?_ h
  unfold g2
  rw [Int.natAbs_natCast]
  exact Nat.gcd_le_right _ (by omega)
def SzR (n : Nat) (r : Rt) : Prop := Sz n r.1 ∧ Sz n r.2
theorem szr_mono {n m : Nat} {r : Rt} (h : SzR n r) (k : n ≤ m) : SzR m r := ⟨sz_mono h.1 k, sz_mono h.2 k⟩
theorem szr_norm {n : Nat} {t b : Int} (hb : 0 < b) (h : Sz n t) (k : Sz n b) : SzR n (norm t b) := ⟨sz_div (.inr (by omega)) h, sz_div' (.inr (by omega)) k⟩
theorem szr_add {n m : Nat} {r s : Rt} (hr : IsRat r) (hs : IsRat s) (h : SzR n r) (k : SzR m s) : SzR (n + m + 1) (radd r s) :=
  szr_norm (Int.mul_pos hr.1 hs.1) (sz_add (sz_mul h.1 k.2) (by rw [Nat.add_comm]; exact sz_mul k.1 h.2)) (sz_mono (sz_mul h.2 k.2) (Nat.le_succ _))
theorem szr_neg {n : Nat} {r : Rt} (h : SzR n r) : SzR n (rneg r) := ⟨sz_neg h.1, h.2⟩
theorem rat_neg {r : Rt} (h : IsRat r) : IsRat (rneg r) := ⟨h.1, by show Nat.gcd (-r.1).natAbs r.2.natAbs = 1; rw [Int.natAbs_neg]; exact h.2⟩
theorem szr_sub {n m : Nat} {r s : Rt} (hr : IsRat r) (hs : IsRat s) (h : SzR n r) (k : SzR m s) : SzR (n + m + 1) (rsub r s) := by
  rw [rsub_eq]; exact szr_add hr (rat_neg hs) h (szr_neg k)
theorem szr_mul {n m : Nat} {r s : Rt} (hr : IsRat r) (hs : IsRat s) (h : SzR n r) (k : SzR m s) : SzR (n + m) (rmul r s) :=
  szr_norm (Int.mul_pos hr.1 hs.1) (sz_mul h.1 k.1) (sz_mul h.2 k.2)
theorem rat_add {r s : Rt} (hr : IsRat r) (hs : IsRat s) : IsRat (radd r s) := norm_rat (Int.mul_pos hr.1 hs.1)
theorem rat_sub {r s : Rt} (hr : IsRat r) (hs : IsRat s) : IsRat (rsub r s) := norm_rat (Int.mul_pos hr.1 hs.1)
theorem rat_mul {r s : Rt} (hr : IsRat r) (hs : IsRat s) : IsRat (rmul r s) := norm_rat (Int.mul_pos hr.1 hs.1)
theorem rat_zero : IsRat (0, 1) := ⟨by decide, by decide⟩
theorem rat_one : IsRat (1, 1) := ⟨by decide, by decide⟩
end RM
set_option Elab.async false
set_option linter.all false
set_option maxRecDepth 100000
set_option maxHeartbeats 4000000
/-! data that does not change: what is known of it stays; defs by their names -/
namespace PB
open PySem PySem.Spec PyProof.Rows L2 FX RM
theorem same_t {K : PySem.W.Frag} {H H' : Hp} {a : Addr} {xs : List V} (s : Same H H') (h : SqT K H a xs) : SqT K H' a xs := by
  rcases h with (h | ⟨o, h⟩) | h
  · exact .inl (.inl (s _ _ h))
  · exact .inl (.inr ⟨o, s _ _ h⟩)
  · exact .inr h
mutual
theorem Dp_same {K : PySem.W.Frag} {H H' : Hp} (s : Same H H') : ∀ {v : V} {d : PyData}, Dp K H v d → Dp K H' v d
  | _, _, .non => .non
  | _, _, .bl b => .bl b
  | _, _, .int i => .int i
  | _, _, .str x => .str x
  | _, _, .lst h g => .lst (s.seq h) (DpAll_same s g)
  | _, _, .tup h g => .tup (same_t s h) (DpAll_same s g)
theorem DpAll_same {K : PySem.W.Frag} {H H' : Hp} (s : Same H H') : ∀ {vs : List V} {ds : List PyData}, DpAll K H vs ds → DpAll K H' vs ds
  | _, _, .nil => .nil
  | _, _, .cons h g => .cons (Dp_same s h) (DpAll_same s g)
end
theorem same_new {H : Hp} {p : Addr} {o : HO} (h : H p = none) : Same H (upd H p o) := fun b x e => by
  rw [upd_ne (ne_of_none e h)]; exact e
def rD (r : Rt) : PyData := .tuple [.int r.1, .int r.2]
def pD (p : Rt × Rt) : PyData := .tuple [rD p.1, rD p.2]
def plD (p : Rt × Rt) : PyData := .list [rD p.1, rD p.2]
section
variable {K : PySem.W.Frag} {H H' : Hp} {v : V}
theorem dp_int {i : Int} (h : Dp K H v (.int i)) : v = .int i := by cases h; rfl
theorem dpa2 {vs : List V} {a b : PyData} (h : DpAll K H vs [a, b]) : ∃ x y, vs = [x, y] ∧ Dp K H x a ∧ Dp K H y b := by
  cases h with
  | cons h1 h => cases h with
    | cons h2 h => cases h with
      | nil => exact ⟨_, _, rfl, h1, h2⟩
theorem dp_t2 {a b : PyData} (h : Dp K H v (.tuple [a, b])) : ∃ p x y, v = .ref p ∧ SqT K H p [x, y] ∧ Dp K H x a ∧ Dp K H y b := by
  cases h with
  | tup h g =>
    obtain ⟨x, y, rfl, h1, h2⟩ := dpa2 g
    exact ⟨_, x, y, rfl, h, h1, h2⟩
theorem dp_l2 {a b : PyData} (h : Dp K H v (.list [a, b])) : ∃ p x y, v = .ref p ∧ SqL K H p [x, y] ∧ Dp K H x a ∧ Dp K H y b := by
  cases h with
  | lst h g =>
    obtain ⟨x, y, rfl, h1, h2⟩ := dpa2 g
    exact ⟨_, x, y, rfl, h, h1, h2⟩
theorem dp_r {r : Rt} (h : Dp K H v (rD r)) : ∃ p, v = .ref p ∧ SqT K H p [.int r.1, .int r.2] := by
  obtain ⟨p, x, y, rfl, hs, h1, h2⟩ := dp_t2 h
  rw [dp_int h1, dp_int h2] at hs
  exact ⟨p, rfl, hs⟩
theorem dp_mk2 {p : Addr} {x y : V} {a b : PyData} (hn : H p = none) (h1 : Dp K H x a) (h2 : Dp K H y b) : Dp K (upd H p (.tup [x, y])) (.ref p) (.tuple [a, b]) :=
  .tup (.inl (.inl upd_same)) (.cons (Dp_same (same_new hn) h1) (.cons (Dp_same (same_new hn) h2) .nil))
theorem dp_mkr {p : Addr} {a b : Int} (hn : H p = none) : Dp K (upd H p (.tup [.int a, .int b])) (.ref p) (rD (a, b)) := dp_mk2 hn (.int a) (.int b)
/-- a couple, a list or a tuple -/
def Cou (K : PySem.W.Frag) (H : Hp) (v : V) (x y : V) : Prop := ∃ p, v = .ref p ∧ (SqT K H p [x, y] ∨ SqL K H p [x, y])
theorem Cou.same {x y : V} (h : Cou K H v x y) (s : Same H H') : Cou K H' v x y := by
  obtain ⟨p, e, h | h⟩ := h
  · exact ⟨p, e, .inl (same_t s h)⟩
  · exact ⟨p, e, .inr (s.seq h)⟩
/-- a place or a step -/
def Pla (K : PySem.W.Frag) (H : Hp) (v : V) (p : Rt × Rt) : Prop := ∃ x y, Cou K H v x y ∧ Dp K H x (rD p.1) ∧ Dp K H y (rD p.2)
theorem Pla.same {p : Rt × Rt} (h : Pla K H v p) (s : Same H H') : Pla K H' v p := by
  obtain ⟨x, y, c, h1, h2⟩ := h
  exact ⟨x, y, c.same s, Dp_same s h1, Dp_same s h2⟩
theorem pla_t {p : Rt × Rt} (h : Dp K H v (pD p)) : Pla K H v p := by
  obtain ⟨a, x, y, rfl, hs, h1, h2⟩ := dp_t2 h
  exact ⟨x, y, ⟨a, rfl, .inl hs⟩, h1, h2⟩
theorem pla_l {p : Rt × Rt} (h : Dp K H v (plD p)) : Pla K H v p := by
  obtain ⟨a, x, y, rfl, hs, h1, h2⟩ := dp_l2 h
  exact ⟨x, y, ⟨a, rfl, .inr hs⟩, h1, h2⟩
/-- a direction -/
def Dir (K : PySem.W.Frag) (H : Hp) (v : V) (d : Int × Int) : Prop := Cou K H v (.int d.1) (.int d.2)
theorem dir_t {d : Int × Int} (h : Dp K H v (rD d)) : Dir K H v d := by
  obtain ⟨p, rfl, hs⟩ := dp_r h
  exact ⟨p, rfl, .inl hs⟩
end
/-! items and couples taken apart -/
section
variable {X : Cx}
/-- c[i] of a couple, a list or a tuple -/
def rIt (K : PySem.W.Frag) : L2.R2 := fun v y H Q => ∃ (x0 x1 : V) (i : Nat) (z : V), y = .int i ∧ Cou K H v x0 x1 ∧ [x0, x1][i]? = some z ∧ Q z H
theorem ix_it : IxR X (rIt X.K) := by
  intro value slice pins s σ H x y v u Q I rx ry h hs
  obtain ⟨x0, x1, i, z, rfl, ⟨p, rfl, c | c⟩, e, q⟩ := h
  · exact ix_tup value slice pins s σ H _ _ v u Q I rx ry ⟨p, _, _, _, rfl, rfl, c, atI_nat e, q⟩ hs
  · exact ix_list value slice pins s σ H _ _ v u Q I rx ry ⟨p, _, _, _, rfl, rfl, c, atI_nat e, q⟩ hs
theorem ix_itK (K : PySem.W.Frag) (e : X.K = K := by rfl) : IxR X (rIt K) := e ▸ ix_it
/-- x, y = c -/
def gCou (K : PySem.W.Frag) (t : TGs) : TG := fun v σ H Q => ∃ x y, Cou K H v x y ∧ t [x, y] σ H Q
theorem pg_cou {a b : Expr} {k : Nat} {t : TGs} {pos : Pos} (hc : X.calm = true) (h : PGs X [a, b] t) (hn : (assignEach [a, b] X.env).length = 2 := by rfl) (hst : (assignEach [a, b] X.env).findIdx? (·.1) = none := by rfl) : PG X (.Tuple [a, b] k pos) (gCou X.K t) := by
  have h1 := pg_tup (k := k) (pos := pos) hc h hn hst
  have h2 := pg_unl (k := k) (pos := pos) hc h hn hst
  refine ⟨fun pins s σ H v u Q I r q => ?_⟩
  obtain ⟨x, y, ⟨p, rfl, c | c⟩, q⟩ := q
  · exact h1.run pins s σ H _ u Q I r ⟨p, _, rfl, c, rfl, q⟩
  · exact h2.run pins s σ H _ u Q I r ⟨p, _, rfl, c, rfl, q⟩
end
/-! comprehensions over a list or a tuple -/
mutual
def noL : PyData → Bool
  | .list _ => false
  | .dict _ => false
  | .tuple xs => noLs xs
  | .none => true
  | .bool _ => true
  | .int _ => true
  | .str _ => true
def noLs : List PyData → Bool
  | [] => true
  | x :: xs => noL x && noLs xs
end
mutual
theorem Dp_but {K : PySem.W.Frag} {H H' : Hp} {p : Addr} {ys : List V} (hp : H p = some (.lst ys)) (s : ∀ b o, b ≠ p → H b = some o → H' b = some o) : ∀ {v : V} {d : PyData}, noL d = true → Dp K H v d → Dp K H' v d
  | _, _, _, .non => .non
  | _, _, _, .bl b => .bl b
  | _, _, _, .int i => .int i
  | _, _, _, .str x => .str x
  | _, _, n, .lst _ _ => by simp [noL] at n
  | _, _, n, .tup (a := a) h g => by
    have n2 := n
    simp only [noL] at n2
    refine .tup ?_ (DpAll_but hp s n2 g)
    rcases h with (h | ⟨o, h⟩) | h
    · exact .inl (.inl (s _ _ (fun e => by rw [e, hp] at h; cases h) h))
    · exact .inl (.inr ⟨o, s _ _ (fun e => by rw [e, hp] at h; cases h) h⟩)
    · exact .inr h
theorem DpAll_but {K : PySem.W.Frag} {H H' : Hp} {p : Addr} {ys : List V} (hp : H p = some (.lst ys)) (s : ∀ b o, b ≠ p → H b = some o → H' b = some o) : ∀ {vs : List V} {ds : List PyData}, noLs ds = true → DpAll K H vs ds → DpAll K H' vs ds
  | _, _, _, .nil => .nil
  | _, _, n, .cons h g => by
    have n2 := n
    simp only [noLs, Bool.and_eq_true] at n2
    exact .cons (Dp_but hp s n2.1 h) (DpAll_but hp s n2.2 g)
end
theorem noLs_all : ∀ {ds : List PyData}, (∀ d ∈ ds, noL d = true) → noLs ds = true
  | [], _ => by simp [noLs]
  | d :: ds, h => by simp [noLs, h d (List.mem_cons_self ..), noLs_all fun x hx => h x (List.mem_cons_of_mem _ hx)]
theorem DpAll_snoc {K : PySem.W.Frag} {H : Hp} {v : V} {d : PyData} (h : Dp K H v d) : ∀ {vs : List V} {ds : List PyData}, DpAll K H vs ds → DpAll K H (vs ++ [v]) (ds ++ [d])
  | _, _, .nil => .cons h .nil
  | _, _, .cons a b => .cons a (DpAll_snoc h b)
theorem DpAll_len {K : PySem.W.Frag} {H : Hp} : ∀ {vs : List V} {ds : List PyData}, DpAll K H vs ds → vs.length = ds.length
  | _, _, .nil => rfl
  | _, _, .cons _ b => congrArg (· + 1) (DpAll_len b)
theorem DpAll_at {K : PySem.W.Frag} {H : Hp} : ∀ {vs : List V} {ds : List PyData} {i : Nat} {v : V}, DpAll K H vs ds → vs[i]? = some v → ∃ d, ds[i]? = some d ∧ Dp K H v d
  | _, _, _, _, .nil, e => by cases e
  | _, _, 0, _, .cons a _, e => by cases e; exact ⟨_, rfl, a⟩
  | _, _, i + 1, _, .cons _ b, e => DpAll_at (i := i) b e
theorem DpAll_at' {K : PySem.W.Frag} {H : Hp} : ∀ {vs : List V} {ds : List PyData} {i : Nat} {d : PyData}, DpAll K H vs ds → ds[i]? = some d → ∃ v, vs[i]? = some v ∧ Dp K H v d
  | _, _, _, _, .nil, e => by cases e
  | _, _, 0, _, .cons a _, e => by cases e; exact ⟨_, rfl, a⟩
  | _, _, i + 1, _, .cons _ b, e => DpAll_at' (i := i) b e
def iSeq (K : PySem.W.Frag) (tl : TE) : TI := fun σ H R => iList K tl σ H R ∨ iTup K tl σ H R
section
variable {X : Cx}
theorem pi_seq {tg l : Expr} {tl : TE} (hl : PE X l tl) : PI X tg l (iSeq X.K tl) := ⟨fun pins s σ H R I h => h.elim (fun z => (pi_list (tg := tg) hl).run pins s σ H R I z) fun z => (pi_tup (tg := tg) hl).run pins s σ H R I z⟩
end
/-- [e for x in seq], each e some data that holds no list -/
theorem lc_map {K : PySem.W.Frag} {a : Addr} {xs : List V} {j : Nat} {g : TG} {te : TE} {vs : List Nat} {σ : L2.St} {H : Hp} {Q : VK} (f : Nat → PyData) (hn : ∀ i, noL (f i) = true) (hj : σ[j]? = some (some (.ref a))) (h0 : SqL K H a xs ∨ SqT K H a xs) (hz : xs.length < sizeLine)
    (hs : ∀ i x H' (R : V → Hp → Prop), xs[i]? = some x → Same H H' → (∀ y H4, Same H' H4 → Dp K H4 y (f i) → R y H4) → g x (wipe σ vs) H' fun σ2 H2 => wipe σ2 vs = wipe σ vs ∧ te σ2 H2 R)
    (hd : ∀ D H' ys, Same H H' → H D = none → H' D = some (.lst ys) → DpAll K H' ys ((List.range xs.length).map f) → Q (.ref D) H') : tLc (iSeq K (tVar j)) g tYes te vs σ H Q := by
  have main : ∀ D, H D = none → ∃ Pv : Nat → Hp → Prop, Pv 0 (upd H D (.lst [])) ∧ (∀ i H', Pv i H' → Same H H') ∧ (∀ i x H', xs[i]? = some x → Pv i H' → g x (wipe σ vs) H' fun σ2 H2 => wipe σ2 vs = wipe σ vs ∧ tYes σ2 H2 fun b H3 =>
      if b = true then te σ2 H3 fun y H4 => ∃ acc, H4 D = some (.lst acc) ∧ acc.length < sizeLine ∧ Pv (i + 1) (upd H4 D (.lst (acc ++ [y]))) else Pv (i + 1) H3) ∧ (∀ H', Pv xs.length H' → Q (.ref D) H') := by
    intro D nD
    refine ⟨fun i H' => Same H H' ∧ ∃ ys, H' D = some (.lst ys) ∧ ys.length = i ∧ DpAll K H' ys ((List.range i).map f), ⟨same_new nD, [], upd_same, rfl, .nil⟩, fun i H' h => h.1, ?_, ?_⟩
    · rintro i x H' hi ⟨s1, ys, hD, yl, hy⟩
      have il := (List.getElem?_eq_some_iff.mp hi).1
      refine hs i x H' _ hi s1 fun y H4 s4 h4 => ⟨ys, s4 _ _ hD, by omega, ?_, ys ++ [y], upd_same, by rw [List.length_append, yl]; rfl, ?_⟩
      · intro b o e
        rw [upd_ne (ne_of_none e nD)]; exact s4 _ _ (s1 _ _ e)
      · rw [List.range_succ, List.map_append]
        have sb : ∀ b o, b ≠ D → H4 b = some o → (upd H4 D (.lst (ys ++ [y]))) b = some o := fun b o n e => by rw [upd_ne n]; exact e
        refine DpAll_but (s4 _ _ hD) sb ?_ (DpAll_snoc h4 (DpAll_same s4 hy))
        refine noLs_all fun d hd => ?_
        rcases List.mem_append.mp hd with hd | hd
        · obtain ⟨k, _, rfl⟩ := List.mem_map.mp hd; exact hn k
        · rw [List.mem_singleton.mp hd]; exact hn i
    · rintro H' ⟨s1, ys, hD, yl, hy⟩
      exact hd D H' ys s1 nD hD hy
  rcases h0 with h0 | h0
  · refine .inl ⟨_, hj, a, rfl, ⟨_, h0⟩, fun D nD => ?_⟩
    obtain ⟨Pv, p0, p1, p2, p3⟩ := main D nD
    exact lc_list (K := K) (a := a) (xs := xs) Pv p0 (fun i H' _ h => (p1 i H' h).seq h0) p2 p3
  · refine .inr ⟨_, hj, a, rfl, ⟨_, h0⟩, fun D nD => ?_⟩
    obtain ⟨Pv, p0, p1, p2, p3⟩ := main D nD
    exact lc_tup (K := K) (a := a) (xs := xs) Pv p0 (fun i H' _ h => same_t (p1 i H' h) h0) p2 p3
/-! defs by their names -/
structure DefOk (P : Program) (w : World) (K : PySem.W.Frag) (mg : Str → Option Value) (base : Heap) (CX : CXT) (x : Str) (k : Nat) (ps : List Str) (sp : Sp) : Prop where
  ex : ∃ (f : Addr) (fd : FuncData), mg x = some (.ref f) ∧ PySem.W.keepIn K (.ref f) = true ∧ L2.Binds K fd ps [] ∧ FnOk P w K mg base CX k f fd ps sp
def Txt (K : PySem.W.Frag) (mg : Str → Option Value) (x : Str) (st : Stmt) : Prop := ∃ (f : Addr) (fd : FuncData), Fun K x x st f fd ∧ mg x = some (.ref f)
section
variable {X : Cx}
theorem pe_def {CX : CXT} {x : Str} {k : Nat} {ps : List Str} {sp : Sp} {e : Expr} {es : List Expr} {t : TA} {p pos : Pos} (D : DefOk X.prog X.w X.K X.mg X.base CX x k ps sp) (hr : Room k X.A) (hg : Gl X x) (ha : PA X (e :: es) t) (hx : Passes CX X E0 := by first | exact pass0 | exact passL)
    (hdb : (x == ("__debug__" : Str)) = false := by decide) (he : starEach (e :: es) X.env = (false, eval e X.env) :: starEach es X.env := by rfl) (hpl : (backTo pos (starEach es X.env)).any (·.1) = false := by rfl) :
    PE X (.Call (.Name x p) (e :: es) [] pos) (tCall sp [] E0 t) := by
  obtain ⟨f, fd, g, k, b, F⟩ := D.ex
  exact pe_call F hr hg g k b .nil hx ha hdb he hpl
end
end PB
set_option Elab.async false
set_option linter.all false
set_option maxRecDepth 100000
set_option maxHeartbeats 4000000
/-! an error beside its fields and what they should be: the rows that the law makes -/
namespace FX
open PySem PySem.Spec PyProof.Rows L2
theorem same_new {H : Hp} {p : Addr} {o : HO} (h : H p = none) : Same H (upd H p o) := fun b x e => by
  rw [upd_ne (ne_of_none e h)]; exact e
theorem len_one {α : Type} : ∀ {l : List α}, l.length = 1 → ∃ a, l = [a]
  | [a], _ => ⟨a, rfl⟩
theorem len_two {α : Type} : ∀ {l : List α}, l.length = 2 → ∃ a b, l = [a, b]
  | [a, b], _ => ⟨a, b, rfl⟩
/-- what a class of errors gives: its facts, its name's value, its constructor -/
structure CT (P : Program) (w : World) (K : PySem.W.Frag) (mg : Str → Option Value) (base : Heap) (x : Str) (fs : List Str) : Prop where
  ok : ClsOk K x fs
  g : mg x = some (.ref (He.ga K x))
  con : fs ≠ [] → ∃ fd ps, FnOk P w K mg base CX0 1 (He.ma K (He.ga K x) "__init__") fd ps (spInit (He.ga K x) fs) ∧ Binds K fd ps []
section
variable {X : Cx}
theorem pe_exC {x : Str} {fs : List Str} {e : Expr} {es : List Expr} {ta : TA} {p pos : Pos} (c : CT X.prog X.w X.K X.mg X.base x fs) (hr : Room 2 X.A) (hg : Gl X x) (ha : PA X (e :: es) ta) (hne : fs ≠ [] := by exact List.cons_ne_nil _ _)
    (hdb : (x == ("__debug__" : Str)) = false := by decide) (he : starEach (e :: es) X.env = (false, eval e X.env) :: starEach es X.env := by rfl) (hpl : (backTo pos (starEach es X.env)).any (·.1) = false := by rfl) :
    PE X (.Call (.Name x p) (e :: es) [] pos) (tEx (He.ga X.K x) fs ta) := by
  obtain ⟨fd, ps, F, b⟩ := c.con hne
  exact pe_ex c.ok.o (c.ok.ini hne) (c.ok.ity hne) F hr b hg c.g ha hdb he hpl
theorem pe_exC0 {x : Str} {p pos : Pos} (c : CT X.prog X.w X.K X.mg X.base x []) (hg : Gl X x) (hdb : (x == ("__debug__" : Str)) = false := by decide) :
    PE X (.Call (.Name x p) [] [] pos) (tEx (He.ga X.K x) [] tNil) := pe_ex0 c.ok.o (c.ok.xin rfl) hg c.g hdb
end
/-- one row: the error, what was read of it, what is due -/
def EntF (K : PySem.W.Frag) (H : Hp) (v : V) (x : Str) (ws : List V) : Prop := ∃ t e l1 l2 fs, v = .ref t ∧ H t = some (.tup [.ref e, .ref l1, .ref l2]) ∧ ExAt H e (He.ga K x) fs ∧ H l1 = some (.lst ws) ∧ H l2 = some (.lst ws)
def Ent (K : PySem.W.Frag) (H : Hp) (p : Addr) (v : V) (x : Str) (ws : List V) : Prop := ∃ t e l1 l2 fs, v = .ref t ∧ H t = some (.tup [.ref e, .ref l1, .ref l2]) ∧ ExAt H e (He.ga K x) fs ∧ H l1 = some (.lst ws) ∧ H l2 = some (.lst ws) ∧ l1 ≠ p ∧ l2 ≠ p
def Ents (K : PySem.W.Frag) (H : Hp) (p : Addr) : List V → List (Str × List V) → Prop
  | [], [] => True
  | v :: vs, (x, ws) :: r => Ent K H p v x ws ∧ Ents K H p vs r
  | _, _ => False
def EntsF (K : PySem.W.Frag) (H : Hp) : List V → List (Str × List V) → Prop
  | [], [] => True
  | v :: vs, (x, ws) :: r => EntF K H v x ws ∧ EntsF K H vs r
  | _, _ => False
section
variable {K : PySem.W.Frag} {H H' : Hp} {p : Addr}
theorem EntF.same {v : V} {x : Str} {ws : List V} (h : EntF K H v x ws) (s : Same H H') : EntF K H' v x ws := by
  obtain ⟨t, e, l1, l2, fs, a, b, c, d, f⟩ := h
  exact ⟨t, e, l1, l2, fs, a, s _ _ b, c.same s, s _ _ d, s _ _ f⟩
theorem EntsF.same : ∀ {vs : List V} {es : List (Str × List V)}, EntsF K H vs es → Same H H' → EntsF K H' vs es
  | [], [], _, _ => trivial
  | v :: vs, (x, ws) :: r, ⟨a, b⟩, s => ⟨a.same s, EntsF.same b s⟩
  | [], _ :: _, h, _ => h.elim
  | _ :: _, [], h, _ => h.elim
theorem EntsF.app : ∀ {vs us : List V} {es rs : List (Str × List V)}, EntsF K H vs es → EntsF K H us rs → EntsF K H (vs ++ us) (es ++ rs)
  | [], _, [], _, _, h => h
  | v :: vs, _, (x, ws) :: r, _, ⟨a, b⟩, h => ⟨a, EntsF.app b h⟩
  | [], _, _ :: _, _, h, _ => h.elim
  | _ :: _, _, [], _, h, _ => h.elim
theorem EntsF.len : ∀ {vs : List V} {es : List (Str × List V)}, EntsF K H vs es → vs.length = es.length
  | [], [], _ => rfl
  | v :: vs, (x, ws) :: r, ⟨_, b⟩ => congrArg (· + 1) (EntsF.len b)
  | [], _ :: _, h => h.elim
  | _ :: _, [], h => h.elim
theorem EntsF.at : ∀ {vs : List V} {es : List (Str × List V)} {i : Nat} {x : Str} {ws : List V}, EntsF K H vs es → es[i]? = some (x, ws) → ∃ v, vs[i]? = some v ∧ EntF K H v x ws
  | v :: vs, (y, us) :: r, 0, x, ws, ⟨a, _⟩, e => by
    have z := Option.some.inj e
    cases z
    exact ⟨v, rfl, a⟩
  | v :: vs, _ :: r, i + 1, x, ws, ⟨_, b⟩, e => EntsF.at (i := i) b e
  | [], [], _, _, _, _, e => by cases e
  | [], _ :: _, _, _, _, h, _ => h.elim
  | _ :: _, [], _, _, _, h, _ => h.elim
theorem Ents.free : ∀ {vs : List V} {es : List (Str × List V)}, Ents K H p vs es → EntsF K H vs es
  | [], [], _ => trivial
  | v :: vs, (x, ws) :: r, ⟨⟨t, e, l1, l2, fs, a, b, c, d, f, _⟩, q⟩ => ⟨⟨t, e, l1, l2, fs, a, b, c, d, f⟩, Ents.free q⟩
  | [], _ :: _, h => h.elim
  | _ :: _, [], h => h.elim
theorem Ent.but {v : V} {x : Str} {ws ys : List V} (hp : H p = some (.lst ys)) (s : ∀ b o, b ≠ p → H b = some o → H' b = some o) (h : Ent K H p v x ws) : Ent K H' p v x ws := by
  obtain ⟨t, e, l1, l2, fs, a, b, c, d, f, n1, n2⟩ := h
  have ne : ∀ {q : Addr} {o : HO}, H q = some o → o ≠ .lst ys → q ≠ p := fun {q o} z n z2 => by
    rw [z2, hp] at z
    exact n (Option.some.inj z).symm
  have nx : ∀ (φ : Heap → Prop), HO.ext φ ≠ .lst ys := fun φ z => by cases z
  refine ⟨t, e, l1, l2, fs, a, s _ _ (ne b (fun z => by cases z)) b, ?_, s _ _ n1 d, s _ _ n2 f, n1, n2⟩
  rcases c with ⟨c1, c2⟩ | ⟨dd, c1, c2⟩
  · exact .inl ⟨c1, s _ _ (ne c2 (nx _)) c2⟩
  · exact .inr ⟨dd, s _ _ (ne c1 (nx _)) c1, s _ _ (ne c2 (nx _)) c2⟩
theorem Ents.but {ys : List V} (hp : H p = some (.lst ys)) (s : ∀ b o, b ≠ p → H b = some o → H' b = some o) : ∀ {vs : List V} {es : List (Str × List V)}, Ents K H p vs es → Ents K H' p vs es
  | [], [], _ => trivial
  | v :: vs, (x, ws) :: r, ⟨a, b⟩ => ⟨a.but hp s, Ents.but hp s b⟩
  | [], _ :: _, h => h.elim
  | _ :: _, [], h => h.elim
theorem Ents.snoc {v : V} {x : Str} {ws : List V} : ∀ {vs : List V} {es : List (Str × List V)}, Ents K H p vs es → Ent K H p v x ws → Ents K H p (vs ++ [v]) (es ++ [(x, ws)])
  | [], [], _, h => ⟨h, trivial⟩
  | u :: vs, (y, us) :: r, ⟨a, b⟩, h => ⟨a, Ents.snoc b h⟩
  | [], _ :: _, h, _ => h.elim
  | _ :: _, [], h, _ => h.elim
end
/-- between two rows -/
def StF (K : PySem.W.Frag) (H0 : Hp) (p : Addr) (v0 v1 v2 v3 : V) (es : List (Str × List V)) (σ : L2.St) (H : Hp) : Prop := ∃ y xs, σ = [some v0, some v1, some v2, some v3, some (.ref p), y] ∧ Same H0 H ∧ H0 p = none ∧ H p = some (.lst xs) ∧ xs.length = es.length ∧ Ents K H p xs es
abbrev tApp (K : PySem.W.Frag) (ta : TA) : TS := tDrop (tBM K "list" rAppend (tVar 4) ta)
abbrev tRow (K : PySem.W.Frag) (te : TE) (t1 t2 : TA) : TA := tCons (tTup (tCons te (tCons (tLst t1) (tCons (tLst t2) tNil)))) tNil
section
variable {K : PySem.W.Frag} {H0 : Hp} {p : Addr} {v0 v1 v2 v3 : V} {es : List (Str × List V)} {D : Ends}
/-- the end of a row: the tuple is made and put behind the others -/
theorem row_end {x : Str} {ws : List V} {fs : List (Str × V)} {y : Option V} {xs : List V} {H H1 : Hp} {e l1 l2 t : Addr} (sm : Same H0 H) (np : H0 p = none) (hp : H p = some (.lst xs)) (hl : xs.length = es.length) (he : Ents K H p xs es) (hs : es.length < 1000)
    (s1 : Same H H1) (hx : ExAt H1 e (He.ga K x) fs) (n1 : H1 l1 = none) (n2 : upd H1 l1 (.lst ws) l2 = none) (n3 : upd (upd H1 l1 (.lst ws)) l2 (.lst ws) t = none)
    (next : ∀ σ' H', StF K H0 p v0 v1 v2 v3 (es ++ [(x, ws)]) σ' H' → D.nx σ' H') :
    rAppend (.ref p) [.ref t] (upd (upd (upd H1 l1 (.lst ws)) l2 (.lst ws)) t (.tup [.ref e, .ref l1, .ref l2])) (fun _ H2 => D.nx [some v0, some v1, some v2, some v3, some (.ref p), y] H2) := by
  have sa : Same H1 (upd H1 l1 (.lst ws)) := same_new n1
  have sb : Same (upd H1 l1 (.lst ws)) (upd (upd H1 l1 (.lst ws)) l2 (.lst ws)) := same_new n2
  have sc : Same (upd (upd H1 l1 (.lst ws)) l2 (.lst ws)) (upd (upd (upd H1 l1 (.lst ws)) l2 (.lst ws)) t (.tup [.ref e, .ref l1, .ref l2])) := same_new n3
  have s2 : Same H (upd (upd (upd H1 l1 (.lst ws)) l2 (.lst ws)) t (.tup [.ref e, .ref l1, .ref l2])) := ((s1.trans sa).trans sb).trans sc
  have hp1 := s1 _ _ hp
  have hp2 := sa _ _ hp1
  have hp3 := s2 _ _ hp
  refine ⟨p, xs, .ref t, rfl, rfl, hp3, small1000 (by omega), next _ _ ⟨y, xs ++ [.ref t], rfl, fun b o z => ?_, np, upd_same, by rw [List.length_append, List.length_append, hl]; rfl, ?_⟩⟩
  · rw [upd_ne (ne_of_none z np)]
    exact s2 _ _ (sm _ _ z)
  · refine Ents.but hp3 (fun b o nb z => by rw [upd_ne nb]; exact z) (Ents.snoc (Ents.but hp (fun b o _ z => s2 _ _ z) he) ⟨t, e, l1, l2, fs, rfl, upd_same, ?_, sc _ _ (sb _ _ upd_same), sc _ _ upd_same, (ne_of_none hp1 n1).symm, (ne_of_none hp2 n2).symm⟩)
    exact hx.same ((sa.trans sb).trans sc)
theorem step0 {x : Str} {σ : L2.St} {H : Hp} (h : StF K H0 p v0 v1 v2 v3 es σ H) (hs : es.length < 1000) (next : ∀ σ' H', StF K H0 p v0 v1 v2 v3 (es ++ [(x, [])]) σ' H' → D.nx σ' H') :
    tApp K (tRow K (tEx (He.ga K x) [] tNil) tNil tNil) D σ H := by
  obtain ⟨y, xs, rfl, sm, np, hp, hl, he⟩ := h
  refine ⟨.ref p, rfl, .inl ⟨rfl, _, .inl (.inl hp)⟩, rfl, Nat.zero_le _, fun e H1 ne s1 hx => ⟨Nat.zero_le _, fun l1 n1 => ⟨Nat.zero_le _, fun l2 n2 => ⟨(by show 3 ≤ sizeLine; decide), fun t n3 => ?_⟩⟩⟩⟩
  exact row_end sm np hp hl he hs s1 hx n1 n2 n3 next
theorem step1 {x f : Str} {j : Nat} {v : V} {σ : L2.St} {H : Hp} {rest : TS} (c : ClsOk K x [f]) (hj : ∀ y, [some v0, some v1, some v2, some v3, some (.ref p), y][j]? = some (some v)) (h : StF K H0 p v0 v1 v2 v3 es σ H) (hs : es.length < 1000)
    (next : ∀ σ' H', StF K H0 p v0 v1 v2 v3 (es ++ [(x, [v])]) σ' H' → rest D σ' H') :
    tSeq (tAsg (tEx (He.ga K x) [f] (tCons (tVar j) tNil)) (gName 5)) (tSeq (tApp K (tRow K (tVar 5) (tCons (tXv K f (tVar 5)) tNil) (tCons (tVar j) tNil))) rest) D σ H := by
  obtain ⟨y, xs, rfl, sm, np, hp, hl, he⟩ := h
  refine ⟨v, hj y, rfl, (by show 1 ≤ 1000; decide), fun e H1 ne s1 hx => ?_⟩
  have lk : List.lookup f [(f, v)] = some v := by simp [List.lookup]
  refine ⟨.ref p, rfl, .inl ⟨rfl, _, .inl (.inl (s1 _ _ hp))⟩, .ref e, rfl, .ref e, rfl, e, _, _, v, rfl, hx, c.is, c.no f (List.mem_cons_self ..), lk, (by show 1 ≤ sizeLine; decide), fun l1 n1 => ?_⟩
  refine ⟨v, hj _, (by show 1 ≤ sizeLine; decide), fun l2 n2 => ⟨(by show 3 ≤ sizeLine; decide), fun t n3 => ?_⟩⟩
  exact row_end (D := { D with nx := rest D }) sm np hp hl he hs s1 hx n1 n2 n3 next
theorem step2 {x f g : Str} {i j : Nat} {v u : V} {σ : L2.St} {H : Hp} {rest : TS} (c : ClsOk K x [f, g]) (hne : f ≠ g) (hi : ∀ y, [some v0, some v1, some v2, some v3, some (.ref p), y][i]? = some (some v)) (hj : ∀ y, [some v0, some v1, some v2, some v3, some (.ref p), y][j]? = some (some u))
    (h : StF K H0 p v0 v1 v2 v3 es σ H) (hs : es.length < 1000) (next : ∀ σ' H', StF K H0 p v0 v1 v2 v3 (es ++ [(x, [v, u])]) σ' H' → rest D σ' H') :
    tSeq (tAsg (tEx (He.ga K x) [f, g] (tCons (tVar i) (tCons (tVar j) tNil))) (gName 5)) (tSeq (tApp K (tRow K (tVar 5) (tCons (tXv K f (tVar 5)) (tCons (tXv K g (tVar 5)) tNil)) (tCons (tVar i) (tCons (tVar j) tNil)))) rest) D σ H := by
  obtain ⟨y, xs, rfl, sm, np, hp, hl, he⟩ := h
  refine ⟨v, hi y, u, hj y, rfl, (by show 2 ≤ 1000; decide), fun e H1 ne s1 hx => ?_⟩
  have l1 : List.lookup f [(g, u), (f, v)] = some v := by
    have z : (f == g) = false := by simpa using hne
    simp [List.lookup, z]
  have l2 : List.lookup g [(g, u), (f, v)] = some u := by simp [List.lookup]
  refine ⟨.ref p, rfl, .inl ⟨rfl, _, .inl (.inl (s1 _ _ hp))⟩, .ref e, rfl, .ref e, rfl, e, _, _, v, rfl, hx, c.is, c.no f (List.mem_cons_self ..), l1, .ref e, rfl, e, _, _, u, rfl, hx, c.is, c.no g (List.mem_cons_of_mem _ (List.mem_cons_self ..)), l2, (by show 2 ≤ sizeLine; decide), fun l1 n1 => ?_⟩
  refine ⟨v, hi _, u, hj _, (by show 2 ≤ sizeLine; decide), fun l2 n2 => ⟨(by show 3 ≤ sizeLine; decide), fun t n3 => ?_⟩⟩
  exact row_end (D := { D with nx := rest D }) sm np hp hl he hs s1 hx n1 n2 n3 next
end
end FX
set_option Elab.async false
set_option linter.all false
set_option maxHeartbeats 4000000
set_option exponentiation.threshold 3000
/-! texts of whole numbers and of ratios, without the program -/
namespace TM
open PySem SX RM TL PySem.NumText
theorem str_neg (m : Nat) : Str.ofString (toString (Int.negSucc m)) = S (45 :: numL (m + 1)) := by
  refine TL.ext_tl ?_
  rw [TL.tl_ofString]
  show (("-" ++ Nat.repr (m + 1)) : String).toList.map Char.toNat = _
  rw [String.toList_append, List.map_append, Nat.toList_repr]
  rfl
def numI (i : Int) : List Nat := if i < 0 then 45 :: numL i.natAbs else numL i.natAbs
theorem str_I : ∀ i : Int, Str.ofString (toString i) = S (numI i)
  | .ofNat m => by
    have e : numI (Int.ofNat m) = numL m := by unfold numI; rw [if_neg (by exact Int.not_lt.mpr (Int.natCast_nonneg m))]; rfl
    rw [e]; exact num_S m
  | .negSucc m => by
    have e : numI (Int.negSucc m) = 45 :: numL (m + 1) := by unfold numI; rw [if_pos (Int.negSucc_lt_zero m)]; rfl
    rw [e]; exact str_neg m
theorem numI_nn {i : Int} (h : 0 ≤ i) : numI i = numL i.natAbs := if_neg (by omega)
theorem numI_ng {i : Int} (h : i < 0) : numI i = 45 :: numL i.natAbs := if_pos h
/-! padding -/
def padL : Nat → Nat → List Nat
  | 0, _ => []
  | k + 1, x => padL k (x / 10) ++ [48 + x % 10]
theorem padL_len : ∀ k x, (padL k x).length = k
  | 0, _ => rfl
  | k + 1, x => by rw [padL, List.length_append, padL_len k]; rfl
theorem numL_cut : ∀ k m, 10 ^ k ≤ m → numL m = numL (m / 10 ^ k) ++ padL k (m % 10 ^ k)
  | 0, m, _ => by rw [Nat.pow_zero, Nat.div_one, padL, List.append_nil]
  | k + 1, m, h => by
    have p : 10 ^ (k + 1) = 10 * 10 ^ k := by rw [Nat.pow_succ, Nat.mul_comm]
    have q : 0 < 10 ^ k := Nat.pow_pos (by decide)
    have h10 : 10 ≤ m := by rw [p] at h; exact Nat.le_trans (Nat.le_mul_of_pos_right _ q) h
    have hk : 10 ^ k ≤ m / 10 := by rw [Nat.le_div_iff_mul_le (by decide), Nat.mul_comm, ← p]; exact h
    rw [numL_step h10, numL_cut k (m / 10) hk, padL, ← List.append_assoc]
    have e1 : m / 10 / 10 ^ k = m / 10 ^ (k + 1) := by rw [p, Nat.div_div_eq_div_mul]
    have e2 : m % 10 ^ (k + 1) / 10 = m / 10 % 10 ^ k := by rw [p]; exact Nat.mod_mul_right_div_self ..
    have e3 : m % 10 ^ (k + 1) % 10 = m % 10 := by rw [p]; exact Nat.mod_mul_right_mod ..
    rw [e1, e2, e3]
def zfL (k : Nat) (l : List Nat) : List Nat := List.replicate (k - l.length) 48 ++ l
theorem zfL_snoc (k : Nat) (l : List Nat) (c : Nat) : zfL (k + 1) (l ++ [c]) = zfL k l ++ [c] := by
  unfold zfL
  rw [List.length_append, List.length_singleton, Nat.add_sub_add_right, List.append_assoc]
theorem rep_snoc (k c : Nat) : List.replicate k c ++ [c] = List.replicate (k + 1) c := by rw [List.replicate_succ']
theorem padL_zero : ∀ k, padL k 0 = List.replicate k 48
  | 0 => rfl
  | k + 1 => by rw [padL, Nat.zero_div, padL_zero k]; exact rep_snoc k 48
theorem padL_zf : ∀ k x, 1 ≤ k → x < 10 ^ k → padL k x = zfL k (numL x)
  | 0, _, h, _ => by omega
  | k + 1, x, _, h => by
    by_cases hx : x < 10
    · rw [padL, Nat.div_eq_of_lt hx, padL_zero, Nat.mod_eq_of_lt hx, numL_lt hx]
      rfl
    · have p : 10 ^ (k + 1) = 10 ^ k * 10 := Nat.pow_succ ..
      have hk : 1 ≤ k := by
        cases k with
        | zero => simp at h; omega
        | succ n => omega
      rw [padL, numL_step (by omega), zfL_snoc, padL_zf k (x / 10) hk (by rw [Nat.div_lt_iff_lt_mul (by decide), ← p]; exact h)]
theorem digits_not {l : List Nat} {c : Nat} (h : AllDigits l) (n : c < 48 ∨ 57 < c) : c ∉ l := fun m => by have := h c m; omega
theorem S_get0 (l : List Nat) : (S l).cps[0]? = l[0]? := by simp [S]
theorem zfill_S {l : List Nat} (k : Nat) (h : AllDigits l) : Txt.zfill (S l) (k : Int) = S (zfL k l) := by
  unfold Txt.zfill
  rw [S_len]
  by_cases c : (k : Int) ≤ (l.length : Int)
  · rw [if_pos c]
    have : k - l.length = 0 := by omega
    unfold zfL; rw [this]; rfl
  · rw [if_neg c]
    have e : ((k : Int)).toNat = k := rfl
    rw [e]
    have pd : Builtin.Str.padded (S l) (k - l.length) 0 48 = S (zfL k l) := by
      refine TL.ext_tl ?_
      unfold Builtin.Str.padded zfL
      simp [TL.tl, S]
    unfold zfilled
    rw [S_get0]
    cases l with
    | nil => exact pd
    | cons a t =>
      have a1 := h a (List.mem_cons_self ..)
      show (match some a with
        | some 43 | some 45 => _
        | _ => _) = _
      split
      · rename_i e; cases e; omega
      · rename_i e; cases e; omega
      · exact pd
/-! a text read -/
def rp : List Nat → List Nat
  | 45 :: l => l
  | l => l
theorem removeprefix_S (l : List Nat) : Txt.removeprefix (S l) (S [45]) = S (rp l) := by
  unfold Txt.removeprefix
  have sa : Builtin.Str.subAt (S l) (S [45]) 0 = decide (l.take 1 = [45]) := by
    unfold Builtin.Str.subAt
    show ((S l).cps.extract 0 (0 + 1) == (S [45]).cps) = _
    have : (S l).cps.extract 0 (0 + 1) = (l.take 1).toArray := by simp [S]
    rw [this]
    show ((l.take 1).toArray == [45].toArray) = _
    by_cases c : l.take 1 = [45]
    · rw [c]; rfl
    · rw [decide_eq_false c]
      exact beq_eq_false_iff_ne.mpr fun e => c (congrArg Array.toList e)
  rw [sa]
  cases l with
  | nil => rfl
  | cons a t =>
    by_cases c : a = 45
    · subst c
      show Txt.affix _ (some (1, (S (45 :: t)).length)) = _
      unfold Txt.affix
      rw [S_len]
      have : ¬ ((45 :: t).length - 1 == (45 :: t).length) = true := by simp
      refine (if_neg this).trans (TL.ext_tl ?_)
      have z := TL.tl_strSub_end (S (45 :: t)) 1
      rw [S_len] at z
      exact z
    · have : (a :: t).take 1 = [a] := rfl
      rw [this, decide_eq_false (by simp [c])]
      have e : rp (a :: t) = a :: t := by
        unfold rp
        split
        · rename_i e; cases e; exact absurd rfl c
        · rfl
      rw [e]; rfl
def figL : List Nat := [48, 49, 50, 51, 52, 53, 54, 55, 56, 57]
theorem figL_iff (c : Nat) : c ∈ figL ↔ 48 ≤ c ∧ c ≤ 57 := by simp [figL]; omega
def figs (l : List Nat) : Bool := decide (1 ≤ l.length) && (decide (l.length ≤ 300) && l.all fun c => decide (c ∈ figL))
theorem figs_iff (l : List Nat) : figs l = true ↔ 1 ≤ l.length ∧ l.length ≤ 300 ∧ AllDigits l := by
  unfold figs AllDigits
  simp only [Bool.and_eq_true, decide_eq_true_eq, List.all_eq_true, figL_iff]
def valI (l : List Nat) : Int := match l with
  | 45 :: cs => -((digitsVal cs : Nat) : Int)
  | cs => ((digitsVal cs : Nat) : Int)
theorem read_S {l : List Nat} (h : figs (rp l) = true) : intText? (S l) = some (valI l) ∧ (S l).length ≤ 301 := by
  obtain ⟨h1, h2, h3⟩ := (figs_iff _).mp h
  rw [S_len]
  by_cases c : ∃ t, l = 45 :: t
  · obtain ⟨t, rfl⟩ := c
    have ne : t ≠ [] := fun e => by subst e; simp [rp] at h1
    have l2 : t.length ≤ 300 := h2
    exact ⟨PySem.intText_neg (x := S (45 :: t)) rfl h3 ne (by rw [S_len]; simp; omega), by simp; omega⟩
  · have e : rp l = l := by
      unfold rp
      split
      · rename_i t; exact absurd ⟨t, rfl⟩ c
      · rfl
    rw [e] at h1 h2 h3
    have ev : valI l = ((digitsVal l : Nat) : Int) := by
      unfold valI
      split
      · rename_i t; exact absurd ⟨t, rfl⟩ c
      · rfl
    rw [ev]
    exact ⟨PySem.intText_digits (x := S l) h3 (fun z => by have : l = [] := z; subst this; simp at h1) (by rw [S_len]; omega), by omega⟩
theorem fold_lt : ∀ (l : List Nat) (a : Nat), AllDigits l → l.foldl (fun acc c => acc * 10 + (c - 48)) a < (a + 1) * 10 ^ l.length
  | [], a, _ => by rw [List.length_nil, Nat.pow_zero]; exact Nat.lt_of_lt_of_eq (Nat.lt_succ_self a) (Nat.mul_one _).symm
  | c :: l, a, h => by
    have hc := h c (List.mem_cons_self ..)
    have z := fold_lt l (a * 10 + (c - 48)) fun d hd => h d (List.mem_cons_of_mem _ hd)
    rw [List.foldl_cons, List.length_cons, Nat.pow_succ]
    refine Nat.lt_of_lt_of_le z ?_
    have : (a + 1) * (10 ^ l.length * 10) = ((a + 1) * 10) * 10 ^ l.length := by rw [Nat.mul_comm (10 ^ l.length), Nat.mul_assoc]
    rw [this]
    exact Nat.mul_le_mul_right _ (by omega)
theorem val_lt (l : List Nat) (h : AllDigits l) : digitsVal l < 10 ^ l.length := by
  have z := fold_lt l 0 h
  rw [Nat.zero_add, Nat.one_mul] at z
  exact z
theorem pow_le_300 {n : Nat} (h : n ≤ 300) : 10 ^ n ≤ 2 ^ 1000 := Nat.le_trans (Nat.pow_le_pow_right (by decide) h) (by decide +kernel)
theorem valI_sz {l : List Nat} (h : figs (rp l) = true) : Sz 1000 (valI l) := by
  obtain ⟨h1, h2, h3⟩ := (figs_iff _).mp h
  have z := val_lt _ h3
  have y := pow_le_300 h2
  unfold Sz
  unfold valI
  split
  · rename_i t
    rw [Int.natAbs_neg, Int.natAbs_natCast]
    exact Nat.lt_of_lt_of_le z y
  · rename_i cs nn
    have e : rp l = l := by
      unfold rp
      split
      · rename_i t; exact absurd rfl (nn t)
      · rfl
    rw [e] at z
    rw [Int.natAbs_natCast]
    rw [e] at y
    exact Nat.lt_of_lt_of_le z y
/-! texts of whole numbers -/
theorem numL_head : ∀ n, 0 < n → ∃ a t, numL n = a :: t ∧ 49 ≤ a ∧ a ≤ 57 := by
  intro n
  induction n using Nat.strongRecOn with
  | _ n ih =>
    intro h
    by_cases c : n < 10
    · exact ⟨_, _, numL_lt c, by omega, by omega⟩
    · obtain ⟨a, t, e, h1, h2⟩ := ih (n / 10) (by omega) (by omega)
      exact ⟨a, t ++ [48 + n % 10], by rw [numL_step (by omega), e]; rfl, h1, h2⟩
theorem numL_0 : numL 0 = [48] := rfl
theorem numI_head (i : Int) : ∃ a t, numI i = a :: t ∧ ((a = 45 ∧ i < 0 ∧ t = numL i.natAbs) ∨ (0 ≤ i ∧ a = 48 ∧ t = [] ∧ i = 0) ∨ (0 ≤ i ∧ 49 ≤ a ∧ a ≤ 57)) := by
  by_cases c : i < 0
  · exact ⟨45, _, numI_ng c, .inl ⟨rfl, c, rfl⟩⟩
  · rw [numI_nn (by omega)]
    by_cases z : i = 0
    · subst z; exact ⟨48, [], rfl, .inr (.inl ⟨by omega, rfl, rfl, rfl⟩)⟩
    · obtain ⟨a, t, e, h1, h2⟩ := numL_head i.natAbs (by omega)
      exact ⟨a, t, e, .inr (.inr ⟨by omega, h1, h2⟩)⟩
theorem numI_ne (i : Int) : numI i ≠ [] := by
  obtain ⟨a, t, e, _⟩ := numI_head i
  rw [e]; exact List.cons_ne_nil _ _
theorem numI_chars (i : Int) : ∀ c ∈ numI i, c = 45 ∨ (48 ≤ c ∧ c ≤ 57) := by
  intro c hc
  unfold numI at hc
  split at hc
  · rcases List.mem_cons.mp hc with e | hc
    · exact .inl e
    · exact .inr (numL_digits _ c hc)
  · exact .inr (numL_digits _ c hc)
theorem numI_47 (i : Int) : 47 ∉ numI i := fun h => by have := numI_chars i 47 h; omega
theorem numI_inj {i j : Int} (h : numI i = numI j) : i = j := by
  have d : ∀ n, 45 ∉ numL n := fun n => numL_free (by omega)
  unfold numI at h
  split at h <;> split at h
  · have := numL_inj (List.cons.inj h).2; omega
  · exact absurd (h ▸ List.mem_cons_self ..) (d _)
  · exact absurd (h ▸ List.mem_cons_self ..) (d _)
  · have := numL_inj h; omega
theorem rp_numI (i : Int) : rp (numI i) = numL i.natAbs := by
  unfold numI
  split
  · rfl
  · obtain ⟨a, t, e⟩ := List.exists_cons_of_ne_nil (numL_ne i.natAbs)
    rw [e]
    have : a ≠ 45 := fun z => by have := numL_digits i.natAbs a (e ▸ List.mem_cons_self ..); omega
    unfold rp
    split
    · rename_i e2; cases e2; exact absurd rfl this
    · rfl
theorem valI_numI (i : Int) : valI (numI i) = i := by
  unfold numI
  split
  · show -((digitsVal (numL i.natAbs) : Nat) : Int) = i
    rw [numL_val]; omega
  · obtain ⟨a, t, e⟩ := List.exists_cons_of_ne_nil (numL_ne i.natAbs)
    have : a ≠ 45 := fun z => by have := numL_digits i.natAbs a (e ▸ List.mem_cons_self ..); omega
    have v : valI (numL i.natAbs) = ((digitsVal (numL i.natAbs) : Nat) : Int) := by
      rw [e]
      unfold valI
      split
      · rename_i e2; cases e2; exact absurd rfl this
      · rfl
    rw [v, numL_val]; omega
/-! texts of ratios -/
def ratL (r : Rt) : List Nat := if r.2 = 1 then numI r.1 else numI r.1 ++ 47 :: numI r.2
def RT (a : List Nat) (r : Rt) : Prop := IsRat r ∧ a = ratL r ∧ (numL r.1.natAbs).length ≤ 300 ∧ (numL r.2.natAbs).length ≤ 300
theorem split_at {c : Nat} : ∀ {l1 l2 x y : List Nat}, c ∉ l1 → c ∉ l2 → l1 ++ c :: x = l2 ++ c :: y → l1 = l2 ∧ x = y
  | [], [], _, _, _, _, h => ⟨rfl, (List.cons.inj h).2⟩
  | [], b :: l2, _, _, _, n, h => absurd (List.mem_cons.mpr (.inl (List.cons.inj h).1)) n
  | a :: l1, [], _, _, n, _, h => absurd (List.mem_cons.mpr (.inl (List.cons.inj h).1.symm)) n
  | a :: l1, b :: l2, x, y, n, m, h => by
    obtain ⟨e, h⟩ := List.cons.inj h
    obtain ⟨e1, e2⟩ := split_at (fun z => n (List.mem_cons_of_mem _ z)) (fun z => m (List.mem_cons_of_mem _ z)) h
    exact ⟨by rw [e, e1], e2⟩
theorem rat_cut {r : Rt} {l y : List Nat} (n : 47 ∉ l) (h : ratL r = l ++ 47 :: y) : numI r.1 = l ∧ numI r.2 = y ∧ r.2 ≠ 1 := by
  unfold ratL at h
  split at h
  · have : 47 ∈ numI r.1 := by rw [h]; exact List.mem_append_right _ (List.mem_cons_self ..)
    exact absurd this (numI_47 _)
  · rename_i e
    obtain ⟨a, b⟩ := split_at (numI_47 _) n h
    exact ⟨a, b, e⟩
theorem rat_no {r : Rt} {l : List Nat} (n : 47 ∉ l) (h : ratL r = l) : r.2 = 1 ∧ numI r.1 = l := by
  unfold ratL at h
  split at h
  · exact ⟨by assumption, h⟩
  · exact absurd (h ▸ List.mem_append_right _ (List.mem_cons_self ..)) n
theorem rat_chars (r : Rt) : ∀ c ∈ ratL r, c = 45 ∨ c = 47 ∨ (48 ≤ c ∧ c ≤ 57) := by
  intro c hc
  unfold ratL at hc
  split at hc
  · rcases numI_chars _ c hc with h | h
    · exact .inl h
    · exact .inr (.inr h)
  · rcases List.mem_append.mp hc with hc | hc
    · rcases numI_chars _ c hc with h | h
      · exact .inl h
      · exact .inr (.inr h)
    · rcases List.mem_cons.mp hc with h | hc
      · exact .inr (.inl h)
      · rcases numI_chars _ c hc with h | h
        · exact .inl h
        · exact .inr (.inr h)
theorem rat_head (r : Rt) : ∃ u, ratL r = numI r.1 ++ u ∧ (u = [] ∨ ∃ v, u = 47 :: v) := by
  unfold ratL
  split
  · exact ⟨[], by rw [List.append_nil], .inl rfl⟩
  · exact ⟨_, rfl, .inr ⟨_, rfl⟩⟩
theorem rat_ne (r : Rt) : ratL r ≠ [] := by
  obtain ⟨u, e, _⟩ := rat_head r
  rw [e]; simp [numI_ne]
/-- the first sign of a ratio's text -/
theorem rat_first (r : Rt) : ∃ a t, ratL r = a :: t ∧ (a = 45 ∨ (48 ≤ a ∧ a ≤ 57)) := by
  obtain ⟨u, e, _⟩ := rat_head r
  obtain ⟨a, t, e2, h⟩ := numI_head r.1
  refine ⟨a, t ++ u, by rw [e, e2]; rfl, ?_⟩
  have := numI_chars r.1 a (e2 ▸ List.mem_cons_self ..)
  exact this
theorem rt_bad {l : List Nat} {c : Nat} (m : c ∈ l) (n : ¬ (c = 45 ∨ c = 47 ∨ (48 ≤ c ∧ c ≤ 57))) : ∀ r, ¬ RT l r := fun r h => n (rat_chars r c (h.2.1 ▸ m))
theorem rt_first {a : Nat} {t : List Nat} (n : ¬ (a = 45 ∨ (48 ≤ a ∧ a ≤ 57))) : ∀ r, ¬ RT (a :: t) r := fun r h => by
  obtain ⟨b, u, e, k⟩ := rat_first r
  have z := h.2.1
  rw [e] at z
  obtain rfl := (List.cons.inj z).1
  exact n k
/-- after a minus comes a figure -/
theorem rt_minus {t : List Nat} (n : ∀ b u, t = b :: u → ¬ (48 ≤ b ∧ b ≤ 57)) : ∀ r, ¬ RT (45 :: t) r := fun r h => by
  have z := h.2.1
  obtain ⟨u, e, _⟩ := rat_head r
  obtain ⟨a, v, e2, k⟩ := numI_head r.1
  rw [e, e2] at z
  obtain ⟨rfl, z9⟩ := List.cons.inj z
  rcases k with ⟨_, _, e3⟩ | ⟨_, k, _⟩ | ⟨_, k, _⟩
  · obtain ⟨b, q, e4⟩ := List.exists_cons_of_ne_nil (numL_ne r.1.natAbs)
    have d := numL_digits r.1.natAbs b (e4 ▸ List.mem_cons_self ..)
    refine n b (q ++ u) ?_ d
    have z2 : t = v ++ u := z9
    rw [z2, e3, e4]; rfl
  · omega
  · omega
theorem rt_nil : ∀ r, ¬ RT [] r := fun r h => rat_ne r h.2.1.symm
/-- a nought ahead of more figures -/
theorem rt_nought {t : List Nat} (n : ∃ b u, t = b :: u ∧ b ≠ 47) : ∀ r, ¬ RT (48 :: t) r := fun r h => by
  obtain ⟨b, w, rfl, nb⟩ := n
  have z := h.2.1
  obtain ⟨u, e, k2⟩ := rat_head r
  obtain ⟨a, v, e2, k⟩ := numI_head r.1
  rw [e, e2] at z
  obtain ⟨rfl, z9⟩ := List.cons.inj z
  rcases k with ⟨k, _⟩ | ⟨_, _, e3, _⟩ | ⟨_, k, _⟩
  · omega
  · subst e3
    have z2 : b :: w = u := z9
    rcases k2 with k2 | ⟨v, k2⟩
    · rw [k2] at z2; cases z2
    · rw [k2] at z2; exact nb (List.cons.inj z2).1
  · omega
/-- behind the text of a whole number a slash and what is no bottom -/
theorem rt_slash {n : Int} {y : List Nat} (k : ∀ b : Int, 1 < b → Nat.gcd n.natAbs b.natAbs = 1 → numI b ≠ y) : ∀ r, ¬ RT (numI n ++ 47 :: y) r := fun r h => by
  obtain ⟨e1, e2, e3⟩ := rat_cut (numI_47 n) h.2.1.symm
  have e4 := numI_inj e1
  have p := h.1.1
  refine k r.2 (by omega) ?_ e2
  rw [← e4]; exact h.1.2
/-- behind a ratio's text a slash and what is no bottom above 1 -/
theorem rt_due (one : Rt) {y : List Nat} (k : ∀ b : Int, 1 < b → numI b ≠ y) : ∀ r, ¬ RT (ratL one ++ 47 :: y) r := by
  unfold ratL
  split
  · exact rt_slash fun b hb _ => k b hb
  · intro r h
    rw [List.append_assoc, List.cons_append] at h
    refine rt_slash (fun b _ _ e => ?_) r h
    have : 47 ∈ numI b := by rw [e]; exact List.mem_append_right _ (List.mem_cons_self ..)
    exact numI_47 _ this
theorem numI_1 : numI 1 = [49] := rfl
theorem rt_due1 (one : Rt) : ∀ r, ¬ RT (ratL one ++ [47, 49]) r := rt_due one fun b hb e => by
  have := numI_inj (e.trans numI_1.symm); omega
theorem rt_due0 (one : Rt) : ∀ r, ¬ RT (ratL one ++ [47, 48]) r := rt_due one fun b hb e => by
  have := numI_inj (e.trans (show [48] = numI 0 from rfl)); omega
theorem rt_due_ (one : Rt) : ∀ r, ¬ RT (ratL one ++ [47]) r := rt_due one fun b hb e => numI_ne b e
theorem rt_twice {n d : Int} (hd : 0 < d) : ∀ r, ¬ RT (numI (n * 2) ++ 47 :: numI (d * 2)) r := rt_slash fun b hb g e => by
  obtain rfl := numI_inj e
  have : 2 ∣ Nat.gcd (n * 2).natAbs (d * 2).natAbs := Nat.dvd_gcd (by rw [Int.natAbs_mul]; exact ⟨_, Nat.mul_comm ..⟩) (by rw [Int.natAbs_mul]; exact ⟨_, Nat.mul_comm ..⟩)
  rw [g] at this
  omega
theorem rt_due48 (one : Rt) : ∀ r, ¬ RT (48 :: ratL one) r := by
  obtain ⟨a, t, e, k⟩ := rat_first one
  rw [e]
  exact rt_nought ⟨a, t, rfl, by omega⟩
/-! refusals of plain texts -/
theorem rt_c0 : ∀ r, ¬ RT [47] r := rt_first (by omega)
theorem rt_c1 : ∀ r, ¬ RT [45] r := rt_minus fun b u e => by cases e
theorem rt_c2 : ∀ r, ¬ RT [45, 48] r := fun r h => by
  obtain ⟨_, e⟩ := rat_no (by decide) h.2.1.symm
  obtain ⟨a, t, e2, k⟩ := numI_head r.1
  rw [e] at e2
  cases e2
  rcases k with ⟨_, k, e3⟩ | ⟨_, k, _⟩ | ⟨_, k, _⟩
  · have := numL_inj (e3.symm.trans numL_0.symm); omega
  · omega
  · omega
theorem rt_c3 : ∀ r, ¬ RT [48, 47, 49] r := rt_slash (n := 0) (y := [49]) fun b hb _ e => by
  have := numI_inj (e.trans numI_1.symm); omega
theorem rt_c4 : ∀ r, ¬ RT [49, 47, 45, 50] r := rt_slash (n := 1) (y := [45, 50]) fun b hb _ e => by
  have := numI_inj (e.trans (show [45, 50] = numI (-2) from rfl)); omega
/-! a text cut at its slash -/
def Rel (l t b : List Nat) : Prop := 47 ∉ t ∧ ((l = t ∧ b = [49]) ∨ l = t ++ 47 :: b)
theorem figs_numL {n : Nat} (h : (numL n).length ≤ 300) : figs (numL n) = true := (figs_iff _).mpr ⟨by have := numL_ne n; rcases hh : numL n with _ | ⟨a, l⟩ <;> simp_all, h, numL_digits n⟩
theorem rp_dig {l : List Nat} (h : AllDigits l) : rp l = l := by
  unfold rp
  split
  · have := h 45 (List.mem_cons_self ..); omega
  · rfl
theorem rel_rt {l t b : List Nat} {r : Rt} (R : Rel l t b) (h : RT l r) : figs (rp t) = true ∧ figs b = true ∧ r = (valI t, valI b) := by
  obtain ⟨n, R⟩ := R
  obtain ⟨ir, e, h1, h2⟩ := h
  rcases R with ⟨rfl, rfl⟩ | rfl
  · obtain ⟨e1, e2⟩ := rat_no n e.symm
    refine ⟨?_, by decide, ?_⟩
    · rw [← e2, rp_numI]; exact figs_numL h1
    · rw [← e2, valI_numI]
      have : valI [49] = 1 := rfl
      rw [this, ← e1]
  · obtain ⟨e1, e2, _⟩ := rat_cut n e.symm
    have p : 0 < r.2 := ir.1
    refine ⟨?_, ?_, ?_⟩
    · rw [← e1, rp_numI]; exact figs_numL h1
    · rw [← e2, numI_nn (by omega)]; exact figs_numL h2
    · rw [← e1, ← e2, valI_numI, valI_numI]
theorem rel_good {l t b : List Nat} (R : Rel l t b) (h1 : figs (rp t) = true) (h2 : figs b = true) (i : IsRat (valI t, valI b)) (e : ratL (valI t, valI b) = l) : RT l (valI t, valI b) := by
  obtain ⟨n, R⟩ := R
  have g1 := (figs_iff _).mp h1
  have g2 := (figs_iff _).mp h2
  rcases R with ⟨rfl, rfl⟩ | rfl
  · obtain ⟨e1, e2⟩ := rat_no n e
    refine ⟨i, e.symm, ?_, ?_⟩
    · rw [← rp_numI, e2]; exact g1.2.1
    · show (numL (valI [49]).natAbs).length ≤ 300
      decide
  · obtain ⟨e1, e2, _⟩ := rat_cut n e
    refine ⟨i, e.symm, ?_, ?_⟩
    · rw [← rp_numI, e1]; exact g1.2.1
    · rw [← rp_numI, e2, rp_dig g2.2.2]; exact g2.2.1
theorem rel_a {l : List Nat} (h : 47 ∉ l) : Rel l l [49] := ⟨h, .inl ⟨rfl, rfl⟩⟩
theorem cut47 : ∀ {l : List Nat}, 47 ∈ l → ∃ p q, l = p ++ 47 :: q ∧ 47 ∉ p
  | a :: l, h => by
    by_cases c : a = 47
    · subst c; exact ⟨[], l, rfl, by simp⟩
    · have m : 47 ∈ l := by
        rcases List.mem_cons.mp h with e | m
        · exact absurd e.symm c
        · exact m
      obtain ⟨p, q, rfl, n⟩ := cut47 m
      exact ⟨a :: p, q, rfl, fun z => by
        rcases List.mem_cons.mp z with e | z
        · exact c e.symm
        · exact n z⟩
/-- too many figures -/
theorem rt_long {l : List Nat} (h : AllDigits l) (k : 300 < l.length) : ∀ r, ¬ RT l r := fun r q => by
  obtain ⟨_, e⟩ := rat_no (digits_not h (by omega)) q.2.1.symm
  have z := q.2.2.1
  have : rp l = l := by
    unfold rp
    split
    · have := h 45 (List.mem_cons_self ..); omega
    · rfl
  rw [← rp_numI, e, this] at z
  omega
theorem rt_long2 {n : Int} {l : List Nat} (h : AllDigits l) (k : 300 < l.length) : ∀ r, ¬ RT (numI n ++ 47 :: l) r := fun r q => by
  obtain ⟨_, e, _⟩ := rat_cut (numI_47 n) q.2.1.symm
  have z := q.2.2.2
  have : rp l = l := by
    unfold rp
    split
    · have := h 45 (List.mem_cons_self ..); omega
    · rfl
  rw [← rp_numI, e, this] at z
  omega
end TM
set_option Elab.async false
set_option linter.all false
set_option maxRecDepth 100000
set_option maxHeartbeats 4000000
namespace F3
open PySem PySem.Spec PyProof.Rows L2 FX RM PB
def topS (i : Nat) : Stmt := PySem.Challenge.pw_feltstone_k01_whole_ratios_reckoned.main.body.getD i (.Pass ⟨0, 0, 0, 0⟩)
theorem cou_r {K : PySem.W.Frag} {H : Hp} {v : V} {r : Rt} (h : Dp K H v (rD r)) : Cou K H v (.int r.1) (.int r.2) := dir_t h
theorem sz1 : Sz 2000 1 := by show (1 : Int).natAbs < 2 ^ 2000; exact Nat.one_lt_two_pow (by decide)
theorem g2_one (t : Int) : g2 t 1 = 1 := by unfold g2; show ((Nat.gcd t.natAbs 1 : Nat) : Int) = 1; rw [Nat.gcd_one_right]; rfl
theorem norm_one (t : Int) : norm t 1 = (t, 1) := by unfold norm; rw [g2_one]; simp
theorem radd_fast {r s : Rt} (hr : IsRat r) (e : r.2 = s.2) : norm (r.1 + s.1) r.2 = radd r s := by
  unfold radd
  refine norm_eq hr.1 (Int.mul_pos hr.1 (e ▸ hr.1)) ?_
  rw [← e]; grind
/-! promises: ratios -/
def spLow (K : PySem.W.Frag) : Sp := fun vs H Q _ => ∃ t b : Int, vs = [.int t, .int b] ∧ 0 < b ∧ Sz 8000 t ∧ Sz 8000 b ∧ ∀ H' v, Same H H' → Dp K H' v (rD (norm t b)) → Q v H'
def spBin (K : PySem.W.Frag) (o : Rt → Rt → Rt) : Sp := fun vs H Q _ => ∃ v u r s, vs = [v, u] ∧ Dp K H v (rD r) ∧ Dp K H u (rD s) ∧ IsRat r ∧ IsRat s ∧ SzR 2000 r ∧ SzR 2000 s ∧ ∀ H' z, Same H H' → Dp K H' z (rD (o r s)) → Q z H'
def spNeg (K : PySem.W.Frag) : Sp := fun vs H Q _ => ∃ v r, vs = [v] ∧ Dp K H v (rD r) ∧ ∀ H' z, Same H H' → Dp K H' z (rD (rneg r)) → Q z H'
/-- the first by a positive whole number -/
def spOver (K : PySem.W.Frag) : Sp := fun vs H Q _ => ∃ v u r n, vs = [v, u] ∧ Dp K H v (rD r) ∧ Dp K H u (rD (n, 1)) ∧ 0 < n ∧ IsRat r ∧ SzR 2000 r ∧ Sz 2000 n ∧ ∀ H' z, Same H H' → Dp K H' z (rD (rmul r (1, n))) → Q z H'
section
variable {P : Program} {w : World} {K : PySem.W.Frag} {mg : Str → Option Value} {base : Heap}
abbrev slowest_terms : Stmt := topS 12
theorem sclowest_terms : FnScope ["top", "bottom", "share"] ["top", "bottom"] (defScope slowest_terms) := ⟨rfl, rfl, rfl, by decide +kernel, rfl, by decide +kernel, by decide +kernel⟩
theorem oklowest_terms (T : Txt K mg "lowest_terms" slowest_terms) (mgcd : mg "gcd" = some (.builtin "math.gcd")) : DefOk P w K mg base CX0 "lowest_terms" 1 ["top", "bottom"] (spLow K) := by
  obtain ⟨f, fd, F, gf⟩ := T
  refine ⟨f, fd, gf, F.kp, F.binds (fun _ _ _ _ _ _ us hl => match us, hl with | [_, _], _ => rfl), F.ok sclowest_terms (fun vs H Q E h => ?_) (fun cdv A outer s H vs Q E hr h => ?_)⟩
  · obtain ⟨t, b, rfl, _⟩ := h; rfl
  · obtain ⟨t, b, rfl, b0, zt, zb, q⟩ := h
    refine ⟨_, (pss_cons (ps_if (pt_cmpR op_eq (pv 1) pe_int (nomark _)) (pss_one (ps_ret (pe_tup (pa_cons (pv 0) (pa_cons pe_int pa_nil))))) pss_nil) (pss_cons (ps_set (i := 2) sclowest_terms.nd rfl (.inl rfl) (pe_callBfun cr_gcd (by rfl) mgcd (pa_cons (pv 0) (pa_cons (pv 1) pa_nil)))) (pss_cons (ps_if (pt_cmpR op_lt (pv 1) pe_int (nomark _)) (pss_one (ps_set (i := 2) sclowest_terms.nd rfl (.inl rfl) (pe_un un_neg (pv 2)))) pss_nil) (pss_one (ps_ret (pe_tup (pa_cons (pe_op op_fdivW (pv 0) (pv 2)) (pa_cons (pe_op op_fdivW (pv 1) (pv 2)) pa_nil)))))))), ?_⟩
    refine ⟨.int b, rfl, rfl, _, rfl, ite2 (fun e => ?_) (fun e => ?_)⟩
    · have e1 : b = 1 := V.int.inj (of_decide_eq_true e)
      subst e1
      refine ⟨_, rfl, (by show 2 ≤ sizeLine; decide), fun p np => q _ _ (PB.same_new np) ?_⟩
      rw [norm_one]; exact dp_mkr np
    · have bn : b ≠ 0 := by omega
      have gp := g2_pos (t := t) bn
      have gz := sz_g (t := t) bn zb
      refine ⟨_, rfl, _, rfl, t, b, rfl, ?_⟩
      show tSeq _ _ _ [some (.int t), some (.int b), some (.int (g2 t b))] H
      refine ⟨_, rfl, _, _, rfl, rfl, _, rfl, ?_⟩
      rw [decide_eq_false (by omega : ¬ b < 0)]
      refine iteF ⟨_, rfl, _, rfl, _, _, rfl, rfl, wide_div gp gz (by decide) (by decide), _, rfl, _, rfl, _, _, rfl, rfl, wide_div gp gz (by decide) (by decide), (by show 2 ≤ sizeLine; decide), fun p np => q _ _ (PB.same_new np) (dp_mkr np)⟩
abbrev splus : Stmt := topS 14
theorem scplus : FnScope ["one", "other"] ["one", "other"] (defScope splus) := ⟨rfl, rfl, rfl, by decide +kernel, rfl, by decide +kernel, by decide +kernel⟩
theorem okplus (T : Txt K mg "plus" splus) (Glowest_terms : DefOk P w K mg base CX0 "lowest_terms" 1 ["top", "bottom"] (spLow K)) : DefOk P w K mg base CX0 "plus" 2 ["one", "other"] (spBin K radd) := by
  obtain ⟨f, fd, F, gf⟩ := T
  refine ⟨f, fd, gf, F.kp, F.binds (fun _ _ _ _ _ _ us hl => match us, hl with | [_, _], _ => rfl), F.ok scplus (fun vs H Q E h => ?_) (fun cdv A outer s H vs Q E hr h => ?_)⟩
  · obtain ⟨v, u, r, s_, rfl, _⟩ := h; rfl
  · obtain ⟨v, u, r, s_, rfl, hv, hu, ir, is_, zr, zs, q⟩ := h
    refine ⟨_, (pss_cons (ps_if (pt_cmpR op_eq (pe_ix ix_it (pv 0) pe_int (fun _ _ => rfl)) (pe_ix ix_it (pv 1) pe_int (fun _ _ => rfl)) (nomark _)) (pss_one (ps_ret (pe_def Glowest_terms (hr.mono (by decide)) (by rfl) (pa_cons (pe_op op_add (pe_ix ix_it (pv 0) pe_int (fun _ _ => rfl)) (pe_ix ix_it (pv 1) pe_int (fun _ _ => rfl))) (pa_cons (pe_ix ix_it (pv 0) pe_int (fun _ _ => rfl)) pa_nil))))) pss_nil) (pss_one (ps_ret (pe_def Glowest_terms (hr.mono (by decide)) (by rfl) (pa_cons (pe_op op_add (pe_op op_mulW (pe_ix ix_it (pv 0) pe_int (fun _ _ => rfl)) (pe_ix ix_it (pv 1) pe_int (fun _ _ => rfl))) (pe_op op_mulW (pe_ix ix_it (pv 1) pe_int (fun _ _ => rfl)) (pe_ix ix_it (pv 0) pe_int (fun _ _ => rfl)))) (pa_cons (pe_op op_mulW (pe_ix ix_it (pv 0) pe_int (fun _ _ => rfl)) (pe_ix ix_it (pv 1) pe_int (fun _ _ => rfl))) pa_nil)))))), ?_⟩
    have c1 := cou_r hv
    have c2 := cou_r hu
    refine ⟨v, rfl, _, _, 1, _, rfl, c1, rfl, u, rfl, _, _, 1, _, rfl, c2, rfl, rfl, _, rfl, ite2 (fun e => ?_) (fun e => ?_)⟩
    · have e2 : r.2 = s_.2 := V.int.inj (of_decide_eq_true e)
      refine ⟨v, rfl, _, _, 0, _, rfl, c1, rfl, u, rfl, _, _, 0, _, rfl, c2, rfl, _, _, rfl, rfl, v, rfl, _, _, 1, _, rfl, c1, rfl, _, _, rfl, ir.1, sz_mono (sz_add zr.1 zs.1) (by decide), sz_mono zr.2 (by decide), fun H' z sm hz => q H' z sm ?_⟩
      rw [← radd_fast ir e2]; exact hz
    · refine ⟨v, rfl, _, _, 0, _, rfl, c1, rfl, u, rfl, _, _, 1, _, rfl, c2, rfl, _, _, rfl, rfl, wide_mul zr.1 zs.2 (by decide) (by decide) (by decide), u, rfl, _, _, 0, _, rfl, c2, rfl, v, rfl, _, _, 1, _, rfl, c1, rfl, _, _, rfl, rfl, wide_mul zs.1 zr.2 (by decide) (by decide) (by decide), _, _, rfl, rfl, ?_⟩
      refine ⟨v, rfl, _, _, 1, _, rfl, c1, rfl, u, rfl, _, _, 1, _, rfl, c2, rfl, _, _, rfl, rfl, wide_mul zr.2 zs.2 (by decide) (by decide) (by decide), _, _, rfl, Int.mul_pos ir.1 is_.1, sz_mono (sz_add (sz_mul zr.1 zs.2) (sz_mul zs.1 zr.2)) (by decide), sz_mono (sz_mul zr.2 zs.2) (by decide), fun H' z sm hz => q H' z sm hz⟩
abbrev snegative : Stmt := topS 18
theorem scnegative : FnScope ["one"] ["one"] (defScope snegative) := ⟨rfl, rfl, rfl, by decide +kernel, rfl, by decide +kernel, by decide +kernel⟩
theorem oknegative (T : Txt K mg "negative" snegative)  : DefOk P w K mg base CX0 "negative" 1 ["one"] (spNeg K) := by
  obtain ⟨f, fd, F, gf⟩ := T
  refine ⟨f, fd, gf, F.kp, F.binds (fun _ _ _ _ _ _ us hl => match us, hl with | [_], _ => rfl), F.ok scnegative (fun vs H Q E h => ?_) (fun cdv A outer s H vs Q E hr h => ?_)⟩
  · obtain ⟨v, r, rfl, _⟩ := h; rfl
  · obtain ⟨v, r, rfl, hv, q⟩ := h
    refine ⟨_, (pss_one (ps_ret (pe_tup (pa_cons (pe_un un_neg (pe_ix ix_it (pv 0) pe_int (fun _ _ => rfl))) (pa_cons (pe_ix ix_it (pv 0) pe_int (fun _ _ => rfl)) pa_nil))))), ?_⟩
    have c1 := cou_r hv
    exact ⟨v, rfl, _, _, 0, _, rfl, c1, rfl, _, rfl, v, rfl, _, _, 1, _, rfl, c1, rfl, (by show 2 ≤ sizeLine; decide), fun p np => q _ _ (PB.same_new np) (dp_mkr np)⟩
abbrev sminus : Stmt := topS 15
theorem scminus : FnScope ["one", "other"] ["one", "other"] (defScope sminus) := ⟨rfl, rfl, rfl, by decide +kernel, rfl, by decide +kernel, by decide +kernel⟩
theorem okminus (T : Txt K mg "minus" sminus) (Gplus : DefOk P w K mg base CX0 "plus" 2 ["one", "other"] (spBin K radd)) (Gnegative : DefOk P w K mg base CX0 "negative" 1 ["one"] (spNeg K)) : DefOk P w K mg base CX0 "minus" 3 ["one", "other"] (spBin K rsub) := by
  obtain ⟨f, fd, F, gf⟩ := T
  refine ⟨f, fd, gf, F.kp, F.binds (fun _ _ _ _ _ _ us hl => match us, hl with | [_, _], _ => rfl), F.ok scminus (fun vs H Q E h => ?_) (fun cdv A outer s H vs Q E hr h => ?_)⟩
  · obtain ⟨v, u, r, s_, rfl, _⟩ := h; rfl
  · obtain ⟨v, u, r, s_, rfl, hv, hu, ir, is_, zr, zs, q⟩ := h
    refine ⟨_, (pss_one (ps_ret (pe_def Gplus (hr.mono (by decide)) (by rfl) (pa_cons (pv 0) (pa_cons (pe_def Gnegative (hr.mono (by decide)) (by rfl) (pa_cons (pv 1) pa_nil)) pa_nil))))), ?_⟩
    refine ⟨v, rfl, u, rfl, u, s_, rfl, hu, fun H1 z1 s1 hz1 => ?_⟩
    refine ⟨v, z1, r, rneg s_, rfl, Dp_same s1 hv, hz1, ir, rat_neg is_, zr, szr_neg zs, fun H' z sm hz => q H' z (s1.trans sm) ?_⟩
    rw [rsub_eq]; exact hz
abbrev stimes : Stmt := topS 16
theorem sctimes : FnScope ["one", "other"] ["one", "other"] (defScope stimes) := ⟨rfl, rfl, rfl, by decide +kernel, rfl, by decide +kernel, by decide +kernel⟩
theorem oktimes (T : Txt K mg "times" stimes) (Glowest_terms : DefOk P w K mg base CX0 "lowest_terms" 1 ["top", "bottom"] (spLow K)) : DefOk P w K mg base CX0 "times" 2 ["one", "other"] (spBin K rmul) := by
  obtain ⟨f, fd, F, gf⟩ := T
  refine ⟨f, fd, gf, F.kp, F.binds (fun _ _ _ _ _ _ us hl => match us, hl with | [_, _], _ => rfl), F.ok sctimes (fun vs H Q E h => ?_) (fun cdv A outer s H vs Q E hr h => ?_)⟩
  · obtain ⟨v, u, r, s_, rfl, _⟩ := h; rfl
  · obtain ⟨v, u, r, s_, rfl, hv, hu, ir, is_, zr, zs, q⟩ := h
    refine ⟨_, (pss_one (ps_ret (pe_def Glowest_terms (hr.mono (by decide)) (by rfl) (pa_cons (pe_op op_mulW (pe_ix ix_it (pv 0) pe_int (fun _ _ => rfl)) (pe_ix ix_it (pv 1) pe_int (fun _ _ => rfl))) (pa_cons (pe_op op_mulW (pe_ix ix_it (pv 0) pe_int (fun _ _ => rfl)) (pe_ix ix_it (pv 1) pe_int (fun _ _ => rfl))) pa_nil))))), ?_⟩
    have c1 := cou_r hv
    have c2 := cou_r hu
    refine ⟨v, rfl, _, _, 0, _, rfl, c1, rfl, u, rfl, _, _, 0, _, rfl, c2, rfl, _, _, rfl, rfl, wide_mul zr.1 zs.1 (by decide) (by decide) (by decide), v, rfl, _, _, 1, _, rfl, c1, rfl, u, rfl, _, _, 1, _, rfl, c2, rfl, _, _, rfl, rfl, wide_mul zr.2 zs.2 (by decide) (by decide) (by decide), _, _, rfl, Int.mul_pos ir.1 is_.1, sz_mono (sz_mul zr.1 zs.1) (by decide), sz_mono (sz_mul zr.2 zs.2) (by decide), fun H' z sm hz => q H' z sm hz⟩
abbrev sover : Stmt := topS 17
theorem scover : FnScope ["one", "other"] ["one", "other"] (defScope sover) := ⟨rfl, rfl, rfl, by decide +kernel, rfl, by decide +kernel, by decide +kernel⟩
theorem okover (T : Txt K mg "over" sover) (Glowest_terms : DefOk P w K mg base CX0 "lowest_terms" 1 ["top", "bottom"] (spLow K)) : DefOk P w K mg base CX0 "over" 2 ["one", "other"] (spOver K) := by
  obtain ⟨f, fd, F, gf⟩ := T
  refine ⟨f, fd, gf, F.kp, F.binds (fun _ _ _ _ _ _ us hl => match us, hl with | [_, _], _ => rfl), F.ok scover (fun vs H Q E h => ?_) (fun cdv A outer s H vs Q E hr h => ?_)⟩
  · obtain ⟨v, u, r, n, rfl, _⟩ := h; rfl
  · obtain ⟨v, u, r, n, rfl, hv, hu, n0, ir, zr, zn, q⟩ := h
    refine ⟨_, (pss_cons (ps_if (pt_cmpR op_eq (pe_ix ix_it (pv 1) pe_int (fun _ _ => rfl)) pe_int (nomark _)) (pss_one ps_never) pss_nil) (pss_one (ps_ret (pe_def Glowest_terms (hr.mono (by decide)) (by rfl) (pa_cons (pe_op op_mulW (pe_ix ix_it (pv 0) pe_int (fun _ _ => rfl)) (pe_ix ix_it (pv 1) pe_int (fun _ _ => rfl))) (pa_cons (pe_op op_mulW (pe_ix ix_it (pv 0) pe_int (fun _ _ => rfl)) (pe_ix ix_it (pv 1) pe_int (fun _ _ => rfl))) pa_nil)))))), ?_⟩
    have c1 := cou_r hv
    have c2 := cou_r hu
    refine ⟨u, rfl, _, _, 0, _, rfl, c2, rfl, rfl, _, rfl, ?_⟩
    rw [decide_eq_false (fun z => by have := V.int.inj z; omega : ¬ V.int ((n, (1 : Int)).1) = V.int 0)]
    refine iteF ⟨v, rfl, _, _, 0, _, rfl, c1, rfl, u, rfl, _, _, 1, _, rfl, c2, rfl, _, _, rfl, rfl, wide_mul zr.1 sz1 (by decide) (by decide) (by decide), v, rfl, _, _, 1, _, rfl, c1, rfl, u, rfl, _, _, 0, _, rfl, c2, rfl, _, _, rfl, rfl, wide_mul zr.2 zn (by decide) (by decide) (by decide), _, _, rfl, Int.mul_pos ir.1 n0, sz_mono (sz_mul zr.1 sz1) (by decide), sz_mono (sz_mul zr.2 zn) (by decide), fun H' z sm hz => q H' z sm hz⟩
end
end F3
set_option Elab.async false
set_option linter.all false
set_option maxRecDepth 100000
set_option maxHeartbeats 4000000
set_option exponentiation.threshold 3000
namespace F3
open PySem PySem.Spec PyProof.Rows L2 FX RM PB
theorem sz_gg {n : Nat} {x y : Int} (h : x ≠ 0 ∨ y ≠ 0) (a : Sz n x) (b : Sz n y) : Sz n (g2 x y) := by
  by_cases z : y = 0
  · have hx : x ≠ 0 := by
      rcases h with h | h
      · exact h
      · exact absurd z h
    refine Nat.lt_of_le_of_lt ?_ a
    unfold g2
    rw [Int.natAbs_natCast]
    exact Nat.gcd_le_left _ (by omega)
  · exact sz_g z b
theorem g2_posO {x y : Int} (h : x ≠ 0 ∨ y ≠ 0) : 0 < g2 x y := by
  rcases h with h | h
  · exact g2_pos' h
  · exact g2_pos h
/-! places: what is reckoned -/
abbrev Pl := Rt × Rt
def RatP (p : Pl) : Prop := IsRat p.1 ∧ IsRat p.2
def SzP (n : Nat) (p : Pl) : Prop := SzR n p.1 ∧ SzR n p.2
def rawA (d : Int × Int) (p : Pl) : Int × Int := (d.1 * p.1.1 * p.2.2 + d.2 * p.2.1 * p.1.2, p.1.2 * p.2.2)
def amt (d : Int × Int) (p : Pl) : Rt := norm (rawA d p).1 (rawA d p).2
def stepF (p s : Pl) : Pl := (rsub s.1 p.1, rsub s.2 p.2)
def byP (p s : Pl) : Pl := (radd p.1 s.1, radd p.2 s.2)
def growP (p : Pl) (z : Rt) : Pl := (rmul p.1 z, rmul p.2 z)
def wrow (p : Pl) : Int × Int × Int := if p.1.2 = p.2.2 then (p.1.1, p.2.1, p.1.2) else (p.1.1 * p.2.2, p.2.1 * p.1.2, p.1.2 * p.2.2)
def rawC (f g h : Int × Int × Int) : Int × Int := (f.2.2 * (g.1 * h.2.1 - g.2.1 * h.1) + g.2.2 * (h.1 * f.2.1 - h.2.1 * f.1) + h.2.2 * (f.1 * g.2.1 - f.2.1 * g.1), f.2.2 * g.2.2 * h.2.2)
def crossP (a b c : Pl) : Rt := norm (rawC (wrow a) (wrow b) (wrow c)).1 (rawC (wrow a) (wrow b) (wrow c)).2
def dirOf (p : Pl) : Int × Int := norm (p.1.1 * p.2.2) (p.2.1 * p.1.2)
def sumR (rs : List Rt) : Rt := rs.foldl radd (0, 1)
theorem szr_zero : SzR 1 ((0, 1) : Rt) := ⟨by show (0 : Int).natAbs < 2; decide, by show (1 : Int).natAbs < 2; decide⟩
theorem sumR_snoc (rs : List Rt) (r : Rt) : sumR (rs ++ [r]) = radd (sumR rs) r := by unfold sumR; rw [List.foldl_append]; rfl
theorem fold_ok {n : Nat} : ∀ (rs : List Rt) (s : Rt) (m : Nat), IsRat s → SzR m s → (∀ r ∈ rs, IsRat r ∧ SzR n r) → IsRat (rs.foldl radd s) ∧ SzR (m + rs.length * (n + 1)) (rs.foldl radd s)
  | [], s, m, h1, h2, _ => ⟨h1, szr_mono h2 (by omega)⟩
  | r :: rs, s, m, h1, h2, h => by
    obtain ⟨a, b⟩ := h r (List.mem_cons_self ..)
    obtain ⟨c, d⟩ := fold_ok rs (radd s r) (m + n + 1) (rat_add h1 a) (szr_add h1 a h2 b) (fun x hx => h x (List.mem_cons_of_mem _ hx))
    refine ⟨c, szr_mono d ?_⟩
    rw [List.length_cons, Nat.add_mul]; omega
theorem sum_ok {n : Nat} {rs : List Rt} (h : ∀ r ∈ rs, IsRat r ∧ SzR n r) : IsRat (sumR rs) ∧ SzR (1 + rs.length * (n + 1)) (sumR rs) := fold_ok rs (0, 1) 1 rat_zero szr_zero h
/-! promises: places -/
def spSum (K : PySem.W.Frag) : Sp := fun vs H Q _ => ∃ p xs rs, vs = [.ref p] ∧ SqL K H p xs ∧ DpAll K H xs (rs.map rD) ∧ rs.length ≤ 4 ∧ (∀ r ∈ rs, IsRat r ∧ SzR 300 r) ∧ ∀ H' z, Same H H' → Dp K H' z (rD (sumR rs)) → Q z H'
def spWd (K : PySem.W.Frag) : Sp := fun vs H Q _ => ∃ x y : Int, vs = [.int x, .int y] ∧ (x ≠ 0 ∨ y ≠ 0) ∧ Sz 8000 x ∧ Sz 8000 y ∧ ∀ H' z, Same H H' → Dp K H' z (rD (norm x y)) → Q z H'
def spDirOf (K : PySem.W.Frag) : Sp := fun vs H Q _ => ∃ v p, vs = [v] ∧ Pla K H v p ∧ RatP p ∧ SzP 2000 p ∧ (p.1.1 ≠ 0 ∨ p.2.1 ≠ 0) ∧ ∀ H' z, Same H H' → Dp K H' z (rD (dirOf p)) → Q z H'
def spRawA (K : PySem.W.Frag) (o : Int × Int → Pl → Int × Int) : Sp := fun vs H Q _ => ∃ v u d p, vs = [v, u] ∧ Dir K H v d ∧ Pla K H u p ∧ RatP p ∧ SzR 600 d ∧ SzP 600 p ∧ ∀ H' z, Same H H' → Dp K H' z (rD (o d p)) → Q z H'
def spPP (K : PySem.W.Frag) (n : Nat) (o : Pl → Pl → Pl) : Sp := fun vs H Q _ => ∃ v u p s, vs = [v, u] ∧ Pla K H v p ∧ Pla K H u s ∧ RatP p ∧ RatP s ∧ SzP n p ∧ SzP n s ∧ ∀ H' z, Same H H' → Dp K H' z (pD (o p s)) → Q z H'
def spGrow (K : PySem.W.Frag) : Sp := fun vs H Q _ => ∃ v u p s, vs = [v, u] ∧ Pla K H v p ∧ Dp K H u (rD s) ∧ RatP p ∧ IsRat s ∧ SzP 2000 p ∧ SzR 2000 s ∧ ∀ H' z, Same H H' → Dp K H' z (pD (growP p s)) → Q z H'
def spOn (K : PySem.W.Frag) : Sp := fun vs H Q _ => ∃ v u t p s r, vs = [v, u, t] ∧ Pla K H v p ∧ Pla K H u s ∧ Dp K H t (rD r) ∧ RatP p ∧ RatP s ∧ IsRat r ∧ SzP 600 p ∧ SzP 600 s ∧ SzR 600 r ∧ ∀ H' z, Same H H' → Dp K H' z (pD (byP p (growP (stepF p s) r))) → Q z H'
def tD (f : Int × Int × Int) : PyData := .tuple [.int f.1, .int f.2.1, .int f.2.2]
def spWrow (K : PySem.W.Frag) : Sp := fun vs H Q _ => ∃ v p, vs = [v] ∧ Pla K H v p ∧ RatP p ∧ SzP 600 p ∧ ∀ H' z, Same H H' → Dp K H' z (tD (wrow p)) → Q z H'
def spCross (K : PySem.W.Frag) (o : Pl → Pl → Pl → Rt) : Sp := fun vs H Q _ => ∃ v u t a b c, vs = [v, u, t] ∧ Pla K H v a ∧ Pla K H u b ∧ Pla K H t c ∧ RatP a ∧ RatP b ∧ RatP c ∧ SzP 600 a ∧ SzP 600 b ∧ SzP 600 c ∧ ∀ H' z, Same H H' → Dp K H' z (rD (o a b c)) → Q z H'
def spNormal (K : PySem.W.Frag) : Sp := fun vs H Q _ => ∃ v u p s, vs = [v, u] ∧ Pla K H v p ∧ Pla K H u s ∧ RatP p ∧ RatP s ∧ SzP 600 p ∧ SzP 600 s ∧ ((stepF p s).1.1 ≠ 0 ∨ (stepF p s).2.1 ≠ 0) ∧ ∀ H' z, Same H H' → Dp K H' z (rD (dirOf ((stepF p s).2, rneg (stepF p s).1))) → Q z H'
def spP1 (K : PySem.W.Frag) (o : Pl → Pl) : Sp := fun vs H Q _ => ∃ v p, vs = [v] ∧ Pla K H v p ∧ ∀ H' z, Same H H' → Dp K H' z (pD (o p)) → Q z H'
theorem wrow_spec {p : Pl} (h : RatP p) : 0 < (wrow p).2.2 ∧ (wrow p).1 * p.1.2 = p.1.1 * (wrow p).2.2 ∧ (wrow p).2.1 * p.2.2 = p.2.1 * (wrow p).2.2 := by
  unfold wrow
  by_cases e : p.1.2 = p.2.2
  · rw [if_pos e]; exact ⟨h.1.1, rfl, by show p.2.1 * p.2.2 = p.2.1 * p.1.2; rw [e]⟩
  · rw [if_neg e]; exact ⟨Int.mul_pos h.1.1 h.2.1, by show p.1.1 * p.2.2 * p.1.2 = p.1.1 * (p.1.2 * p.2.2); grind, by show p.2.1 * p.1.2 * p.2.2 = p.2.1 * (p.1.2 * p.2.2); grind⟩
theorem wrow_sz {n : Nat} {p : Pl} (h : SzP n p) : Sz (n + n) (wrow p).1 ∧ Sz (n + n) (wrow p).2.1 ∧ Sz (n + n) (wrow p).2.2 := by
  unfold wrow
  split
  · exact ⟨sz_mono h.1.1 (by omega), sz_mono h.2.1 (by omega), sz_mono h.1.2 (by omega)⟩
  · exact ⟨sz_mul h.1.1 h.2.2, sz_mul h.2.1 h.1.2, sz_mul h.1.2 h.2.2⟩
section
variable {P : Program} {w : World} {K : PySem.W.Frag} {mg : Str → Option Value} {base : Heap}
theorem dp_t3 {H : Hp} {v : V} {f : Int × Int × Int} (h : Dp K H v (tD f)) : ∃ p, v = .ref p ∧ SqT K H p [.int f.1, .int f.2.1, .int f.2.2] := by
  cases h with
  | tup h g =>
    cases g with
    | cons h1 g => cases g with
      | cons h2 g => cases g with
        | cons h3 g => cases g with
          | nil =>
            rw [dp_int h1, dp_int h2, dp_int h3] at h
            exact ⟨_, rfl, h⟩
abbrev ssum_of : Stmt := topS 21
theorem scsum_of : FnScope ["row", "total", "one"] ["row"] (defScope ssum_of) := ⟨rfl, rfl, rfl, by decide +kernel, rfl, by decide +kernel, by decide +kernel⟩
theorem oksum_of (T : Txt K mg "sum_of" ssum_of) (Gplus : DefOk P w K mg base CX0 "plus" 2 ["one", "other"] (spBin K radd)) {zA : Addr} (gZ : mg "ZERO" = some (.ref zA)) (hZ : ∀ H, SqT K H zA [.int 0, .int 1]) : DefOk P w K mg base CX0 "sum_of" 3 ["row"] (spSum K) := by
  obtain ⟨f, fd, F, gf⟩ := T
  refine ⟨f, fd, gf, F.kp, F.binds (fun _ _ _ _ _ _ us hl => match us, hl with | [_], _ => rfl), F.ok scsum_of (fun vs H Q E h => ?_) (fun cdv A outer s H vs Q E hr h => ?_)⟩
  · obtain ⟨p, xs, rs, rfl, _⟩ := h; rfl
  · obtain ⟨p, xs, rs, rfl, hS, hD, hl, hr_, q⟩ := h
    refine ⟨_, (pss_cons (ps_set (i := 1) scsum_of.nd rfl (.inl rfl) (pe_glob (v := .ref zA) (by rfl) gZ rfl)) (pss_cons (ps_for PassesOwn.never rfl (pi_list (pv 0)) (pg_name (i := 2) scsum_of.nd rfl (.inl rfl)) (pss_one (ps_set (i := 1) scsum_of.nd rfl (.inl rfl) (pe_def Gplus (hr.mono (by decide)) (by rfl) (pa_cons (pv 1) (pa_cons (pv 2) pa_nil)))))) (pss_one (ps_ret (pv 1))))), ?_⟩
    have lx : xs.length = rs.length := by
      have : ∀ {vs : List V} {ds : List PyData}, DpAll K H vs ds → vs.length = ds.length := by
        intro vs ds h
        induction vs generalizing ds with
        | nil => cases h; rfl
        | cons v vs ih => cases h with
          | cons _ g => exact congrArg (· + 1) (ih g)
      rw [this hD, List.length_map]
    have at_ : ∀ {vs : List V} {ls : List Rt} {i : Nat} {x : V}, DpAll K H vs (ls.map rD) → vs[i]? = some x → ∃ r, ls[i]? = some r ∧ Dp K H x (rD r) := by
      intro vs
      induction vs with
      | nil => intro ls i x _ e; cases e
      | cons v vs ih =>
        intro ls i x h e
        cases ls with
        | nil => cases h
        | cons l ls =>
          cases h with
          | cons h1 g =>
            cases i with
            | zero => cases e; exact ⟨l, rfl, h1⟩
            | succ i => exact ih (i := i) g e
    refine ⟨.ref p, rfl, p, rfl, ⟨_, hS⟩, for_list (K := K) (a := p) (xs := xs) (fun i σ H' => ∃ (t : V) (y : Option V), σ = [some (.ref p), some t, y] ∧ Same H H' ∧ Dp K H' t (rD (sumR (rs.take i))))
      ⟨.ref zA, none, rfl, fun _ _ e => e, .tup (hZ H) (.cons (.int 0) (.cons (.int 1) .nil))⟩ (fun i σ H' _ ⟨_, _, _, s1, _⟩ => s1.seq hS) ?_ ?_⟩
    · rintro i x σ H' hi ⟨t, y, rfl, s1, ht⟩
      obtain ⟨r, er, hx⟩ := at_ hD hi
      have il : i < rs.length := (List.getElem?_eq_some_iff.mp er).1
      obtain ⟨rr, rz⟩ := hr_ r (List.mem_of_getElem? er)
      obtain ⟨ir, iz⟩ := sum_ok (rs := rs.take i) (n := 300) (fun z hz => hr_ z (List.mem_of_mem_take hz))
      have iz2 : SzR 2000 (sumR (rs.take i)) := szr_mono iz (by rw [List.length_take]; have : min i rs.length ≤ 4 := by omega
                                                                omega)
      refine ⟨t, rfl, x, rfl, t, x, _, r, rfl, ht, Dp_same s1 hx, ir, rr, iz2, szr_mono rz (by decide), fun H2 z s2 hz => ⟨z, some x, rfl, s1.trans s2, ?_⟩⟩
      rw [List.take_add_one, er]
      show Dp K H2 z (rD (sumR (rs.take i ++ [r])))
      rw [sumR_snoc]; exact hz
    · rintro σ H' ⟨t, y, rfl, s1, ht⟩
      rw [lx, List.take_length] at ht
      exact ⟨t, rfl, q H' t s1 ht⟩
end
end F3
set_option Elab.async false
set_option linter.all false
set_option maxRecDepth 100000
set_option maxHeartbeats 4000000
set_option exponentiation.threshold 3000
namespace F3
open PySem PySem.Spec PyProof.Rows L2 FX RM PB
def meanP (ps : List Pl) : Pl := (rmul (sumR (ps.map (·.1))) (1, (ps.length : Int)), rmul (sumR (ps.map (·.2))) (1, (ps.length : Int)))
def spMean (K : PySem.W.Frag) : Sp := fun vs H Q _ => ∃ p xs ps, vs = [.ref p] ∧ (SqL K H p xs ∨ SqT K H p xs) ∧ DpAll K H xs (ps.map pD) ∧ 0 < ps.length ∧ ps.length ≤ 4 ∧ (∀ r ∈ ps, RatP r ∧ SzP 300 r) ∧ ∀ H' z, Same H H' → Dp K H' z (pD (meanP ps)) → Q z H'
def spRawC (K : PySem.W.Frag) : Sp := fun vs H Q _ => ∃ v u t a b c, vs = [v, u, t] ∧ Pla K H v a ∧ Pla K H u b ∧ Pla K H t c ∧ RatP a ∧ RatP b ∧ RatP c ∧ SzP 600 a ∧ SzP 600 b ∧ SzP 600 c ∧ ∀ H' z, Same H H' → Dp K H' z (rD (rawC (wrow a) (wrow b) (wrow c))) → Q z H'
section
variable {P : Program} {w : World} {K : PySem.W.Frag} {mg : Str → Option Value} {base : Heap}
end
end F3
set_option Elab.async false
set_option linter.all false
set_option maxRecDepth 100000
set_option maxHeartbeats 4000000
namespace F3
open PySem PySem.Spec PyProof.Rows L2 FX RM PB
/-! kinds of data -/
def tyN : PyData → String
  | .none => "NoneType"
  | .bool _ => "bool"
  | .int _ => "int"
  | .str _ => "str"
  | .list _ => "list"
  | .tuple _ => "tuple"
  | .dict _ => "dict"
def isI : PyData → Bool
  | .int _ => true
  | .bool _ => true
  | _ => false
def isBo : PyData → Bool
  | .bool _ => true
  | _ => false
def isTu : PyData → Bool
  | .tuple _ => true
  | _ => false
def isRo : PyData → Bool
  | .tuple _ => true
  | .list _ => true
  | _ => false
theorem kit_int : ∀ d, kitB (tyN d) "int" = some (isI d)
  | .none => by show kitB "NoneType" "int" = some false; decide +kernel
  | .bool _ => by show kitB "bool" "int" = some true; decide +kernel
  | .int _ => by show kitB "int" "int" = some true; decide +kernel
  | .str _ => by show kitB "str" "int" = some false; decide +kernel
  | .list _ => by show kitB "list" "int" = some false; decide +kernel
  | .tuple _ => by show kitB "tuple" "int" = some false; decide +kernel
  | .dict _ => by show kitB "dict" "int" = some false; decide +kernel
theorem kit_bool : ∀ d, kitB (tyN d) "bool" = some (isBo d)
  | .none => by show kitB "NoneType" "bool" = some false; decide +kernel
  | .bool _ => by show kitB "bool" "bool" = some true; decide +kernel
  | .int _ => by show kitB "int" "bool" = some false; decide +kernel
  | .str _ => by show kitB "str" "bool" = some false; decide +kernel
  | .list _ => by show kitB "list" "bool" = some false; decide +kernel
  | .tuple _ => by show kitB "tuple" "bool" = some false; decide +kernel
  | .dict _ => by show kitB "dict" "bool" = some false; decide +kernel
theorem kit_tuple : ∀ d, kitB (tyN d) "tuple" = some (isTu d)
  | .none => by show kitB "NoneType" "tuple" = some false; decide +kernel
  | .bool _ => by show kitB "bool" "tuple" = some false; decide +kernel
  | .int _ => by show kitB "int" "tuple" = some false; decide +kernel
  | .str _ => by show kitB "str" "tuple" = some false; decide +kernel
  | .list _ => by show kitB "list" "tuple" = some false; decide +kernel
  | .tuple _ => by show kitB "tuple" "tuple" = some true; decide +kernel
  | .dict _ => by show kitB "dict" "tuple" = some false; decide +kernel
theorem kit_list : ∀ d, kitB (tyN d) "list" = some (match d with | .list _ => true | _ => false)
  | .none => by show kitB "NoneType" "list" = some false; decide +kernel
  | .bool _ => by show kitB "bool" "list" = some false; decide +kernel
  | .int _ => by show kitB "int" "list" = some false; decide +kernel
  | .str _ => by show kitB "str" "list" = some false; decide +kernel
  | .list _ => by show kitB "list" "list" = some true; decide +kernel
  | .tuple _ => by show kitB "tuple" "list" = some false; decide +kernel
  | .dict _ => by show kitB "dict" "list" = some false; decide +kernel
theorem kit_row {K : PySem.W.Frag} (d : PyData) : PySem.W.kitAny K (.type (tyN d)) [.type "list", .type "tuple"] = some (isRo d) := by
  refine kitAny_cons (kit_ty (kit_list d)) (fun _ => kitAny_cons (b := isTu d) (r := isRo d) (kit_ty (kit_tuple d)) (fun e => ?_) (fun e => ?_)) (fun e => ?_)
  · rw [kitAny_nil]; cases d <;> simp_all [isTu, isRo]
  · cases d <;> simp_all [isTu, isRo]
  · cases d <;> simp_all [isRo]
theorem tyx_t {K : PySem.W.Frag} {H : Hp} {a : Addr} {xs : List V} (h : SqT K H a xs) : TyX K H (.ref a) (.type "tuple") := by
  rcases h with (h | ⟨o, h⟩) | ⟨o, its, n, h, c, _⟩
  · exact .base (.tup h)
  · exact .fTuple h
  · exact .kTuple h c
theorem tyx_l {K : PySem.W.Frag} {H : Hp} {a : Addr} {xs : List V} (h : SqL K H a xs) : TyX K H (.ref a) (.type "list") := by
  rcases h with (h | ⟨o, h⟩) | ⟨o, its, n, h, c, _⟩
  · exact .base (.lst h)
  · exact .base (.frz h)
  · exact .kList h c
theorem dp_tyx {K : PySem.W.Frag} {H : Hp} {v : V} {d : PyData} (h : Dp K H v d) : TyX K H v (.type (tyN d)) := by
  cases h with
  | non => exact .base .non
  | bl b => exact .base (.bl b)
  | int i => exact .base (.int i)
  | str x => exact .base (.str x)
  | lst h _ => exact tyx_l h
  | tup h _ => exact tyx_t h
def isWh : PyData → Option Int → Bool
  | .int _, none => true
  | .int i, some l => decide (l ≤ i)
  | _, _ => false
def isRat : PyData → Bool
  | .tuple [.int t, .int b] => decide ((1 : Int) ≤ b) && decide (g2 t b = 1)
  | _ => false
def isPla : PyData → Bool
  | .tuple [a, b] => isRat a && isRat b
  | .list [a, b] => isRat a && isRat b
  | _ => false
def lowV : Option Int → V
  | none => .non
  | some l => .int l
theorem itF {c : Bool} {A B : Prop} (h : c = false) (b : B) : if c = true then A else B := by rw [h, if_neg Bool.false_ne_true]; exact b
theorem itT {c : Bool} {A B : Prop} (h : c = true) (a : A) : if c = true then A else B := by rw [h, if_pos rfl]; exact a
/-- a def with defaults -/
structure DefDf (P : Program) (w : World) (K : PySem.W.Frag) (mg : Str → Option Value) (base : Heap) (x : Str) (k : Nat) (ps : List Str) (dvs : List V) (sp : Sp) : Prop where
  ex : ∃ (f : Addr) (fd : FuncData) (ds : List Value), mg x = some (.ref f) ∧ PySem.W.keepIn K (.ref f) = true ∧ Vals dvs ds ∧ L2.Binds K fd ps ds ∧ FnOk P w K mg base CX0 k f fd ps sp
theorem len_two' {α : Type} : ∀ {l : List α}, l.length = 2 → ∃ a b, l = [a, b]
  | [a, b], _ => ⟨a, b, rfl⟩
section
variable {X : Cx}
theorem pe_defd {x : Str} {k : Nat} {ps : List Str} {dvs : List V} {sp : Sp} {e : Expr} {es : List Expr} {t : TA} {p pos : Pos} (D : DefDf X.prog X.w X.K X.mg X.base x k ps dvs sp) (hr : Room k X.A) (hg : Gl X x) (ha : PA X (e :: es) t)
    (hdb : (x == ("__debug__" : Str)) = false := by decide) (he : starEach (e :: es) X.env = (false, eval e X.env) :: starEach es X.env := by rfl) (hpl : (backTo pos (starEach es X.env)).any (·.1) = false := by rfl) :
    PE X (.Call (.Name x p) (e :: es) [] pos) (tCall sp dvs E0 t) := by
  obtain ⟨f, fd, ds, g, k, v, b, F⟩ := D.ex
  exact pe_call F hr hg g k b v pass0 ha hdb he hpl
end
def spWhole (K : PySem.W.Frag) : Sp := fun vs H Q _ => ∃ v d low, vs = [v, lowV low, .non] ∧ Dp K H v d ∧ Q (.bl (isWh d low)) H
def spIsR (K : PySem.W.Frag) : Sp := fun vs H Q _ => ∃ v d, vs = [v] ∧ Dp K H v d ∧ Q (.bl (isRat d)) H
def spRow (K : PySem.W.Frag) (o : PyData → Bool) : Sp := fun vs H Q _ => ∃ v d, vs = [v] ∧ Dp K H v d ∧ ∀ H', Same H H' → Q (.bl (o d)) H'
section
variable {P : Program} {w : World} {K : PySem.W.Frag} {mg : Str → Option Value} {base : Heap}
abbrev sis_whole : Stmt := topS 10
theorem scis_whole : FnScope ["thing", "low", "high"] ["thing", "low", "high"] (defScope sis_whole) := ⟨rfl, rfl, rfl, by decide +kernel, rfl, by decide +kernel, by decide +kernel⟩
theorem fnis_whole {f : Addr} {fd : FuncData} (F : FunD K "is_whole" "is_whole" (defArgs sis_whole) (defBody sis_whole) (defScope sis_whole) [.non, .non] [] f fd) (misinstance : mg "isinstance" = none) (mint : mg "int" = none) (mbool : mg "bool" = none) :
    FnOk P w K mg base CX0 1 f fd ["thing", "low", "high"] (spWhole K) := by
  refine F.ok scis_whole (fun vs H Q E h => ?_) (fun cdv A outer s H vs Q E hr h => ?_)
  · obtain ⟨v, d, low, rfl, _⟩ := h; rfl
  · obtain ⟨v, d, low, rfl, hv, q⟩ := h
    refine ⟨_, PSs.nox (pss_cons (ps_if (PW.pt (pw_or (pt_not (pt_val (pe_callB call_isi (by rfl) misinstance boot_isinstance (pa_cons (pv 0) (pa_cons (pe_bltn (v := .ty "int") (by rfl) mint (by decide +kernel) rfl) pa_nil))))) (pw_or1 (pt_val (pe_callB call_isi (by rfl) misinstance boot_isinstance (pa_cons (pv 0) (pa_cons (pe_bltn (v := .ty "bool") (by rfl) mbool (by decide +kernel) rfl) pa_nil))))))) (pss_one (ps_ret pe_bl)) pss_nil) (pss_one (ps_ret (pe_and (pe_or (pe_cmpR op_isN (pv 1) pe_non (nomark _)) (pe_one (pe_cmpR op_ge (pv 0) (pv 1) (nomark _)))) (pe_one (pe_or (pe_cmpR op_isN (pv 2) pe_non (nomark _)) (pe_one (pe_cmpR op_le (pv 0) (pv 2) (nomark _))))))))), ?_⟩
    have no : isI d = false → isWh d low = false := fun e => by cases d <;> simp_all [isI, isWh]
    have nb : isBo d = true → isWh d low = false := fun e => by cases d <;> simp_all [isBo, isWh]
    refine ⟨v, rfl, v, _, _, _, _, rfl, .ty _, dp_tyx hv, kit_ty (kit_int d), _, rfl, ?_⟩
    cases eI : isI d with
    | false => exact itT rfl (itT rfl (by show Q (.bl false) H; rw [no eI] at q; exact q))
    | true =>
      refine itF rfl ⟨v, rfl, v, _, _, _, _, rfl, .ty _, dp_tyx hv, kit_ty (kit_bool d), _, rfl, ?_⟩
      cases eB : isBo d with
      | true => exact itT rfl (by show Q (.bl false) H; rw [nb eB] at q; exact q)
      | false =>
        obtain ⟨i, rfl⟩ : ∃ i, d = .int i := by cases d <;> simp_all [isI, isBo]
        obtain rfl := dp_int hv
        refine itF rfl ?_
        cases low with
        | none => exact ⟨_, rfl, rfl, true, rfl, itT rfl ⟨true, rfl, itT rfl ⟨_, rfl, rfl, true, rfl, itT rfl q⟩⟩⟩
        | some l =>
          refine ⟨_, rfl, rfl, false, rfl, itF rfl ⟨_, rfl, _, rfl, _, _, rfl, rfl, _, rfl, ?_⟩⟩
          by_cases c : l ≤ i
          · rw [decide_eq_true c]
            have q2 : Q (.bl true) H := by have z : isWh (.int i) (some l) = true := decide_eq_true c; rw [z] at q; exact q
            exact itT rfl ⟨_, rfl, rfl, true, rfl, itT rfl q2⟩
          · rw [decide_eq_false c]
            have q2 : Q (.bl false) H := by have z : isWh (.int i) (some l) = false := decide_eq_false c; rw [z] at q; exact q
            exact itF rfl q2
theorem okis_whole1 {f : Addr} {fd : FuncData} (g : mg "is_whole" = some (.ref f)) (F : FunD K "is_whole" "is_whole" (defArgs sis_whole) (defBody sis_whole) (defScope sis_whole) [.non, .non] [] f fd) (misinstance : mg "isinstance" = none) (mint : mg "int" = none) (mbool : mg "bool" = none) :
    DefDf P w K mg base "is_whole" 1 ["thing", "low", "high"] [.non, .non] (spWhole K) := by
  obtain ⟨ds, hd, b⟩ := F.binds1 (ps := ["thing", "low", "high"]) 1 0 (List.cons_ne_nil _ _) rfl fun T kV doc pm an cdv ct us its hu hi => match us, hu, its, hi with | [_], _, [_, _], _ => ⟨_, rfl, rfl⟩
  exact ⟨f, fd, ds, g, F.kp, hd, b, fnis_whole F misinstance mint mbool⟩
theorem okis_whole2 {f : Addr} {fd : FuncData} (g : mg "is_whole" = some (.ref f)) (F : FunD K "is_whole" "is_whole" (defArgs sis_whole) (defBody sis_whole) (defScope sis_whole) [.non, .non] [] f fd) (misinstance : mg "isinstance" = none) (mint : mg "int" = none) (mbool : mg "bool" = none) :
    DefDf P w K mg base "is_whole" 1 ["thing", "low", "high"] [.non] (spWhole K) := by
  obtain ⟨ds, hd, b⟩ := F.binds1 (ps := ["thing", "low", "high"]) 2 1 (List.cons_ne_nil _ _) rfl fun T kV doc pm an cdv ct us its hu hi => match us, hu, its, hi with | [_, _], _, [_, _], _ => ⟨_, rfl, rfl⟩
  exact ⟨f, fd, ds, g, F.kp, hd, b, fnis_whole F misinstance mint mbool⟩
abbrev sis_ratio : Stmt := topS 11
theorem scis_ratio : FnScope ["thing"] ["thing"] (defScope sis_ratio) := ⟨rfl, rfl, rfl, by decide +kernel, rfl, by decide +kernel, by decide +kernel⟩
theorem okis_ratio (T : Txt K mg "is_ratio" sis_ratio) (Gw1 : DefDf P w K mg base "is_whole" 1 ["thing", "low", "high"] [.non, .non] (spWhole K)) (Gw2 : DefDf P w K mg base "is_whole" 1 ["thing", "low", "high"] [.non] (spWhole K)) (misinstance : mg "isinstance" = none) (mtuple : mg "tuple" = none) (mlen : mg "len" = none) (mgcd : mg "gcd" = some (.builtin "math.gcd")) : DefOk P w K mg base CX0 "is_ratio" 2 ["thing"] (spIsR K) := by
  obtain ⟨f, fd, F, gf⟩ := T
  refine ⟨f, fd, gf, F.kp, F.binds (fun _ _ _ _ _ _ us hl => match us, hl with | [_], _ => rfl), F.ok scis_ratio (fun vs H Q E h => ?_) (fun cdv A outer s H vs Q E hr h => ?_)⟩
  · obtain ⟨v, d, rfl, _⟩ := h; rfl
  · obtain ⟨v, d, rfl, hv, q⟩ := h
    refine ⟨_, (pss_cons (ps_if (PW.pt (pw_or (pt_not (pt_val (pe_callB call_isi (by rfl) misinstance boot_isinstance (pa_cons (pv 0) (pa_cons (pe_bltn (v := .ty "tuple") (by rfl) mtuple (by decide +kernel) rfl) pa_nil))))) (pw_or1 (pt_cmpR op_ne (pe_callB call_len_seq (by rfl) mlen PySem.boot_len (pa_cons (pv 0) pa_nil)) pe_int (nomark _))))) (pss_one (ps_ret pe_bl)) pss_nil) (pss_one (ps_ret (pe_and (pe_defd Gw1 (hr.mono (by decide)) (by rfl) (pa_cons (pe_ix ix_it (pv 0) pe_int (fun _ _ => rfl)) pa_nil)) (pe_and (pe_defd Gw2 (hr.mono (by decide)) (by rfl) (pa_cons (pe_ix ix_it (pv 0) pe_int (fun _ _ => rfl)) (pa_cons pe_int pa_nil))) (pe_one (pe_cmpR op_eq (pe_callBfun cr_gcd (by rfl) mgcd (pa_cons (pe_ix ix_it (pv 0) pe_int (fun _ _ => rfl)) (pa_cons (pe_ix ix_it (pv 0) pe_int (fun _ _ => rfl)) pa_nil))) pe_int (nomark _)))))))), ?_⟩
    refine ⟨v, rfl, v, _, _, _, _, rfl, .ty _, dp_tyx hv, kit_ty (kit_tuple d), _, rfl, ?_⟩
    cases eT : isTu d with
    | false =>
      have z : isRat d = false := by cases d <;> simp_all [isTu, isRat]
      rw [z] at q
      exact itT rfl (itT rfl q)
    | true =>
      cases hv with
      | non => cases eT
      | bl _ => cases eT
      | int _ => cases eT
      | str _ => cases eT
      | lst _ _ => cases eT
      | @tup a xs ds hs hd =>
        refine itF rfl ⟨.ref a, rfl, a, xs, rfl, .inr hs, rfl, _, rfl, ?_⟩
        by_cases l2 : xs.length = 2
        · have e0 : (!decide (V.int (xs.length : Int) = V.int 2)) = false := by rw [l2]; rfl
          refine itF e0 ?_
          obtain ⟨x, y, rfl⟩ := len_two' l2
          cases hd with
          | cons hx hd => cases hd with
            | @cons _ _ dy ds2 hy hd => cases hd with
              | nil =>
                rename_i dx
                have c : Cou K H (.ref a) x y := ⟨a, rfl, .inl hs⟩
                refine ⟨.ref a, rfl, x, y, 0, _, rfl, c, rfl, x, dx, none, rfl, hx, _, rfl, ?_⟩
                cases w1 : isWh dx none with
                | false =>
                  have z : isRat (.tuple [dx, dy]) = false := by cases dx <;> simp_all [isWh, isRat]
                  rw [z] at q
                  exact itF rfl q
                | true =>
                  obtain ⟨t, rfl⟩ : ∃ t, dx = .int t := by cases dx <;> simp_all [isWh]
                  refine itT rfl ⟨.ref a, rfl, x, y, 1, _, rfl, c, rfl, y, dy, some 1, rfl, hy, _, rfl, ?_⟩
                  cases w2 : isWh dy (some 1) with
                  | false =>
                    have z : isRat (.tuple [.int t, dy]) = false := by cases dy <;> simp_all [isWh, isRat] <;> (intro h; omega)
                    rw [z] at q
                    exact itF rfl q
                  | true =>
                    obtain ⟨b, rfl⟩ : ∃ b, dy = .int b := by cases dy <;> simp_all [isWh]
                    obtain rfl := dp_int hx
                    obtain rfl := dp_int hy
                    have b1 : (1 : Int) ≤ b := of_decide_eq_true w2
                    refine itT rfl ⟨.ref a, rfl, _, _, 0, _, rfl, c, rfl, .ref a, rfl, _, _, 1, _, rfl, c, rfl, t, b, rfl, rfl, ?_⟩
                    have z : isRat (.tuple [.int t, .int b]) = decide (V.int (g2 t b) = V.int 1) := by
                      show (decide ((1 : Int) ≤ b) && decide (g2 t b = 1)) = _
                      rw [decide_eq_true b1, Bool.true_and]
                      by_cases k : g2 t b = 1
                      · rw [decide_eq_true k, k]; rfl
                      · rw [decide_eq_false k, decide_eq_false (fun z => k (V.int.inj z))]
                    rw [z] at q
                    exact q
        · have e0 : (!decide (V.int (xs.length : Int) = V.int 2)) = true := by
            rw [decide_eq_false (fun z => l2 (by have := V.int.inj z; omega))]; rfl
          have z : isRat (.tuple ds) = false := by
            have dl := DpAll_len hd
            match ds, dl with
            | [], _ => rfl
            | [_], _ => simp [isRat]
            | [_, _], dl => exact absurd dl l2
            | _ :: _ :: _ :: _, _ => simp [isRat]
          rw [z] at q
          exact itT e0 q
end
end F3
set_option Elab.async false
set_option linter.all false
set_option maxRecDepth 100000
set_option maxHeartbeats 4000000
set_option exponentiation.threshold 3000
namespace F3
open PySem PySem.Spec PyProof.Rows L2 FX RM PB
section
variable {X : Cx}
theorem pe_defX {x : Str} {k : Nat} {ps : List Str} {sp : Sp} {E : XK} {e : Expr} {es : List Expr} {t : TA} {p pos : Pos} (D : DefOk X.prog X.w X.K X.mg X.base (L2.CX X.prog X.w) x k ps sp) (hr : Room k X.A) (hg : Gl X x) (ha : PA X (e :: es) t) (tk : Takes X (fun cls d _ H => E cls d H))
    (hdb : (x == ("__debug__" : Str)) = false := by decide) (he : starEach (e :: es) X.env = (false, eval e X.env) :: starEach es X.env := by rfl) (hpl : (backTo pos (starEach es X.env)).any (·.1) = false := by rfl) :
    PE X (.Call (.Name x p) (e :: es) [] pos) (tCall sp [] E t) := by
  obtain ⟨f, fd, g, k, b, F⟩ := D.ex
  exact pe_call F hr hg g k b .nil (passes_call tk fun _ _ _ _ h => h) ha hdb he hpl
theorem pe_defS {x : Str} {k : Nat} {ps : List Str} {sp : Sp} {W : WX} {e : Expr} {es : List Expr} {t : TA} {p pos : Pos} (D : DefOk X.prog X.w X.K X.mg X.base (L2.CX X.prog X.w) x k ps sp) (hr : Room k X.A) (hg : Gl X x) (ha : PA X (e :: es) t) (tk : Takes X W)
    (hdb : (x == ("__debug__" : Str)) = false := by decide) (he : starEach (e :: es) X.env = (false, eval e X.env) :: starEach es X.env := by rfl) (hpl : (backTo pos (starEach es X.env)).any (·.1) = false := by rfl) :
    PE X (.Call (.Name x p) (e :: es) [] pos) (tCallS sp (WE W) t) := by
  obtain ⟨f, fd, g, k, b, F⟩ := D.ex
  exact pe_callS F hr hg g k b (fun σ => passAt tk σ) ha hdb he hpl
end
def isSz : PyData → Bool
  | .tuple [.int t, .int b] => isRat (.tuple [.int t, .int b]) && decide (0 < t)
  | _ => false
def spCkP (K : PySem.W.Frag) : Sp := fun vs H Q E => ∃ v d, vs = [v] ∧ Dp K H v d ∧ (∀ a b, (d = .tuple [a, b] ∨ d = .list [a, b]) → isPla d = true → ∀ H' z, Same H H' → Dp K H' z (.tuple [a, b]) → Q z H') ∧ (isPla d = false → ∀ H', Same H H' → E (.ref (He.ga K "BadPlace")) none H')
def spCkA (K : PySem.W.Frag) (o : PyData → Bool) (x : Str) : Sp := fun vs H Q E => ∃ v d, vs = [v] ∧ Dp K H v d ∧ (o d = true → Q v H) ∧ (o d = false → E (.ref (He.ga K x)) none H)
def spWdX (K : PySem.W.Frag) : Sp := fun vs H Q E => ∃ x y : Int, vs = [.int x, .int y] ∧ Sz 8000 x ∧ Sz 8000 y ∧ ((x ≠ 0 ∨ y ≠ 0) → ∀ H' z, Same H H' → Dp K H' z (rD (norm x y)) → Q z H') ∧ ((x = 0 ∧ y = 0) → E (.ref (He.ga K "BadDirection")) none H)
def spDirX (K : PySem.W.Frag) : Sp := fun vs H Q E => ∃ v p, vs = [v] ∧ Pla K H v p ∧ RatP p ∧ SzP 2000 p ∧ ((p.1.1 ≠ 0 ∨ p.2.1 ≠ 0) → ∀ H' z, Same H H' → Dp K H' z (rD (dirOf p)) → Q z H') ∧ ((p.1.1 = 0 ∧ p.2.1 = 0) → E (.ref (He.ga K "BadDirection")) none H)
def spNorX (K : PySem.W.Frag) : Sp := fun vs H Q E => ∃ v u p s, vs = [v, u] ∧ Pla K H v p ∧ Pla K H u s ∧ RatP p ∧ RatP s ∧ SzP 600 p ∧ SzP 600 s ∧ (((stepF p s).1.1 ≠ 0 ∨ (stepF p s).2.1 ≠ 0) → ∀ H' z, Same H H' → Dp K H' z (rD (dirOf ((stepF p s).2, rneg (stepF p s).1))) → Q z H') ∧
  (((stepF p s).1.1 = 0 ∧ (stepF p s).2.1 = 0) → ∀ H', Same H H' → E (.ref (He.ga K "BadDirection")) none H')
section
variable {P : Program} {w : World} {K : PySem.W.Frag} {mg : Str → Option Value} {base : Heap}
end
end F3
set_option Elab.async false
set_option linter.all false
set_option maxRecDepth 100000
set_option maxHeartbeats 4000000
set_option exponentiation.threshold 3000
namespace F3
open PySem PySem.Spec PyProof.Rows L2 FX RM PB
/-- // by any number but nought -/
def CDivX (_ j : Int) : Prop := j ≠ 0 ∧ j.natAbs.log2 < 9000
section
variable {X : Cx}
theorem op_fdivX : OpR X (binaryOp .FloorDiv) (rI CDivX fun i j => .int (i.fdiv j)) := opI fun i j _ _ _ _ _ hc q => floordiv_int hc.1 q (.inl (PyProof.noPylong_of_log2 hc.2))
theorem pmk_exW {x : Str} {e : Expr} {es : List Expr} {ta : TA} {p pos : Pos} {names : List Str} (c : CT X.prog X.w X.K X.mg X.base x names) (hr : Room 2 X.A) (hg : Gl X x) (ha : PA X (e :: es) ta) (hne : names ≠ [] := by exact List.cons_ne_nil _ _)
    (hdb : (x == ("__debug__" : Str)) = false := by decide) (he : starEach (e :: es) X.env = (false, eval e X.env) :: starEach es X.env := by rfl) (hpl : (backTo pos (starEach es X.env)).any (·.1) = false := by rfl) :
    PMk X (.Call (.Name x p) (e :: es) [] pos) (tMkO (He.ga X.K x) (spInit (He.ga X.K x) names) [] ta) := by
  obtain ⟨fd, ps, F, b⟩ := c.con hne
  exact pmk_oex c.ok.o (c.ok.ini hne) (c.ok.ity hne) F hr b .nil pass0 hg c.g ha hdb he hpl
end
theorem wide_divX {i j : Int} {b : Nat} (h : j ≠ 0) (hb : j.natAbs < 2 ^ b) (h0 : 0 < b) (h9 : b ≤ 9000) : CDivX i j := ⟨h, Nat.lt_of_lt_of_le (PySem.Flt.log2_lt_of h0 hb) h9⟩
/-- an own error with one word, let out -/
def xE (K : PySem.W.Frag) (x what : Str) (E : XK) (H : Hp) : Prop := ∀ d H', Same H H' → H' d = some (.xd [("what", .str what)]) → E (.ref (He.ga K x)) (some d) H'
theorem xE.same {K : PySem.W.Frag} {x what : Str} {E : XK} {H H' : Hp} (h : xE K x what E H) (s : Same H H') : xE K x what E H' := fun d H2 s2 => h d H2 (s.trans s2)
theorem raise_ok {K : PySem.W.Frag} {x what : Str} {E : XK} {H : Hp} {σ : L2.St} (h : xE K x what E H) : tMkO (He.ga K x) (spInit (He.ga K x) ["what"]) [] (tCons (tC (.str what)) tNil) σ H (fun cls d H2 => E cls d H2) := by
  refine ⟨(by show 1 ≤ 1000; decide), fun a na => ⟨a, [.str what], rfl, rfl, upd_same, fun H' d keep ea ed nd => ?_⟩⟩
  have da : d ≠ a := fun e => by rw [e, upd_same] at nd; cases nd
  have hd : H d = none := by rw [upd_ne da] at nd; exact nd
  refine ⟨rfl, d, _, ea, ed, hd, h d _ (fun b o e => ?_) upd_same⟩
  have ba : b ≠ a := ne_of_none e na
  rw [upd_ne (ne_of_none e hd), del_ne ba]
  exact keep b o ba (by rw [upd_ne ba]; exact e)
/-- what a call may come to: an own error with a word, or data -/
def OutX (K : PySem.W.Frag) (o : Sum Str PyData) (H : Hp) (Q : VK) (E : XK) : Prop := match o with
  | .inl s => xE K "BadRatio" s E H
  | .inr d => ∀ H' z, Same H H' → Dp K H' z d → Q z H'
/-- any divisor but nought -/
def normG (t b : Int) : Rt := if b < 0 then norm (-t) (-b) else norm t b
theorem normG_pos {t b : Int} (h : 0 < b) : normG t b = norm t b := if_neg (by omega)
theorem normG_rat {t b : Int} (h : b ≠ 0) : IsRat (normG t b) := by
  unfold normG
  split
  · exact norm_rat (by omega)
  · exact norm_rat (by omega)
theorem g2_neg (t b : Int) : g2 (-t) (-b) = g2 t b := by unfold g2; rw [Int.natAbs_neg, Int.natAbs_neg]
theorem fdiv_neg_g {t b x : Int} (hb : b ≠ 0) (e : t = g2 t b * x) : t.fdiv (-g2 t b) = (-t) / g2 t b := by
  have gp := g2_pos (t := t) hb
  generalize g2 t b = g at *
  rw [e]
  have e1 : g * x = (-g) * (-x) := by grind
  have e2 : -(g * x) = g * (-x) := by grind
  rw [e2, e1, Int.mul_fdiv_cancel_left _ (by omega), Int.mul_ediv_cancel_left _ (by omega)]
def spLowG (K : PySem.W.Frag) : Sp := fun vs H Q _ => ∃ t b : Int, vs = [.int t, .int b] ∧ b ≠ 0 ∧ Sz 8000 t ∧ Sz 8000 b ∧ ∀ H' v, Same H H' → Dp K H' v (rD (normG t b)) → Q v H'
theorem DefOk.imp {P : Program} {w : World} {K : PySem.W.Frag} {mg : Str → Option Value} {base : Heap} {CX : CXT} {x : Str} {k : Nat} {ps : List Str} {sp sp' : Sp} (D : DefOk P w K mg base CX x k ps sp) (h : ∀ vs H Q E, sp' vs H Q E → sp vs H Q E) : DefOk P w K mg base CX x k ps sp' := by
  obtain ⟨f, fd, g, kp, b, F⟩ := D.ex
  exact ⟨f, fd, g, kp, b, F.imp h⟩
theorem low_of {P : Program} {w : World} {K : PySem.W.Frag} {mg : Str → Option Value} {base : Heap} {CX : CXT} {x : Str} {k : Nat} {ps : List Str} (D : DefOk P w K mg base CX x k ps (spLowG K)) : DefOk P w K mg base CX x k ps (spLow K) :=
  DefOk.imp D fun vs H Q E h => by
    obtain ⟨t, b, e, b0, zt, zb, q⟩ := h
    exact ⟨t, b, e, by omega, zt, zb, fun H' v s hv => q H' v s (by rw [normG_pos b0] at hv; exact hv)⟩
def mkO (d e : PyData) : Sum Str PyData := if isWh d none = false then .inl "top" else if isWh e none = false then .inl "bottom" else match d, e with
  | .int t, .int b => if b = 0 then .inl "bottom" else .inr (rD (normG t b))
  | _, _ => .inl "top"
theorem mkO_bot {d e : PyData} (h : isWh d none = true) (k : isWh e none = false) : mkO d e = .inl "bottom" := by
  unfold mkO
  rw [if_neg (by rw [h]; decide), if_pos k]
theorem mkO_int (t b : Int) : mkO (.int t) (.int b) = if b = 0 then .inl "bottom" else .inr (rD (normG t b)) := rfl
theorem isWh_int {d : PyData} (h : isWh d none = true) : ∃ t, d = .int t := by
  cases d with
  | int t => exact ⟨t, rfl⟩
  | _ => cases h
def szD (n : Nat) (d : PyData) : Prop := ∀ i, d = .int i → Sz n i
def spMakeX (K : PySem.W.Frag) : Sp := fun vs H Q E => ∃ v u d e, vs = [v, u] ∧ Dp K H v d ∧ Dp K H u e ∧ szD 2000 d ∧ szD 2000 e ∧ OutX K (mkO d e) H Q E
def ovO (r s : Rt) : Sum Str PyData := if s.1 = 0 then .inl "zero" else .inr (rD (normG (r.1 * s.2) (r.2 * s.1)))
def spOverX (K : PySem.W.Frag) : Sp := fun vs H Q E => ∃ v u r s, vs = [v, u] ∧ Dp K H v (rD r) ∧ Dp K H u (rD s) ∧ IsRat r ∧ IsRat s ∧ SzR 2000 r ∧ SzR 2000 s ∧ OutX K (ovO r s) H Q E
def isW3 (d : PyData) (low high : Option Int) : Bool := isWh d low && (match high, d with
  | some h, .int i => decide (i ≤ h)
  | _, _ => true)
def spWh3 (K : PySem.W.Frag) : Sp := fun vs H Q _ => ∃ v d low high, vs = [v, lowV low, lowV high] ∧ Dp K H v d ∧ Q (.bl (isW3 d low high)) H
theorem isW3_n (d : PyData) (low : Option Int) : isW3 d low none = isWh d low := by unfold isW3; rw [Bool.and_true]
theorem isW3_s (i h : Int) (low : Option Int) : isW3 (.int i) low (some h) = (isWh (.int i) low && decide (i ≤ h)) := rfl
def sgnC (i : Int) : Int := if i < 0 then -1 else if 0 < i then 1 else 0
def spSgn : Sp := fun vs H Q _ => ∃ i : Int, vs = [.int i] ∧ Q (.int (sgnC i)) H
def cmpR (r s : Rt) : Int := sgnC (r.1 * s.2 - s.1 * r.2)
def spCmp (K : PySem.W.Frag) : Sp := fun vs H Q _ => ∃ v u r s, vs = [v, u] ∧ Dp K H v (rD r) ∧ Dp K H u (rD s) ∧ SzR 2000 r ∧ SzR 2000 s ∧ Q (.int (cmpR r s)) H
/-- a row of ratios -/
def RowAt (K : PySem.W.Frag) (H : Hp) (p : Addr) (xs : List V) (rs : List Rt) : Prop := (SqL K H p xs ∨ SqT K H p xs) ∧ DpAll K H xs (rs.map rD)
def spSumG (K : PySem.W.Frag) : Sp := fun vs H Q _ => ∃ p xs rs, vs = [.ref p] ∧ RowAt K H p xs rs ∧ rs.length ≤ 6 ∧ (∀ r ∈ rs, IsRat r ∧ SzR 310 r) ∧ ∀ H' z, Same H H' → Dp K H' z (rD (sumR rs)) → Q z H'
def leR (r t : Rt) : Prop := 0 ≤ t.1 * r.2 - r.1 * t.2
theorem leR_refl (r : Rt) : leR r r := by unfold leR; rw [Int.sub_self]; exact Int.le_refl 0
theorem leR_trans {a b c : Rt} (ha : 0 < a.2) (hb : 0 < b.2) (hc : 0 < c.2) (h : leR a b) (k : leR b c) : leR a c := by
  unfold leR at *
  have e : (c.1 * a.2 - a.1 * c.2) * b.2 = (b.1 * a.2 - a.1 * b.2) * c.2 + (c.1 * b.2 - b.1 * c.2) * a.2 := by grind
  have p : 0 ≤ (c.1 * a.2 - a.1 * c.2) * b.2 := by
    rw [e]
    have := Int.mul_nonneg h (Int.le_of_lt hc)
    have := Int.mul_nonneg k (Int.le_of_lt ha)
    omega
  rcases Int.lt_or_le (c.1 * a.2 - a.1 * c.2) 0 with l | l
  · have := Int.mul_neg_of_neg_of_pos l hb; omega
  · exact l
/-- the least (o = leR) or the greatest of a row -/
def spExt (K : PySem.W.Frag) (o : Rt → Rt → Prop) : Sp := fun vs H Q _ => ∃ p xs rs, vs = [.ref p] ∧ RowAt K H p xs rs ∧ rs ≠ [] ∧ (∀ r ∈ rs, IsRat r ∧ SzR 310 r) ∧ ∀ z r, r ∈ rs → (∀ t ∈ rs, o r t) → Dp K H z (rD r) → Q z H
theorem for_seq {K : PySem.W.Frag} {a : Addr} {xs : List V} {j : Nat} {g : TG} {tb : TS} {D : Ends} {σ : L2.St} {H : Hp} (h0 : SqL K H a xs ∨ SqT K H a xs) (hj : σ[j]? = some (some (.ref a))) (Pv : Nat → L2.St → Hp → Prop) (p0 : Pv 0 σ H) (hS : ∀ i σ' H', Pv i σ' H' → Same H H')
    (hs : ∀ i x σ' H', xs[i]? = some x → Pv i σ' H' → g x σ' H' fun σ2 H2 => tb { D with nx := Pv (i + 1), ct := Pv (i + 1), bk := D.nx } σ2 H2) (hd : ∀ σ' H', Pv xs.length σ' H' → D.nx σ' H') : tFor (iSeq K (tVar j)) g tb D σ H := by
  rcases h0 with h0 | h0
  · exact .inl ⟨_, hj, a, rfl, ⟨_, h0⟩, for_list (K := K) (a := a) (xs := xs) Pv p0 (fun i σ' H' _ h => (hS i σ' H' h).seq h0) hs hd⟩
  · exact .inr ⟨_, hj, a, rfl, ⟨_, h0⟩, for_tup (K := K) (a := a) (xs := xs) Pv p0 (fun i σ' H' _ h => same_t (hS i σ' H' h) h0) hs hd⟩
theorem DpAll_rat {K : PySem.W.Frag} {H : Hp} : ∀ {vs : List V} {ls : List Rt} {i : Nat} {x : V}, DpAll K H vs (ls.map rD) → vs[i]? = some x → ∃ r, ls[i]? = some r ∧ Dp K H x (rD r)
  | [], _, _, _, _, e => by cases e
  | v :: vs, [], _, _, h, _ => by cases h
  | v :: vs, l :: ls, 0, x, .cons a b, e => by cases e; exact ⟨l, rfl, a⟩
  | v :: vs, l :: ls, i + 1, x, .cons a b, e => DpAll_rat (i := i) b e
theorem DpAll_lenR {K : PySem.W.Frag} {H : Hp} : ∀ {vs : List V} {ds : List PyData}, DpAll K H vs ds → vs.length = ds.length
  | _, _, .nil => rfl
  | _, _, .cons _ b => congrArg (· + 1) (DpAll_lenR b)
section
variable {P : Program} {w : World} {K : PySem.W.Frag} {mg : Str → Option Value} {base : Heap}
theorem fnis_whole3 {f : Addr} {fd : FuncData} (F : FunD K "is_whole" "is_whole" (defArgs sis_whole) (defBody sis_whole) (defScope sis_whole) [.non, .non] [] f fd) (misinstance : mg "isinstance" = none) (mint : mg "int" = none) (mbool : mg "bool" = none) :
    FnOk P w K mg base CX0 1 f fd ["thing", "low", "high"] (spWh3 K) := by
  refine F.ok scis_whole (fun vs H Q E h => ?_) (fun cdv A outer s H vs Q E hr h => ?_)
  · obtain ⟨v, d, low, high, rfl, _⟩ := h; rfl
  · obtain ⟨v, d, low, high, rfl, hv, q⟩ := h
    refine ⟨_, PSs.nox (pss_cons (ps_if (PW.pt (pw_or (pt_not (pt_val (pe_callB call_isi (by rfl) misinstance boot_isinstance (pa_cons (pv 0) (pa_cons (pe_bltn (v := .ty "int") (by rfl) mint (by decide +kernel) rfl) pa_nil))))) (pw_or1 (pt_val (pe_callB call_isi (by rfl) misinstance boot_isinstance (pa_cons (pv 0) (pa_cons (pe_bltn (v := .ty "bool") (by rfl) mbool (by decide +kernel) rfl) pa_nil))))))) (pss_one (ps_ret pe_bl)) pss_nil) (pss_one (ps_ret (pe_and (pe_or (pe_cmpR op_isN (pv 1) pe_non (nomark _)) (pe_one (pe_cmpR op_ge (pv 0) (pv 1) (nomark _)))) (pe_one (pe_or (pe_cmpR op_isN (pv 2) pe_non (nomark _)) (pe_one (pe_cmpR op_le (pv 0) (pv 2) (nomark _))))))))), ?_⟩
    have no : isI d = false → isW3 d low high = false := fun e => by cases d <;> simp_all [isI, isWh, isW3]
    have nb : isBo d = true → isW3 d low high = false := fun e => by cases d <;> simp_all [isBo, isWh, isW3]
    refine ⟨v, rfl, v, _, _, _, _, rfl, .ty _, dp_tyx hv, kit_ty (kit_int d), _, rfl, ?_⟩
    cases eI : isI d with
    | false => exact itT rfl (itT rfl (by show Q (.bl false) H; rw [no eI] at q; exact q))
    | true =>
      refine itF rfl ⟨v, rfl, v, _, _, _, _, rfl, .ty _, dp_tyx hv, kit_ty (kit_bool d), _, rfl, ?_⟩
      cases eB : isBo d with
      | true => exact itT rfl (by show Q (.bl false) H; rw [nb eB] at q; exact q)
      | false =>
        obtain ⟨i, rfl⟩ : ∃ i, d = .int i := by cases d <;> simp_all [isI, isBo]
        obtain rfl := dp_int hv
        refine itF rfl ?_
        cases low with
        | none =>
          refine ⟨_, rfl, rfl, true, rfl, itT rfl ⟨true, rfl, itT rfl ?_⟩⟩
          cases high with
          | none => exact ⟨_, rfl, rfl, true, rfl, itT rfl q⟩
          | some h => exact ⟨_, rfl, rfl, false, rfl, itF rfl ⟨_, rfl, _, rfl, _, _, rfl, rfl, q⟩⟩
        | some l =>
          refine ⟨_, rfl, rfl, false, rfl, itF rfl ⟨_, rfl, _, rfl, _, _, rfl, rfl, _, rfl, ?_⟩⟩
          by_cases c : l ≤ i
          · have z : isWh (.int i) (some l) = true := decide_eq_true c
            rw [decide_eq_true c]
            cases high with
            | none => exact itT rfl ⟨_, rfl, rfl, true, rfl, itT rfl (by rw [isW3_n, z] at q; exact q)⟩
            | some h => exact itT rfl ⟨_, rfl, rfl, false, rfl, itF rfl ⟨_, rfl, _, rfl, _, _, rfl, rfl, by rw [isW3_s, z, Bool.true_and] at q; exact q⟩⟩
          · have z : isWh (.int i) (some l) = false := decide_eq_false c
            rw [decide_eq_false c]
            exact itF rfl (by rw [show isW3 (.int i) (some l) high = false from (by unfold isW3; rw [z]; rfl)] at q; exact q)
theorem okGlowest_terms (T : Txt K mg "lowest_terms" slowest_terms) (mgcd : mg "gcd" = some (.builtin "math.gcd")) : DefOk P w K mg base CX0 "lowest_terms" 1 ["top", "bottom"] (spLowG K) := by
  obtain ⟨f, fd, F, gf⟩ := T
  refine ⟨f, fd, gf, F.kp, F.binds (fun _ _ _ _ _ _ us hl => match us, hl with | [_, _], _ => rfl), F.ok sclowest_terms (fun vs H Q E h => ?_) (fun cdv A outer s H vs Q E hr h => ?_)⟩
  · obtain ⟨t, b, rfl, _⟩ := h; rfl
  · obtain ⟨t, b, rfl, b0, zt, zb, q⟩ := h
    refine ⟨_, (pss_cons (ps_if (pt_cmpR op_eq (pv 1) pe_int (nomark _)) (pss_one (ps_ret (pe_tup (pa_cons (pv 0) (pa_cons pe_int pa_nil))))) pss_nil) (pss_cons (ps_set (i := 2) sclowest_terms.nd rfl (.inl rfl) (pe_callBfun cr_gcd (by rfl) mgcd (pa_cons (pv 0) (pa_cons (pv 1) pa_nil)))) (pss_cons (ps_if (pt_cmpR op_lt (pv 1) pe_int (nomark _)) (pss_one (ps_set (i := 2) sclowest_terms.nd rfl (.inl rfl) (pe_un un_neg (pv 2)))) pss_nil) (pss_one (ps_ret (pe_tup (pa_cons (pe_op op_fdivX (pv 0) (pv 2)) (pa_cons (pe_op op_fdivX (pv 1) (pv 2)) pa_nil)))))))), ?_⟩
    refine ⟨.int b, rfl, rfl, _, rfl, ite2 (fun e => ?_) (fun e => ?_)⟩
    · have e1 : b = 1 := V.int.inj (of_decide_eq_true e)
      subst e1
      refine ⟨_, rfl, (by show 2 ≤ sizeLine; decide), fun p np => q _ _ (PB.same_new np) ?_⟩
      rw [normG_pos (by decide), norm_one]; exact dp_mkr np
    · have bn : b ≠ 0 := b0
      have gp := g2_pos (t := t) bn
      have gz := sz_g (t := t) bn zb
      refine ⟨_, rfl, _, rfl, t, b, rfl, ?_⟩
      show tSeq _ _ _ [some (.int t), some (.int b), some (.int (g2 t b))] H
      obtain ⟨x, hx⟩ := g2_l t b
      obtain ⟨y, hy⟩ := g2_r t b
      refine ⟨_, rfl, _, _, rfl, rfl, _, rfl, ite2 (fun e => ?_) (fun e => ?_)⟩
      · have h : b < 0 := of_decide_eq_true e
        have n1 : Sz 8000 (-g2 t b) := sz_neg gz
        have n2 : -g2 t b ≠ 0 := by omega
        refine ⟨_, rfl, _, rfl, _, rfl, _, rfl, _, _, rfl, rfl, wide_divX n2 n1 (by decide) (by decide), _, rfl, _, rfl, _, _, rfl, rfl, wide_divX n2 n1 (by decide) (by decide), (by show 2 ≤ sizeLine; decide), fun p np => q _ _ (PB.same_new np) ?_⟩
        have z : normG t b = (t.fdiv (-g2 t b), b.fdiv (-g2 t b)) := by
          unfold normG norm
          rw [if_pos h, g2_neg, fdiv_neg_g bn hx]
          have : b.fdiv (-g2 t b) = (-b) / g2 t b := by
            have gp2 := gp
            generalize g2 t b = g at *
            rw [hy]
            have e1 : g * y = (-g) * (-y) := by grind
            have e2 : -(g * y) = g * (-y) := by grind
            rw [e2, e1, Int.mul_fdiv_cancel_left _ (by omega), Int.mul_ediv_cancel_left _ (by omega)]
          rw [this]
        rw [z]; exact dp_mkr np
      · have h : ¬ b < 0 := fun z => e (decide_eq_true z)
        have n2 : g2 t b ≠ 0 := by omega
        refine ⟨_, rfl, _, rfl, _, _, rfl, rfl, wide_divX n2 gz (by decide) (by decide), _, rfl, _, rfl, _, _, rfl, rfl, wide_divX n2 gz (by decide) (by decide), (by show 2 ≤ sizeLine; decide), fun p np => q _ _ (PB.same_new np) ?_⟩
        have z : normG t b = (t.fdiv (g2 t b), b.fdiv (g2 t b)) := by
          unfold normG norm
          rw [if_neg h, Int.fdiv_eq_ediv_of_nonneg _ (by omega), Int.fdiv_eq_ediv_of_nonneg _ (by omega)]
        rw [z]; exact dp_mkr np
abbrev smake_ratio : Stmt := topS 13
theorem scmake_ratio : FnScope ["top", "bottom"] ["top", "bottom"] (defScope smake_ratio) := ⟨rfl, rfl, rfl, by decide +kernel, rfl, by decide +kernel, by decide +kernel⟩
theorem okXmake_ratio (T : Txt K mg "make_ratio" smake_ratio) (cBR : CT P w K mg base "BadRatio" ["what"]) (Gw1 : DefDf P w K mg base "is_whole" 1 ["thing", "low", "high"] [.non, .non] (spWhole K)) (Glowest_terms : DefOk P w K mg base CX0 "lowest_terms" 1 ["top", "bottom"] (spLowG K)) : DefOk P w K mg base (L2.CX P w) "make_ratio" 3 ["top", "bottom"] (spMakeX K) := by
  obtain ⟨f, fd, F, gf⟩ := T
  refine ⟨f, fd, gf, F.kp, F.binds (fun _ _ _ _ _ _ us hl => match us, hl with | [_, _], _ => rfl), F.okX scmake_ratio (fun vs H Q E h => ?_) (fun cdv A outer s H vs Q E hr h => ?_)⟩
  · obtain ⟨v, u, d, e, rfl, _⟩ := h; rfl
  · obtain ⟨v, u, d, e, rfl, hv, hu, zd, ze, o⟩ := h
    refine ⟨_, (pss_cons (ps_if (pt_not (pt_val (pe_defd Gw1 (hr.mono (by decide)) (by rfl) (pa_cons (pv 0) pa_nil)))) (pss_one (ps_raise rfl (takes_of rfl rfl rfl rfl) (pmk_exW cBR (hr.mono (by decide)) (by rfl) (pa_cons pe_str pa_nil)))) pss_nil) (pss_cons (ps_if (PW.pt (pw_or (pt_not (pt_val (pe_defd Gw1 (hr.mono (by decide)) (by rfl) (pa_cons (pv 1) pa_nil)))) (pw_or1 (pt_cmpR op_eq (pv 1) pe_int (nomark _))))) (pss_one (ps_raise rfl (takes_of rfl rfl rfl rfl) (pmk_exW cBR (hr.mono (by decide)) (by rfl) (pa_cons pe_str pa_nil)))) pss_nil) (pss_one (ps_ret (pe_def Glowest_terms (hr.mono (by decide)) (by rfl) (pa_cons (pv 0) (pa_cons (pv 1) pa_nil))))))), ?_⟩
    refine ⟨v, rfl, v, d, none, rfl, hv, _, rfl, ?_⟩
    cases ed : isWh d none with
    | false =>
      refine itT rfl (raise_ok ?_)
      have z : mkO d e = .inl "top" := if_pos ed
      rw [z] at o; exact o
    | true =>
      refine itF rfl ⟨u, rfl, u, e, none, rfl, hu, _, rfl, ?_⟩
      cases ee : isWh e none with
      | false =>
        refine itT rfl (itT rfl (raise_ok ?_))
        rw [mkO_bot ed ee] at o; exact o
      | true =>
        obtain ⟨t, rfl⟩ := isWh_int ed
        obtain ⟨b, rfl⟩ := isWh_int ee
        obtain rfl := dp_int hv
        obtain rfl := dp_int hu
        refine itF rfl ⟨_, rfl, rfl, _, rfl, ?_⟩
        by_cases b0 : b = 0
        · refine itT (decide_eq_true (congrArg V.int b0)) (raise_ok ?_)
          have z : mkO (.int t) (.int b) = .inl "bottom" := (mkO_int t b).trans (if_pos b0)
          rw [z] at o; exact o
        · refine itF (decide_eq_false fun z => b0 (V.int.inj z)) ?_
          have z : mkO (.int t) (.int b) = .inr (rD (normG t b)) := (mkO_int t b).trans (if_neg b0)
          rw [z] at o
          exact ⟨_, rfl, _, rfl, t, b, rfl, b0, sz_mono (zd t rfl) (by decide), sz_mono (ze b rfl) (by decide), o⟩
theorem okXover (T : Txt K mg "over" sover) (cBR : CT P w K mg base "BadRatio" ["what"]) (Glowest_terms : DefOk P w K mg base CX0 "lowest_terms" 1 ["top", "bottom"] (spLowG K)) : DefOk P w K mg base (L2.CX P w) "over" 3 ["one", "other"] (spOverX K) := by
  obtain ⟨f, fd, F, gf⟩ := T
  refine ⟨f, fd, gf, F.kp, F.binds (fun _ _ _ _ _ _ us hl => match us, hl with | [_, _], _ => rfl), F.okX scover (fun vs H Q E h => ?_) (fun cdv A outer s H vs Q E hr h => ?_)⟩
  · obtain ⟨v, u, r, s_, rfl, _⟩ := h; rfl
  · obtain ⟨v, u, r, s_, rfl, hv, hu, ir, is_, zr, zs, o⟩ := h
    refine ⟨_, (pss_cons (ps_if (pt_cmpR op_eq (pe_ix ix_it (pv 1) pe_int (fun _ _ => rfl)) pe_int (nomark _)) (pss_one (ps_raise rfl (takes_of rfl rfl rfl rfl) (pmk_exW cBR (hr.mono (by decide)) (by rfl) (pa_cons pe_str pa_nil)))) pss_nil) (pss_one (ps_ret (pe_def Glowest_terms (hr.mono (by decide)) (by rfl) (pa_cons (pe_op op_mulW (pe_ix ix_it (pv 0) pe_int (fun _ _ => rfl)) (pe_ix ix_it (pv 1) pe_int (fun _ _ => rfl))) (pa_cons (pe_op op_mulW (pe_ix ix_it (pv 0) pe_int (fun _ _ => rfl)) (pe_ix ix_it (pv 1) pe_int (fun _ _ => rfl))) pa_nil)))))), ?_⟩
    have c1 := cou_r hv
    have c2 := cou_r hu
    refine ⟨u, rfl, _, _, 0, _, rfl, c2, rfl, rfl, _, rfl, ?_⟩
    by_cases e : s_.1 = 0
    · refine itT (decide_eq_true (congrArg V.int e)) (raise_ok ?_)
      have z : ovO r s_ = .inl "zero" := if_pos e
      rw [z] at o; exact o
    · refine itF (decide_eq_false fun z => e (V.int.inj z)) ?_
      have z : ovO r s_ = .inr (rD (normG (r.1 * s_.2) (r.2 * s_.1))) := if_neg e
      rw [z] at o
      exact ⟨v, rfl, _, _, 0, _, rfl, c1, rfl, u, rfl, _, _, 1, _, rfl, c2, rfl, _, _, rfl, rfl, wide_mul zr.1 zs.2 (by decide) (by decide) (by decide), v, rfl, _, _, 1, _, rfl, c1, rfl, u, rfl, _, _, 0, _, rfl, c2, rfl, _, _, rfl, rfl, wide_mul zr.2 zs.1 (by decide) (by decide) (by decide), _, _, rfl, Int.mul_ne_zero (by have := ir.1; omega) e, sz_mono (sz_mul zr.1 zs.2) (by decide), sz_mono (sz_mul zr.2 zs.1) (by decide), o⟩
abbrev ssign_of : Stmt := topS 19
theorem scsign_of : FnScope ["number"] ["number"] (defScope ssign_of) := ⟨rfl, rfl, rfl, by decide +kernel, rfl, by decide +kernel, by decide +kernel⟩
theorem oksign_of (T : Txt K mg "sign_of" ssign_of)  : DefOk P w K mg base CX0 "sign_of" 1 ["number"] spSgn := by
  obtain ⟨f, fd, F, gf⟩ := T
  refine ⟨f, fd, gf, F.kp, F.binds (fun _ _ _ _ _ _ us hl => match us, hl with | [_], _ => rfl), F.ok scsign_of (fun vs H Q E h => ?_) (fun cdv A outer s H vs Q E hr h => ?_)⟩
  · obtain ⟨i, rfl, _⟩ := h; rfl
  · obtain ⟨i, rfl, q⟩ := h
    refine ⟨_, (pss_cons (ps_if (pt_cmpR op_lt (pv 0) pe_int (nomark _)) (pss_one (ps_ret (pe_un un_neg pe_int))) pss_nil) (pss_cons (ps_if (pt_cmpR op_gt (pv 0) pe_int (nomark _)) (pss_one (ps_ret pe_int)) pss_nil) (pss_one (ps_ret pe_int)))), ?_⟩
    refine ⟨_, rfl, _, _, rfl, rfl, _, rfl, ite2 (fun e => ?_) (fun e => ?_)⟩
    · have h : i < 0 := of_decide_eq_true e
      have z : sgnC i = -1 := if_pos h
      rw [z] at q
      exact ⟨_, rfl, q⟩
    · have h : ¬ i < 0 := fun z => e (decide_eq_true z)
      refine ⟨_, rfl, _, _, rfl, rfl, _, rfl, ite2 (fun e2 => ?_) (fun e2 => ?_)⟩
      · have h2 : 0 < i := of_decide_eq_true e2
        have z : sgnC i = 1 := by unfold sgnC; rw [if_neg h, if_pos h2]
        rw [z] at q
        exact q
      · have h2 : ¬ 0 < i := fun z => e2 (decide_eq_true z)
        have z : sgnC i = 0 := by unfold sgnC; rw [if_neg h, if_neg h2]
        rw [z] at q
        exact q
abbrev scompare : Stmt := topS 20
theorem sccompare : FnScope ["one", "other"] ["one", "other"] (defScope scompare) := ⟨rfl, rfl, rfl, by decide +kernel, rfl, by decide +kernel, by decide +kernel⟩
theorem okcompare (T : Txt K mg "compare" scompare) (Gsign_of : DefOk P w K mg base CX0 "sign_of" 1 ["number"] spSgn) : DefOk P w K mg base CX0 "compare" 2 ["one", "other"] (spCmp K) := by
  obtain ⟨f, fd, F, gf⟩ := T
  refine ⟨f, fd, gf, F.kp, F.binds (fun _ _ _ _ _ _ us hl => match us, hl with | [_, _], _ => rfl), F.ok sccompare (fun vs H Q E h => ?_) (fun cdv A outer s H vs Q E hr h => ?_)⟩
  · obtain ⟨v, u, r, s_, rfl, _⟩ := h; rfl
  · obtain ⟨v, u, r, s_, rfl, hv, hu, zr, zs, q⟩ := h
    refine ⟨_, (pss_one (ps_ret (pe_def Gsign_of (hr.mono (by decide)) (by rfl) (pa_cons (pe_op op_sub (pe_op op_mulW (pe_ix ix_it (pv 0) pe_int (fun _ _ => rfl)) (pe_ix ix_it (pv 1) pe_int (fun _ _ => rfl))) (pe_op op_mulW (pe_ix ix_it (pv 1) pe_int (fun _ _ => rfl)) (pe_ix ix_it (pv 0) pe_int (fun _ _ => rfl)))) pa_nil)))), ?_⟩
    have c1 := cou_r hv
    have c2 := cou_r hu
    
    exact ⟨v, rfl, _, _, 0, _, rfl, c1, rfl, u, rfl, _, _, 1, _, rfl, c2, rfl, _, _, rfl, rfl, wide_mul zr.1 zs.2 (by decide) (by decide) (by decide), u, rfl, _, _, 0, _, rfl, c2, rfl, v, rfl, _, _, 1, _, rfl, c1, rfl, _, _, rfl, rfl, wide_mul zs.1 zr.2 (by decide) (by decide) (by decide), _, _, rfl, rfl, _, rfl, q⟩
theorem okGsum_of (T : Txt K mg "sum_of" ssum_of) (Gplus : DefOk P w K mg base CX0 "plus" 2 ["one", "other"] (spBin K radd)) {zA : Addr} (gZ : mg "ZERO" = some (.ref zA)) (hZ : ∀ H, SqT K H zA [.int 0, .int 1]) : DefOk P w K mg base CX0 "sum_of" 3 ["row"] (spSumG K) := by
  obtain ⟨f, fd, F, gf⟩ := T
  refine ⟨f, fd, gf, F.kp, F.binds (fun _ _ _ _ _ _ us hl => match us, hl with | [_], _ => rfl), F.ok scsum_of (fun vs H Q E h => ?_) (fun cdv A outer s H vs Q E hr h => ?_)⟩
  · obtain ⟨p, xs, rs, rfl, _⟩ := h; rfl
  · obtain ⟨p, xs, rs, rfl, ⟨hS, hD⟩, hl, hr_, q⟩ := h
    refine ⟨_, (pss_cons (ps_set (i := 1) scsum_of.nd rfl (.inl rfl) (pe_glob (v := .ref zA) (by rfl) gZ rfl)) (pss_cons (ps_for PassesOwn.never rfl (pi_seq (pv 0)) (pg_name (i := 2) scsum_of.nd rfl (.inl rfl)) (pss_one (ps_set (i := 1) scsum_of.nd rfl (.inl rfl) (pe_def Gplus (hr.mono (by decide)) (by rfl) (pa_cons (pv 1) (pa_cons (pv 2) pa_nil)))))) (pss_one (ps_ret (pv 1))))), ?_⟩
    have lx : xs.length = rs.length := by rw [DpAll_lenR hD, List.length_map]
    refine for_seq hS rfl (fun i σ H' => ∃ (t : V) (y : Option V), σ = [some (.ref p), some t, y] ∧ Same H H' ∧ Dp K H' t (rD (sumR (rs.take i))))
      ⟨.ref zA, none, rfl, fun _ _ e => e, .tup (hZ H) (.cons (.int 0) (.cons (.int 1) .nil))⟩ (fun i σ H' ⟨_, _, _, s1, _⟩ => s1) ?_ ?_
    · rintro i x σ H' hi ⟨t, y, rfl, s1, ht⟩
      obtain ⟨r, er, hx⟩ := DpAll_rat hD hi
      have il : i < rs.length := (List.getElem?_eq_some_iff.mp er).1
      obtain ⟨rr, rz⟩ := hr_ r (List.mem_of_getElem? er)
      obtain ⟨ir, iz⟩ := sum_ok (rs := rs.take i) (n := 310) (fun z hz => hr_ z (List.mem_of_mem_take hz))
      have iz2 : SzR 2000 (sumR (rs.take i)) := szr_mono iz (by rw [List.length_take]; have : min i rs.length ≤ 6 := by omega
                                                                omega)
      refine ⟨t, rfl, x, rfl, t, x, _, r, rfl, ht, Dp_same s1 hx, ir, rr, iz2, szr_mono rz (by decide), fun H2 z s2 hz => ⟨z, some x, rfl, s1.trans s2, ?_⟩⟩
      rw [List.take_add_one, er]
      show Dp K H2 z (rD (sumR (rs.take i ++ [r])))
      rw [sumR_snoc]; exact hz
    · rintro σ H' ⟨t, y, rfl, s1, ht⟩
      rw [lx, List.take_length] at ht
      exact ⟨t, rfl, q H' t s1 ht⟩
theorem at0 (x : V) (l : List V) : atI (x :: l) 0 = some x := by
  unfold atI ixN
  simp
theorem row_head {H : Hp} {p : Addr} {xs : List V} {rs : List Rt} (h : RowAt K H p xs rs) (ne : rs ≠ []) : ∃ x xs' r rs', xs = x :: xs' ∧ rs = r :: rs' ∧ Dp K H x (rD r) := by
  obtain ⟨hS, hD⟩ := h
  cases rs with
  | nil => exact absurd rfl ne
  | cons r rs => cases hD with
    | cons a b => exact ⟨_, _, r, rs, rfl, rfl, a⟩
theorem sgnC_neg {i : Int} : (decide (sgnC i < 0)) = decide (i < 0) := by
  rw [decide_eq_decide]; unfold sgnC; split
  · omega
  · split <;> omega
theorem sgnC_pos {i : Int} : (decide (0 < sgnC i)) = decide (0 < i) := by
  rw [decide_eq_decide]; unfold sgnC; split
  · omega
  · split <;> omega
abbrev sleast_of : Stmt := topS 22
theorem scleast_of : FnScope ["row", "least", "one"] ["row"] (defScope sleast_of) := ⟨rfl, rfl, rfl, by decide +kernel, rfl, by decide +kernel, by decide +kernel⟩
theorem okleast_of (T : Txt K mg "least_of" sleast_of) (Gcompare : DefOk P w K mg base CX0 "compare" 2 ["one", "other"] (spCmp K)) : DefOk P w K mg base CX0 "least_of" 3 ["row"] (spExt K leR) := by
  obtain ⟨f, fd, F, gf⟩ := T
  refine ⟨f, fd, gf, F.kp, F.binds (fun _ _ _ _ _ _ us hl => match us, hl with | [_], _ => rfl), F.ok scleast_of (fun vs H Q E h => ?_) (fun cdv A outer s H vs Q E hr h => ?_)⟩
  · obtain ⟨p, xs, rs, rfl, _⟩ := h; rfl
  · obtain ⟨p, xs, rs, rfl, hR, ne, zz, q⟩ := h
    refine ⟨_, (pss_cons (ps_set (i := 1) scleast_of.nd rfl (.inl rfl) (pe_ix ix_seq (pv 0) pe_int (fun _ _ => rfl))) (pss_cons (ps_for PassesOwn.never rfl (pi_seq (pv 0)) (pg_name (i := 2) scleast_of.nd rfl (.inl rfl)) (pss_one (ps_if (pt_cmpR op_lt (pe_def Gcompare (hr.mono (by decide)) (by rfl) (pa_cons (pv 2) (pa_cons (pv 1) pa_nil))) pe_int (nomark _)) (pss_one (ps_set (i := 1) scleast_of.nd rfl (.inl rfl) (pv 2))) pss_nil))) (pss_one (ps_ret (pv 1))))), ?_⟩
    have lx : xs.length = rs.length := by rw [DpAll_lenR hR.2, List.length_map]
    obtain ⟨x0, xs', r0, rs', ex, er0, h0⟩ := row_head hR ne
    have ix : ∀ Q' : VK, Q' x0 H → rIx K (.ref p) (.int 0) H Q' := fun Q' h => hR.1.elim (fun l => .inl ⟨p, xs, 0, x0, rfl, rfl, l, by rw [ex]; exact atI_nat (j := 0) rfl, h⟩) (fun l => .inr (.inl ⟨p, xs, 0, x0, rfl, rfl, l, by rw [ex]; exact atI_nat (j := 0) rfl, h⟩))
    refine ⟨_, rfl, ix _ ?_⟩
    refine for_seq hR.1 rfl (fun i σ H' => ∃ (t : V) (r : Rt) (y : Option V), σ = [some (.ref p), some t, y] ∧ H' = H ∧ r ∈ rs ∧ Dp K H t (rD r) ∧ ∀ k ∈ rs.take i, leR r k)
      ⟨x0, r0, none, rfl, rfl, by rw [er0]; exact List.mem_cons_self .., h0, fun k hk => by simp at hk⟩ (fun i σ H' h => by obtain ⟨_, _, _, _, e, _⟩ := h; rw [e]; exact fun _ _ e => e) ?_ ?_
    · rintro i x σ H' hi ⟨t, r, y, rfl, rfl, mr, ht, hk⟩
      obtain ⟨u, eu, hx⟩ := DpAll_rat hR.2 hi
      have mu := List.mem_of_getElem? eu
      have tk : rs.take (i + 1) = rs.take i ++ [u] := by rw [List.take_add_one, eu]; rfl
      refine ⟨x, rfl, t, rfl, x, t, u, r, rfl, hx, ht, szr_mono (zz u mu).2 (by decide), szr_mono (zz r mr).2 (by decide), ?_⟩
      refine ⟨_, _, rfl, rfl, _, rfl, ?_⟩
      by_cases c : u.1 * r.2 - r.1 * u.2 < 0
      · refine itT (by rw [show cmpR u r = sgnC (u.1 * r.2 - r.1 * u.2) from rfl, sgnC_neg]; exact decide_eq_true c) ⟨x, rfl, x, u, _, rfl, rfl, mu, hx, fun k hk2 => ?_⟩
        rw [tk] at hk2
        have hb : leR u r := by show 0 ≤ _; omega
        rcases List.mem_append.mp hk2 with m | m
        · have ha := hk k m
          have b1 := (zz k (List.mem_of_mem_take m)).1.1
          have b2 := (zz r mr).1.1
          have b3 := (zz u mu).1.1
          exact (leR_trans b3 b2 b1 hb ha)
        · rw [List.mem_singleton.mp m]; exact leR_refl u
      · refine itF (by rw [show cmpR u r = sgnC (u.1 * r.2 - r.1 * u.2) from rfl, sgnC_neg]; exact decide_eq_false c) ⟨t, r, some x, rfl, rfl, mr, ht, fun k hk2 => ?_⟩
        rw [tk] at hk2
        rcases List.mem_append.mp hk2 with m | m
        · exact hk k m
        · rw [List.mem_singleton.mp m]; show 0 ≤ _; omega
    · rintro σ H' ⟨t, r, y, rfl, rfl, mr, ht, hk⟩
      rw [lx, List.take_length] at hk
      exact ⟨t, rfl, q t r mr hk ht⟩
abbrev sgreatest_of : Stmt := topS 23
theorem scgreatest_of : FnScope ["row", "greatest", "one"] ["row"] (defScope sgreatest_of) := ⟨rfl, rfl, rfl, by decide +kernel, rfl, by decide +kernel, by decide +kernel⟩
theorem okgreatest_of (T : Txt K mg "greatest_of" sgreatest_of) (Gcompare : DefOk P w K mg base CX0 "compare" 2 ["one", "other"] (spCmp K)) : DefOk P w K mg base CX0 "greatest_of" 3 ["row"] (spExt K (fun r t => leR t r)) := by
  obtain ⟨f, fd, F, gf⟩ := T
  refine ⟨f, fd, gf, F.kp, F.binds (fun _ _ _ _ _ _ us hl => match us, hl with | [_], _ => rfl), F.ok scgreatest_of (fun vs H Q E h => ?_) (fun cdv A outer s H vs Q E hr h => ?_)⟩
  · obtain ⟨p, xs, rs, rfl, _⟩ := h; rfl
  · obtain ⟨p, xs, rs, rfl, hR, ne, zz, q⟩ := h
    refine ⟨_, (pss_cons (ps_set (i := 1) scgreatest_of.nd rfl (.inl rfl) (pe_ix ix_seq (pv 0) pe_int (fun _ _ => rfl))) (pss_cons (ps_for PassesOwn.never rfl (pi_seq (pv 0)) (pg_name (i := 2) scgreatest_of.nd rfl (.inl rfl)) (pss_one (ps_if (pt_cmpR op_gt (pe_def Gcompare (hr.mono (by decide)) (by rfl) (pa_cons (pv 2) (pa_cons (pv 1) pa_nil))) pe_int (nomark _)) (pss_one (ps_set (i := 1) scgreatest_of.nd rfl (.inl rfl) (pv 2))) pss_nil))) (pss_one (ps_ret (pv 1))))), ?_⟩
    have lx : xs.length = rs.length := by rw [DpAll_lenR hR.2, List.length_map]
    obtain ⟨x0, xs', r0, rs', ex, er0, h0⟩ := row_head hR ne
    have ix : ∀ Q' : VK, Q' x0 H → rIx K (.ref p) (.int 0) H Q' := fun Q' h => hR.1.elim (fun l => .inl ⟨p, xs, 0, x0, rfl, rfl, l, by rw [ex]; exact atI_nat (j := 0) rfl, h⟩) (fun l => .inr (.inl ⟨p, xs, 0, x0, rfl, rfl, l, by rw [ex]; exact atI_nat (j := 0) rfl, h⟩))
    refine ⟨_, rfl, ix _ ?_⟩
    refine for_seq hR.1 rfl (fun i σ H' => ∃ (t : V) (r : Rt) (y : Option V), σ = [some (.ref p), some t, y] ∧ H' = H ∧ r ∈ rs ∧ Dp K H t (rD r) ∧ ∀ k ∈ rs.take i, (fun r t => leR t r) r k)
      ⟨x0, r0, none, rfl, rfl, by rw [er0]; exact List.mem_cons_self .., h0, fun k hk => by simp at hk⟩ (fun i σ H' h => by obtain ⟨_, _, _, _, e, _⟩ := h; rw [e]; exact fun _ _ e => e) ?_ ?_
    · rintro i x σ H' hi ⟨t, r, y, rfl, rfl, mr, ht, hk⟩
      obtain ⟨u, eu, hx⟩ := DpAll_rat hR.2 hi
      have mu := List.mem_of_getElem? eu
      have tk : rs.take (i + 1) = rs.take i ++ [u] := by rw [List.take_add_one, eu]; rfl
      refine ⟨x, rfl, t, rfl, x, t, u, r, rfl, hx, ht, szr_mono (zz u mu).2 (by decide), szr_mono (zz r mr).2 (by decide), ?_⟩
      refine ⟨_, _, rfl, rfl, _, rfl, ?_⟩
      by_cases c : 0 < u.1 * r.2 - r.1 * u.2
      · refine itT (by rw [show cmpR u r = sgnC (u.1 * r.2 - r.1 * u.2) from rfl, sgnC_pos]; exact decide_eq_true c) ⟨x, rfl, x, u, _, rfl, rfl, mu, hx, fun k hk2 => ?_⟩
        rw [tk] at hk2
        have hb : (fun r t => leR t r) u r := by show 0 ≤ _; omega
        rcases List.mem_append.mp hk2 with m | m
        · have ha := hk k m
          have b1 := (zz k (List.mem_of_mem_take m)).1.1
          have b2 := (zz r mr).1.1
          have b3 := (zz u mu).1.1
          exact (leR_trans b1 b2 b3 ha hb)
        · rw [List.mem_singleton.mp m]; exact leR_refl u
      · refine itF (by rw [show cmpR u r = sgnC (u.1 * r.2 - r.1 * u.2) from rfl, sgnC_pos]; exact decide_eq_false c) ⟨t, r, some x, rfl, rfl, mr, ht, fun k hk2 => ?_⟩
        rw [tk] at hk2
        rcases List.mem_append.mp hk2 with m | m
        · exact hk k m
        · rw [List.mem_singleton.mp m]; show 0 ≤ _; omega
    · rintro σ H' ⟨t, r, y, rfl, rfl, mr, ht, hk⟩
      rw [lx, List.take_length] at hk
      exact ⟨t, rfl, q t r mr hk ht⟩
end
end F3
set_option Elab.async false
set_option linter.all false
set_option maxRecDepth 100000
set_option maxHeartbeats 4000000
set_option exponentiation.threshold 3000
namespace F3
open PySem PySem.Spec PyProof.Rows L2 FX RM PB TM SX
theorem joinL_nil : ∀ l : List (List Nat), TL.joinL [] l = l.flatten
  | [] => rfl
  | [p] => by simp [TL.joinL]
  | p :: q :: r => by
    show p ++ ([] ++ TL.joinL [] (q :: r)) = _
    rw [List.nil_append, joinL_nil (q :: r)]; rfl
theorem numI_len {i : Int} (h : i.natAbs < 10 ^ 310) : (numI i).length ≤ 311 := by
  have nl : (TL.numL i.natAbs).length ≤ 310 := TL.numL_len (by decide) h
  unfold numI
  split
  · simp only [List.length_cons]; omega
  · omega
theorem str_nil : Str.ofString "" = S [] := rfl
def ten60 : Int := 10 ^ (60 : Int).toNat
theorem ten60_nat : ten60 = ((10 ^ 60 : Nat) : Int) := by decide
theorem ib_le {x : Int} {n : Nat} (h : Sz n x) (hn : 0 < n) : Builtin.Int.intBits x ≤ n := by
  have l := PySem.Flt.log2_lt_of hn h
  unfold Builtin.Int.intBits
  split <;> omega
theorem sz310 {n : Nat} (h : n < 10 ^ 310) : Sz 1040 (n : Int) := Nat.lt_of_lt_of_le (by rw [Int.natAbs_natCast]; exact h) (by decide +kernel)
theorem log_lt {x : Int} (h : x.natAbs < 10 ^ 310) : x.natAbs.log2 < 1920 := Nat.lt_of_lt_of_le (PySem.Flt.log2_lt_of (by decide : 0 < 1040) (Nat.lt_of_lt_of_le h (by decide +kernel))) (by decide)
theorem pad60 : PadOk 60 = true := by decide
theorem flat_sum : ∀ l : List (List Nat), (l.map List.length).sum = l.flatten.length
  | [] => rfl
  | p :: l => by rw [List.map_cons, List.sum_cons, flat_sum l, List.flatten_cons, List.length_append]
theorem lens_le {ys : List (List Nat)} {m : Nat} (h : ys.flatten.length ≤ m) : ((ys.map S).map (·.length)).sum ≤ m := by
  rw [SX.lens, flat_sum]; exact h
theorem len_flat : ∀ {l : List (List Nat)}, (∀ x ∈ l, 1 ≤ x.length) → l.length ≤ l.reverse.flatten.length
  | [], _ => Nat.le_refl _
  | x :: l, h => by
    have a := len_flat (l := l) fun y hy => h y (List.mem_cons_of_mem _ hy)
    have b := h x (List.mem_cons_self ..)
    rw [List.reverse_cons, List.flatten_append, List.length_append, List.length_cons]
    have c : ([x] : List (List Nat)).flatten.length = x.length := by simp
    omega
def spWT0 : Sp := fun vs H Q _ => ∃ n : Nat, vs = [.int (n : Int)] ∧ n < 10 ^ 310 ∧ ∀ H', Same H H' → Q (.str (S (TL.numL n))) H'
def spWT : Sp := fun vs H Q _ => ∃ i : Int, vs = [.int i] ∧ i.natAbs < 10 ^ 310 ∧ ∀ H', Same H H' → Q (.str (S (numI i))) H'
def RtS (r : Rt) : Prop := r.1.natAbs < 10 ^ 310 ∧ r.2.natAbs < 10 ^ 310
def spRT (K : PySem.W.Frag) : Sp := fun vs H Q _ => ∃ v r, vs = [v] ∧ Dp K H v (rD r) ∧ RtS r ∧ ∀ H', Same H H' → Q (.str (S (ratL r))) H'
def spFig : Sp := fun vs H Q _ => ∃ l, vs = [.str (S l)] ∧ l.length ≤ 1000 ∧ ∀ H', Same H H' → Q (.bl (figs l)) H'
/-- what reading a thing comes to -/
def RdO (d : PyData) (o : Sum Str PyData) : Prop := (∃ a r, d = .str (S a) ∧ RT a r ∧ o = .inr (rD r)) ∨ ((∀ a r, d = .str (S a) → ¬ RT a r) ∧ o = .inl "text")
def szT (d : PyData) : Prop := ∀ a, d = .str a → a.length ≤ 1000
def spReadX (K : PySem.W.Frag) : Sp := fun vs H Q E => ∃ v d o, vs = [v] ∧ Dp K H v d ∧ szT d ∧ RdO d o ∧ OutX K o H Q E
theorem line1000 {n : Nat} (h : n ≤ 1000) : n ≤ sizeLine := Nat.le_trans h (by decide)
theorem same_keep {H0 H : Hp} {p : Addr} {o : HO} (s : Same H0 H) (n : H0 p = none) : Same H0 (upd H p o) := fun b x e => by
  rw [upd_ne (ne_of_none e n)]; exact s b x e
section
variable {P : Program} {w : World} {K : PySem.W.Frag} {mg : Str → Option Value} {base : Heap}
abbrev swhole_text : Stmt := topS 24
theorem scwhole_text : FnScope ["number", "limit", "pieces", "low"] ["number"] (defScope swhole_text) := ⟨rfl, rfl, rfl, by decide +kernel, rfl, by decide +kernel, by decide +kernel⟩
theorem fnz {f : Addr} {fd : FuncData} (F : Fun K "whole_text" "whole_text" swhole_text f fd) (mstr : mg "str" = none) (mdivmod : mg "divmod" = none) : FnOk P w K mg base CX0 1 f fd ["number"] spWT0 := by
  refine F.ok scwhole_text (fun vs H Q E h => ?_) (fun cdv A outer s H vs Q E hr h => ?_)
  · obtain ⟨n, rfl, _⟩ := h; rfl
  · obtain ⟨n, rfl, hn, q⟩ := h
    refine ⟨_, (pss_cons (ps_if (pt_cmpR op_lt (pv 0) pe_int (nomark _)) pss_never pss_nil) (pss_cons (ps_set (i := 1) scwhole_text.nd rfl (.inl rfl) (pe_op op_pow pe_int pe_int)) (pss_cons (ps_set (i := 2) scwhole_text.nd rfl (.inl rfl) (pe_lst pa_nil)) (pss_cons (ps_while PassesOwn.never (pt_cmpR op_ge (pv 0) (pv 1) (nomark _)) (pss_cons (ps_asg (pe_callB call_divmodW (by rfl) mdivmod (by decide +kernel) (pa_cons (pv 0) (pa_cons (pv 1) pa_nil))) (pg_cou rfl (pgs_cons (pg_name (i := 0) scwhole_text.nd rfl (.inl rfl)) (pgs_cons (pg_name (i := 3) scwhole_text.nd rfl (.inl rfl)) pgs_nil)))) (pss_one (ps_expr (pe_bm PySem.F.plainAttrs_list PySem.F.slot_list_append PySem.F.type_list_append mt_append (pv 2) (pa_cons (pe_bmS PySem.F.plainAttrs_str PySem.F.slot_str_zfill PySem.F.type_str_zfill mt_zfill.toS (pe_callTy call_str_int (by rfl) mstr (by decide +kernel) (pa_cons (pv 3) pa_nil)) (pa_cons pe_int pa_nil)) pa_nil)))))) (pss_cons (ps_expr (pe_bm PySem.F.plainAttrs_list PySem.F.slot_list_append PySem.F.type_list_append mt_append (pv 2) (pa_cons (pe_callTy call_str_int (by rfl) mstr (by decide +kernel) (pa_cons (pv 0) pa_nil)) pa_nil))) (pss_one (ps_ret (pe_join pe_str (pe_revL (pv 2)))))))))), ?_⟩
    refine ⟨_, rfl, _, _, rfl, rfl, _, rfl, itF (decide_eq_false (by omega)) ?_⟩
    refine ⟨_, _, rfl, rfl, ⟨by decide, by decide, by decide⟩, Nat.zero_le _, fun p np => ?_⟩
    show tSeq _ _ _ [some (.int (n : Int)), some (.int ten60), some (.ref p), none] (upd H p (.lst []))
    refine while_by (fun σ H' => ∃ (m : Nat) (ps : List (List Nat)) (y : Option V), σ = [some (.int (m : Int)), some (.int ten60), some (.ref p), y] ∧ m < 10 ^ 310 ∧ Same H H' ∧ H' p = some (.lst ((ps.map S).map V.str)) ∧ (∀ x ∈ ps, x.length = 60) ∧ TL.numL m ++ ps.reverse.flatten = TL.numL n)
      (fun σ _ => match σ with | some (.int m) :: _ => m.toNat | _ => 0) ⟨n, [], none, rfl, hn, PB.same_new np, upd_same, by simp, by simp⟩ ?_ (fun σ H Q Q' hq hc => by
      obtain ⟨a, e, b, e2, i, j, e3, e4, k, t, q⟩ := hc
      exact ⟨a, e, b, e2, i, j, e3, e4, k, t, hq _ _ q⟩)
    rintro σ H' ⟨m, ps, y, rfl, hm, sm, hp, h60, e⟩
    have nl : (TL.numL n).length ≤ 310 := TL.numL_len (by decide) hn
    have tot : (TL.numL m).length + ps.reverse.flatten.length ≤ 310 := by rw [← List.length_append, e]; exact nl
    refine ⟨_, rfl, _, rfl, _, _, rfl, rfl, _, rfl, ?_⟩
    by_cases c : ten60 ≤ (m : Int)
    · refine itT (decide_eq_true c) ?_
      have c2 : 10 ^ 60 ≤ m := by rw [ten60_nat] at c; exact Int.ofNat_le.mp c
      have d1 : (m : Int) / ten60 = ((m / 10 ^ 60 : Nat) : Int) := by rw [ten60_nat]; exact (Int.natCast_ediv m (10 ^ 60)).symm
      have d2 : (m : Int) % ten60 = ((m % 10 ^ 60 : Nat) : Int) := by rw [ten60_nat]; exact (Int.natCast_emod m (10 ^ 60)).symm
      have tp : (0 : Int) < ten60 := by decide
      have cd : CDivP (m : Int) ten60 := divp_ok tp (Nat.le_trans (ib_le (sz310 hm) (by decide)) (by decide))
      refine ⟨_, rfl, _, rfl, _, _, rfl, cd, fun t nt => ?_⟩
      rw [d1, d2]
      generalize hlo : m % 10 ^ 60 = lo
      have ll : lo < 10 ^ 60 := by rw [← hlo]; exact Nat.mod_lt _ (Nat.pow_pos (by decide))
      refine ⟨_, _, ⟨t, rfl, .inl (.inl (.inl upd_same))⟩, _, [_], rfl, _, [], rfl, rfl, ?_⟩
      have tnp : p ≠ t := ne_of_none hp nt
      have hp2 : (upd H' t (.tup [.int ((m / 10 ^ 60 : Nat) : Int), .int ((lo : Nat) : Int)])) p = some (.lst ((ps.map S).map V.str)) := by rw [upd_ne tnp]; exact hp
      have nt0 : H t = none := sm.free nt
      refine ⟨.ref p, rfl, .inl ⟨rfl, _, .inl (.inl hp2)⟩, _, rfl, _, rfl, log_lt (by rw [Int.natAbs_natCast]; exact Nat.lt_of_lt_of_le ll (Nat.pow_le_pow_right (by decide) (by decide))), rfl, _, _, rfl, rfl, pad60, ?_⟩
      have zf : Txt.zfill (Str.ofString (toString ((lo : Nat) : Int))) 60 = S (padL 60 lo) := by
        rw [num_S]
        show Txt.zfill (S (TL.numL lo)) ((60 : Nat) : Int) = _
        rw [zfill_S 60 (TL.numL_digits lo), padL_zf 60 lo (by decide) ll]
      refine ⟨p, _, _, rfl, rfl, hp2, ?_, ?_⟩
      · have : ps.length ≤ 310 := by
          have h1 : ∀ x ∈ ps, 1 ≤ x.length := fun x hx => h60 x hx ▸ (by decide)
          exact Nat.le_trans (len_flat h1) (by omega)
        exact small1000 (by rw [List.length_map, List.length_map]; omega)
      · rw [zf]
        refine ⟨⟨m / 10 ^ 60, ps ++ [padL 60 lo], _, rfl, Nat.lt_of_le_of_lt (Nat.div_le_self _ _) hm, same_keep (sm.trans (PB.same_new nt)) np, ?_, ?_, ?_⟩, ?_⟩
        · rw [upd_same]; simp
        · intro x hx
          rcases List.mem_append.mp hx with hx | hx
          · exact h60 x hx
          · rw [List.mem_singleton.mp hx]; exact padL_len 60 lo
        · rw [List.reverse_append, List.reverse_singleton, List.flatten_append, ← List.append_assoc]
          show TL.numL (m / 10 ^ 60) ++ ([padL 60 lo] : List (List Nat)).flatten ++ _ = _
          have f1 : ([padL 60 lo] : List (List Nat)).flatten = padL 60 lo := by simp
          rw [f1, ← hlo, ← TM.numL_cut 60 m c2]; exact e
        · show m / 10 ^ 60 < m
          exact Nat.div_lt_self (Nat.lt_of_lt_of_le (Nat.pow_pos (by decide)) c2) (by decide)
    · refine itF (decide_eq_false c) ?_
      have c2 : m < 10 ^ 60 := by
        have : (m : Int) < ten60 := by omega
        rw [ten60_nat] at this; exact Int.ofNat_lt.mp this
      refine ⟨.ref p, rfl, .inl ⟨rfl, _, .inl (.inl hp)⟩, _, rfl, _, rfl, log_lt (by rw [Int.natAbs_natCast]; exact hm), p, _, _, rfl, rfl, hp, ?_, ?_⟩
      · have : ps.length ≤ 310 := by
          have h1 : ∀ x ∈ ps, 1 ≤ x.length := fun x hx => h60 x hx ▸ (by decide)
          exact Nat.le_trans (len_flat h1) (by omega)
        exact small1000 (by rw [List.length_map, List.length_map]; omega)
      · have ns : Str.ofString (toString ((m : Nat) : Int)) = S (TL.numL m) := num_S m
        rw [ns]
        have mp : (ps.map S).map V.str ++ [V.str (S (TL.numL m))] = ((ps ++ [TL.numL m]).map S).map V.str := by simp
        refine ⟨⟨_, rfl⟩, _, rfl, p, _, rfl, .inl (.inl upd_same), fun r nr => ?_⟩
        have sl : (((ps ++ [TL.numL m]).map S).map V.str).reverse = ((ps ++ [TL.numL m]).reverse.map S).map V.str := by rw [← List.map_reverse, ← List.map_reverse]
        refine ⟨_, r, (ps ++ [TL.numL m]).reverse.map S, rfl, rfl, .inl ?_, ?_, ?_⟩
        · rw [mp, sl]; exact .inl (.inl upd_same)
        · have fl : (ps ++ [TL.numL m]).reverse.flatten = TL.numL n := by
            rw [List.reverse_append, List.reverse_singleton, List.flatten_append]
            have f1 : ([TL.numL m] : List (List Nat)).flatten = TL.numL m := by simp
            rw [f1]; exact e
          have a1 := lens_le (ys := (ps ++ [TL.numL m]).reverse) (m := 310) (by rw [fl]; exact nl)
          have z : (Str.ofString "" : Str).length = 0 := rfl
          rw [z, Nat.mul_zero]
          omega
        · rw [str_nil, join_S, joinL_nil]
          have fl : (ps ++ [TL.numL m]).reverse.flatten = TL.numL n := by
            rw [List.reverse_append, List.reverse_singleton, List.flatten_append]
            have f1 : ([TL.numL m] : List (List Nat)).flatten = TL.numL m := by simp
            rw [f1]; exact e
          rw [fl]
          refine q _ ?_
          exact (same_keep sm np).trans (PB.same_new nr)
theorem FnOk.or {k : Nat} {f : Addr} {fd : FuncData} {ps : List Str} {sp sp' : Sp} (F : FnOk P w K mg base CX0 k f fd ps sp) (G : FnOk P w K mg base CX0 k f fd ps sp') : FnOk P w K mg base CX0 k f fd ps (fun vs H Q E => sp vs H Q E ∨ sp' vs H Q E) :=
  ⟨fun vs H Q E h => h.elim (F.len vs H Q E) (G.len vs H Q E), fun A outer s H args us vs Q E hr he hb hv hs => hs.elim (F.run A outer s H args us vs Q E hr he hb hv) (G.run A outer s H args us vs Q E hr he hb hv)⟩
def spWTn : Sp := fun vs H Q _ => ∃ n : Nat, vs = [.int (-(n : Int))] ∧ 0 < n ∧ n < 10 ^ 310 ∧ ∀ H', Same H H' → Q (.str (S (45 :: TL.numL n))) H'
theorem fnn {f : Addr} {fd : FuncData} (F : Fun K "whole_text" "whole_text" swhole_text f fd) (Gwhole_text : DefOk P w K mg base CX0 "whole_text" 1 ["number"] spWT0) : FnOk P w K mg base CX0 2 f fd ["number"] spWTn := by
  refine F.ok scwhole_text (fun vs H Q E h => ?_) (fun cdv A outer s H vs Q E hr h => ?_)
  · obtain ⟨n, rfl, _⟩ := h; rfl
  · obtain ⟨n, rfl, n0, hn, q⟩ := h
    refine ⟨_, (pss_cons (ps_if (pt_cmpR op_lt (pv 0) pe_int (nomark _)) (pss_one (ps_ret (pe_op op_add_str pe_str (pe_def Gwhole_text (hr.mono (by decide)) (by rfl) (pa_cons (pe_un un_neg (pv 0)) pa_nil))))) pss_nil) pss_never), ?_⟩
    refine ⟨_, rfl, _, _, rfl, rfl, _, rfl, itT (decide_eq_true (by omega)) ?_⟩
    refine ⟨_, rfl, _, rfl, n, ?_, hn, fun H' s => ⟨_, _, rfl, rfl, ?_, ?_⟩⟩
    · show [V.int (- -(n : Int))] = _
      rw [Int.neg_neg]
    · have nl : (TL.numL n).length ≤ 310 := TL.numL_len (by decide) hn
      have : (Str.ofString "-" : Str).length = 1 := rfl
      rw [this, S_len]
      exact line1000 (by omega)
    · have e : (Str.ofString "-" : Str) = S [45] := rfl
      rw [e, S_cat]; exact q H' s
theorem okwhole_text (T : Txt K mg "whole_text" swhole_text) (mstr : mg "str" = none) (mdivmod : mg "divmod" = none) : DefOk P w K mg base CX0 "whole_text" 2 ["number"] spWT := by
  obtain ⟨f, fd, F, gf⟩ := T
  have b := F.binds (ps := ["number"]) (fun _ _ _ _ _ _ us hl => match us, hl with | [_], _ => rfl)
  have F0 : FnOk P w K mg base CX0 1 f fd ["number"] spWT0 := fnz F mstr mdivmod
  have Fn : FnOk P w K mg base CX0 2 f fd ["number"] spWTn := fnn F ⟨f, fd, gf, F.kp, b, F0⟩
  refine ⟨f, fd, gf, F.kp, b, FnOk.imp (FnOk.or (F0.mono (by decide)) Fn) fun vs H Q E h => ?_⟩
  obtain ⟨i, rfl, hi, q⟩ := h
  by_cases c : i < 0
  · refine .inr ⟨i.natAbs, ?_, by omega, hi, fun H' s => ?_⟩
    · have : i = -((i.natAbs : Nat) : Int) := by omega
      rw [← this]
    · have z := q H' s
      rw [numI_ng c] at z; exact z
  · refine .inl ⟨i.natAbs, ?_, hi, fun H' s => ?_⟩
    · have : i = ((i.natAbs : Nat) : Int) := by omega
      rw [← this]
    · have z := q H' s
      rw [numI_nn (by omega)] at z; exact z
abbrev sratio_text : Stmt := topS 25
theorem scratio_text : FnScope ["one"] ["one"] (defScope sratio_text) := ⟨rfl, rfl, rfl, by decide +kernel, rfl, by decide +kernel, by decide +kernel⟩
theorem okratio_text (T : Txt K mg "ratio_text" sratio_text) (Gwhole_text : DefOk P w K mg base CX0 "whole_text" 2 ["number"] spWT) : DefOk P w K mg base CX0 "ratio_text" 3 ["one"] (spRT K) := by
  obtain ⟨f, fd, F, gf⟩ := T
  refine ⟨f, fd, gf, F.kp, F.binds (fun _ _ _ _ _ _ us hl => match us, hl with | [_], _ => rfl), F.ok scratio_text (fun vs H Q E h => ?_) (fun cdv A outer s H vs Q E hr h => ?_)⟩
  · obtain ⟨v, r, rfl, _⟩ := h; rfl
  · obtain ⟨v, r, rfl, hv, ⟨z1, z2⟩, q⟩ := h
    refine ⟨_, (pss_cons (ps_if (pt_cmpR op_eq (pe_ix ix_it (pv 0) pe_int (fun _ _ => rfl)) pe_int (nomark _)) (pss_one (ps_ret (pe_def Gwhole_text (hr.mono (by decide)) (by rfl) (pa_cons (pe_ix ix_it (pv 0) pe_int (fun _ _ => rfl)) pa_nil)))) pss_nil) (pss_one (ps_ret (pe_op op_add_str (pe_op op_add_str (pe_def Gwhole_text (hr.mono (by decide)) (by rfl) (pa_cons (pe_ix ix_it (pv 0) pe_int (fun _ _ => rfl)) pa_nil)) pe_str) (pe_def Gwhole_text (hr.mono (by decide)) (by rfl) (pa_cons (pe_ix ix_it (pv 0) pe_int (fun _ _ => rfl)) pa_nil)))))), ?_⟩
    have c := cou_r hv
    have l1 : (numI r.1).length ≤ 311 := numI_len z1
    have l2 : (numI r.2).length ≤ 311 := numI_len z2
    refine ⟨v, rfl, _, _, 1, _, rfl, c, rfl, rfl, _, rfl, ?_⟩
    by_cases e : r.2 = 1
    · refine itT (decide_eq_true (congrArg V.int e)) ⟨v, rfl, _, _, 0, _, rfl, c, rfl, r.1, rfl, z1, fun H' s => ?_⟩
      have z : ratL r = numI r.1 := if_pos e
      rw [← z]; exact q H' s
    · refine itF (decide_eq_false fun z => e (V.int.inj z)) ⟨v, rfl, _, _, 0, _, rfl, c, rfl, r.1, rfl, z1, fun H1 s1 => ⟨_, _, rfl, rfl, ?_, v, rfl, _, _, 1, _, rfl, c.same s1, rfl, r.2, rfl, z2, fun H2 s2 => ⟨_, _, rfl, rfl, ?_, ?_⟩⟩⟩
      · have : (Str.ofString "/" : Str).length = 1 := rfl
        rw [this, S_len]; exact line1000 (by omega)
      · have : (Str.ofString "/" : Str) = S [47] := rfl
        rw [this, S_cat, S_len, S_len, List.length_append]
        exact line1000 (by simp only [List.length_singleton]; omega)
      · have : (Str.ofString "/" : Str) = S [47] := rfl
        rw [this, S_cat, S_cat, List.append_assoc]
        have z : ratL r = numI r.1 ++ 47 :: numI r.2 := if_neg e
        show Q (.str (S (numI r.1 ++ 47 :: numI r.2))) H2
        rw [← z]; exact q H2 (s1.trans s2)
abbrev sis_figures : Stmt := topS 26
theorem scis_figures : FnScope ["text", "sign"] ["text"] (defScope sis_figures) := ⟨rfl, rfl, rfl, by decide +kernel, rfl, by decide +kernel, by decide +kernel⟩
theorem okis_figures (T : Txt K mg "is_figures" sis_figures) (mlen : mg "len" = none) (mall : mg "all" = none) (gMF : ∃ u, mg "MOST_FIGURES" = some u ∧ RelV (.int 300) u) (gFI : ∃ u, mg "FIGURES" = some u ∧ RelV (.str "0123456789") u) : DefOk P w K mg base CX0 "is_figures" 1 ["text"] spFig := by
  obtain ⟨f, fd, F, gf⟩ := T
  refine ⟨f, fd, gf, F.kp, F.binds (fun _ _ _ _ _ _ us hl => match us, hl with | [_], _ => rfl), F.ok scis_figures (fun vs H Q E h => ?_) (fun cdv A outer s H vs Q E hr h => ?_)⟩
  · obtain ⟨l, rfl, _⟩ := h; rfl
  · obtain ⟨l, rfl, hl, q⟩ := h
    refine ⟨_, (pss_one (ps_ret (pe_and (pe_chain op_le op_le pe_int (pe_callB call_len_str (by rfl) mlen PySem.boot_len (pa_cons (pv 0) pa_nil)) (C8.pe_gc (by rfl) gMF)) (pe_one (pe_callB (cr_all rfl) (by rfl) mall (by decide +kernel) (pa_cons (pe_lc (own := [("sign", 1)]) (g := gName 1) (tt := tYes) rfl scis_figures.nd (pi_str (pv 0)) (blkOk_by (N := ["text", "sign"]) (sc := defScope sis_figures) (by decide +kernel)) (fun _ _ _ _ _ => pg_name (i := 1) scis_figures.nd rfl (.inl rfl)) (fun _ _ _ _ _ => pts_nil) (fun _ _ _ _ _ => (pe_cmpR op_in_sign (pv 1) (C8.pe_gc (by rfl) gFI) (by with_unfolding_all rfl)))) pa_nil)))))), ?_⟩
    have fe : (Str.ofString "0123456789" : Str).cps.toList = figL := rfl
    refine ⟨_, rfl, S l, rfl, line1000 (by rw [S_len]; exact hl), _, _, rfl, rfl, _, rfl, ?_⟩
    rw [S_len]
    have fg : figs l = (decide (1 ≤ l.length) && (decide (l.length ≤ 300) && l.all fun c => decide (c ∈ figL))) := rfl
    by_cases c1 : 1 ≤ l.length
    · rw [decide_eq_true c1, Bool.true_and] at fg
      refine itT (decide_eq_true (by omega)) ⟨_, _, rfl, rfl, _, rfl, ?_⟩
      by_cases c2 : l.length ≤ 300
      · rw [decide_eq_true c2, Bool.true_and] at fg
        refine itT (decide_eq_true (by omega)) ⟨_, rfl, _, rfl, fun D nD => ?_⟩
        refine lc_it walk_str (fun i H' => Same H H' ∧ H' D = some (.lst ((l.take i).map fun c => V.bl (decide (c ∈ figL))))) ⟨PB.same_new nD, upd_same⟩ (fun _ _ _ _ => trivial) ?_ ?_
        · rintro i x H1 H2 hi ⟨s1, hD⟩ ⟨rfl, c, hc, rfl⟩
          have hc2 : l[i]? = some c := by
            have z : (S l).cps[i]? = l[i]? := by simp [S]
            rw [← z]; exact hc
          refine ⟨rfl, ?_⟩
          refine ⟨_, rfl, c, _, rfl, rfl, _, hD, small1000 (by rw [List.length_map, List.length_take]; omega), same_keep s1 nD, ?_⟩
          rw [upd_same, List.take_add_one, hc2]
          simp [fe]
        · rintro H2 ⟨s1, hD⟩
          have sz : (S l).cps.size = l.length := by simp [S]
          rw [sz, List.take_length] at hD
          refine ⟨D, l.map fun c => decide (c ∈ figL), rfl, .inl (.inl (by rw [List.map_map]; exact hD)), ?_⟩
          have e : (l.map fun c => decide (c ∈ figL)).all id = figs l := by rw [fg, List.all_map]; rfl
          rw [e]; exact q H2 s1
      · rw [decide_eq_false c2, Bool.false_and] at fg
        refine itF (decide_eq_false (by omega)) ?_
        rw [fg] at q; exact q H (fun _ _ e => e)
    · rw [decide_eq_false c1, Bool.false_and] at fg
      refine itF (decide_eq_false (by omega)) ⟨false, rfl, itF rfl ?_⟩
      rw [fg] at q; exact q H (fun _ _ e => e)
def isStr : PyData → Bool
  | .str _ => true
  | _ => false
theorem kit_str : ∀ d, kitB (tyN d) "str" = some (isStr d)
  | .none => by show kitB "NoneType" "str" = some false; decide +kernel
  | .bool _ => by show kitB "bool" "str" = some false; decide +kernel
  | .int _ => by show kitB "int" "str" = some false; decide +kernel
  | .str _ => by show kitB "str" "str" = some true; decide +kernel
  | .list _ => by show kitB "list" "str" = some false; decide +kernel
  | .tuple _ => by show kitB "tuple" "str" = some false; decide +kernel
  | .dict _ => by show kitB "dict" "str" = some false; decide +kernel
theorem isRat_rat {r : Rt} (h : isRat (rD r) = true) : IsRat r := by
  have z : (decide ((1 : Int) ≤ r.2) && decide (g2 r.1 r.2 = 1)) = true := h
  rw [Bool.and_eq_true] at z
  have a := of_decide_eq_true z.1
  have b := of_decide_eq_true z.2
  refine ⟨by omega, ?_⟩
  unfold g2 at b
  exact Int.ofNat_inj.mp b
theorem rat_isRat {r : Rt} (h : IsRat r) : isRat (rD r) = true := by
  have a : (1 : Int) ≤ r.2 := h.1
  have b : g2 r.1 r.2 = 1 := by unfold g2; rw [h.2]; rfl
  show (decide ((1 : Int) ≤ r.2) && decide (g2 r.1 r.2 = 1)) = true
  rw [decide_eq_true a, decide_eq_true b]; rfl
theorem val310 {l : List Nat} (h : figs (rp l) = true) : (valI l).natAbs < 10 ^ 310 := by
  obtain ⟨h1, h2, h3⟩ := (figs_iff _).mp h
  have z := val_lt _ h3
  have e : (valI l).natAbs = NumText.digitsVal (rp l) := by
    unfold valI rp
    split
    · rw [Int.natAbs_neg, Int.natAbs_natCast]
    · rename_i cs nn
      rw [Int.natAbs_natCast]
  rw [e]
  exact Nat.lt_of_lt_of_le z (Nat.pow_le_pow_right (by decide) (by omega))
abbrev sratio_of : Stmt := topS 27
theorem scratio_of : FnScope ["text", "top", "slash", "bottom", "one"] ["text"] (defScope sratio_of) := ⟨rfl, rfl, rfl, by decide +kernel, rfl, by decide +kernel, by decide +kernel⟩
theorem okXratio_of (T : Txt K mg "ratio_of" sratio_of) (cBR : CT P w K mg base "BadRatio" ["what"]) (misinstance : mg "isinstance" = none) (mstr : mg "str" = none) (mint : mg "int" = none) (Gis_figures : DefOk P w K mg base CX0 "is_figures" 1 ["text"] spFig) (Gis_ratio : DefOk P w K mg base CX0 "is_ratio" 2 ["thing"] (spIsR K)) (Gratio_text : DefOk P w K mg base CX0 "ratio_text" 3 ["one"] (spRT K)) : DefOk P w K mg base (L2.CX P w) "ratio_of" 4 ["text"] (spReadX K) := by
  obtain ⟨f, fd, F, gf⟩ := T
  refine ⟨f, fd, gf, F.kp, F.binds (fun _ _ _ _ _ _ us hl => match us, hl with | [_], _ => rfl), F.okX scratio_of (fun vs H Q E h => ?_) (fun cdv A outer s H vs Q E hr h => ?_)⟩
  · obtain ⟨v, d, o, rfl, _⟩ := h; rfl
  · obtain ⟨v, d, o, rfl, hv, zt, ro, oo⟩ := h
    refine ⟨_, (pss_cons (ps_if (pt_not (pt_val (pe_callB call_isi (by rfl) misinstance boot_isinstance (pa_cons (pv 0) (pa_cons (pe_bltn (v := .ty "str") (by rfl) mstr (by decide +kernel) rfl) pa_nil))))) (pss_one (ps_raise rfl (takes_of rfl rfl rfl rfl) (pmk_exW cBR (hr.mono (by decide)) (by rfl) (pa_cons pe_str pa_nil)))) pss_nil) (pss_cons (ps_asg (pe_partition (pv 0) pe_str) (pg_tup rfl (pgs_cons (pg_name (i := 1) scratio_of.nd rfl (.inl rfl)) (pgs_cons (pg_name (i := 2) scratio_of.nd rfl (.inl rfl)) (pgs_cons (pg_name (i := 3) scratio_of.nd rfl (.inl rfl)) pgs_nil))))) (C8.pss_cut (ps_if (pt_cmpR op_eq (pv 2) pe_str (nomark _)) (pss_one (ps_set (i := 3) scratio_of.nd rfl (.inl rfl) pe_str)) pss_nil) (pss_cons (ps_if (PW.pt (pw_or (pt_not (pt_val (pe_def Gis_figures (hr.mono (by decide)) (by rfl) (pa_cons (pe_bmS PySem.F.plainAttrs_str PySem.F.slot_str_removeprefix PySem.F.type_str_removeprefix mt_removeprefix.toS (pv 1) (pa_cons pe_str pa_nil)) pa_nil)))) (pw_or1 (pt_not (pt_val (pe_def Gis_figures (hr.mono (by decide)) (by rfl) (pa_cons (pv 3) pa_nil))))))) (pss_one (ps_raise rfl (takes_of rfl rfl rfl rfl) (pmk_exW cBR (hr.mono (by decide)) (by rfl) (pa_cons pe_str pa_nil)))) pss_nil) (pss_cons (ps_set (i := 4) scratio_of.nd rfl (.inl rfl) (pe_tup (pa_cons (pe_callTy call_int_str (by rfl) mint boot_int (pa_cons (pv 1) pa_nil)) (pa_cons (pe_callTy call_int_str (by rfl) mint boot_int (pa_cons (pv 3) pa_nil)) pa_nil)))) (pss_cons (ps_if (PW.pt (pw_or (pt_not (pt_val (pe_def Gis_ratio (hr.mono (by decide)) (by rfl) (pa_cons (pv 4) pa_nil)))) (pw_or1 (pt_cmpR op_ne (pe_def Gratio_text (hr.mono (by decide)) (by rfl) (pa_cons (pv 4) pa_nil)) (pv 0) (nomark _))))) (pss_one (ps_raise rfl (takes_of rfl rfl rfl rfl) (pmk_exW cBR (hr.mono (by decide)) (by rfl) (pa_cons pe_str pa_nil)))) pss_nil) (pss_one (ps_ret (pv 4))))))))), ?_⟩
    have bad : (∀ a r, d = .str (S a) → ¬ RT a r) → xE K "BadRatio" "text" E H := fun n => by
      rcases ro with ⟨a, r, e, h, _⟩ | ⟨_, e⟩
      · exact absurd h (n a r e)
      · rw [e] at oo; exact oo
    refine ⟨v, rfl, v, _, _, _, _, rfl, .ty _, dp_tyx hv, kit_ty (kit_str d), _, rfl, ?_⟩
    by_cases ds : ∃ a, d = .str a
    case neg =>
      have z : isStr d = false := by cases d <;> first | rfl | exact absurd ⟨_, rfl⟩ ds
      rw [z]
      exact itT rfl (raise_ok (bad fun a r e => absurd ⟨_, e⟩ ds))
    obtain ⟨a0, rfl⟩ := ds
    obtain ⟨l, rfl⟩ : ∃ l, a0 = S l := ⟨_, (S_tl a0).symm⟩
    obtain rfl : v = .str (S l) := by cases hv; rfl
    have hl : l.length ≤ 1000 := by have := zt _ rfl; rw [S_len] at this; exact this
    refine itF rfl ?_
    have sl : (Str.ofString "/" : Str) = S [47] := rfl
    have se : (Str.ofString "" : Str) = S [] := rfl
    refine ⟨_, rfl, ⟨_, rfl⟩, S l, _, rfl, rfl, by decide, line1000 (by rw [S_len]; exact hl), fun p np => ?_⟩
    have s1 : Same H (upd H p (.tup [.str (Txt.partition (S l) (Str.ofString "/")).1, .str (Txt.partition (S l) (Str.ofString "/")).2.1, .str (Txt.partition (S l) (Str.ofString "/")).2.2])) := PB.same_new np
    refine ⟨p, _, rfl, .inl (.inl upd_same), rfl, _, [_, _], rfl, _, [_], rfl, _, [], rfl, rfl, ?_⟩
    refine ⟨fun σ' H' => ∃ t b x, σ' = [some (.str (S l)), some (.str (S t)), some x, some (.str (S b)), none] ∧ Same H H' ∧ Rel l t b, ?_, ?_⟩
    · by_cases h47 : 47 ∈ l
      · obtain ⟨t, b, rfl, nt⟩ := cut47 h47
        have pt : Txt.partition (S (t ++ 47 :: b)) (Str.ofString "/") = (S t, S [47], S b) := SX.partition_some (by decide) (par_head b nt)
        rw [pt] at s1 ⊢
        refine ⟨_, rfl, rfl, _, rfl, itF (decide_eq_false fun z => ?_) ⟨t, b, _, rfl, s1, nt, .inr rfl⟩⟩
        have := V.str.inj z
        rw [se] at this
        exact absurd (S_inj this) (by decide)
      · have pt : Txt.partition (S l) (Str.ofString "/") = (S l, S [], S []) := SX.partition_none (by decide) (par_head_none h47)
        rw [pt] at s1 ⊢
        exact ⟨_, rfl, rfl, _, rfl, itT (decide_eq_true rfl) ⟨l, [49], _, rfl, s1, rel_a h47⟩⟩
    rintro σ' H' ⟨t, b, x, rfl, s2, rel⟩
    have lt : t.length ≤ l.length ∧ b.length ≤ 1000 := by
      rcases rel.2 with ⟨e, e2⟩ | e
      · rw [e, e2]; exact ⟨Nat.le_refl _, by decide⟩
      · rw [e, List.length_append, List.length_cons] at hl
        rw [e, List.length_append, List.length_cons]
        omega
    have rpl : (rp t).length ≤ t.length := by unfold rp; split <;> simp
    refine ⟨_, rfl, rfl, _, _, rfl, rfl, line1000 (by rw [S_len]; omega), rp t, by rw [show (Str.ofString "-" : Str) = S [45] from rfl, removeprefix_S]; rfl, by omega, fun H3 s3 => ⟨_, rfl, ?_⟩⟩
    cases f1 : figs (rp t) with
    | false => exact itT rfl (itT rfl (raise_ok ((bad fun a r e h => by
        have e2 := S_inj (PyData.str.inj e)
        subst e2
        have := (rel_rt rel h).1
        rw [f1] at this; cases this).same (s2.trans s3))))
    | true =>
      refine itF rfl ⟨_, rfl, b, rfl, lt.2, fun H4 s4 => ⟨_, rfl, ?_⟩⟩
      cases f2 : figs b with
      | false => exact itT rfl (raise_ok ((bad fun a r e h => by
          have e2 := S_inj (PyData.str.inj e)
          subst e2
          have := (rel_rt rel h).2.1
          rw [f2] at this; cases this).same ((s2.trans s3).trans s4)))
      | true =>
        have f3 : figs (rp b) = true := by rw [rp_dig ((figs_iff _).mp f2).2.2]; exact f2
        obtain ⟨r1, k1⟩ := read_S f1
        obtain ⟨r2, k2⟩ := read_S f3
        refine itF rfl ⟨_, rfl, _, _, rfl, r1, by omega, _, rfl, _, _, rfl, r2, by omega, (by show 2 ≤ sizeLine; decide), fun p2 np2 => ?_⟩
        have s5 : Same H (upd H4 p2 (.tup [.int (valI t), .int (valI b)])) := ((s2.trans s3).trans s4).trans (PB.same_new np2)
        have h5 : Dp K (upd H4 p2 (.tup [.int (valI t), .int (valI b)])) (.ref p2) (rD (valI t, valI b)) := dp_mkr np2
        generalize upd H4 p2 (.tup [.int (valI t), .int (valI b)]) = H5 at s5 h5
        refine ⟨_, rfl, _, _, rfl, h5, _, rfl, ?_⟩
        cases f4 : isRat (rD (valI t, valI b)) with
        | false => exact itT rfl (itT rfl (raise_ok ((bad fun a r e h => by
            have e2 := S_inj (PyData.str.inj e)
            subst e2
            have := (rel_rt rel h).2.2
            rw [← this, rat_isRat h.1] at f4; cases f4).same s5)))
        | true =>
          refine itF rfl ⟨_, rfl, _, (valI t, valI b), rfl, h5, ⟨val310 f1, val310 f3⟩, fun H6 s6 => ⟨_, rfl, rfl, _, rfl, ?_⟩⟩
          by_cases f5 : ratL (valI t, valI b) = l
          · have g := rel_good rel f1 f2 (isRat_rat f4) f5
            refine itF (by rw [f5]; simp) ?_
            rcases ro with ⟨a, r, e, h, eo⟩ | ⟨n, _⟩
            · have e2 := S_inj (PyData.str.inj e)
              subst e2
              have e3 := (rel_rt rel h).2.2
              rw [eo] at oo
              refine ⟨_, rfl, oo H6 _ (s5.trans s6) ?_⟩
              rw [e3]; exact Dp_same s6 h5
            · exact absurd g (n l _ rfl)
          · refine itT (by
              rw [decide_eq_false fun z => f5 (S_inj (V.str.inj z))]; rfl) (raise_ok ((bad fun a r e h => by
              have e2 := S_inj (PyData.str.inj e)
              subst e2
              have e3 := (rel_rt rel h).2.2
              rw [e3] at h
              exact f5 h.2.1.symm).same (s5.trans s6)))
end
end F3
set_option Elab.async false
set_option linter.all false
set_option maxRecDepth 100000
set_option maxHeartbeats 4000000
set_option exponentiation.threshold 3000
namespace F3
open PySem PySem.Spec PyProof.Rows L2 FX RM PB
def spGcd : Sp := fun vs H Q _ => ∃ x y : Int, vs = [.int x, .int y] ∧ Q (.int (g2 x y)) H
def amtL (d : Int × Int) (p : Pl) : Rt := radd (rmul (d.1, 1) p.1) (rmul (d.2, 1) p.2)
def crossL (a b c : Pl) : Rt := rsub (rmul (rsub b.1 a.1) (rsub c.2 a.2)) (rmul (rsub b.2 a.2) (rsub c.1 a.1))
def spAmtL (K : PySem.W.Frag) : Sp := fun vs H Q _ => ∃ v u d p, vs = [v, u] ∧ Dp K H v (rD d) ∧ Dp K H u (pD p) ∧ RatP p ∧ SzR 600 d ∧ SzP 600 p ∧ ∀ H' z, Same H H' → Dp K H' z (rD (amtL d p)) → Q z H'
def spCroL (K : PySem.W.Frag) : Sp := fun vs H Q _ => ∃ v u t a b c, vs = [v, u, t] ∧ Dp K H v (pD a) ∧ Dp K H u (pD b) ∧ Dp K H t (pD c) ∧ RatP a ∧ RatP b ∧ RatP c ∧ SzP 300 a ∧ SzP 300 b ∧ SzP 300 c ∧ ∀ H' z, Same H H' → Dp K H' z (rD (crossL a b c)) → Q z H'
def spPT (K : PySem.W.Frag) (o : Pl → Pl → Pl) : Sp := fun vs H Q _ => ∃ v u p s, vs = [v, u] ∧ Dp K H v (pD p) ∧ Dp K H u (pD s) ∧ RatP p ∧ RatP s ∧ SzP 2000 p ∧ SzP 2000 s ∧ ∀ H' z, Same H H' → Dp K H' z (pD (o p s)) → Q z H'
def spPlain (K : PySem.W.Frag) : Sp := fun vs H Q _ => ∃ v u r, vs = [v, u] ∧ Dp K H v (rD r) ∧ Dp K H u (rD r) ∧ Q (.bl true) H
theorem rat_int (n : Int) : IsRat (n, 1) := ⟨by show (0 : Int) < 1; decide, by show Nat.gcd n.natAbs 1 = 1; exact Nat.gcd_one_right _⟩
theorem szr_int {n : Nat} {x : Int} (h : Sz n x) (k : 1 ≤ n) : SzR n (x, 1) := ⟨h, sz_mono (by show (1 : Int).natAbs < 2 ^ 1; decide) k⟩
theorem shaped_r (r : Rt) : SeqAt.shaped (rD r) = true ∧ PyData.canLay0 (rD r) = true := by
  have c : PyData.canLay0 (rD r) = true := by simp [rD, PyData.canLay0, PyData.canLayAll0]
  exact ⟨by unfold SeqAt.shaped; rw [c]; simp [rD, PyData.depth, PyData.depthAll], c⟩
theorem shaped_p (p : Pl) : SeqAt.shaped (pD p) = true ∧ PyData.canLay0 (pD p) = true := by
  have c : PyData.canLay0 (pD p) = true := by simp [pD, rD, PyData.canLay0, PyData.canLayAll0]
  exact ⟨by unfold SeqAt.shaped; rw [c]; simp [pD, rD, PyData.depth, PyData.depthAll], c⟩
/-- == and != of equal data -/
theorem eq_same {K : PySem.W.Frag} {H : Hp} {v u : V} {d : PyData} {Q : VK} (s : SeqAt.shaped d = true ∧ PyData.canLay0 d = true) (h1 : Dp K H v d) (h2 : Dp K H u d) (q : Q (.bl true) H) : rEqD K v u H Q :=
  ⟨d, d, h1, h2, s.1, s.1, by rw [SeqAt.eqv_refl _ s.2]; exact q⟩
theorem ne_same {K : PySem.W.Frag} {H : Hp} {v u : V} {d : PyData} {Q : VK} (s : SeqAt.shaped d = true ∧ PyData.canLay0 d = true) (h1 : Dp K H v d) (h2 : Dp K H u d) (q : Q (.bl false) H) : rNeD K v u H Q :=
  ⟨d, d, h1, h2, s.1, s.1, by rw [SeqAt.eqv_refl _ s.2]; exact q⟩
section
variable {P : Program} {w : World} {K : PySem.W.Frag} {mg : Str → Option Value} {base : Heap}
abbrev s_law_gcd : Stmt := topS 32
theorem sc_law_gcd : FnScope ["_law_one", "_law_other"] ["_law_one", "_law_other"] (defScope s_law_gcd) := ⟨rfl, rfl, rfl, by decide +kernel, rfl, by decide +kernel, by decide +kernel⟩
theorem ok_law_gcd (T : Txt K mg "_law_gcd" s_law_gcd) (mint : mg "int" = none) (mabs : mg "abs" = none) : DefOk P w K mg base CX0 "_law_gcd" 1 ["_law_one", "_law_other"] spGcd := by
  obtain ⟨f, fd, F, gf⟩ := T
  refine ⟨f, fd, gf, F.kp, F.binds (fun _ _ _ _ _ _ us hl => match us, hl with | [_, _], _ => rfl), F.ok sc_law_gcd (fun vs H Q E h => ?_) (fun cdv A outer s H vs Q E hr h => ?_)⟩
  · obtain ⟨x, y, rfl, _⟩ := h; rfl
  · obtain ⟨x, y, rfl, q⟩ := h
    refine ⟨_, (pss_cons (ps_par (i := 0) (j := 1) rfl sc_law_gcd.nd rfl rfl (by decide) rfl rfl (pa_cons (pe_callB call_abs (by rfl) mabs (by decide +kernel) (pa_cons (pv 0) pa_nil)) (pa_cons (pe_callB call_abs (by rfl) mabs (by decide +kernel) (pa_cons (pv 1) pa_nil)) pa_nil)) rfl) (pss_cons (ps_while PassesOwn.never (pt_truth (pv 1) (fun _ => rfl)) (pss_one (ps_par (i := 0) (j := 1) rfl sc_law_gcd.nd rfl rfl (by decide) rfl rfl (pa_cons (pv 1) (pa_cons (pe_op op_mod (pe_callTy call_int1 (by rfl) mint boot_int (pa_cons (pv 0) pa_nil)) (pv 1)) pa_nil)) rfl))) (pss_one (ps_ret (pv 0))))), ?_⟩
    have ab : ∀ i : Int, (if i < 0 then -i else i) = (i.natAbs : Int) := fun i => by split <;> omega
    refine ⟨_, rfl, x, rfl, _, rfl, y, rfl, _, _, rfl, ?_⟩
    rw [ab, ab]
    dsimp only [tSeq]
    refine while_by (fun σ H' => ∃ a b : Nat, σ = [some (.int (a : Int)), some (.int (b : Int))] ∧ Nat.gcd a b = Nat.gcd x.natAbs y.natAbs ∧ H' = H)
      (fun σ H' => match σ with | [_, some (.int b)] => b.toNat | _ => 0) ⟨_, _, rfl, rfl, rfl⟩ ?_ (fun σ H Q Q' hq hc => by
      obtain ⟨v, e, k, t, q⟩ := hc
      exact ⟨v, e, k, t, hq _ _ q⟩)
    rintro σ H' ⟨a, b, rfl, e, rfl⟩
    refine ⟨_, rfl, ((b : Int) != 0), rfl, ?_⟩
    by_cases b0 : b = 0
    · subst b0
      refine itF rfl ?_
      refine ⟨_, rfl, ?_⟩
      rw [Nat.gcd_zero_right] at e
      rw [e]; exact q
    · refine itT (by simp [b0]) ?_
      refine ⟨_, rfl, _, rfl, .inl ⟨_, rfl, _, rfl, _, _, rfl, rfl, (by show (0 : Int) < _; omega), _, _, rfl, ⟨b, a % b, rfl, ?_, rfl⟩, ?_⟩⟩
      · rw [← e, Nat.gcd_comm a b, Nat.gcd_rec b a, Nat.gcd_comm]
      · show ((a : Int) % (b : Int)).toNat < ((b : Int)).toNat
        have := Int.emod_lt_of_pos (a : Int) (by omega : (0 : Int) < (b : Int))
        omega
abbrev s_law_ratio : Stmt := topS 33
theorem sc_law_ratio : FnScope ["_law_top", "_law_bottom", "_law_part"] ["_law_top", "_law_bottom"] (defScope s_law_ratio) := ⟨rfl, rfl, rfl, by decide +kernel, rfl, by decide +kernel, by decide +kernel⟩
theorem ok_law_ratio (T : Txt K mg "_law_ratio" s_law_ratio) (G_law_gcd : DefOk P w K mg base CX0 "_law_gcd" 1 ["_law_one", "_law_other"] spGcd) : DefOk P w K mg base CX0 "_law_ratio" 2 ["_law_top", "_law_bottom"] (spLow K) := by
  obtain ⟨f, fd, F, gf⟩ := T
  refine ⟨f, fd, gf, F.kp, F.binds (fun _ _ _ _ _ _ us hl => match us, hl with | [_, _], _ => rfl), F.ok sc_law_ratio (fun vs H Q E h => ?_) (fun cdv A outer s H vs Q E hr h => ?_)⟩
  · obtain ⟨t, b, rfl, _⟩ := h; rfl
  · obtain ⟨t, b, rfl, b0, zt, zb, q⟩ := h
    refine ⟨_, (pss_cons (ps_set (i := 2) sc_law_ratio.nd rfl (.inl rfl) (pe_def G_law_gcd (hr.mono (by decide)) (by rfl) (pa_cons (pv 0) (pa_cons (pv 1) pa_nil)))) (pss_cons (ps_if (pt_cmpR op_lt (pv 1) pe_int (nomark _)) (pss_one (ps_set (i := 2) sc_law_ratio.nd rfl (.inl rfl) (pe_un un_neg (pv 2)))) pss_nil) (pss_one (ps_ret (pe_tup (pa_cons (pe_op op_fdivW (pv 0) (pv 2)) (pa_cons (pe_op op_fdivW (pv 1) (pv 2)) pa_nil))))))), ?_⟩
    have bn : b ≠ 0 := by omega
    have gp := g2_pos (t := t) bn
    have gz := sz_g (t := t) bn zb
    refine ⟨_, rfl, _, rfl, t, b, rfl, ?_⟩
    refine ⟨_, rfl, _, _, rfl, rfl, _, rfl, itF (decide_eq_false (by omega)) ?_⟩
    refine ⟨_, rfl, _, rfl, _, _, rfl, rfl, wide_div gp gz (by decide) (by decide), _, rfl, _, rfl, _, _, rfl, rfl, wide_div gp gz (by decide) (by decide), (by show 2 ≤ sizeLine; decide), fun p np => q _ _ (PB.same_new np) (dp_mkr np)⟩
abbrev s_law_plus : Stmt := topS 34
theorem sc_law_plus : FnScope ["_law_one", "_law_other"] ["_law_one", "_law_other"] (defScope s_law_plus) := ⟨rfl, rfl, rfl, by decide +kernel, rfl, by decide +kernel, by decide +kernel⟩
theorem ok_law_plus (T : Txt K mg "_law_plus" s_law_plus) (G_law_ratio : DefOk P w K mg base CX0 "_law_ratio" 2 ["_law_top", "_law_bottom"] (spLow K)) : DefOk P w K mg base CX0 "_law_plus" 3 ["_law_one", "_law_other"] (spBin K radd) := by
  obtain ⟨f, fd, F, gf⟩ := T
  refine ⟨f, fd, gf, F.kp, F.binds (fun _ _ _ _ _ _ us hl => match us, hl with | [_, _], _ => rfl), F.ok sc_law_plus (fun vs H Q E h => ?_) (fun cdv A outer s H vs Q E hr h => ?_)⟩
  · obtain ⟨v, u, r, s_, rfl, _⟩ := h; rfl
  · obtain ⟨v, u, r, s_, rfl, hv, hu, ir, is_, zr, zs, q⟩ := h
    refine ⟨_, (pss_one (ps_ret (pe_def G_law_ratio (hr.mono (by decide)) (by rfl) (pa_cons (pe_op op_add (pe_op op_mulW (pe_ix ix_it (pv 0) pe_int (fun _ _ => rfl)) (pe_ix ix_it (pv 1) pe_int (fun _ _ => rfl))) (pe_op op_mulW (pe_ix ix_it (pv 1) pe_int (fun _ _ => rfl)) (pe_ix ix_it (pv 0) pe_int (fun _ _ => rfl)))) (pa_cons (pe_op op_mulW (pe_ix ix_it (pv 0) pe_int (fun _ _ => rfl)) (pe_ix ix_it (pv 1) pe_int (fun _ _ => rfl))) pa_nil))))), ?_⟩
    have c1 := cou_r hv
    have c2 := cou_r hu
    refine ⟨v, rfl, _, _, 0, _, rfl, c1, rfl, u, rfl, _, _, 1, _, rfl, c2, rfl, _, _, rfl, rfl, wide_mul zr.1 zs.2 (by decide) (by decide) (by decide), u, rfl, _, _, 0, _, rfl, c2, rfl, v, rfl, _, _, 1, _, rfl, c1, rfl, _, _, rfl, rfl, wide_mul zs.1 zr.2 (by decide) (by decide) (by decide), _, _, rfl, rfl, ?_⟩
    exact ⟨v, rfl, _, _, 1, _, rfl, c1, rfl, u, rfl, _, _, 1, _, rfl, c2, rfl, _, _, rfl, rfl, wide_mul zr.2 zs.2 (by decide) (by decide) (by decide), _, _, rfl, Int.mul_pos ir.1 is_.1, sz_mono (sz_add (sz_mul zr.1 zs.2) (sz_mul zs.1 zr.2)) (by decide), sz_mono (sz_mul zr.2 zs.2) (by decide), fun H' z sm hz => q H' z sm hz⟩
abbrev s_law_less : Stmt := topS 35
theorem sc_law_less : FnScope ["_law_one", "_law_other"] ["_law_one", "_law_other"] (defScope s_law_less) := ⟨rfl, rfl, rfl, by decide +kernel, rfl, by decide +kernel, by decide +kernel⟩
theorem ok_law_less (T : Txt K mg "_law_less" s_law_less) (G_law_ratio : DefOk P w K mg base CX0 "_law_ratio" 2 ["_law_top", "_law_bottom"] (spLow K)) : DefOk P w K mg base CX0 "_law_less" 3 ["_law_one", "_law_other"] (spBin K rsub) := by
  obtain ⟨f, fd, F, gf⟩ := T
  refine ⟨f, fd, gf, F.kp, F.binds (fun _ _ _ _ _ _ us hl => match us, hl with | [_, _], _ => rfl), F.ok sc_law_less (fun vs H Q E h => ?_) (fun cdv A outer s H vs Q E hr h => ?_)⟩
  · obtain ⟨v, u, r, s_, rfl, _⟩ := h; rfl
  · obtain ⟨v, u, r, s_, rfl, hv, hu, ir, is_, zr, zs, q⟩ := h
    refine ⟨_, (pss_one (ps_ret (pe_def G_law_ratio (hr.mono (by decide)) (by rfl) (pa_cons (pe_op op_sub (pe_op op_mulW (pe_ix ix_it (pv 0) pe_int (fun _ _ => rfl)) (pe_ix ix_it (pv 1) pe_int (fun _ _ => rfl))) (pe_op op_mulW (pe_ix ix_it (pv 1) pe_int (fun _ _ => rfl)) (pe_ix ix_it (pv 0) pe_int (fun _ _ => rfl)))) (pa_cons (pe_op op_mulW (pe_ix ix_it (pv 0) pe_int (fun _ _ => rfl)) (pe_ix ix_it (pv 1) pe_int (fun _ _ => rfl))) pa_nil))))), ?_⟩
    have c1 := cou_r hv
    have c2 := cou_r hu
    refine ⟨v, rfl, _, _, 0, _, rfl, c1, rfl, u, rfl, _, _, 1, _, rfl, c2, rfl, _, _, rfl, rfl, wide_mul zr.1 zs.2 (by decide) (by decide) (by decide), u, rfl, _, _, 0, _, rfl, c2, rfl, v, rfl, _, _, 1, _, rfl, c1, rfl, _, _, rfl, rfl, wide_mul zs.1 zr.2 (by decide) (by decide) (by decide), _, _, rfl, rfl, ?_⟩
    exact ⟨v, rfl, _, _, 1, _, rfl, c1, rfl, u, rfl, _, _, 1, _, rfl, c2, rfl, _, _, rfl, rfl, wide_mul zr.2 zs.2 (by decide) (by decide) (by decide), _, _, rfl, Int.mul_pos ir.1 is_.1, sz_mono (sz_sub (sz_mul zr.1 zs.2) (sz_mul zs.1 zr.2)) (by decide), sz_mono (sz_mul zr.2 zs.2) (by decide), fun H' z sm hz => q H' z sm hz⟩
abbrev s_law_times : Stmt := topS 36
theorem sc_law_times : FnScope ["_law_one", "_law_other"] ["_law_one", "_law_other"] (defScope s_law_times) := ⟨rfl, rfl, rfl, by decide +kernel, rfl, by decide +kernel, by decide +kernel⟩
theorem ok_law_times (T : Txt K mg "_law_times" s_law_times) (G_law_ratio : DefOk P w K mg base CX0 "_law_ratio" 2 ["_law_top", "_law_bottom"] (spLow K)) : DefOk P w K mg base CX0 "_law_times" 3 ["_law_one", "_law_other"] (spBin K rmul) := by
  obtain ⟨f, fd, F, gf⟩ := T
  refine ⟨f, fd, gf, F.kp, F.binds (fun _ _ _ _ _ _ us hl => match us, hl with | [_, _], _ => rfl), F.ok sc_law_times (fun vs H Q E h => ?_) (fun cdv A outer s H vs Q E hr h => ?_)⟩
  · obtain ⟨v, u, r, s_, rfl, _⟩ := h; rfl
  · obtain ⟨v, u, r, s_, rfl, hv, hu, ir, is_, zr, zs, q⟩ := h
    refine ⟨_, (pss_one (ps_ret (pe_def G_law_ratio (hr.mono (by decide)) (by rfl) (pa_cons (pe_op op_mulW (pe_ix ix_it (pv 0) pe_int (fun _ _ => rfl)) (pe_ix ix_it (pv 1) pe_int (fun _ _ => rfl))) (pa_cons (pe_op op_mulW (pe_ix ix_it (pv 0) pe_int (fun _ _ => rfl)) (pe_ix ix_it (pv 1) pe_int (fun _ _ => rfl))) pa_nil))))), ?_⟩
    have c1 := cou_r hv
    have c2 := cou_r hu
    exact ⟨v, rfl, _, _, 0, _, rfl, c1, rfl, u, rfl, _, _, 0, _, rfl, c2, rfl, _, _, rfl, rfl, wide_mul zr.1 zs.1 (by decide) (by decide) (by decide), v, rfl, _, _, 1, _, rfl, c1, rfl, u, rfl, _, _, 1, _, rfl, c2, rfl, _, _, rfl, rfl, wide_mul zr.2 zs.2 (by decide) (by decide) (by decide), _, _, rfl, Int.mul_pos ir.1 is_.1, sz_mono (sz_mul zr.1 zs.1) (by decide), sz_mono (sz_mul zr.2 zs.2) (by decide), fun H' z sm hz => q H' z sm hz⟩
abbrev s_law_plain : Stmt := topS 39
theorem sc_law_plain : FnScope ["_law_told", "_law_due"] ["_law_told", "_law_due"] (defScope s_law_plain) := ⟨rfl, rfl, rfl, by decide +kernel, rfl, by decide +kernel, by decide +kernel⟩
theorem ok_law_plain (T : Txt K mg "_law_plain" s_law_plain) (misinstance : mg "isinstance" = none) (mtuple : mg "tuple" = none) (mint : mg "int" = none) (mbool : mg "bool" = none) : DefOk P w K mg base CX0 "_law_plain" 1 ["_law_told", "_law_due"] (spPlain K) := by
  obtain ⟨f, fd, F, gf⟩ := T
  refine ⟨f, fd, gf, F.kp, F.binds (fun _ _ _ _ _ _ us hl => match us, hl with | [_, _], _ => rfl), F.ok sc_law_plain (fun vs H Q E h => ?_) (fun cdv A outer s H vs Q E hr h => ?_)⟩
  · obtain ⟨v, u, r, rfl, _⟩ := h; rfl
  · obtain ⟨v, u, r, rfl, hv, hu, q⟩ := h
    refine ⟨_, (pss_one (ps_ret (pe_and (pe_callB call_isi (by rfl) misinstance boot_isinstance (pa_cons (pv 0) (pa_cons (pe_bltn (v := .ty "tuple") (by rfl) mtuple (by decide +kernel) rfl) pa_nil))) (pe_and (pe_cmpR (op_eqD hr.units) (pv 0) (pv 1) (nomark _)) (pe_and (pe_callB call_isi (by rfl) misinstance boot_isinstance (pa_cons (pe_ix ix_it (pv 0) pe_int (fun _ _ => rfl)) (pa_cons (pe_bltn (v := .ty "int") (by rfl) mint (by decide +kernel) rfl) pa_nil))) (pe_and (pe_not (pe_callB call_isi (by rfl) misinstance boot_isinstance (pa_cons (pe_ix ix_it (pv 0) pe_int (fun _ _ => rfl)) (pa_cons (pe_bltn (v := .ty "bool") (by rfl) mbool (by decide +kernel) rfl) pa_nil)))) (pe_one (pe_not (pe_callB call_isi (by rfl) misinstance boot_isinstance (pa_cons (pe_ix ix_it (pv 0) pe_int (fun _ _ => rfl)) (pa_cons (pe_bltn (v := .ty "bool") (by rfl) mbool (by decide +kernel) rfl) pa_nil))))))))))), ?_⟩
    have c := cou_r hv
    refine ⟨v, rfl, v, _, _, _, _, rfl, .ty _, dp_tyx hv, kit_ty (kit_tuple (rD r)), true, rfl, itT rfl ?_⟩
    refine ⟨v, rfl, u, rfl, eq_same (shaped_r r) hv hu ⟨true, rfl, itT rfl ?_⟩⟩
    refine ⟨v, rfl, _, _, 0, _, rfl, c, rfl, _, _, _, _, _, rfl, .ty _, .base (.int _), kit_ty (kit_int (.int r.1)), true, rfl, itT rfl ?_⟩
    refine ⟨v, rfl, _, _, 0, _, rfl, c, rfl, _, _, _, _, _, rfl, .ty _, .base (.int _), kit_ty (kit_bool (.int r.1)), _, rfl, _, rfl, itT rfl ?_⟩
    exact ⟨v, rfl, _, _, 1, _, rfl, c, rfl, _, _, _, _, _, rfl, .ty _, .base (.int _), kit_ty (kit_bool (.int r.2)), _, rfl, q⟩
end
end F3
set_option Elab.async false
set_option linter.all false
set_option maxRecDepth 100000
set_option maxHeartbeats 4000000
set_option exponentiation.threshold 3000
namespace F3
open PySem PySem.Spec PyProof.Rows L2 FX RM PB
/-! the text -/
abbrev sHand : Stmt := topS 29
abbrev sMixed : Stmt := topS 30
abbrev sTake : Stmt := topS 31
theorem scHand : FnScope ["_law_script", "_law_total", "_law_cells", "_law_cell"] ["_law_script"] (defScope sHand) := ⟨rfl, rfl, rfl, by decide +kernel, rfl, by decide +kernel, by decide +kernel⟩
theorem scMixed : FnScope ["_law_number_here", "_law_turn", "_law_once", "_law_twice"] ["_law_number_here", "_law_turn"] (defScope sMixed) := ⟨rfl, rfl, rfl, by decide +kernel, rfl, by decide +kernel, by decide +kernel⟩
theorem scTake : FnScope ["_law_hand_here", "_law_many", "_law_cell", "_law_rest"] ["_law_hand_here", "_law_many"] (defScope sTake) := ⟨rfl, rfl, rfl, by decide +kernel, rfl, by decide +kernel, by decide +kernel⟩
/-! heaps -/
theorem same_updH {H : Hp} {p : Addr} {o : HO} (h : H p = none) : Same H (upd H p o) := fun b x e => by
  rw [upd_ne (ne_of_none e h)]; exact e
/-- all but what stands at p is as it was -/
def SameBut (p : Addr) (H H' : Hp) : Prop := (∀ b o, b ≠ p → H b = some o → H' b = some o) ∧ ∀ c l, H p = some (.lst (.ref c :: l)) → ∃ l', H' p = some (.lst (.ref c :: l'))
theorem SameBut.rfl {p : Addr} {H : Hp} : SameBut p H H := ⟨fun _ _ _ e => e, fun _ l e => ⟨l, e⟩⟩
theorem sb_upd {H : Hp} {p c : Addr} {l l' : List V} (h : H p = some (.lst (.ref c :: l))) : SameBut p H (upd H p (.lst (.ref c :: l'))) := ⟨fun b x n e => by rw [upd_ne n]; exact e, fun c2 l2 e => by rw [h] at e; cases e; exact ⟨_, upd_same⟩⟩
theorem SameBut.trans {p : Addr} {H H1 H2 : Hp} (a : SameBut p H H1) (b : SameBut p H1 H2) : SameBut p H H2 := ⟨fun c o n e => b.1 c o n (a.1 c o n e), fun c l e => by obtain ⟨l1, e1⟩ := a.2 c l e; exact b.2 c l1 e1⟩
/-- the hand that a law draws from -/
def HandIs (H : Hp) (p c : Addr) (cs : List Int) (i r t : Int) : Prop :=
  H p = some (.lst [.ref c, .int i, .int r, .int t]) ∧ H c = some (.lst (cs.map V.int)) ∧ (∀ z ∈ cs, 0 ≤ z) ∧ 0 ≤ i ∧ i ≤ cs.length ∧ cs.length ≤ 63 ∧ 0 ≤ r ∧ 0 ≤ t ∧ t < 2147483629
def HandAt (H : Hp) (p : Addr) : Prop := ∃ c cs i r t, HandIs H p c cs i r t
theorem HandIs.ne {H : Hp} {p c : Addr} {cs : List Int} {i r t : Int} (h : HandIs H p c cs i r t) : c ≠ p := fun e => by
  obtain ⟨a, b, _⟩ := h
  subst e
  rw [a] at b
  have z := HO.lst.inj (Option.some.inj b)
  cases cs with
  | nil => cases z
  | cons x l => cases z
theorem HandIs.put {H : Hp} {p c : Addr} {cs : List Int} {i r t i' r' t' : Int} (h : HandIs H p c cs i r t) (hi : 0 ≤ i') (hi2 : i' ≤ cs.length) (hr : 0 ≤ r') (ht : 0 ≤ t') (ht2 : t' < 2147483629) :
    HandIs (upd H p (.lst [.ref c, .int i', .int r', .int t'])) p c cs i' r' t' := by
  have n := h.ne
  obtain ⟨a, b, c1, _, _, c4, _⟩ := h
  exact ⟨upd_same, by rw [upd_ne n]; exact b, c1, hi, hi2, c4, hr, ht, ht2⟩
theorem HandAt.same {H H' : Hp} {p : Addr} (h : HandAt H p) (s : Same H H') : HandAt H' p := by
  obtain ⟨c, cs, i, r, t, a, b, q⟩ := h
  exact ⟨c, cs, i, r, t, s _ _ a, s _ _ b, q⟩
/-! promises -/
def spHand (K : PySem.W.Frag) : Sp := fun vs H Q _ => ∃ (a : Addr) (ns : List Int), vs = [.ref a] ∧ SqL K H a (ns.map V.int) ∧ ns.length ≤ 63 ∧ ∀ H' p, Same H H' → H p = none → HandAt H' p → Q (.ref p) H'
def spMixed : Sp := fun vs H Q _ => ∃ (n t : Int), vs = [.int n, .int t] ∧ 0 ≤ n ∧ n < 2147483647 ∧ 0 ≤ t ∧ t ≤ 1000 ∧ ∀ z, Q (.int z) H
def spTake : Sp := fun vs H Q _ => ∃ (p : Addr) (m : Int), vs = [.ref p, .int m] ∧ HandAt H p ∧ 0 < m ∧ m < 1073741824 ∧ ∀ v H', 0 ≤ v → v < m → HandAt H' p → SameBut p H H' → Q (.int v) H'
section
variable {P : Program} {w : World} {K : PySem.W.Frag} {mg : Str → Option Value} {base : Heap}
theorem ok_mixed {f : Addr} {fd : FuncData} {k : Nat} (F : Fun K "_law_mixed" "_law_mixed" sMixed f fd) (mi : mg "int" = none) : FnOk P w K mg base CX0 (k + 1) f fd ["_law_number_here", "_law_turn"] spMixed := by
  refine F.ok scMixed (fun vs H Q E h => ?_) (fun cdv A outer s H vs Q E hr h => ?_)
  · obtain ⟨n, t, rfl, _⟩ := h; rfl
  · obtain ⟨n, t, rfl, n0, n1, t0, t1, q⟩ := h
    refine ⟨_, pss_cons (ps_set (i := 2) scMixed.nd rfl (.inl rfl) (pe_op op_mod (pe_callTy call_int1 (by rfl) mi boot_int (pa_cons
          (pe_op op_add (pe_op op_add (pe_op op_mul (pv 0) pe_int) (pe_op op_mul (pv 1) pe_int)) pe_int) pa_nil)) pe_int))
      (pss_cons (ps_set (i := 3) scMixed.nd rfl (.inl rfl) (pe_op op_mod (pe_callTy call_int1 (by rfl) mi boot_int (pa_cons
          (pe_op op_add (pe_op op_add (pe_op op_mul (pv 2) (pv 2)) (pe_op op_mul (pv 1) pe_int)) (pe_op op_fdiv (pv 2) pe_int)) pa_nil)) pe_int))
      (pss_one (ps_ret (pe_op op_fdiv (pe_callTy call_int1 (by rfl) mi boot_int (pa_cons
          (pe_op op_mod (pe_callTy call_int1 (by rfl) mi boot_int (pa_cons (pe_op op_add (pe_op op_mul (pv 3) pe_int) (pe_op op_fdiv (pv 2) pe_int)) pa_nil)) pe_int) pa_nil)) pe_int)))), ?_⟩
    refine ⟨_, rfl, _, _, rfl, rfl, .inl ⟨by omega, by omega⟩, _, rfl, _, _, rfl, rfl, .inl ⟨by omega, by omega⟩, _, _, rfl, rfl, _, _, rfl, rfl, .inl ⟨_, rfl, _, _, rfl, rfl, (by show (0 : Int) < _; decide), ?_⟩⟩
    generalize hx : (n * 48271 + t * 7919 + 65537) % 2147483647 = x
    have x0 : 0 ≤ x := by omega
    have x1 : x < 2147483647 := by omega
    refine ⟨_, rfl, _, rfl, _, _, rfl, rfl, .inl ⟨by omega, by omega⟩, _, rfl, _, _, rfl, rfl, .inl ⟨by omega, by omega⟩, _, _, rfl, rfl, _, rfl, _, _, rfl, rfl, ⟨by decide, by decide⟩, _, _, rfl, rfl, .inl ⟨_, rfl, _, _, rfl, rfl, (by show (0 : Int) < _; decide), ?_⟩⟩
    generalize hy : (x * x + t * 104729 + x / 127) % 2147483629 = y
    have y0 : 0 ≤ y := by omega
    have y1 : y < 2147483629 := by omega
    refine ⟨_, rfl, _, _, rfl, rfl, .inl ⟨by omega, by omega⟩, _, rfl, _, _, rfl, rfl, ⟨by decide, by decide⟩, _, _, rfl, rfl, .inl ⟨_, rfl, _, _, rfl, rfl, (by show (0 : Int) < _; decide), .inl ⟨_, rfl, _, _, rfl, rfl, ⟨by decide, by decide⟩, q _⟩⟩⟩
theorem ok_hand {f : Addr} {fd : FuncData} {k : Nat} (F : Fun K "_law_hand" "_law_hand" sHand f fd) (mi : mg "int" = none) (ml : mg "len" = none) : FnOk P w K mg base CX0 (k + 1) f fd ["_law_script"] (spHand K) := by
  refine F.ok scHand (fun vs H Q E h => ?_) (fun cdv A outer s H vs Q E hr h => ?_)
  · obtain ⟨a, ns, rfl, _⟩ := h; rfl
  · obtain ⟨a, ns, rfl, hS, hlen, q⟩ := h
    refine ⟨_, pss_cons (ps_set (i := 1) scHand.nd rfl (.inl rfl) (pe_op op_add (pe_callB call_len_seq (by rfl) ml PySem.boot_len (pa_cons (pv 0) pa_nil)) pe_int))
      (pss_cons (ps_set (i := 2) scHand.nd rfl (.inl rfl) (pe_lst pa_nil))
      (pss_cons (ps_for PassesOwn.never rfl (pi_list (pv 0)) (pg_name (i := 3) scHand.nd rfl (.inl rfl))
        (pss_cons (ps_set (i := 1) scHand.nd rfl (.inl rfl) (pe_op op_mod (pe_callTy call_int1 (by rfl) mi boot_int (pa_cons
            (pe_op op_add (pe_op op_mul (pv 1) pe_int) (pe_callTy call_int1 (by rfl) mi boot_int (pa_cons (pv 3) pa_nil))) pa_nil)) pe_int))
        (pss_one (ps_expr (pe_bm PySem.F.plainAttrs_list PySem.F.slot_list_append PySem.F.type_list_append mt_append (pv 2) (pa_cons
          (pe_ifExp (pt_cmpR op_ge (pv 3) pe_int (nomark _)) (pe_callTy call_int1 (by rfl) mi boot_int (pa_cons (pv 3) pa_nil))
            (pe_un un_neg (pe_callTy call_int1 (by rfl) mi boot_int (pa_cons (pv 3) pa_nil)))) pa_nil))))))
      (pss_one (ps_ret (pe_lst (pa_cons (pv 2) (pa_cons pe_int (pa_cons pe_int (pa_cons (pv 1) pa_nil))))))))), ?_⟩
    refine ⟨.ref a, rfl, a, _, rfl, .inl hS, _, _, rfl, rfl, Nat.zero_le _, fun c nc => ?_⟩
    refine ⟨.ref a, rfl, a, rfl, ⟨_, (same_updH nc).seq hS⟩, for_list (K := K) (a := a) (xs := ns.map V.int)
      (fun i σ H' => ∃ (t : Int) (y : Option V) (cs : List Int), σ = [some (.ref a), some (.int t), some (.ref c), y] ∧ 0 ≤ t ∧ t < 2147483629 ∧ (∀ z ∈ cs, 0 ≤ z) ∧ cs.length = i ∧ Same H H' ∧ H' c = some (.lst (cs.map V.int)))
      ⟨_, none, [], rfl, ?_, ?_, (fun z hz => nomatch hz), rfl, same_updH nc, upd_same⟩ (fun i σ H' _ ⟨_, _, _, _, _, _, _, _, s5, _⟩ => s5.seq hS) ?_ ?_⟩
    · rw [List.length_map]; omega
    · rw [List.length_map]; omega
    · rintro i x σ H' hi ⟨t, y, cs, rfl, t0, t1, c0, cl, sm, hc⟩
      obtain ⟨z, rfl⟩ : ∃ z, x = V.int z := by
        rw [List.getElem?_map] at hi
        cases e : ns[i]? with
        | none => rw [e] at hi; cases hi
        | some z => rw [e] at hi; exact ⟨z, (Option.some.inj hi).symm⟩
      have il : i < 63 := by
        have := (List.getElem?_eq_some_iff.mp hi).1
        rw [List.length_map] at this
        omega
      refine ⟨_, rfl, _, _, rfl, rfl, .inl ⟨by omega, by omega⟩, .int z, rfl, .inl ⟨_, rfl, _, _, rfl, rfl, .inl ⟨_, rfl, _, _, rfl, rfl, (by show (0 : Int) < _; decide), ?_⟩⟩⟩
      have go : ∀ y : Int, 0 ≤ y → ∃ l xs y', V.ref c = V.ref l ∧ [V.int y] = [y'] ∧ H' l = some (.lst xs) ∧ xs.length < sizeLine ∧ (∃ (t' : Int) (v : Option V) (cs' : List Int), [some (V.ref a), some (V.int ((t * 1019 + z) % 2147483629)), some (V.ref c), some (V.int z)] = [some (.ref a), some (.int t'), some (.ref c), v] ∧ 0 ≤ t' ∧ t' < 2147483629 ∧ (∀ z ∈ cs', 0 ≤ z) ∧ cs'.length = i + 1 ∧ Same H (upd H' l (.lst (xs ++ [y']))) ∧ upd H' l (.lst (xs ++ [y'])) c = some (.lst (cs'.map V.int))) := fun y hy => by
        refine ⟨c, _, .int y, rfl, rfl, hc, by rw [List.length_map]; exact small1000 (by omega), _, _, cs ++ [y], rfl, by omega, by omega, ?_, by simp [cl], fun b o e => ?_, ?_⟩
        · intro z hz
          rcases List.mem_append.mp hz with hz | hz
          · exact c0 z hz
          · rw [List.mem_singleton.mp hz]; exact hy
        · rw [upd_ne (ne_of_none e nc)]; exact sm _ _ e
        · rw [upd_same, List.map_append]; rfl
      refine ⟨.ref c, rfl, .inl ⟨rfl, _, .inl (.inl hc)⟩, .int z, rfl, _, _, rfl, rfl, _, rfl, ite2 (fun e => ?_) (fun e => ?_)⟩
      · exact ⟨_, rfl, .inl ⟨_, rfl, go z (of_decide_eq_true e)⟩⟩
      · exact ⟨_, rfl, .inl ⟨_, rfl, _, rfl, go (-z) (by have : ¬ (0 : Int) ≤ z := fun h => e (decide_eq_true h); omega)⟩⟩
    · rintro σ H' ⟨t, y, cs, rfl, t0, t1, c0, cl, sm, hc⟩
      refine ⟨_, rfl, _, rfl, (by show 4 ≤ sizeLine; decide), fun p np => q _ p ?_ (sm.free np) ?_⟩
      · exact sm.trans (same_updH np)
      · refine ⟨c, cs, 0, 0, t, upd_same, ?_, c0, by omega, by omega, ?_, by omega, t0, t1⟩
        · rw [upd_ne (ne_of_none hc np)]; exact hc
        · rw [cl, List.length_map]; exact hlen
theorem ok_take {f fM : Addr} {fd fdM : FuncData} {k : Nat} (F : Fun K "_law_take" "_law_take" sTake f fd) (FM : Fun K "_law_mixed" "_law_mixed" sMixed fM fdM) (bM : Binds K fdM ["_law_number_here", "_law_turn"] []) (gM : mg "_law_mixed" = some (.ref fM))
    (mi : mg "int" = none) (ml : mg "len" = none) : FnOk P w K mg base CX0 (k + 2) f fd ["_law_hand_here", "_law_many"] spTake := by
  have GM : FnOk P w K mg base CX0 (k + 1) fM fdM ["_law_number_here", "_law_turn"] spMixed := ok_mixed FM mi
  refine F.ok scTake (fun vs H Q E h => ?_) (fun cdv A outer s H vs Q E hr h => ?_)
  · obtain ⟨p, m, rfl, _⟩ := h; rfl
  · obtain ⟨p, m, rfl, hH, m0, m1, q⟩ := h
    obtain ⟨c, cs, i, r, t, hh⟩ := hH
    refine ⟨_, pss_cons (ps_if (PW.pt (pw_and (pt_cmpR op_eq (pe_ix ix_list (pv 0) pe_int (fun _ _ => rfl)) pe_int (nomark _))
          (pw_and1 (pt_cmpR op_lt (pe_ix ix_list (pv 0) pe_int (fun _ _ => rfl)) (pe_callB call_len_seq (by rfl) ml PySem.boot_len (pa_cons (pe_ix ix_list (pv 0) pe_int (fun _ _ => rfl)) pa_nil)) (nomark _)))))
        (pss_cons (ps_set (i := 2) scTake.nd rfl (.inl rfl) (pe_ix ix_list (pe_ix ix_list (pv 0) pe_int (fun _ _ => rfl)) (pe_ix ix_list (pv 0) pe_int (fun _ _ => rfl)) (fun _ _ => rfl)))
        (pss_cons (ps_asg (pe_op op_add (pe_ix ix_list (pv 0) pe_int (fun _ _ => rfl)) pe_int) (pg_sub (pv 0) pe_int set_list))
        (pss_cons (ps_if (pt_cmpR op_lt (pv 2) (pe_op op_pow pe_int pe_int) (nomark _))
          (pss_one (ps_ret (pe_op op_mod (pe_callTy call_int1 (by rfl) mi boot_int (pa_cons (pe_call GM hr (by rfl) gM FM.kp bM .nil pass0
            (pa_cons (pe_op op_mod (pe_callTy call_int1 (by rfl) mi boot_int (pa_cons (pv 2) pa_nil)) pe_int) (pa_cons (pe_ix ix_list (pv 0) pe_int (fun _ _ => rfl)) pa_nil))) pa_nil)) (pv 1)))) pss_nil)
        (pss_one (ps_asg (pv 2) (pg_sub (pv 0) pe_int set_list)))))) pss_nil)
      (pss_cons (ps_if (pt_cmpR op_gt (pe_ix ix_list (pv 0) pe_int (fun _ _ => rfl)) pe_int (nomark _))
        (pss_cons (ps_set (i := 3) scTake.nd rfl (.inl rfl) (pe_ix ix_list (pv 0) pe_int (fun _ _ => rfl)))
        (pss_cons (ps_asg (pe_op op_fdiv (pe_callTy call_int1 (by rfl) mi boot_int (pa_cons (pv 3) pa_nil)) (pv 1)) (pg_sub (pv 0) pe_int set_list))
        (pss_one (ps_ret (pe_op op_mod (pe_callTy call_int1 (by rfl) mi boot_int (pa_cons (pv 3) pa_nil)) (pv 1)))))) pss_nil)
      (pss_cons (ps_asg (pe_op op_mod (pe_callTy call_int1 (by rfl) mi boot_int (pa_cons (pe_op op_add (pe_ix ix_list (pv 0) pe_int (fun _ _ => rfl)) pe_int) pa_nil)) pe_int) (pg_sub (pv 0) pe_int set_list))
      (pss_one (ps_ret (pe_op op_mod (pe_callTy call_int1 (by rfl) mi boot_int (pa_cons (pe_call GM hr (by rfl) gM FM.kp bM .nil pass0
            (pa_cons (pe_ix ix_list (pv 0) pe_int (fun _ _ => rfl)) (pa_cons (pe_ix ix_list (pv 0) pe_int (fun _ _ => rfl)) pa_nil))) pa_nil)) (pv 1)))))), ?_⟩
    have nn := hh.ne
    obtain ⟨hp, hc, c0, i0, i1, cl, r0, t0, t1⟩ := id hh
    -- what stands behind the first if
    have tail : ∀ (H1 : Hp) (i r : Int) (x2 : Option V), HandIs H1 p c cs i r t → SameBut p H H1 → tSeq
        (tIfS (tTest (tOp (rI0 fun i j => .bl (decide (j < i))) (tOp (rIxL K) (tVar 0) (tC (.int 2))) (tC (.int 0)))) (tSeq (tAsg (tOp (rIxL K) (tVar 0) (tC (.int 2))) (gName 3))
          (tSeq (tAsg (tOp (rI CDiv fun i j => .int (i / j)) (tCB (fun xs H Q => (∃ i, xs = [.int i] ∧ Q (.int i) H) ∨ ∃ k, xs = [.bl k] ∧ Q (.int (if k then 1 else 0)) H) (tCons (tVar 3) tNil)) (tVar 1)) (gSub (tVar 0) (tC (.int 2)) rSetL))
            (tRet (tOp (rI (fun _ j => 0 < j) fun i j => .int (i % j)) (tCB (fun xs H Q => (∃ i, xs = [.int i] ∧ Q (.int i) H) ∨ ∃ k, xs = [.bl k] ∧ Q (.int (if k then 1 else 0)) H) (tCons (tVar 3) tNil)) (tVar 1))))) tNext)
        (tSeq (tAsg (tOp (rI (fun _ j => 0 < j) fun i j => .int (i % j)) (tCB (fun xs H Q => (∃ i, xs = [.int i] ∧ Q (.int i) H) ∨ ∃ k, xs = [.bl k] ∧ Q (.int (if k then 1 else 0)) H)
            (tCons (tOp (rI0 fun i j => .int (i + j)) (tOp (rIxL K) (tVar 0) (tC (.int 3))) (tC (.int 1))) tNil)) (tC (.int 2147483629))) (gSub (tVar 0) (tC (.int 3)) rSetL))
          (tRet (tOp (rI (fun _ j => 0 < j) fun i j => .int (i % j)) (tCB (fun xs H Q => (∃ i, xs = [.int i] ∧ Q (.int i) H) ∨ ∃ k, xs = [.bl k] ∧ Q (.int (if k then 1 else 0)) H)
            (tCons (tCall spMixed [] E0 (tCons (tOp (rIxL K) (tVar 0) (tC (.int 3))) (tCons (tOp (rIxL K) (tVar 0) (tC (.int 1))) tNil))) tNil)) (tVar 1))))
        { nx := fun _ H' => Q .non H', rt := Q } [some (.ref p), some (.int m), x2, none] H1 := by
      intro H1 i r x2 h1 sb
      obtain ⟨hp1, hc1, _, i0', i1', _, r0', _, _⟩ := id h1
      refine ⟨.ref p, rfl, p, _, 2, _, rfl, rfl, .of hp1, rfl, _, _, rfl, rfl, _, rfl, ite2 (fun e => ?_) (fun e => ?_)⟩
      · have rp : 0 < r := of_decide_eq_true e
        refine ⟨.ref p, rfl, p, _, 2, _, rfl, rfl, .of hp1, rfl, .int r, rfl, .inl ⟨_, rfl, .int m, rfl, _, _, rfl, rfl, ⟨m0, m1⟩, .ref p, rfl, p, _, 2, 2, rfl, rfl, hp1, rfl, ?_⟩⟩
        refine ⟨.int r, rfl, .inl ⟨_, rfl, .int m, rfl, _, _, rfl, rfl, m0, q _ _ (Int.emod_nonneg _ (by omega)) (Int.emod_lt_of_pos _ m0) ⟨c, cs, i, r / m, t, ?_⟩ (sb.trans (sb_upd hp1))⟩⟩
        exact h1.put i0' i1' (Int.ediv_nonneg r0' (by omega)) t0 t1
      · refine ⟨.ref p, rfl, p, _, 3, _, rfl, rfl, .of hp1, rfl, _, _, rfl, rfl, .inl ⟨_, rfl, _, _, rfl, rfl, (by show (0 : Int) < _; decide), .ref p, rfl, p, _, 3, 3, rfl, rfl, hp1, rfl, ?_⟩⟩
        have z0 : 0 ≤ (t + 1) % 2147483629 := by omega
        have z1 : (t + 1) % 2147483629 < 2147483629 := by omega
        have h2 := h1.put (i' := i) (r' := r) i0' i1' r0' z0 z1
        refine ⟨.ref p, rfl, p, _, 3, _, rfl, rfl, .of upd_same, rfl, .ref p, rfl, p, _, 1, _, rfl, rfl, .of upd_same, rfl, _, _, rfl, z0, by omega, i0', by omega, fun z => .inl ⟨_, rfl, .int m, rfl, _, _, rfl, rfl, m0, ?_⟩⟩
        exact q _ _ (Int.emod_nonneg _ (by omega)) (Int.emod_lt_of_pos _ m0) ⟨c, cs, i, r, _, h2⟩ (sb.trans (sb_upd hp1))
    refine ⟨.ref p, rfl, p, _, 2, _, rfl, rfl, .of hp, rfl, rfl, _, rfl, ite2 (fun e => ?_) (fun e => ?_)⟩
    · have re : r = 0 := V.int.inj (of_decide_eq_true e)
      refine ⟨.ref p, rfl, p, _, 1, _, rfl, rfl, .of hp, rfl, .ref p, rfl, p, _, 0, _, rfl, rfl, .of hp, rfl, c, _, rfl, .inl (.of hc), _, _, rfl, rfl, _, rfl, ite2 (fun e => ?_) (fun e => ?_)⟩
      · have il : i < cs.length := by
          have := of_decide_eq_true e
          rw [List.length_map] at this
          exact this
        obtain ⟨n, rfl⟩ := Int.eq_ofNat_of_zero_le i0
        have nl : n < cs.length := by omega
        have g : (cs.map V.int)[n]? = some (.int cs[n]) := by rw [List.getElem?_map, List.getElem?_eq_getElem nl]; rfl
        have z0 : 0 ≤ cs[n] := c0 _ (List.getElem_mem nl)
        have h2 := hh.put (i' := n + 1) (r' := r) (t' := t) (by omega) (by omega) r0 t0 t1
        refine ⟨.ref p, rfl, p, _, 0, _, rfl, rfl, .of hp, rfl, .ref p, rfl, p, _, 1, _, rfl, rfl, .of hp, rfl, c, _, _, _, rfl, rfl, .of hc, atI_nat g, ?_⟩
        refine ⟨.ref p, rfl, p, _, 1, _, rfl, rfl, .of hp, rfl, _, _, rfl, rfl, .ref p, rfl, p, _, 1, 1, rfl, rfl, hp, rfl, ?_⟩
        refine ⟨_, rfl, _, _, rfl, rfl, ⟨by decide, by decide, by decide⟩, _, _, rfl, rfl, _, rfl, ite2 (fun e => ?_) (fun e => ?_)⟩
        · refine ⟨_, rfl, .inl ⟨_, rfl, _, _, rfl, rfl, (by show (0 : Int) < _; decide), .ref p, rfl, p, _, 1, _, rfl, rfl, .of upd_same, rfl, _, _, rfl, by omega, by omega, by omega, by omega, fun z => .inl ⟨_, rfl, .int m, rfl, _, _, rfl, rfl, m0, ?_⟩⟩⟩
          exact q _ _ (Int.emod_nonneg _ (by omega)) (Int.emod_lt_of_pos _ m0) ⟨c, cs, _, r, t, h2⟩ (sb_upd hp)
        · refine ⟨_, rfl, .ref p, rfl, p, _, 2, 2, rfl, rfl, upd_same, rfl, ?_⟩
          rw [upd_upd]
          exact tail _ (n + 1) _ _ (hh.put (by omega) (by omega) z0 t0 t1) (sb_upd hp)
      · exact tail H i r _ hh SameBut.rfl
    · exact tail H i r _ hh SameBut.rfl

theorem dkHand (T : Txt K mg "_law_hand" sHand) (mint : mg "int" = none) (mlen : mg "len" = none) : DefOk P w K mg base CX0 "_law_hand" 1 ["_law_script"] (spHand K) := by
  obtain ⟨f, fd, F, g⟩ := T
  exact ⟨f, fd, g, F.kp, F.binds (fun _ _ _ _ _ _ us hl => match us, hl with | [_], _ => rfl), ok_hand (k := 0) F mint mlen⟩
theorem dkTake (T : Txt K mg "_law_take" sTake) (TM : Txt K mg "_law_mixed" sMixed) (mint : mg "int" = none) (mlen : mg "len" = none) : DefOk P w K mg base CX0 "_law_take" 2 ["_law_hand_here", "_law_many"] spTake := by
  obtain ⟨f, fd, F, g⟩ := T
  obtain ⟨fM, fdM, FM, gM⟩ := TM
  exact ⟨f, fd, g, F.kp, F.binds (fun _ _ _ _ _ _ us hl => match us, hl with | [_, _], _ => rfl), ok_take (k := 0) F FM (FM.binds (fun _ _ _ _ _ _ us hl => match us, hl with | [_, _], _ => rfl)) gM mint mlen⟩
/-- the hand goes on; data without lists stays -/
theorem HandAt.dp {H H' : Hp} {p : Addr} {v : V} {d : PyData} (h : HandAt H p) (s : SameBut p H H') (n : noL d = true) (k : Dp K H v d) : Dp K H' v d := by
  obtain ⟨c, cs, i, r, t, a, _⟩ := h
  exact Dp_but a s.1 n k
theorem noL_r (r : Rt) : noL (rD r) = true := by simp [rD, noL, noLs]
theorem noL_p (p : Pl) : noL (pD p) = true := by simp [pD, rD, noL, noLs]
theorem Same.but {H H' : Hp} {p : Addr} (s : Same H H') : SameBut p H H' := ⟨fun b o _ e => s b o e, fun c l e => ⟨l, s _ _ e⟩⟩
/-! what is drawn -/
def spNum (n : Nat) : Sp := fun vs H Q _ => ∃ p, vs = [.ref p] ∧ HandAt H p ∧ ∀ (x : Int) H', Sz n x → HandAt H' p → SameBut p H H' → Q (.int x) H'
def spDraw (K : PySem.W.Frag) (ok : Rt → Prop) : Sp := fun vs H Q _ => ∃ p, vs = [.ref p] ∧ HandAt H p ∧ ∀ (r : Rt) v H', ok r → Dp K H' v (rD r) → HandAt H' p → SameBut p H H' → Q v H'
def spDrawP (K : PySem.W.Frag) : Sp := fun vs H Q _ => ∃ p, vs = [.ref p] ∧ HandAt H p ∧ ∀ (r : Pl) v H', RatP r → SzP 151 r → Dp K H' v (pD r) → HandAt H' p → SameBut p H H' → Q v H'
abbrev s_law_number : Stmt := topS 38
theorem sc_law_number : FnScope ["_law_hand_here", "_law_kind", "_law_total", "_law_turn"] ["_law_hand_here"] (defScope s_law_number) := ⟨rfl, rfl, rfl, by decide +kernel, rfl, by decide +kernel, by decide +kernel⟩
theorem ok_law_number (T : Txt K mg "_law_number" s_law_number) (G_law_take : DefOk P w K mg base CX0 "_law_take" 2 ["_law_hand_here", "_law_many"] spTake) (mrange : mg "range" = none) : DefOk P w K mg base CX0 "_law_number" 3 ["_law_hand_here"] (spNum 151) := by
  obtain ⟨f, fd, F, gf⟩ := T
  refine ⟨f, fd, gf, F.kp, F.binds (fun _ _ _ _ _ _ us hl => match us, hl with | [_], _ => rfl), F.ok sc_law_number (fun vs H Q E h => ?_) (fun cdv A outer s H vs Q E hr h => ?_)⟩
  · obtain ⟨p, rfl, _⟩ := h; rfl
  · obtain ⟨p, rfl, hH, q⟩ := h
    refine ⟨_, (pss_cons (ps_set (i := 1) sc_law_number.nd rfl (.inl rfl) (pe_def G_law_take (hr.mono (by decide)) (by rfl) (pa_cons (pv 0) (pa_cons pe_int pa_nil)))) (pss_cons (ps_if (pt_cmpR op_lt (pv 1) pe_int (nomark _)) (pss_one (ps_ret (pe_op op_sub (pe_def G_law_take (hr.mono (by decide)) (by rfl) (pa_cons (pv 0) (pa_cons pe_int pa_nil))) pe_int))) pss_nil) (pss_cons (ps_set (i := 2) sc_law_number.nd rfl (.inl rfl) pe_int) (pss_cons (ps_for PassesOwn.never rfl (pi_range1 (by rfl) mrange (pa_cons (pe_ifExp (pt_cmpR op_lt (pv 1) pe_int (nomark _)) pe_int pe_int) pa_nil)) (pg_name (i := 3) sc_law_number.nd rfl (.inl rfl)) (pss_one (ps_set (i := 2) sc_law_number.nd rfl (.inl rfl) (pe_op op_add (pe_op op_mulW (pv 2) (pe_op op_pow pe_int pe_int)) (pe_def G_law_take (hr.mono (by decide)) (by rfl) (pa_cons (pv 0) (pa_cons (pe_op op_pow pe_int pe_int) pa_nil))))))) (pss_one (ps_ret (pe_op op_mulW (pv 2) (pe_op op_sub pe_int (pe_op op_mulW pe_int (pe_def G_law_take (hr.mono (by decide)) (by rfl) (pa_cons (pv 0) (pa_cons pe_int pa_nil)))))))))))), ?_⟩
    have ten : CPow 10 9 := ⟨by decide, by decide, by decide⟩
    refine ⟨.ref p, rfl, p, 9, rfl, hH, by decide, by decide, fun k H1 k0 k9 h1 s1 => ?_⟩
    refine ⟨_, rfl, _, _, rfl, rfl, _, rfl, ite2 (fun e => ?_) (fun e => ?_)⟩
    · refine ⟨.ref p, rfl, p, 25, rfl, h1, by decide, by decide, fun x H2 x0 x25 h2 s2 => ⟨_, _, rfl, rfl, q _ _ ?_ h2 (s1.trans s2)⟩⟩
      exact sz_mono (n := 5) (by show (x - 12).natAbs < 2 ^ 5; omega) (by decide)
    · have run : ∀ n : Nat, n ≤ 5 → tFor (iRng1 (fun _ H Q => Q [.int (n : Int)] H)) (gName 3) (tAsg (tOp (rI0 fun i j => .int (i + j)) (tOp (rI CMulW fun i j => .int (i * j)) (tVar 2) (tOp (rI CPow fun i j => .int (i ^ j.toNat)) (tC (.int 10)) (tC (.int 9))))
          (tCall spTake [] E0 (tCons (tVar 0) (tCons (tOp (rI CPow fun i j => .int (i ^ j.toNat)) (tC (.int 10)) (tC (.int 9))) tNil)))) (gName 2))
          ⟨tRet (tOp (rI CMulW fun i j => .int (i * j)) (tVar 2) (tOp (rI0 fun i j => .int (i - j)) (tC (.int 1)) (tOp (rI CMulW fun i j => .int (i * j)) (tC (.int 2)) (tCall spTake [] E0 (tCons (tVar 0) (tCons (tC (.int 2)) tNil)))))) ⟨fun _ H' => Q .non H', Q, fun _ _ => False, fun _ _ => False⟩, Q, fun _ _ => False, fun _ _ => False⟩
          [some (.ref p), some (.int k), some (.int 0), none] H1 := fun n hn => by
        have big : ∀ i : Nat, i ≤ 5 → ((10 : Int) ^ 9) ^ i ≤ 2 ^ 150 := fun i hi => by
          match i, hi with
          | 0, _ => decide
          | 1, _ => decide
          | 2, _ => decide
          | 3, _ => decide
          | 4, _ => decide
          | 5, _ => decide
        have szb : ∀ (i : Nat) (t : Int), i ≤ 5 → 0 ≤ t → t < ((10 : Int) ^ 9) ^ i → Sz 150 t := fun i t hi t0 t1 => by
          have b := big i hi
          have c : t < 2 ^ 150 := Int.lt_of_lt_of_le t1 b
          show t.natAbs < 2 ^ 150
          have d : ((t.natAbs : Nat) : Int) = t := Int.natAbs_of_nonneg t0
          have e : ((t.natAbs : Nat) : Int) < ((2 ^ 150 : Nat) : Int) := by rw [d]; exact c
          exact Int.ofNat_lt.mp e
        refine ⟨_, rfl, by omega, by omega, for_range (n := n) (fun i σ H' => ∃ (t : Int) (y : Option V), σ = [some (.ref p), some (.int k), some (.int t), y] ∧ 0 ≤ t ∧ t < ((10 : Int) ^ 9) ^ i ∧ HandAt H' p ∧ SameBut p H1 H')
          ⟨0, none, rfl, by decide, by decide, h1, SameBut.rfl⟩ ?_ ?_⟩
        · rintro i σ H' hi ⟨t, y, rfl, t0, t1, h2, s2⟩
          refine ⟨_, rfl, _, _, rfl, rfl, ten, _, _, rfl, rfl, wide_mul (szb i t (by omega) t0 t1) (by decide : ((10 : Int) ^ (9 : Int).toNat).natAbs < 2 ^ 30) (by decide) (by decide) (by decide), ?_⟩
          refine ⟨.ref p, rfl, _, _, rfl, rfl, ten, p, _, rfl, h2, by decide, by decide, fun x H3 x0 x1 h3 s3 => ⟨_, _, rfl, rfl, _, _, rfl, ?_, ?_, h3, s2.trans s3⟩⟩
          · have : (0 : Int) ≤ t * 10 ^ (9 : Int).toNat := Int.mul_nonneg t0 (by decide)
            omega
          · show t * 10 ^ (9 : Int).toNat + x < ((10 : Int) ^ 9) ^ (i + 1)
            have e : (10 : Int) ^ (9 : Int).toNat = 1000000000 := by decide
            have e2 : ((10 : Int) ^ 9) = 1000000000 := by decide
            rw [e] at x1 ⊢
            rw [e2] at t1 ⊢
            rw [Int.pow_succ]
            generalize (1000000000 : Int) ^ i = m at t1 ⊢
            omega
        · rintro σ H' ⟨t, y, rfl, t0, t1, h2, s2⟩
          have tz := szb n t hn t0 t1
          refine ⟨_, rfl, .ref p, rfl, p, 2, rfl, h2, by decide, by decide, fun x H3 x0 x2 h3 s3 => ?_⟩
          have xz : Sz 1 (1 - 2 * x) := by show (1 - 2 * x).natAbs < 2; omega
          refine ⟨_, _, rfl, rfl, wide_mul (by decide : (2 : Int).natAbs < 2 ^ 2) (by show x.natAbs < 2 ^ 2; omega) (by decide) (by decide) (by decide), _, _, rfl, rfl, _, _, rfl, rfl, wide_mul tz xz (by decide) (by decide) (by decide), q _ _ ?_ h3 ((s1.trans s2).trans s3)⟩
          exact sz_mul tz xz
      refine ⟨_, rfl, _, _, rfl, rfl, _, rfl, ite2 (fun e => ?_) (fun e => ?_)⟩
      · exact run 1 (by decide)
      · exact run 5 (by decide)
end
end F3
set_option Elab.async false
set_option linter.all false
set_option maxRecDepth 100000
set_option maxHeartbeats 4000000
set_option exponentiation.threshold 3000
namespace F3
open PySem PySem.Spec PyProof.Rows L2 FX RM PB TM SX
def outD : Sum Str PyData → PyData
  | .inl s => .list [.str "refused", .str s]
  | .inr d => d
def OutR (K : PySem.W.Frag) (o : Sum Str PyData) (H : Hp) (Q : VK) : Prop := ∀ H' z, Same H H' → Dp K H' z (outD o) → Q z H'
def spMadeL (K : PySem.W.Frag) : Sp := fun vs H Q _ => ∃ v u d e, vs = [v, u] ∧ Dp K H v d ∧ Dp K H u e ∧ szD 2000 d ∧ szD 2000 e ∧ OutR K (mkO d e) H Q
def spDivL (K : PySem.W.Frag) : Sp := fun vs H Q _ => ∃ v u r s, vs = [v, u] ∧ Dp K H v (rD r) ∧ Dp K H u (rD s) ∧ IsRat r ∧ IsRat s ∧ SzR 2000 r ∧ SzR 2000 s ∧ OutR K (ovO r s) H Q
def spReadL (K : PySem.W.Frag) : Sp := fun vs H Q _ => ∃ v d o, vs = [v] ∧ Dp K H v d ∧ szT d ∧ RdO d o ∧ OutR K o H Q
theorem dp_ref {K : PySem.W.Frag} {H : Hp} {p : Addr} {s : Str} (np : H p = none) : Dp K (upd H p (.lst [.str "refused", .str s])) (.ref p) (outD (.inl s)) := .lst (.inl (.inl upd_same)) (.cons (.str _) (.cons (.str _) .nil))
/-- what the clause of a try gives back -/
theorem suite_ok {K : PySem.W.Frag} {a dd C : Addr} {i : Nat} {s : Str} {σ : L2.St} {H : Hp} {Q : VK} (hi : i < σ.length) (hd : H dd = some (.xd [("what", .str s)])) (q : ∀ H' z, Same H H' → Dp K H' z (outD (.inl s)) → Q z H') :
    tLst (tCons (tC (.str "refused")) (tCons (tXf a (.ref C) (some dd) C "what" (tVar i)) tNil)) (σ.set i (some (.ref a))) H Q := by
  refine ⟨.ref a, by simp [hi], rfl, rfl, dd, _, .str s, rfl, hd, rfl, (by show 2 ≤ sizeLine; decide), fun p np => ?_⟩
  exact q _ _ (PB.same_new np) (dp_ref np)
section
variable {P : Program} {w : World} {K : PySem.W.Frag} {mg : Str → Option Value} {base : Heap}
theorem okG_law_ratio (T : Txt K mg "_law_ratio" s_law_ratio) (G_law_gcd : DefOk P w K mg base CX0 "_law_gcd" 1 ["_law_one", "_law_other"] spGcd) : DefOk P w K mg base CX0 "_law_ratio" 2 ["_law_top", "_law_bottom"] (spLowG K) := by
  obtain ⟨f, fd, F, gf⟩ := T
  refine ⟨f, fd, gf, F.kp, F.binds (fun _ _ _ _ _ _ us hl => match us, hl with | [_, _], _ => rfl), F.ok sc_law_ratio (fun vs H Q E h => ?_) (fun cdv A outer s H vs Q E hr h => ?_)⟩
  · obtain ⟨t, b, rfl, _⟩ := h; rfl
  · obtain ⟨t, b, rfl, b0, zt, zb, q⟩ := h
    refine ⟨_, (pss_cons (ps_set (i := 2) sc_law_ratio.nd rfl (.inl rfl) (pe_def G_law_gcd (hr.mono (by decide)) (by rfl) (pa_cons (pv 0) (pa_cons (pv 1) pa_nil)))) (pss_cons (ps_if (pt_cmpR op_lt (pv 1) pe_int (nomark _)) (pss_one (ps_set (i := 2) sc_law_ratio.nd rfl (.inl rfl) (pe_un un_neg (pv 2)))) pss_nil) (pss_one (ps_ret (pe_tup (pa_cons (pe_op op_fdivX (pv 0) (pv 2)) (pa_cons (pe_op op_fdivX (pv 1) (pv 2)) pa_nil))))))), ?_⟩
    have bn : b ≠ 0 := b0
    have gp := g2_pos (t := t) bn
    have gz := sz_g (t := t) bn zb
    refine ⟨_, rfl, _, rfl, t, b, rfl, ?_⟩
    show tSeq _ _ _ [some (.int t), some (.int b), some (.int (g2 t b))] H
    obtain ⟨x, hx⟩ := g2_l t b
    obtain ⟨y, hy⟩ := g2_r t b
    refine ⟨_, rfl, _, _, rfl, rfl, _, rfl, ite2 (fun e => ?_) (fun e => ?_)⟩
    · have h : b < 0 := of_decide_eq_true e
      have n1 : Sz 8000 (-g2 t b) := sz_neg gz
      have n2 : -g2 t b ≠ 0 := by omega
      refine ⟨_, rfl, _, rfl, _, rfl, _, rfl, _, _, rfl, rfl, wide_divX n2 n1 (by decide) (by decide), _, rfl, _, rfl, _, _, rfl, rfl, wide_divX n2 n1 (by decide) (by decide), (by show 2 ≤ sizeLine; decide), fun p np => q _ _ (PB.same_new np) ?_⟩
      have z : normG t b = (t.fdiv (-g2 t b), b.fdiv (-g2 t b)) := by
        unfold normG norm
        rw [if_pos h, g2_neg, fdiv_neg_g bn hx]
        have : b.fdiv (-g2 t b) = (-b) / g2 t b := by
          have gp2 := gp
          generalize g2 t b = g at *
          rw [hy]
          have e1 : g * y = (-g) * (-y) := by grind
          have e2 : -(g * y) = g * (-y) := by grind
          rw [e2, e1, Int.mul_fdiv_cancel_left _ (by omega), Int.mul_ediv_cancel_left _ (by omega)]
        rw [this]
      rw [z]; exact dp_mkr np
    · have h : ¬ b < 0 := fun z => e (decide_eq_true z)
      have n2 : g2 t b ≠ 0 := by omega
      refine ⟨_, rfl, _, rfl, _, _, rfl, rfl, wide_divX n2 gz (by decide) (by decide), _, rfl, _, rfl, _, _, rfl, rfl, wide_divX n2 gz (by decide) (by decide), (by show 2 ≤ sizeLine; decide), fun p np => q _ _ (PB.same_new np) ?_⟩
      have z : normG t b = (t.fdiv (g2 t b), b.fdiv (g2 t b)) := by
        unfold normG norm
        rw [if_neg h, Int.fdiv_eq_ediv_of_nonneg _ (by omega), Int.fdiv_eq_ediv_of_nonneg _ (by omega)]
      rw [z]; exact dp_mkr np
abbrev s_law_compare : Stmt := topS 37
theorem sc_law_compare : FnScope ["_law_one", "_law_other", "_law_left", "_law_right"] ["_law_one", "_law_other"] (defScope s_law_compare) := ⟨rfl, rfl, rfl, by decide +kernel, rfl, by decide +kernel, by decide +kernel⟩
theorem ok_law_compare (T : Txt K mg "_law_compare" s_law_compare)  : DefOk P w K mg base CX0 "_law_compare" 1 ["_law_one", "_law_other"] (spCmp K) := by
  obtain ⟨f, fd, F, gf⟩ := T
  refine ⟨f, fd, gf, F.kp, F.binds (fun _ _ _ _ _ _ us hl => match us, hl with | [_, _], _ => rfl), F.ok sc_law_compare (fun vs H Q E h => ?_) (fun cdv A outer s H vs Q E hr h => ?_)⟩
  · obtain ⟨v, u, r, s_, rfl, _⟩ := h; rfl
  · obtain ⟨v, u, r, s_, rfl, hv, hu, zr, zs, q⟩ := h
    refine ⟨_, (pss_cons (ps_par (i := 2) (j := 3) rfl sc_law_compare.nd rfl rfl (by decide) rfl rfl (pa_cons (pe_op op_mulW (pe_ix ix_it (pv 0) pe_int (fun _ _ => rfl)) (pe_ix ix_it (pv 1) pe_int (fun _ _ => rfl))) (pa_cons (pe_op op_mulW (pe_ix ix_it (pv 1) pe_int (fun _ _ => rfl)) (pe_ix ix_it (pv 0) pe_int (fun _ _ => rfl))) pa_nil)) rfl) (pss_one (ps_ret (pe_ifExp (pt_cmpR op_lt (pv 2) (pv 3) (nomark _)) (pe_un un_neg pe_int) (pe_ifExp (pt_cmpR op_gt (pv 2) (pv 3) (nomark _)) pe_int pe_int))))), ?_⟩
    have c1 := cou_r hv
    have c2 := cou_r hu
    refine ⟨v, rfl, _, _, 0, _, rfl, c1, rfl, u, rfl, _, _, 1, _, rfl, c2, rfl, _, _, rfl, rfl, wide_mul zr.1 zs.2 (by decide) (by decide) (by decide), u, rfl, _, _, 0, _, rfl, c2, rfl, v, rfl, _, _, 1, _, rfl, c1, rfl, _, _, rfl, rfl, wide_mul zs.1 zr.2 (by decide) (by decide) (by decide), _, _, rfl, ?_⟩
    dsimp only [tSeq]
    refine ⟨_, rfl, _, rfl, _, _, rfl, rfl, _, rfl, ?_⟩
    have e0 : cmpR r s_ = sgnC (r.1 * s_.2 - s_.1 * r.2) := rfl
    by_cases a : r.1 * s_.2 < s_.1 * r.2
    · refine itT (decide_eq_true a) ⟨_, rfl, ?_⟩
      have z : cmpR r s_ = -1 := by rw [e0]; exact if_pos (by omega)
      rw [z] at q; exact q
    · refine itF (decide_eq_false a) ⟨_, rfl, _, rfl, _, _, rfl, rfl, _, rfl, ?_⟩
      by_cases b : s_.1 * r.2 < r.1 * s_.2
      · have z : cmpR r s_ = 1 := by rw [e0]; unfold sgnC; rw [if_neg (by omega), if_pos (by omega)]
        rw [z] at q; exact itT (decide_eq_true b) q
      · have z : cmpR r s_ = 0 := by rw [e0]; unfold sgnC; rw [if_neg (by omega), if_neg (by omega)]
        rw [z] at q; exact itF (decide_eq_false b) q
abbrev s_law_made_ratio : Stmt := topS 40
theorem sc_law_made_ratio : FnScope ["_law_top", "_law_bottom", "_law_found", "_law_wrong"] ["_law_top", "_law_bottom"] (defScope s_law_made_ratio) := ⟨rfl, rfl, rfl, by decide +kernel, rfl, by decide +kernel, by decide +kernel⟩
theorem ok_law_made_ratio (T : Txt K mg "_law_made_ratio" s_law_made_ratio) (Xmake_ratio : DefOk P w K mg base (L2.CX P w) "make_ratio" 3 ["top", "bottom"] (spMakeX K)) (gBR : mg "BadRatio" = some (.ref (He.ga K "BadRatio"))) (mBR : PySem.W.exmOne K (.ref (He.ga K "BadRatio")) (.ref (He.ga K "BadRatio")) = some true) (xf : XfC K (He.ga K "BadRatio")) (nw : PySem.W.findIn K (.ref (He.ga K "BadRatio")) "what" = some none) : DefOk P w K mg base CX0 "_law_made_ratio" 4 ["_law_top", "_law_bottom"] (spMadeL K) := by
  obtain ⟨f, fd, F, gf⟩ := T
  refine ⟨f, fd, gf, F.kp, F.binds (fun _ _ _ _ _ _ us hl => match us, hl with | [_, _], _ => rfl), F.ok sc_law_made_ratio (fun vs H Q E h => ?_) (fun cdv A outer s H vs Q E hr h => ?_)⟩
  · obtain ⟨v, u, d, e, rfl, _⟩ := h; rfl
  · obtain ⟨v, u, d, e, rfl, hv, hu, zd, ze, o⟩ := h
    refine ⟨_, (pss_cons (ps_try_nm (l := [(.ref (He.ga K "BadRatio"), some 3, fun a cls d => tRet (tLst (tCons (tC (.str "refused")) (tCons (tXf a cls d (He.ga K "BadRatio") "what" (tVar 3)) tNil))))]) rfl rfl takes0 (fun W pn xe tk _ => (pss_one (ps_set (i := 2) sc_law_made_ratio.nd rfl (.inl rfl) (pe_defS Xmake_ratio (hr.mono (by decide)) (by rfl) (pa_cons (pv 0) (pa_cons (pv 1) pa_nil)) tk)))) (.named (names_own (by rfl) gBR) sc_law_made_ratio.nd rfl rfl (fun a oe cls d pn hz hf => (pss_one (ps_ret (pe_lst (pa_cons pe_str (pa_cons (pe_xf xf nw hz hf (pv 3)) pa_nil)))))) .nil)) (pss_one (ps_ret (pv 2)))), ?_⟩
    refine ⟨v, rfl, u, rfl, v, u, d, e, rfl, hv, hu, zd, ze, ?_⟩
    cases ho : mkO d e with
    | inl s =>
      rw [ho] at o
      intro d' H' sm hd
      exact ⟨true, mBR, fun _ a na => suite_ok (Nat.lt_succ_self _) hd fun H2 z s2 hz => o H2 z (sm.trans s2) hz, fun z => nomatch z⟩
    | inr dd =>
      rw [ho] at o
      intro H' z sm hz
      exact ⟨z, rfl, o H' z sm hz⟩
abbrev s_law_divided : Stmt := topS 41
theorem sc_law_divided : FnScope ["_law_one", "_law_other", "_law_found", "_law_wrong"] ["_law_one", "_law_other"] (defScope s_law_divided) := ⟨rfl, rfl, rfl, by decide +kernel, rfl, by decide +kernel, by decide +kernel⟩
theorem ok_law_divided (T : Txt K mg "_law_divided" s_law_divided) (Xover : DefOk P w K mg base (L2.CX P w) "over" 3 ["one", "other"] (spOverX K)) (gBR : mg "BadRatio" = some (.ref (He.ga K "BadRatio"))) (mBR : PySem.W.exmOne K (.ref (He.ga K "BadRatio")) (.ref (He.ga K "BadRatio")) = some true) (xf : XfC K (He.ga K "BadRatio")) (nw : PySem.W.findIn K (.ref (He.ga K "BadRatio")) "what" = some none) : DefOk P w K mg base CX0 "_law_divided" 4 ["_law_one", "_law_other"] (spDivL K) := by
  obtain ⟨f, fd, F, gf⟩ := T
  refine ⟨f, fd, gf, F.kp, F.binds (fun _ _ _ _ _ _ us hl => match us, hl with | [_, _], _ => rfl), F.ok sc_law_divided (fun vs H Q E h => ?_) (fun cdv A outer s H vs Q E hr h => ?_)⟩
  · obtain ⟨v, u, r, s_, rfl, _⟩ := h; rfl
  · obtain ⟨v, u, r, s_, rfl, hv, hu, ir, is_, zr, zs, o⟩ := h
    refine ⟨_, (pss_cons (ps_try_nm (l := [(.ref (He.ga K "BadRatio"), some 3, fun a cls d => tRet (tLst (tCons (tC (.str "refused")) (tCons (tXf a cls d (He.ga K "BadRatio") "what" (tVar 3)) tNil))))]) rfl rfl takes0 (fun W pn xe tk _ => (pss_one (ps_set (i := 2) sc_law_divided.nd rfl (.inl rfl) (pe_defS Xover (hr.mono (by decide)) (by rfl) (pa_cons (pv 0) (pa_cons (pv 1) pa_nil)) tk)))) (.named (names_own (by rfl) gBR) sc_law_divided.nd rfl rfl (fun a oe cls d pn hz hf => (pss_one (ps_ret (pe_lst (pa_cons pe_str (pa_cons (pe_xf xf nw hz hf (pv 3)) pa_nil)))))) .nil)) (pss_one (ps_ret (pv 2)))), ?_⟩
    refine ⟨v, rfl, u, rfl, v, u, r, s_, rfl, hv, hu, ir, is_, zr, zs, ?_⟩
    cases ho : ovO r s_ with
    | inl s =>
      rw [ho] at o
      intro d' H' sm hd
      exact ⟨true, mBR, fun _ a na => suite_ok (Nat.lt_succ_self _) hd fun H2 z s2 hz => o H2 z (sm.trans s2) hz, fun z => nomatch z⟩
    | inr dd =>
      rw [ho] at o
      intro H' z sm hz
      exact ⟨z, rfl, o H' z sm hz⟩
abbrev s_law_read : Stmt := topS 42
theorem sc_law_read : FnScope ["_law_text", "_law_found", "_law_wrong"] ["_law_text"] (defScope s_law_read) := ⟨rfl, rfl, rfl, by decide +kernel, rfl, by decide +kernel, by decide +kernel⟩
theorem ok_law_read (T : Txt K mg "_law_read" s_law_read) (Xratio_of : DefOk P w K mg base (L2.CX P w) "ratio_of" 4 ["text"] (spReadX K)) (gBR : mg "BadRatio" = some (.ref (He.ga K "BadRatio"))) (mBR : PySem.W.exmOne K (.ref (He.ga K "BadRatio")) (.ref (He.ga K "BadRatio")) = some true) (xf : XfC K (He.ga K "BadRatio")) (nw : PySem.W.findIn K (.ref (He.ga K "BadRatio")) "what" = some none) : DefOk P w K mg base CX0 "_law_read" 5 ["_law_text"] (spReadL K) := by
  obtain ⟨f, fd, F, gf⟩ := T
  refine ⟨f, fd, gf, F.kp, F.binds (fun _ _ _ _ _ _ us hl => match us, hl with | [_], _ => rfl), F.ok sc_law_read (fun vs H Q E h => ?_) (fun cdv A outer s H vs Q E hr h => ?_)⟩
  · obtain ⟨v, d, o_, rfl, _⟩ := h; rfl
  · obtain ⟨v, d, o_, rfl, hv, zt, ro, o⟩ := h
    refine ⟨_, (pss_cons (ps_try_nm (l := [(.ref (He.ga K "BadRatio"), some 2, fun a cls d => tRet (tLst (tCons (tC (.str "refused")) (tCons (tXf a cls d (He.ga K "BadRatio") "what" (tVar 2)) tNil))))]) rfl rfl takes0 (fun W pn xe tk _ => (pss_one (ps_set (i := 1) sc_law_read.nd rfl (.inl rfl) (pe_defS Xratio_of (hr.mono (by decide)) (by rfl) (pa_cons (pv 0) pa_nil) tk)))) (.named (names_own (by rfl) gBR) sc_law_read.nd rfl rfl (fun a oe cls d pn hz hf => (pss_one (ps_ret (pe_lst (pa_cons pe_str (pa_cons (pe_xf xf nw hz hf (pv 2)) pa_nil)))))) .nil)) (pss_one (ps_ret (pv 1)))), ?_⟩
    refine ⟨v, rfl, v, d, o_, rfl, hv, zt, ro, ?_⟩
    cases ho : o_ with
    | inl s =>
      rw [ho] at o
      intro d' H' sm hd
      exact ⟨true, mBR, fun _ a na => suite_ok (Nat.lt_succ_self _) hd fun H2 z s2 hz => o H2 z (sm.trans s2) hz, fun z => nomatch z⟩
    | inr dd =>
      rw [ho] at o
      intro H' z sm hz
      exact ⟨z, rfl, o H' z sm hz⟩
end
end F3
set_option Elab.async false
set_option linter.all false
set_option maxRecDepth 100000
set_option maxHeartbeats 4000000
set_option exponentiation.threshold 3000
namespace F3
open PySem PySem.Spec PyProof.Rows L2 FX RM PB TM SX
def LE (K : PySem.W.Frag) (σ : L2.St) (B : Hp → Prop) (te : TE) (d : PyData) : Prop := ∀ H (Q : VK), B H → (∀ H' v, Same H H' → Dp K H' v d → Q v H') → te σ H Q
def LA (K : PySem.W.Frag) (σ : L2.St) (B : Hp → Prop) (t : TA) (ds : List PyData) : Prop := ∀ H (Q : List V → Hp → Prop), B H → (∀ H' vs, Same H H' → DpAll K H' vs ds → Q vs H') → t σ H Q
section
variable {K : PySem.W.Frag} {σ : L2.St} {B : Hp → Prop}
theorem le_int {i : Int} : LE K σ B (tC (.int i)) (.int i) := fun H Q _ q => q H _ (fun _ _ e => e) (.int i)
theorem le_str {i : Str} : LE K σ B (tC (.str i)) (.str i) := fun H Q _ q => q H _ (fun _ _ e => e) (.str i)
theorem le_strS {i : Str} {l : List Nat} (e : i = S l) : LE K σ B (tC (.str i)) (.str (S l)) := fun H Q _ q => by rw [e]; exact q H _ (fun _ _ e => e) (.str _)
theorem le_bl {i : Bool} : LE K σ B (tC (.bl i)) (.bool i) := fun H Q _ q => q H _ (fun _ _ e => e) (.bl i)
theorem le_non : LE K σ B (tC .non) .none := fun H Q _ q => q H _ (fun _ _ e => e) .non
theorem la_nil : LA K σ B tNil [] := fun H Q _ q => q H [] (fun _ _ e => e) .nil
theorem la_cons {te : TE} {t : TA} {d : PyData} {ds : List PyData} (hB : ∀ H H', Same H H' → B H → B H') (h : LE K σ B te d) (k : LA K σ B t ds) : LA K σ B (tCons te t) (d :: ds) :=
  fun H Q b q => h H _ b fun H1 v s1 hv => k H1 _ (hB _ _ s1 b) fun H2 vs s2 hvs => q H2 _ (s1.trans s2) (.cons (Dp_same s2 hv) hvs)
theorem le_tup {t : TA} {ds : List PyData} (h : LA K σ B t ds) (hl : ds.length ≤ 1000) : LE K σ B (tTup t) (.tuple ds) :=
  fun H Q b q => h H _ b fun H1 vs s1 hvs => ⟨Nat.le_of_lt (small1000 (n := vs.length) (by rw [DpAll_lenR hvs]; exact hl)), fun p np => q _ _ (s1.trans (PB.same_new np)) (.tup (.inl (.inl upd_same)) (DpAll_same (PB.same_new np) hvs))⟩
theorem le_lst {t : TA} {ds : List PyData} (h : LA K σ B t ds) (hl : ds.length ≤ 1000) : LE K σ B (tLst t) (.list ds) :=
  fun H Q b q => h H _ b fun H1 vs s1 hvs => ⟨Nat.le_of_lt (small1000 (n := vs.length) (by rw [DpAll_lenR hvs]; exact hl)), fun p np => q _ _ (s1.trans (PB.same_new np)) (.lst (.inl (.inl upd_same)) (DpAll_same (PB.same_new np) hvs))⟩
theorem le_neg {te : TE} {x : Int} (h : LE K σ B te (.int x)) : LE K σ B (tUn (rU fun i => .int (-i)) te) (.int (-x)) := fun H Q b q => h H _ b fun H1 v s1 hv => by
  obtain rfl := dp_int hv
  exact ⟨x, rfl, q H1 _ s1 (.int _)⟩
theorem le_op {f : Int → Int → Int} {t1 t2 : TE} {x y : Int} (hB : ∀ H H', Same H H' → B H → B H') (h : LE K σ B t1 (.int x)) (k : LE K σ B t2 (.int y)) : LE K σ B (tOp (rI0 fun i j => .int (f i j)) t1 t2) (.int (f x y)) := fun H Q b q => h H _ b fun H1 v s1 hv => k H1 _ (hB _ _ s1 b) fun H2 u s2 hu => by
  obtain rfl := dp_int hv
  obtain rfl := dp_int hu
  exact ⟨x, y, rfl, rfl, q H2 _ (s1.trans s2) (.int _)⟩
theorem le_mul {t1 t2 : TE} {x y : Int} {n m : Nat} (hB : ∀ H H', Same H H' → B H → B H') (h : LE K σ B t1 (.int x)) (k : LE K σ B t2 (.int y)) (zx : Sz n x) (zy : Sz m y) (n0 : 0 < n) (m0 : 0 < m) (nm : n + m ≤ 1000000) : LE K σ B (tOp (rI CMulW fun i j => .int (i * j)) t1 t2) (.int (x * y)) := fun H Q b q => h H _ b fun H1 v s1 hv => k H1 _ (hB _ _ s1 b) fun H2 u s2 hu => by
  obtain rfl := dp_int hv
  obtain rfl := dp_int hu
  exact ⟨x, y, rfl, rfl, wide_mul zx zy n0 m0 nm, q H2 _ (s1.trans s2) (.int _)⟩
theorem le_cat {t1 t2 : TE} {x y : List Nat} (hB : ∀ H H', Same H H' → B H → B H') (h : LE K σ B t1 (.str (S x))) (k : LE K σ B t2 (.str (S y))) (hl : x.length + y.length ≤ 1000) : LE K σ B (tOp (fun x y H Q => ∃ i j, x = .str i ∧ y = .str j ∧ i.length + j.length ≤ sizeLine ∧ Q (.str (i ++ j)) H) t1 t2) (.str (S (x ++ y))) := fun H Q b q => h H _ b fun H1 v s1 hv => k H1 _ (hB _ _ s1 b) fun H2 u s2 hu => by
  obtain rfl : v = .str (S x) := by cases hv; rfl
  obtain rfl : u = .str (S y) := by cases hu; rfl
  exact ⟨_, _, rfl, rfl, line1000 (by rw [S_len, S_len]; exact hl), by rw [S_cat]; exact q H2 _ (s1.trans s2) (.str _)⟩
theorem le_strI {te : TE} {x : Int} (h : LE K σ B te (.int x)) (hx : x.natAbs < 10 ^ 310) : LE K σ B (tCB (fun xs H Q => ∃ i, xs = [.int i] ∧ i.natAbs.log2 < 1920 ∧ Q (.str (toString i)) H) (tCons te tNil)) (.str (S (numI x))) := fun H Q b q => h H _ b fun H1 v s1 hv => by
  obtain rfl := dp_int hv
  exact ⟨x, rfl, log_lt hx, by rw [str_I]; exact q H1 _ s1 (.str _)⟩
theorem le_at0 {te : TE} {r : Rt} (h : LE K σ B te (rD r)) : LE K σ B (tOp (rIt K) te (tC (.int 0))) (.int r.1) := fun H Q b q => h H _ b fun H1 v s1 hv => ⟨_, _, 0, _, rfl, cou_r hv, rfl, q H1 _ s1 (.int _)⟩
theorem le_at1 {te : TE} {r : Rt} (h : LE K σ B te (rD r)) : LE K σ B (tOp (rIt K) te (tC (.int 1))) (.int r.2) := fun H Q b q => h H _ b fun H1 v s1 hv => ⟨_, _, 1, _, rfl, cou_r hv, rfl, q H1 _ s1 (.int _)⟩
end
/-- the slots' data -/
def SL (K : PySem.W.Frag) (σ : L2.St) (ds : List (Option PyData)) (H : Hp) : Prop := ∀ (i : Nat) (d : PyData), ds[i]? = some (some d) → ∃ v, σ[i]? = some (some v) ∧ Dp K H v d
theorem SL.same {K : PySem.W.Frag} {σ : L2.St} {ds : List (Option PyData)} : ∀ H H', Same H H' → SL K σ ds H → SL K σ ds H' := fun H H' s h i d e => by
  obtain ⟨v, e1, hv⟩ := h i d e
  exact ⟨v, e1, Dp_same s hv⟩
theorem le_var {K : PySem.W.Frag} {σ : L2.St} {ds : List (Option PyData)} {i : Nat} {d : PyData} (e : ds[i]? = some (some d)) : LE K σ (SL K σ ds) (tVar i) d := fun H Q b q => by
  obtain ⟨v, e1, hv⟩ := b i d e
  exact ⟨v, e1, q H v (fun _ _ e => e) hv⟩
theorem SL.set {K : PySem.W.Frag} {σ : L2.St} {ds : List (Option PyData)} {H H' : Hp} {i : Nat} {v : V} {d : PyData} (h : SL K σ ds H) (s : Same H H') (hv : Dp K H' v d) (hi : i < σ.length) : SL K (σ.set i (some v)) (ds.set i (some d)) H' := fun j e k => by
  by_cases c : i = j
  · subst c
    rw [List.getElem?_set] at k
    split at k
    · split at k
      · cases k
        exact ⟨v, by rw [List.getElem?_set, if_pos rfl, if_pos hi], hv⟩
      · cases k
    · exact absurd rfl (by assumption)
  · rw [List.getElem?_set_ne c] at k
    obtain ⟨u, e1, hu⟩ := h j e k
    exact ⟨u, by rw [List.getElem?_set_ne c]; exact e1, Dp_same s hu⟩
theorem shaped_ref (s : Str) (hs : PyData.strOk s = true) : SeqAt.shaped (outD (.inl s)) = true ∧ PyData.canLay0 (outD (.inl s)) = true := by
  have c : PyData.canLay0 (outD (.inl s)) = true := by simp [outD, PyData.canLay0, PyData.canLayAll0, hs]; decide +kernel
  exact ⟨by unfold SeqAt.shaped; rw [c]; simp [outD, PyData.depth, PyData.depthAll], c⟩
theorem loop_isr {K : PySem.W.Frag} {b : Bool} {j : Nat} {p : Addr} {xs : List V} {ds : List PyData} {σ : L2.St} {H : Hp} {D : Ends} (hj : σ[j]? = some (some (.ref p))) (j4 : j ≠ 4) (hl : 4 < σ.length) (hS : SqL K H p xs) (hA : DpAll K H xs ds) (ho : ∀ d ∈ ds, isRat d = b) (q : ∀ σ', (σ' = σ ∨ ∃ x, σ' = σ.set 4 (some x)) → D.nx σ' H) :
    tFor (iList K (tVar j)) (gName 4) (tIfS (tTest (tOp rNotB (tCall (spIsR K) [] E0 (tCons (tVar 4) tNil)) (tC (.bl b)))) (tRet (tC (.bl false))) tNext) D σ H := by
  refine ⟨_, hj, p, rfl, ⟨_, hS⟩, for_list (K := K) (a := p) (xs := xs) (fun i σ' H' => H' = H ∧ (σ' = σ ∨ ∃ x, σ' = σ.set 4 (some x))) ⟨rfl, .inl rfl⟩ (fun i σ' H' _ h => by rw [h.1]; exact hS) ?_ ?_⟩
  · rintro i x σ' H' hi ⟨rfl, hσ⟩
    obtain ⟨d, ed, hd⟩ := DpAll_at hA hi
    have e4 : (σ'.set 4 (some x)) = σ.set 4 (some x) := by
      rcases hσ with rfl | ⟨y, rfl⟩
      · rfl
      · rw [List.set_set]
    show tIfS _ _ _ _ (σ'.set 4 (some x)) H'
    rw [e4]
    refine ⟨x, by rw [List.getElem?_set, if_pos rfl, if_pos hl], x, d, rfl, hd, isRat d, b, rfl, rfl, _, rfl, itF ?_ ⟨rfl, .inr ⟨x, rfl⟩⟩⟩
    rw [ho d (List.mem_of_getElem? ed)]; simp
  · rintro σ' H' ⟨rfl, h⟩
    exact q σ' h
theorem dp_lst {K : PySem.W.Frag} {H : Hp} {v : V} {ds : List PyData} (h : Dp K H v (.list ds)) : ∃ p xs, v = .ref p ∧ SqL K H p xs ∧ DpAll K H xs ds := by
  cases h with
  | lst a b => exact ⟨_, _, rfl, a, b⟩
def NoRT (d : PyData) : Prop := szT d ∧ ∀ a r, d = .str (S a) → ¬ RT a r
theorem NoRT.rdo {d : PyData} (h : NoRT d) : RdO d (.inl "text") := .inr ⟨h.2, rfl⟩
theorem norts {l : List Nat} (hl : l.length ≤ 1000) (h : ∀ r, ¬ RT l r) : NoRT (.str (S l)) := ⟨fun a e => by cases e; rw [S_len]; exact hl, fun a r e => by have := S_inj (PyData.str.inj e); subst this; exact h r⟩
theorem nort_of {d : PyData} (h : ∀ a, d ≠ .str a) : NoRT d := ⟨fun a e => absurd e (h a), fun a r e => absurd e (h _)⟩
theorem loop_read {K : PySem.W.Frag} {te : TE} {ds : List PyData} {σ : L2.St} {B : Hp → Prop} {H : Hp} {D : Ends} (hl : LE K σ B te (.list ds)) (b : B H) (h3 : 3 < σ.length) (ho : ∀ d ∈ ds, NoRT d) (q : ∀ σ' H', Same H H' → (σ' = σ ∨ ∃ x, σ' = σ.set 3 (some x)) → D.nx σ' H') :
    tFor (iList K te) (gName 3) (tIfS (tTest (tOp (rNeD K) (tCall (spReadL K) [] E0 (tCons (tVar 3) tNil)) (tLst (tCons (tC (.str "refused")) (tCons (tC (.str "text")) tNil))))) (tRet (tC (.bl false))) tNext) D σ H := by
  refine hl H _ b fun H1 v s1 hv => ?_
  cases hv with
  | lst hS hA =>
    rename_i a xs
    refine ⟨_, rfl, ⟨_, hS⟩, for_list (K := K) (a := a) (xs := xs) (fun i σ' H' => Same H1 H' ∧ (σ' = σ ∨ ∃ x, σ' = σ.set 3 (some x))) ⟨fun _ _ e => e, .inl rfl⟩ (fun i σ' H' _ h => h.1.seq hS) ?_ ?_⟩
    · rintro i x σ' H' hi ⟨s2, hσ⟩
      obtain ⟨d, ed, hd⟩ := DpAll_at hA hi
      have nr := ho d (List.mem_of_getElem? ed)
      have e4 : (σ'.set 3 (some x)) = σ.set 3 (some x) := by
        rcases hσ with rfl | ⟨y, rfl⟩
        · rfl
        · rw [List.set_set]
      show tIfS _ _ _ _ (σ'.set 3 (some x)) H'
      rw [e4]
      refine ⟨x, by rw [List.getElem?_set, if_pos rfl, if_pos h3], x, d, .inl "text", rfl, Dp_same s2 hd, nr.1, nr.rdo, fun H3 z s3 hz => ⟨(by show 2 ≤ sizeLine; decide), fun p np => ?_⟩⟩
      have s4 := PB.same_new (o := .lst [.str "refused", .str "text"]) np
      exact ne_same (shaped_ref "text" (by decide +kernel)) (Dp_same s4 hz) (dp_ref np) ⟨_, rfl, itF rfl ⟨(s2.trans s3).trans s4, .inr ⟨x, rfl⟩⟩⟩
    · rintro σ' H' ⟨s2, hσ⟩
      exact q σ' H' (s1.trans s2) hσ
/-- a text by a number -/
theorem op_mulS {X : Cx} : OpR X (binaryOp .Mult) (fun x y H Q => ∃ (c n : Nat), x = .str (S [c]) ∧ y = .int (n : Int) ∧ 2 ≤ n ∧ n ≤ 1000 ∧ Q (.str (S (List.replicate n c))) H) := by
  intro pins s σ H x y v u Q I rx ry h
  obtain ⟨c, n, rfl, rfl, h2, hn, q⟩ := h
  obtain ⟨t, rfl⟩ := rx
  obtain ⟨t', rfl⟩ := ry
  have fl : ∀ (k : Nat) (acc : Array Nat), (List.replicate k #[c]).foldl (· ++ ·) acc = acc ++ (List.replicate k c).toArray := by
    intro k
    induction k with
    | zero => intro acc; simp
    | succ k ih => intro acc; rw [List.replicate_succ, List.foldl_cons, ih]; apply Array.toList_inj.mp; simp [List.replicate_succ]
  refine PySem.P.mul_str ?_ ?_ ?_ ?_
  · rw [decide_eq_false (by omega), decide_eq_false (by omega)]; rfl
  · intro _ _
    have : (1 : Int) ≤ (2 ^ 63 - 1) / (n : Int) := by
      rw [Int.le_ediv_iff_mul_le (by omega)]; omega
    show ¬ (((S [c]).length : Nat) : Int) > _
    rw [S_len]
    simp only [List.length_singleton]
    omega
  · intro _ _
    rw [S_len]
    simp only [List.length_singleton, Nat.one_mul, Int.toNat_natCast]
    show decide (n > sizeLine) = false
    rw [sizeLine_eq]
    exact decide_eq_false (by omega)
  · rw [if_neg (by omega), if_neg (by rw [S_len]; simp; omega)]
    have e : (⟨(List.replicate ((n : Int)).toNat (S [c]).cps).foldl (· ++ ·) #[]⟩ : Str) = S (List.replicate n c) := by
      show (⟨(List.replicate n #[c]).foldl (· ++ ·) #[]⟩ : Str) = _
      rw [fl]; simp [S]
    rw [e]
    exact ⟨by rw [S_len, List.length_replicate]; exact line1000 hn, ⟨.str _, H, I.tok _, ⟨_, rfl⟩, q⟩⟩
section
variable {P : Program} {w : World} {K : PySem.W.Frag} {mg : Str → Option Value} {base : Heap}
theorem s_asg {te : TE} {i : Nat} {rest : TS} {D : Ends} {σ : L2.St} {H : Hp} (h : te σ H fun x H1 => rest D (σ.set i (some x)) H1) : tSeq (tAsg te (gName i)) rest D σ H := h
theorem DpAll_ap {H : Hp} : ∀ {vs us : List V} {ds es : List PyData}, DpAll K H vs ds → DpAll K H us es → DpAll K H (vs ++ us) (ds ++ es)
  | _, _, _, _, .nil, h => h
  | _, _, _, _, .cons a b, h => .cons a (DpAll_ap b h)
def spKinds (K : PySem.W.Frag) : Sp := fun vs H Q _ => ∃ v r n, vs = [v, .int n] ∧ Dp K H v (rD r) ∧ IsRat r ∧ SzR 2000 r ∧ ∀ H', Same H H' → Q (.bl true) H'
theorem kb_whole {f : Addr} {fd : FuncData} (F : FunD K "is_whole" "is_whole" (defArgs sis_whole) (defBody sis_whole) (defScope sis_whole) [.non, .non] [] f fd) : ∃ gk, KBn K fd ["thing", "low", "high"] 1 ["high"] gk (fun vs zs => vs ++ ([V.non] ++ zs)) := by
  obtain ⟨oc, od, dV, kV, doc, pm, an, cdv, ct, osl, rfl, lk, hcd, hD, hK⟩ := F.ex
  rcases hD with ⟨e, _⟩ | ⟨_, T, o, its, m, rfl, lT, oT, rT⟩
  · cases e
  · have l1 : its.length = 2 := rT.length.symm
    obtain ⟨i0, i1, rfl⟩ := len_two' l1
    refine ⟨fun us ws => us ++ ([i0] ++ ws), ⟨fun s us ws X l2 l3 => ?_, fun r1 r2 => r1.append (.cons ?_ r2)⟩⟩
    · match us, l2, ws, l3 with
      | [u], _, [w1], _ =>
        refine BindsTo.of_looks fun M => ?_
        have e : ∃ k, bindArgs (PySem.W.fnOf "is_whole" "is_whole" (defArgs sis_whole) (defBody sis_whole) (defScope sis_whole) (.ref T) kV doc pm an cdv ct) ⟨[u], (["high"] : List Str).zip [w1]⟩ = seqItems? (.ref T) >>= k ∧ k (some [i0, i1].toArray) = pure ((["thing", "low", "high"] : List Str).zip ([u] ++ ([i0] ++ [w1]))) := ⟨_, rfl, rfl⟩
        obtain ⟨k, e1, e2⟩ := e
        rw [e1]
        exact looks_items X lT oT (.of_pure e2)
    · cases rT with
      | cons a _ => exact a
theorem rat_mul2 {r : Rt} (h : IsRat r) : isRat (.tuple [.int (r.1 * 2), .int (r.2 * 2)]) = false := by
  have : g2 (r.1 * 2) (r.2 * 2) ≠ 1 := by
    unfold g2
    rw [Int.natAbs_mul, Int.natAbs_mul, Nat.gcd_mul_right]
    show ((Nat.gcd r.1.natAbs r.2.natAbs * 2 : Nat) : Int) ≠ 1
    omega
  show (decide ((1 : Int) ≤ r.2 * 2) && decide (g2 (r.1 * 2) (r.2 * 2) = 1)) = false
  rw [decide_eq_false this, Bool.and_false]
abbrev s_law_kinds : Stmt := topS 43
theorem sc_law_kinds : FnScope ["_law_one", "_law_number_here", "_law_good", "_law_bad", "_law_thing", "_law_near"] ["_law_one", "_law_number_here"] (defScope s_law_kinds) := ⟨rfl, rfl, rfl, by decide +kernel, rfl, by decide +kernel, by decide +kernel⟩
theorem ok_law_kinds (T : Txt K mg "_law_kinds" s_law_kinds) (misinstance : mg "isinstance" = none) (mint : mg "int" = none) (mbool : mg "bool" = none) (Gis_ratio : DefOk P w K mg base CX0 "is_ratio" 2 ["thing"] (spIsR K)) (Gw1 : DefDf P w K mg base "is_whole" 1 ["thing", "low", "high"] [.non, .non] (spWhole K)) (Gw2 : DefDf P w K mg base "is_whole" 1 ["thing", "low", "high"] [.non] (spWhole K)) {fW : Addr} {fdW : FuncData} {gk : List Value → List Value → List Value} (FW : FunD K "is_whole" "is_whole" (defArgs sis_whole) (defBody sis_whole) (defScope sis_whole) [.non, .non] [] fW fdW) (gWh : mg "is_whole" = some (.ref fW)) (KBW : KBn K fdW ["thing", "low", "high"] 1 ["high"] gk (fun vs zs => vs ++ ([V.non] ++ zs))) (Gw3 : DefOk P w K mg base CX0 "is_whole" 1 ["thing", "low", "high"] (spWh3 K)) : DefOk P w K mg base CX0 "_law_kinds" 3 ["_law_one", "_law_number_here"] (spKinds K) := by
  obtain ⟨f, fd, F, gf⟩ := T
  refine ⟨f, fd, gf, F.kp, F.binds (fun _ _ _ _ _ _ us hl => match us, hl with | [_, _], _ => rfl), F.ok sc_law_kinds (fun vs H Q E h => ?_) (fun cdv A outer s H vs Q E hr h => ?_)⟩
  · obtain ⟨v, r, n, rfl, _⟩ := h; rfl
  · obtain ⟨v, r, n, rfl, hv, ir, zr, q⟩ := h
    refine ⟨_, (pss_cons (ps_set (i := 2) sc_law_kinds.nd rfl (.inl rfl) (pe_lst (pa_cons (pv 0) (pa_cons (pe_tup (pa_cons (pv 1) (pa_cons pe_int pa_nil))) (pa_cons (pe_tup (pa_cons pe_int (pa_cons pe_int pa_nil))) (pa_cons (pe_tup (pa_cons (pe_un un_neg pe_int) (pa_cons pe_int pa_nil))) pa_nil)))))) (pss_cons (ps_set (i := 3) sc_law_kinds.nd rfl (.inl rfl) (pe_lst (pa_cons (pe_tup (pa_cons (pe_op op_mulW (pe_ix ix_it (pv 0) pe_int (fun _ _ => rfl)) pe_int) (pa_cons (pe_op op_mulW (pe_ix ix_it (pv 0) pe_int (fun _ _ => rfl)) pe_int) pa_nil))) (pa_cons (pe_lst (pa_cons (pe_ix ix_it (pv 0) pe_int (fun _ _ => rfl)) (pa_cons (pe_ix ix_it (pv 0) pe_int (fun _ _ => rfl)) pa_nil))) (pa_cons (pe_tup (pa_cons (pe_ix ix_it (pv 0) pe_int (fun _ _ => rfl)) (pa_cons (pe_un un_neg (pe_ix ix_it (pv 0) pe_int (fun _ _ => rfl))) pa_nil))) (pa_cons (pe_tup (pa_cons (pe_ix ix_it (pv 0) pe_int (fun _ _ => rfl)) (pa_cons pe_int pa_nil))) (pa_cons (pe_tup (pa_cons pe_bl (pa_cons pe_int pa_nil))) (pa_cons (pe_tup (pa_cons (pv 1) (pa_cons pe_bl pa_nil))) pa_nil)))))))) (pss_cons (ps_set (i := 3) sc_law_kinds.nd rfl (.inl rfl) (pe_op op_cat (pv 3) (pe_lst (pa_cons (pv 1) (pa_cons pe_non (pa_cons (pe_tup (pa_cons (pe_ix ix_it (pv 0) pe_int (fun _ _ => rfl)) (pa_cons (pe_ix ix_it (pv 0) pe_int (fun _ _ => rfl)) (pa_cons pe_int pa_nil)))) (pa_cons pe_str (pa_cons (pe_tup (pa_cons pe_int (pa_cons pe_int pa_nil))) (pa_cons (pe_tup pa_nil) (pa_cons (pe_tup (pa_cons pe_int (pa_cons pe_int pa_nil))) pa_nil)))))))))) (pss_cons (ps_for PassesOwn.never rfl (pi_list (pv 2)) (pg_name (i := 4) sc_law_kinds.nd rfl (.inl rfl)) (pss_one (ps_if (pt_cmpR op_notBl (pe_def Gis_ratio (hr.mono (by decide)) (by rfl) (pa_cons (pv 4) pa_nil)) pe_bl (nomark _)) (pss_one (ps_ret pe_bl)) pss_nil))) (pss_cons (ps_for PassesOwn.never rfl (pi_list (pv 3)) (pg_name (i := 4) sc_law_kinds.nd rfl (.inl rfl)) (pss_one (ps_if (pt_cmpR op_notBl (pe_def Gis_ratio (hr.mono (by decide)) (by rfl) (pa_cons (pv 4) pa_nil)) pe_bl (nomark _)) (pss_one (ps_ret pe_bl)) pss_nil))) (pss_cons (ps_if (PW.pt (pw_or (pt_cmpR op_notBl (pe_defd Gw1 (hr.mono (by decide)) (by rfl) (pa_cons (pv 1) pa_nil)) pe_bl (nomark _)) (pw_or (pt_cmpR op_notBl (pe_defd Gw1 (hr.mono (by decide)) (by rfl) (pa_cons pe_bl pa_nil)) pe_bl (nomark _)) (pw_or (pt_cmpR op_notBl (pe_defd Gw1 (hr.mono (by decide)) (by rfl) (pa_cons (pv 0) pa_nil)) pe_bl (nomark _)) (pw_or1 (pt_cmpR op_notBl (pe_defd Gw1 (hr.mono (by decide)) (by rfl) (pa_cons pe_str pa_nil)) pe_bl (nomark _))))))) (pss_one (ps_ret pe_bl)) pss_nil) (pss_cons (ps_set (i := 5) sc_law_kinds.nd rfl (.inl rfl) (pe_lst (pa_cons (pe_defd Gw2 (hr.mono (by decide)) (by rfl) (pa_cons (pv 1) (pa_cons (pv 1) pa_nil))) (pa_cons (pe_defd Gw2 (hr.mono (by decide)) (by rfl) (pa_cons (pv 1) (pa_cons (pe_op op_add (pv 1) pe_int) pa_nil))) (pa_cons (pe_def Gw3 (hr.mono (by decide)) (by rfl) (pa_cons (pv 1) (pa_cons (pe_op op_sub (pv 1) pe_int) (pa_cons (pv 1) pa_nil)))) (pa_cons (pe_def Gw3 (hr.mono (by decide)) (by rfl) (pa_cons (pv 1) (pa_cons (pe_op op_sub (pv 1) pe_int) (pa_cons (pe_op op_sub (pv 1) pe_int) pa_nil)))) pa_nil)))))) (pss_one (ps_ret (pe_and (pe_cmpR (op_eqD hr.units) (pv 5) (pe_lst (pa_cons pe_bl (pa_cons pe_bl (pa_cons pe_bl (pa_cons pe_bl pa_nil))))) (nomark _)) (pe_and (pe_cmpR op_isBl (pe_callN (fnis_whole3 FW misinstance mint mbool) (hr.mono (by decide)) (by rfl) gWh FW.kp KBW pass0 (pa_cons (pv 1) pa_nil) (pk_cons (pv 1) pk_nil)) pe_bl (nomark _)) (pe_one (pe_cmpR op_isBl (pe_def Gw3 (hr.mono (by decide)) (by rfl) (pa_cons pe_bl (pa_cons pe_int (pa_cons pe_int pa_nil)))) pe_bl (nomark _)))))))))))))), ?_⟩
    have B0 : SL K [some v, some (.int n), none, none, none, none] [some (rD r), some (.int n), none, none, none, none] H := by
      intro i d e
      match i, e with
      | 0, e => cases e; exact ⟨v, rfl, hv⟩
      | 1, e => cases e; exact ⟨_, rfl, .int n⟩
      | 2, e => cases e
      | 3, e => cases e
      | 4, e => cases e
      | 5, e => cases e
      | _ + 6, e => cases e
    show tSeq _ _ _ [some v, some (.int n), none, none, none, none] H
    refine s_asg (((le_lst (la_cons SL.same (le_var (i := 0) rfl) (la_cons SL.same (le_tup (la_cons SL.same (le_var (i := 1) rfl) (la_cons SL.same le_int la_nil)) (by show 2 ≤ 1000; decide)) (la_cons SL.same (le_tup (la_cons SL.same le_int (la_cons SL.same le_int la_nil)) (by show 2 ≤ 1000; decide)) (la_cons SL.same (le_tup (la_cons SL.same (le_neg le_int) (la_cons SL.same le_int la_nil)) (by show 2 ≤ 1000; decide)) la_nil)))) (by show 4 ≤ 1000; decide)) : LE K [some v, some (.int n), none, none, none, none] (SL K [some v, some (.int n), none, none, none, none] [some (rD r), some (.int n), none, none, none, none]) _ (.list [rD r, .tuple [.int n, .int 1], .tuple [.int 0, .int 1], .tuple [.int (-1), .int 2]])) H _ B0 fun H1 vg s1 hg => ?_)
    obtain ⟨pg, xg, rfl, hgS, hgA⟩ := dp_lst hg
    have B1 : SL K [some v, some (.int n), some (.ref pg), none, none, none] [some (rD r), some (.int n), none, none, none, none] H1 := by
      intro i d e
      match i, e with
      | 0, e => cases e; exact ⟨v, rfl, Dp_same s1 hv⟩
      | 1, e => cases e; exact ⟨_, rfl, .int n⟩
      | 2, e => cases e
      | 3, e => cases e
      | 4, e => cases e
      | 5, e => cases e
      | _ + 6, e => cases e
    refine s_asg (((la_cons SL.same (le_tup (la_cons SL.same (le_mul SL.same (le_at0 (le_var (i := 0) rfl)) le_int zr.1 (by show (2 : Int).natAbs < 2 ^ 2; decide : Sz 2 2) (by decide) (by decide) (by decide)) (la_cons SL.same (le_mul SL.same (le_at1 (le_var (i := 0) rfl)) le_int zr.2 (by show (2 : Int).natAbs < 2 ^ 2; decide : Sz 2 2) (by decide) (by decide) (by decide)) la_nil)) (by show 2 ≤ 1000; decide)) (la_cons SL.same (le_lst (la_cons SL.same (le_at0 (le_var (i := 0) rfl)) (la_cons SL.same (le_at1 (le_var (i := 0) rfl)) la_nil)) (by show 2 ≤ 1000; decide)) (la_cons SL.same (le_tup (la_cons SL.same (le_at0 (le_var (i := 0) rfl)) (la_cons SL.same (le_neg (le_at1 (le_var (i := 0) rfl))) la_nil)) (by show 2 ≤ 1000; decide)) (la_cons SL.same (le_tup (la_cons SL.same (le_at0 (le_var (i := 0) rfl)) (la_cons SL.same le_int la_nil)) (by show 2 ≤ 1000; decide)) (la_cons SL.same (le_tup (la_cons SL.same le_bl (la_cons SL.same le_int la_nil)) (by show 2 ≤ 1000; decide)) (la_cons SL.same (le_tup (la_cons SL.same (le_var (i := 1) rfl) (la_cons SL.same le_bl la_nil)) (by show 2 ≤ 1000; decide)) la_nil)))))) : LA K [some v, some (.int n), some (.ref pg), none, none, none] (SL K [some v, some (.int n), some (.ref pg), none, none, none] [some (rD r), some (.int n), none, none, none, none]) _ [.tuple [.int (r.1 * 2), .int (r.2 * 2)], .list [.int r.1, .int r.2], .tuple [.int r.1, .int (-r.2)], .tuple [.int r.1, .int 0], .tuple [.bool true, .int 1], .tuple [.int n, .bool true]]) H1 _ B1 fun H2 vb s2 hb => ⟨Nat.le_of_lt (small1000 (by rw [DpAll_lenR hb]; show 6 ≤ 1000; decide)), fun p1 np1 => ?_⟩)
    have s3 : Same H2 (upd H2 p1 (.lst vb)) := PB.same_new np1
    have B2 : SL K [some v, some (.int n), some (.ref pg), some (.ref p1), none, none] [some (rD r), some (.int n), none, none, none, none] (upd H2 p1 (.lst vb)) := by
      intro i d e
      match i, e with
      | 0, e => cases e; exact ⟨v, rfl, Dp_same ((s1.trans s2).trans s3) hv⟩
      | 1, e => cases e; exact ⟨_, rfl, .int n⟩
      | 2, e => cases e
      | 3, e => cases e
      | 4, e => cases e
      | 5, e => cases e
      | _ + 6, e => cases e
    refine s_asg ⟨_, rfl, ((la_cons SL.same (le_var (i := 1) rfl) (la_cons SL.same le_non (la_cons SL.same (le_tup (la_cons SL.same (le_at0 (le_var (i := 0) rfl)) (la_cons SL.same (le_at1 (le_var (i := 0) rfl)) (la_cons SL.same le_int la_nil))) (by show 3 ≤ 1000; decide)) (la_cons SL.same le_str (la_cons SL.same (le_tup (la_cons SL.same le_int (la_cons SL.same le_int la_nil)) (by show 2 ≤ 1000; decide)) (la_cons SL.same (le_tup la_nil (by show 0 ≤ 1000; decide)) (la_cons SL.same (le_tup (la_cons SL.same le_int (la_cons SL.same le_int la_nil)) (by show 2 ≤ 1000; decide)) la_nil))))))) : LA K [some v, some (.int n), some (.ref pg), some (.ref p1), none, none] (SL K [some v, some (.int n), some (.ref pg), some (.ref p1), none, none] [some (rD r), some (.int n), none, none, none, none]) _ [.int n, .none, .tuple [.int r.1, .int r.2, .int 1], .str "1/2", .tuple [.int 0, .int 2], .tuple [], .tuple [.int 3, .int 3]]) (upd H2 p1 (.lst vb)) _ B2 fun H4 vc s4 hc => ⟨Nat.le_of_lt (small1000 (by rw [DpAll_lenR hc]; show 7 ≤ 1000; decide)), fun p2 np2 => ?_⟩⟩
    have e1 : (upd H2 p1 (.lst vb)) p1 = some (.lst vb) := upd_same
    have s5 : Same H4 (upd H4 p2 (.lst vc)) := PB.same_new np2
    refine ⟨p1, p2, vb, vc, rfl, rfl, s5 _ _ (s4 _ _ e1), upd_same, Nat.le_of_lt (small1000 (by rw [DpAll_lenR hb, DpAll_lenR hc]; show 6 + 7 ≤ 1000; decide)), fun p3 np3 => ?_⟩
    have s6 : Same (upd H4 p2 (.lst vc)) (upd (upd H4 p2 (.lst vc)) p3 (.lst (vb ++ vc))) := PB.same_new np3
    have sA : Same H1 (upd (upd H4 p2 (.lst vc)) p3 (.lst (vb ++ vc))) := (((s2.trans s3).trans s4).trans s5).trans s6
    have hbc : DpAll K (upd (upd H4 p2 (.lst vc)) p3 (.lst (vb ++ vc))) (vb ++ vc) ([.tuple [.int (r.1 * 2), .int (r.2 * 2)], .list [.int r.1, .int r.2], .tuple [.int r.1, .int (-r.2)], .tuple [.int r.1, .int 0], .tuple [.bool true, .int 1], .tuple [.int n, .bool true]] ++ [.int n, .none, .tuple [.int r.1, .int r.2, .int 1], .str "1/2", .tuple [.int 0, .int 2], .tuple [], .tuple [.int 3, .int 3]]) := DpAll_ap (DpAll_same (((s3.trans s4).trans s5).trans s6) hb) (DpAll_same (s5.trans s6) hc)
    have e3 : (upd (upd H4 p2 (.lst vc)) p3 (.lst (vb ++ vc))) p3 = some (.lst (vb ++ vc)) := upd_same
    generalize upd (upd H4 p2 (.lst vc)) p3 (.lst (vb ++ vc)) = HX at sA hbc e3
    have hv9 : Dp K HX v (rD r) := Dp_same (s1.trans sA) hv
    show tSeq _ _ _ [some v, some (.int n), some (.ref pg), some (.ref p3), none, none] HX
    refine loop_isr (j := 2) rfl (by decide) (by show 4 < 6; decide) (sA.seq hgS) (DpAll_same sA hgA) (fun d hd => ?_) fun σ1 h1 => ?_
    · simp only [List.mem_cons, List.not_mem_nil, or_false] at hd
      rcases hd with rfl | rfl | rfl | rfl
      · exact rat_isRat ir
      · show (decide ((1 : Int) ≤ 1) && decide (g2 n 1 = 1)) = true
        rw [g2_one]; rfl
      · decide
      · decide
    have L2' : ∃ y, σ1 = [some v, some (.int n), some (.ref pg), some (.ref p3), y, none] := by
      rcases h1 with rfl | ⟨x, rfl⟩
      · exact ⟨_, rfl⟩
      · exact ⟨_, rfl⟩
    obtain ⟨y1, rfl⟩ := L2'
    refine loop_isr (j := 3) rfl (by decide) (by show 4 < 6; decide) (.inl (.inl e3)) hbc (fun d hd => ?_) fun σ2 h2 => ?_
    · simp only [List.cons_append, List.nil_append, List.mem_cons, List.not_mem_nil, or_false] at hd
      rcases hd with rfl | rfl | rfl | rfl | rfl | rfl | rfl | rfl | rfl | rfl | rfl | rfl | rfl
      · exact rat_mul2 ir
      · rfl
      · have := ir.1
        show (decide ((1 : Int) ≤ -r.2) && _) = false
        rw [decide_eq_false (by omega), Bool.false_and]
      · rfl
      · rfl
      · rfl
      · rfl
      · rfl
      · rfl
      · rfl
      · decide
      · rfl
      · decide
    have L3' : ∃ y, σ2 = [some v, some (.int n), some (.ref pg), some (.ref p3), y, none] := by
      rcases h2 with rfl | ⟨x, rfl⟩
      · exact ⟨_, rfl⟩
      · exact ⟨_, rfl⟩
    obtain ⟨y2, rfl⟩ := L3'
    have w1 : isWh (.int n) (some n) = true := decide_eq_true (Int.le_refl n)
    have w2 : isWh (.int n) (some (n + 1)) = false := decide_eq_false (by omega)
    have w3 : isW3 (.int n) (some (n - 3)) (some n) = true := by
      rw [isW3_s, decide_eq_true (Int.le_refl n)]
      show (decide (n - 3 ≤ n) && true) = true
      rw [decide_eq_true (by omega)]; rfl
    have w4 : isW3 (.int n) (some (n - 3)) (some (n - 1)) = false := by
      rw [isW3_s, decide_eq_false (by omega : ¬ n ≤ n - 1), Bool.and_false]
    have w5 : isW3 (.int n) none (some n) = true := by
      rw [isW3_s, decide_eq_true (Int.le_refl n)]; rfl
    refine ⟨_, rfl, _, .int n, none, rfl, .int n, _, _, rfl, rfl, _, rfl, itF rfl ?_⟩
    refine ⟨_, .bool true, none, rfl, .bl true, _, _, rfl, rfl, _, rfl, itF rfl ?_⟩
    refine ⟨v, rfl, v, rD r, none, rfl, hv9, _, _, rfl, rfl, _, rfl, itF rfl ?_⟩
    refine ⟨_, .str "1", none, rfl, .str _, _, _, rfl, rfl, _, rfl, itF rfl ?_⟩
    refine ⟨_, rfl, _, rfl, _, .int n, some n, rfl, .int n, ?_⟩
    refine ⟨_, rfl, _, rfl, n, 1, rfl, rfl, _, .int n, some (n + 1), rfl, .int n, ?_⟩
    refine ⟨_, rfl, _, rfl, n, 3, rfl, rfl, _, rfl, _, .int n, some (n - 3), some n, rfl, .int n, ?_⟩
    refine ⟨_, rfl, _, rfl, n, 3, rfl, rfl, _, rfl, n, 1, rfl, rfl, _, .int n, some (n - 3), some (n - 1), rfl, .int n, ?_⟩
    rw [w1, w2, w3, w4]
    refine ⟨(by show 4 ≤ sizeLine; decide), fun p4 np4 => ?_⟩
    have s7 : Same HX (upd HX p4 (.lst [.bl true, .bl false, .bl true, .bl false])) := PB.same_new np4
    have d7 : Dp K (upd HX p4 (.lst [.bl true, .bl false, .bl true, .bl false])) (.ref p4) (.list [.bool true, .bool false, .bool true, .bool false]) := .lst (.inl (.inl upd_same)) (.cons (.bl _) (.cons (.bl _) (.cons (.bl _) (.cons (.bl _) .nil))))
    generalize upd HX p4 (.lst [.bl true, .bl false, .bl true, .bl false]) = HY at s7 d7
    refine ⟨_, rfl, (by show 4 ≤ sizeLine; decide), fun p5 np5 => ?_⟩
    have s8 : Same HY (upd HY p5 (.lst [.bl true, .bl false, .bl true, .bl false])) := PB.same_new np5
    have d8 : Dp K (upd HY p5 (.lst [.bl true, .bl false, .bl true, .bl false])) (.ref p5) (.list [.bool true, .bool false, .bool true, .bool false]) := .lst (.inl (.inl upd_same)) (.cons (.bl _) (.cons (.bl _) (.cons (.bl _) (.cons (.bl _) .nil))))
    refine eq_same ⟨by decide +kernel, by decide +kernel⟩ (Dp_same s8 d7) d8 ⟨true, rfl, itT rfl ?_⟩
    refine ⟨_, rfl, _, rfl, rfl, rfl, _, .int n, none, some n, rfl, .int n, ?_⟩
    rw [w5]
    refine ⟨_, _, rfl, rfl, true, rfl, itT rfl ?_⟩
    exact ⟨_, .bool false, some 0, some 1, rfl, .bl false, _, _, rfl, rfl, q _ ((s1.trans sA).trans (s7.trans s8))⟩
end
end F3
set_option Elab.async false
set_option linter.all false
set_option maxRecDepth 100000
set_option maxHeartbeats 4000000
set_option exponentiation.threshold 3000
namespace F3
open PySem PySem.Spec PyProof.Rows L2 FX RM PB TM SX
theorem numL_can {cs : List Nat} {c : Nat} {r : List Nat} (e : cs = c :: r) (hc : 49 ≤ c) (h : NumText.AllDigits cs) : TL.numL (NumText.digitsVal cs) = cs := by
  have z := NumText.toDigits_digitsVal (cs.length - 1) cs (by rw [e]; simp) h (.inr ⟨c, r, e, hc⟩)
  unfold TL.numL
  rw [z, List.map_map]
  have k : ∀ n : Nat, 48 ≤ n ∧ n ≤ 57 → (Char.ofNat n).toNat = n := by
    intro n hn
    obtain ⟨a, b⟩ := hn
    have : n = 48 ∨ n = 49 ∨ n = 50 ∨ n = 51 ∨ n = 52 ∨ n = 53 ∨ n = 54 ∨ n = 55 ∨ n = 56 ∨ n = 57 := by omega
    rcases this with rfl | rfl | rfl | rfl | rfl | rfl | rfl | rfl | rfl | rfl <;> rfl
  have : ∀ l : List Nat, NumText.AllDigits l → l.map (Char.toNat ∘ Char.ofNat) = l := by
    intro l
    induction l with
    | nil => intro _; rfl
    | cons a l ih =>
      intro h
      rw [List.map_cons, ih h.tail]
      show (Char.ofNat a).toNat :: l = _
      rw [k a h.head]
  exact this cs h
def longL : List Nat := List.replicate 300 49
def wholeL : List Nat := 49 :: List.replicate 299 48
theorem dig_rep {n c : Nat} (h : 48 ≤ c ∧ c ≤ 57) : NumText.AllDigits (List.replicate n c) := fun d hd => by rw [List.eq_of_mem_replicate hd]; exact h
theorem long_dig : NumText.AllDigits longL := dig_rep (by decide)
theorem whole_dig : NumText.AllDigits wholeL := fun d hd => by
  rcases List.mem_cons.mp hd with e | hd
  · rw [e]; decide
  · rw [List.eq_of_mem_replicate hd]; decide
def longV : Nat := NumText.digitsVal longL
def wholeV : Nat := NumText.digitsVal wholeL
theorem long_num : TL.numL longV = longL := numL_can (c := 49) (r := List.replicate 299 49) rfl (by decide) long_dig
theorem whole_num : TL.numL wholeV = wholeL := numL_can (c := 49) (r := List.replicate 299 48) rfl (by decide) whole_dig
theorem long_I : numI (longV : Int) = longL := by rw [numI_nn (by omega)]; exact long_num
theorem whole_I : numI (wholeV : Int) = wholeL := by rw [numI_nn (by omega)]; exact whole_num
theorem lw_gcd : Nat.gcd longV wholeV = 1 := by decide +kernel
theorem whole_ne : wholeV ≠ 1 := by decide +kernel
theorem whole_pos : 0 < wholeV := by decide +kernel
theorem long_pos : 0 < longV := by decide +kernel
theorem lw_ratL : ratL ((longV : Int), (wholeV : Int)) = longL ++ 47 :: wholeL := by
  unfold ratL
  rw [if_neg (by have := whole_ne; show ¬ ((wholeV : Nat) : Int) = 1; omega)]
  show numI (longV : Int) ++ 47 :: numI (wholeV : Int) = _
  rw [long_I, whole_I]
theorem lw_rat : IsRat ((longV : Int), (wholeV : Int)) := ⟨by have := whole_pos; show (0 : Int) < ((wholeV : Nat) : Int); omega, lw_gcd⟩
theorem lw_RT : RT (longL ++ 47 :: wholeL) ((longV : Int), (wholeV : Int)) := ⟨lw_rat, lw_ratL.symm, by
    show (TL.numL longV).length ≤ 300
    rw [long_num]; decide, by
    show (TL.numL wholeV).length ≤ 300
    rw [whole_num]; decide⟩
theorem nl_RT : RT (45 :: longL) (-(longV : Int), 1) := by
  have n := long_pos
  refine ⟨⟨by decide, Nat.gcd_one_right _⟩, ?_, ?_, by decide⟩
  · have : ratL (-(longV : Int), 1) = numI (-(longV : Int)) := if_pos rfl
    rw [this, numI_ng (by omega)]
    have e : (-(longV : Int)).natAbs = longV := by omega
    rw [e, long_num]
  · have e : (-(longV : Int)).natAbs = longV := by omega
    show (TL.numL (-(longV : Int)).natAbs).length ≤ 300
    rw [e, long_num]; decide
theorem long_read : intText? (S longL) = some (longV : Int) := PySem.intText_digits (x := S longL) long_dig (by decide) (by rw [S_len]; decide)
theorem whole_read : intText? (S wholeL) = some (wholeV : Int) := PySem.intText_digits (x := S wholeL) whole_dig (by decide) (by rw [S_len]; decide)
theorem long_310 : (longV : Int).natAbs < 10 ^ 310 := by rw [Int.natAbs_natCast]; decide +kernel
theorem whole_310 : (wholeV : Int).natAbs < 10 ^ 310 := by rw [Int.natAbs_natCast]; decide +kernel
theorem l1_no : ∀ r, ¬ RT (longL ++ [49]) r := rt_long (fun d hd => by
  rcases List.mem_append.mp hd with hd | hd
  · exact long_dig d hd
  · rw [List.mem_singleton.mp hd]; decide) (by decide)
theorem l2_no : ∀ r, ¬ RT ([49, 47] ++ longL ++ [49]) r := by
  have h := rt_long2 (n := 1) (l := longL ++ [49]) (fun d hd => by
    rcases List.mem_append.mp hd with hd | hd
    · exact long_dig d hd
    · rw [List.mem_singleton.mp hd]; decide) (by decide)
  exact h
theorem p310 {x : Int} (h : Sz 311 x) : x.natAbs < 10 ^ 310 := Nat.lt_trans h (by decide +kernel)
theorem p300 {x : Int} (h : Sz 310 x) : (TL.numL x.natAbs).length ≤ 300 := TL.numL_len (by decide) (Nat.lt_trans h (by decide +kernel))
theorem rat_len {r : Rt} (h : SzR 310 r) : (ratL r).length ≤ 700 := by
  have a := numI_len (p310 (sz_mono h.1 (by decide)))
  have b := numI_len (p310 (sz_mono h.2 (by decide)))
  unfold ratL
  split
  · omega
  · rw [List.length_append, List.length_cons]; omega
theorem s_next {D : Ends} {σ : L2.St} {H : Hp} (h : D.nx σ H) : tNext D σ H := h
def spTexts (K : PySem.W.Frag) : Sp := fun vs H Q _ => ∃ v r, vs = [v] ∧ Dp K H v (rD r) ∧ IsRat r ∧ SzR 310 r ∧ ∀ H', Same H H' → Q (.bl true) H'
section
variable {P : Program} {w : World} {K : PySem.W.Frag} {mg : Str → Option Value} {base : Heap}
def W1 (r : Rt) : List PyData := [.str (S ((ratL r ++ [47, 49]))), .str (S (([43] ++ ratL r))), .str (S (([32] ++ ratL r))), .str (S ((ratL r ++ [32]))), .str (S (([48] ++ ratL r))), .str (S ((ratL r ++ [47]))), .str (S ((ratL r ++ [47, 48]))), .str (S (([45, 45] ++ ratL r))), .str (S ((ratL r ++ [46, 48])))]
def W2 (r : Rt) : List PyData := [.str (S (((numI (r.1 * 2) ++ [47]) ++ numI (r.2 * 2)))), .str (S ([])), .str (S ([45])), .str (S ([47])), .str (S ([45, 48])), .str (S ([48, 47, 49])), .str (S ([49, 47, 45, 50])), .str (S ([120, 49])), .int 3, .none, rD r]
def W3 : List PyData := [.str (S ([49, 95, 48])), .str (S ([49, 101, 51])), .str (S ([48, 120, 49])), .str (S ([49, 47, 49, 95, 48])), .str (S ([49, 10])), .str (S ([9, 49]))]
abbrev s_law_texts : Stmt := topS 44
theorem sc_law_texts : FnScope ["_law_one", "_law_due", "_law_wrong", "_law_text", "_law_long", "_law_whole"] ["_law_one"] (defScope s_law_texts) := ⟨rfl, rfl, rfl, by decide +kernel, rfl, by decide +kernel, by decide +kernel⟩
theorem ok_law_texts (T : Txt K mg "_law_texts" s_law_texts) (mstr : mg "str" = none) (mint : mg "int" = none) (Gratio_text : DefOk P w K mg base CX0 "ratio_text" 3 ["one"] (spRT K)) (G_law_read : DefOk P w K mg base CX0 "_law_read" 5 ["_law_text"] (spReadL K)) (G_law_plain : DefOk P w K mg base CX0 "_law_plain" 1 ["_law_told", "_law_due"] (spPlain K)) : DefOk P w K mg base CX0 "_law_texts" 6 ["_law_one"] (spTexts K) := by
  obtain ⟨f, fd, F, gf⟩ := T
  refine ⟨f, fd, gf, F.kp, F.binds (fun _ _ _ _ _ _ us hl => match us, hl with | [_], _ => rfl), F.ok sc_law_texts (fun vs H Q E h => ?_) (fun cdv A outer s H vs Q E hr h => ?_)⟩
  · obtain ⟨v, r, rfl, _⟩ := h; rfl
  · obtain ⟨v, r, rfl, hv, ir, zr, q⟩ := h
    refine ⟨_, (pss_cons (ps_set (i := 1) sc_law_texts.nd rfl (.inl rfl) (pe_ifExp (pt_cmpR op_eq (pe_ix ix_it (pv 0) pe_int (fun _ _ => rfl)) pe_int (nomark _)) (pe_callTy call_str_int (by rfl) mstr (by decide +kernel) (pa_cons (pe_ix ix_it (pv 0) pe_int (fun _ _ => rfl)) pa_nil)) (pe_op op_add_str (pe_op op_add_str (pe_callTy call_str_int (by rfl) mstr (by decide +kernel) (pa_cons (pe_ix ix_it (pv 0) pe_int (fun _ _ => rfl)) pa_nil)) pe_str) (pe_callTy call_str_int (by rfl) mstr (by decide +kernel) (pa_cons (pe_ix ix_it (pv 0) pe_int (fun _ _ => rfl)) pa_nil))))) (pss_cons (ps_if (PW.pt (pw_or (pt_cmpR op_ne (pe_def Gratio_text (hr.mono (by decide)) (by rfl) (pa_cons (pv 0) pa_nil)) (pv 1) (nomark _)) (pw_or1 (pt_not (pt_val (pe_def G_law_plain (hr.mono (by decide)) (by rfl) (pa_cons (pe_def G_law_read (hr.mono (by decide)) (by rfl) (pa_cons (pv 1) pa_nil)) (pa_cons (pv 0) pa_nil)))))))) (pss_one (ps_ret pe_bl)) pss_nil) (pss_cons (ps_set (i := 2) sc_law_texts.nd rfl (.inl rfl) (pe_lst (pa_cons (pe_op op_add_str (pv 1) pe_str) (pa_cons (pe_op op_add_str pe_str (pv 1)) (pa_cons (pe_op op_add_str pe_str (pv 1)) (pa_cons (pe_op op_add_str (pv 1) pe_str) (pa_cons (pe_op op_add_str pe_str (pv 1)) (pa_cons (pe_op op_add_str (pv 1) pe_str) (pa_cons (pe_op op_add_str (pv 1) pe_str) (pa_cons (pe_op op_add_str pe_str (pv 1)) (pa_cons (pe_op op_add_str (pv 1) pe_str) pa_nil))))))))))) (pss_cons (ps_set (i := 2) sc_law_texts.nd rfl (.inl rfl) (pe_op op_cat (pv 2) (pe_lst (pa_cons (pe_op op_add_str (pe_op op_add_str (pe_callTy call_str_int (by rfl) mstr (by decide +kernel) (pa_cons (pe_op op_mulW (pe_ix ix_it (pv 0) pe_int (fun _ _ => rfl)) pe_int) pa_nil)) pe_str) (pe_callTy call_str_int (by rfl) mstr (by decide +kernel) (pa_cons (pe_op op_mulW (pe_ix ix_it (pv 0) pe_int (fun _ _ => rfl)) pe_int) pa_nil))) (pa_cons pe_str (pa_cons pe_str (pa_cons pe_str (pa_cons pe_str (pa_cons pe_str (pa_cons pe_str (pa_cons pe_str (pa_cons pe_int (pa_cons pe_non (pa_cons (pv 0) pa_nil)))))))))))))) (pss_cons (ps_for PassesOwn.never rfl (pi_list (pv 2)) (pg_name (i := 3) sc_law_texts.nd rfl (.inl rfl)) (pss_one (ps_if (pt_cmpR (op_neD hr.units) (pe_def G_law_read (hr.mono (by decide)) (by rfl) (pa_cons (pv 3) pa_nil)) (pe_lst (pa_cons pe_str (pa_cons pe_str pa_nil))) (nomark _)) (pss_one (ps_ret pe_bl)) pss_nil))) (pss_cons (ps_set (i := 4) sc_law_texts.nd rfl (.inl rfl) (pe_op op_mulS pe_str pe_int)) (pss_cons (ps_set (i := 5) sc_law_texts.nd rfl (.inl rfl) (pe_op op_add_str pe_str (pe_op op_mulS pe_str pe_int))) (pss_cons (ps_if (PW.pt (pw_or (pt_not (pt_val (pe_def G_law_plain (hr.mono (by decide)) (by rfl) (pa_cons (pe_def G_law_read (hr.mono (by decide)) (by rfl) (pa_cons (pe_op op_add_str (pe_op op_add_str (pv 4) pe_str) (pv 5)) pa_nil)) (pa_cons (pe_tup (pa_cons (pe_callTy call_int_str (by rfl) mint boot_int (pa_cons (pv 4) pa_nil)) (pa_cons (pe_callTy call_int_str (by rfl) mint boot_int (pa_cons (pv 5) pa_nil)) pa_nil))) pa_nil))))) (pw_or1 (pt_cmpR op_ne (pe_def Gratio_text (hr.mono (by decide)) (by rfl) (pa_cons (pe_tup (pa_cons (pe_callTy call_int_str (by rfl) mint boot_int (pa_cons (pv 4) pa_nil)) (pa_cons (pe_callTy call_int_str (by rfl) mint boot_int (pa_cons (pv 5) pa_nil)) pa_nil))) pa_nil)) (pe_op op_add_str (pe_op op_add_str (pv 4) pe_str) (pv 5)) (nomark _))))) (pss_one (ps_ret pe_bl)) pss_nil) (pss_cons (ps_for PassesOwn.never rfl (pi_list (pe_lst (pa_cons pe_str (pa_cons pe_str (pa_cons pe_str (pa_cons pe_str (pa_cons pe_str (pa_cons pe_str pa_nil)))))))) (pg_name (i := 3) sc_law_texts.nd rfl (.inl rfl)) (pss_one (ps_if (pt_cmpR (op_neD hr.units) (pe_def G_law_read (hr.mono (by decide)) (by rfl) (pa_cons (pv 3) pa_nil)) (pe_lst (pa_cons pe_str (pa_cons pe_str pa_nil))) (nomark _)) (pss_one (ps_ret pe_bl)) pss_nil))) (pss_one (ps_ret (pe_and (pe_def G_law_plain (hr.mono (by decide)) (by rfl) (pa_cons (pe_def G_law_read (hr.mono (by decide)) (by rfl) (pa_cons (pe_op op_add_str pe_str (pv 4)) pa_nil)) (pa_cons (pe_tup (pa_cons (pe_un un_neg (pe_callTy call_int_str (by rfl) mint boot_int (pa_cons (pv 4) pa_nil))) (pa_cons pe_int pa_nil))) pa_nil))) (pe_and (pe_cmpR (op_eqD hr.units) (pe_def G_law_read (hr.mono (by decide)) (by rfl) (pa_cons (pe_op op_add_str (pv 4) pe_str) pa_nil)) (pe_lst (pa_cons pe_str (pa_cons pe_str pa_nil))) (nomark _)) (pe_one (pe_cmpR (op_eqD hr.units) (pe_def G_law_read (hr.mono (by decide)) (by rfl) (pa_cons (pe_op op_add_str (pe_op op_add_str pe_str (pv 4)) pe_str) pa_nil)) (pe_lst (pa_cons pe_str (pa_cons pe_str pa_nil))) (nomark _)))))))))))))))), ?_⟩
    have rl := rat_len zr
    have g1 := p310 (sz_mono zr.1 (by decide))
    have g2' := p310 (sz_mono zr.2 (by decide))
    have z1 : (r.1 * 2).natAbs < 10 ^ 310 := p310 (by
      show (r.1 * 2).natAbs < 2 ^ 311
      have := zr.1
      unfold Sz at this
      have e : (2 : Nat) ^ 311 = 2 ^ 310 * 2 := Nat.pow_succ ..
      rw [e]; omega)
    have z2 : (r.2 * 2).natAbs < 10 ^ 310 := p310 (by
      show (r.2 * 2).natAbs < 2 ^ 311
      have := zr.2
      unfold Sz at this
      have e : (2 : Nat) ^ 311 = 2 ^ 310 * 2 := Nat.pow_succ ..
      rw [e]; omega)
    have l1 := numI_len g1
    have l2 := numI_len g2'
    have n1 := numI_len z1
    have n2 := numI_len z2
    have c := cou_r hv
    have rtr : RT (ratL r) r := ⟨ir, rfl, p300 zr.1, p300 zr.2⟩
    have start_ : ∀ (rest : TS) (D : Ends), rest D [some v, some (.str (S (ratL r))), none, none, none, none] H → ∀ te : TE, LE K [some v, none, none, none, none, none] (SL K [some v, none, none, none, none, none] [some (rD r), none, none, none, none, none]) te (.str (S (ratL r))) → True := fun _ _ _ _ _ => trivial
    show tSeq _ _ _ [some v, none, none, none, none, none] H
    have due : ∀ (rest : TS) (D : Ends), rest D [some v, some (.str (S (ratL r))), none, none, none, none] H →
        tSeq (tAsg (tIf (tTest (tOp rEq (tOp (rIt K) (tVar 0) (tC (.int 1))) (tC (.int 1)))) (tCB (fun xs H Q => ∃ i, xs = [.int i] ∧ i.natAbs.log2 < 1920 ∧ Q (.str (toString i)) H) (tCons (tOp (rIt K) (tVar 0) (tC (.int 0))) tNil))
          (tOp (fun x y H Q => ∃ i j, x = .str i ∧ y = .str j ∧ i.length + j.length ≤ sizeLine ∧ Q (.str (i ++ j)) H) (tOp (fun x y H Q => ∃ i j, x = .str i ∧ y = .str j ∧ i.length + j.length ≤ sizeLine ∧ Q (.str (i ++ j)) H) (tCB (fun xs H Q => ∃ i, xs = [.int i] ∧ i.natAbs.log2 < 1920 ∧ Q (.str (toString i)) H) (tCons (tOp (rIt K) (tVar 0) (tC (.int 0))) tNil)) (tC (.str "/")))
            (tCB (fun xs H Q => ∃ i, xs = [.int i] ∧ i.natAbs.log2 < 1920 ∧ Q (.str (toString i)) H) (tCons (tOp (rIt K) (tVar 0) (tC (.int 1))) tNil)))) (gName 1)) rest D [some v, none, none, none, none, none] H := fun rest D h => by
      refine ⟨v, rfl, _, _, 1, _, rfl, c, rfl, rfl, _, rfl, ?_⟩
      by_cases e : r.2 = 1
      · refine itT (decide_eq_true (congrArg V.int e)) ⟨v, rfl, _, _, 0, _, rfl, c, rfl, r.1, rfl, log_lt g1, ?_⟩
        rw [str_I]
        have z : ratL r = numI r.1 := if_pos e
        rw [← z]; exact h
      · refine itF (decide_eq_false fun z => e (V.int.inj z)) ⟨v, rfl, _, _, 0, _, rfl, c, rfl, r.1, rfl, log_lt g1, ?_⟩
        rw [str_I]
        refine ⟨_, _, rfl, rfl, line1000 (by rw [S_len]; have : (Str.ofString "/" : Str).length = 1 := rfl; omega), v, rfl, _, _, 1, _, rfl, c, rfl, r.2, rfl, log_lt g2', ?_⟩
        rw [str_I, show (Str.ofString "/" : Str) = S [47] from rfl, S_cat]
        refine ⟨_, _, rfl, rfl, line1000 (by rw [S_len, S_len, List.length_append]; simp only [List.length_singleton]; omega), ?_⟩
        rw [S_cat, List.append_assoc]
        have z : ratL r = numI r.1 ++ 47 :: numI r.2 := if_neg e
        show rest D [some v, some (.str (S (numI r.1 ++ 47 :: numI r.2))), none, none, none, none] H
        rw [← z]; exact h
    refine due _ _ ?_
    
    refine ⟨v, rfl, v, r, rfl, hv, ⟨g1, g2'⟩, fun H1 s1 => ⟨_, rfl, rfl, _, rfl, itF (by simp) ?_⟩⟩
    refine ⟨_, rfl, _, .str (S (ratL r)), .inr (rD r), rfl, .str _, (fun a e => by cases e; rw [S_len]; omega), .inl ⟨_, r, rfl, rtr, rfl⟩, fun H2 z s2 hz => ⟨v, rfl, z, v, r, rfl, hz, Dp_same (s1.trans s2) hv, _, rfl, itF rfl ?_⟩⟩
    have s12 := s1.trans s2
    clear hz
    have B0 : SL K [some v, some (.str (S (ratL r))), none, none, none, none] [some (rD r), some (.str (S (ratL r))), none, none, none, none] H2 := by
      intro i d e
      match i, e with
      | 0, e => cases e; exact ⟨_, rfl, Dp_same s12 hv⟩
      | 1, e => cases e; exact ⟨_, rfl, .str _⟩
      | 2, e => cases e
      | 3, e => cases e
      | 4, e => cases e
      | 5, e => cases e
      | _ + 6, e => cases e
    refine s_next ?_
    dsimp only
    refine s_asg ?_
    refine ((la_cons SL.same (le_cat SL.same (le_var (i := 1) rfl) (le_strS (i := "/1") rfl) (by simp only [List.length_append, List.length_cons, List.length_nil]; omega)) (la_cons SL.same (le_cat SL.same (le_strS (i := "+") rfl) (le_var (i := 1) rfl) (by simp only [List.length_append, List.length_cons, List.length_nil]; omega)) (la_cons SL.same (le_cat SL.same (le_strS (i := " ") rfl) (le_var (i := 1) rfl) (by simp only [List.length_append, List.length_cons, List.length_nil]; omega)) (la_cons SL.same (le_cat SL.same (le_var (i := 1) rfl) (le_strS (i := " ") rfl) (by simp only [List.length_append, List.length_cons, List.length_nil]; omega)) (la_cons SL.same (le_cat SL.same (le_strS (i := "0") rfl) (le_var (i := 1) rfl) (by simp only [List.length_append, List.length_cons, List.length_nil]; omega)) (la_cons SL.same (le_cat SL.same (le_var (i := 1) rfl) (le_strS (i := "/") rfl) (by simp only [List.length_append, List.length_cons, List.length_nil]; omega)) (la_cons SL.same (le_cat SL.same (le_var (i := 1) rfl) (le_strS (i := "/0") rfl) (by simp only [List.length_append, List.length_cons, List.length_nil]; omega)) (la_cons SL.same (le_cat SL.same (le_strS (i := "--") rfl) (le_var (i := 1) rfl) (by simp only [List.length_append, List.length_cons, List.length_nil]; omega)) (la_cons SL.same (le_cat SL.same (le_var (i := 1) rfl) (le_strS (i := ".0") rfl) (by simp only [List.length_append, List.length_cons, List.length_nil]; omega)) la_nil))))))))) : LA K [some v, some (.str (S (ratL r))), none, none, none, none] (SL K [some v, some (.str (S (ratL r))), none, none, none, none] [some (rD r), some (.str (S (ratL r))), none, none, none, none]) _ (W1 r)) H2 _ B0 fun H3 vb s3 hb => ⟨Nat.le_of_lt (small1000 (by rw [DpAll_lenR hb]; show 9 ≤ 1000; decide)), fun p1 np1 => ?_⟩
    have s4 : Same H3 (upd H3 p1 (.lst vb)) := PB.same_new np1
    have B1 : SL K [some v, some (.str (S (ratL r))), some (.ref p1), none, none, none] [some (rD r), some (.str (S (ratL r))), none, none, none, none] (upd H3 p1 (.lst vb)) := by
      intro i d e
      match i, e with
      | 0, e => cases e; exact ⟨_, rfl, Dp_same ((s12.trans s3).trans s4) hv⟩
      | 1, e => cases e; exact ⟨_, rfl, .str _⟩
      | 2, e => cases e
      | 3, e => cases e
      | 4, e => cases e
      | 5, e => cases e
      | _ + 6, e => cases e
    refine s_asg ?_
    refine ⟨_, rfl, ((la_cons SL.same (le_cat SL.same (le_cat SL.same (le_strI (le_mul SL.same (le_at0 (le_var (i := 0) rfl)) le_int zr.1 (by show (2 : Int).natAbs < 2 ^ 2; decide : Sz 2 2) (by decide) (by decide) (by decide)) z1) (le_strS (i := "/") rfl) (by simp only [List.length_append, List.length_cons, List.length_nil]; omega)) (le_strI (le_mul SL.same (le_at1 (le_var (i := 0) rfl)) le_int zr.2 (by show (2 : Int).natAbs < 2 ^ 2; decide : Sz 2 2) (by decide) (by decide) (by decide)) z2) (by simp only [List.length_append, List.length_cons, List.length_nil]; omega)) (la_cons SL.same (le_strS (i := "") rfl) (la_cons SL.same (le_strS (i := "-") rfl) (la_cons SL.same (le_strS (i := "/") rfl) (la_cons SL.same (le_strS (i := "-0") rfl) (la_cons SL.same (le_strS (i := "0/1") rfl) (la_cons SL.same (le_strS (i := "1/-2") rfl) (la_cons SL.same (le_strS (i := "x1") rfl) (la_cons SL.same le_int (la_cons SL.same le_non (la_cons SL.same (le_var (i := 0) rfl) la_nil))))))))))) : LA K [some v, some (.str (S (ratL r))), some (.ref p1), none, none, none] (SL K [some v, some (.str (S (ratL r))), some (.ref p1), none, none, none] [some (rD r), some (.str (S (ratL r))), none, none, none, none]) _ (W2 r)) (upd H3 p1 (.lst vb)) _ B1 fun H4 vc s5 hc => ⟨Nat.le_of_lt (small1000 (by rw [DpAll_lenR hc]; show 11 ≤ 1000; decide)), fun p2 np2 => ?_⟩⟩
    have e1 : (upd H3 p1 (.lst vb)) p1 = some (.lst vb) := upd_same
    have s6 : Same H4 (upd H4 p2 (.lst vc)) := PB.same_new np2
    refine ⟨p1, p2, vb, vc, rfl, rfl, s6 _ _ (s5 _ _ e1), upd_same, Nat.le_of_lt (small1000 (by rw [DpAll_lenR hb, DpAll_lenR hc]; show 9 + 11 ≤ 1000; decide)), fun p3 np3 => ?_⟩
    have s7 : Same (upd H4 p2 (.lst vc)) (upd (upd H4 p2 (.lst vc)) p3 (.lst (vb ++ vc))) := PB.same_new np3
    have sA : Same H2 (upd (upd H4 p2 (.lst vc)) p3 (.lst (vb ++ vc))) := (((s3.trans s4).trans s5).trans s6).trans s7
    have hbc : DpAll K (upd (upd H4 p2 (.lst vc)) p3 (.lst (vb ++ vc))) (vb ++ vc) ((W1 r) ++ (W2 r)) := DpAll_ap (DpAll_same (((s4.trans s5).trans s6).trans s7) hb) (DpAll_same (s6.trans s7) hc)
    have e3 : (upd (upd H4 p2 (.lst vc)) p3 (.lst (vb ++ vc))) p3 = some (.lst (vb ++ vc)) := upd_same
    generalize upd (upd H4 p2 (.lst vc)) p3 (.lst (vb ++ vc)) = HX at sA hbc e3
    have s9 := s12.trans sA
    have hv9 : Dp K HX v (rD r) := Dp_same s9 hv
    show tSeq _ _ _ [some v, some (.str (S (ratL r))), some (.ref p3), none, none, none] HX
    refine loop_read (B := fun H' => Dp K H' (.ref p3) (.list ((W1 r) ++ (W2 r)))) (ds := (W1 r) ++ (W2 r)) (fun H Q b q => ⟨_, rfl, q H _ (fun _ _ e => e) b⟩) (.lst (.inl (.inl e3)) hbc) (by show 3 < 6; decide) (fun d hd => ?_) fun σ1 HZ sz h1 => ?_
    · simp only [W1, W2, List.cons_append, List.nil_append, List.mem_cons, List.not_mem_nil, or_false] at hd
      rcases hd with rfl | rfl | rfl | rfl | rfl | rfl | rfl | rfl | rfl | rfl | rfl | rfl | rfl | rfl | rfl | rfl | rfl | rfl | rfl | rfl
      · exact norts (by simp only [List.length_append, List.length_cons, List.length_nil]; omega) (rt_due1 r)
      · exact norts (by simp only [List.length_append, List.length_cons, List.length_nil]; omega) (rt_first (a := 43) (by omega))
      · exact norts (by simp only [List.length_append, List.length_cons, List.length_nil]; omega) (rt_first (a := 32) (by omega))
      · exact norts (by simp only [List.length_append, List.length_cons, List.length_nil]; omega) (rt_bad (c := 32) (by simp) (by omega))
      · exact norts (by simp only [List.length_append, List.length_cons, List.length_nil]; omega) (rt_due48 r)
      · exact norts (by simp only [List.length_append, List.length_cons, List.length_nil]; omega) (rt_due_ r)
      · exact norts (by simp only [List.length_append, List.length_cons, List.length_nil]; omega) (rt_due0 r)
      · exact norts (by simp only [List.length_append, List.length_cons, List.length_nil]; omega) (rt_minus (t := 45 :: ratL r) (fun b u e => by cases e; omega))
      · exact norts (by simp only [List.length_append, List.length_cons, List.length_nil]; omega) (rt_bad (c := 46) (by simp) (by omega))
      · refine norts (by simp only [List.length_append, List.length_cons, List.length_nil]; omega) (fun r' => ?_)
        have := rt_twice (n := r.1) (d := r.2) ir.1 r'
        rw [List.append_assoc]; exact this
      · exact norts (by decide) rt_nil
      · exact norts (by decide) rt_c1
      · exact norts (by decide) rt_c0
      · exact norts (by decide) rt_c2
      · exact norts (by decide) rt_c3
      · exact norts (by decide) rt_c4
      · exact norts (by decide) (rt_first (a := 120) (by omega))
      · exact nort_of fun a e => by cases e
      · exact nort_of fun a e => by cases e
      · exact nort_of fun a e => by cases e
    have L2' : ∃ y, σ1 = [some v, some (.str (S (ratL r))), some (.ref p3), y, none, none] := by
      rcases h1 with rfl | ⟨x, rfl⟩
      · exact ⟨_, rfl⟩
      · exact ⟨_, rfl⟩
    obtain ⟨y1, rfl⟩ := L2'
    have sZ := s9.trans sz
    have c1 : (Str.ofString "1" : Str) = S [49] := rfl
    refine ⟨49, 300, rfl, rfl, by decide, by decide, ?_⟩
    refine ⟨48, 299, rfl, rfl, by decide, by decide, _, _, rfl, rfl, line1000 (by rw [c1, S_len, S_len, List.length_replicate]; decide), ?_⟩
    rw [c1, S_cat]
    show tSeq _ _ _ [some v, some (.str (S (ratL r))), some (.ref p3), y1, some (.str (S longL)), some (.str (S wholeL))] HZ
    have ec : S longL ++ (Str.ofString "/" : Str) ++ S wholeL = S (longL ++ 47 :: wholeL) := by rw [show (Str.ofString "/" : Str) = S [47] from rfl, S_cat, S_cat, List.append_assoc]; rfl
    have ll : (S longL).length = 300 := by rw [S_len]; decide
    have lw : (S wholeL).length = 300 := by rw [S_len]; decide
    have lc : (S longL ++ (Str.ofString "/" : Str)).length = 301 := by rw [show (Str.ofString "/" : Str) = S [47] from rfl, S_cat, S_len]; decide
    have lsl : (Str.ofString "/" : Str).length = 1 := rfl
    refine ⟨_, rfl, _, _, rfl, rfl, line1000 (by rw [ll, lsl]; decide), _, rfl, _, _, rfl, rfl, line1000 (by rw [lc, lw]; decide), ?_⟩
    rw [ec]
    refine ⟨_, _, .inr (rD ((longV : Int), (wholeV : Int))), rfl, .str _, (fun a e => by cases e; rw [S_len]; decide), .inl ⟨_, _, rfl, lw_RT, rfl⟩, fun H5 z5 s13 hz5 => ?_⟩
    refine ⟨_, rfl, _, _, rfl, long_read, by rw [ll]; decide, _, rfl, _, _, rfl, whole_read, by rw [lw]; decide, (by show 2 ≤ sizeLine; decide), fun p6 np6 => ?_⟩
    have s14 : Same H5 (upd H5 p6 (.tup [.int (longV : Int), .int (wholeV : Int)])) := PB.same_new np6
    refine ⟨_, _, ((longV : Int), (wholeV : Int)), rfl, Dp_same s14 hz5, dp_mkr np6, _, rfl, itF rfl ?_⟩
    have sB := sZ.trans (s13.trans s14)
    generalize upd H5 p6 (.tup [.int (longV : Int), .int (wholeV : Int)]) = H6 at sB
    clear hz5 s13 s14 np6 np1 np2 np3
    refine ⟨_, rfl, _, _, rfl, long_read, by rw [ll]; decide, _, rfl, _, _, rfl, whole_read, by rw [lw]; decide, (by show 2 ≤ sizeLine; decide), fun p7 np7 => ?_⟩
    have s15 : Same H6 (upd H6 p7 (.tup [.int (longV : Int), .int (wholeV : Int)])) := PB.same_new np7
    refine ⟨_, ((longV : Int), (wholeV : Int)), rfl, dp_mkr np7, ⟨long_310, whole_310⟩, fun H7 s16 => ?_⟩
    refine ⟨_, rfl, _, _, rfl, rfl, line1000 (by rw [ll, lsl]; decide), _, rfl, _, _, rfl, rfl, line1000 (by rw [lc, lw]; decide), ?_⟩
    rw [ec, lw_ratL]
    refine ⟨rfl, _, rfl, itF (by simp) ?_⟩
    have sC := sB.trans (s15.trans s16)
    show tSeq _ _ _ [some v, some (.str (S (ratL r))), some (.ref p3), y1, some (.str (S longL)), some (.str (S wholeL))] H7
    refine loop_read (B := SL K [some v, some (.str (S (ratL r))), some (.ref p3), y1, some (.str (S longL)), some (.str (S wholeL))] [some (rD r), some (.str (S (ratL r))), none, none, none, none]) (ds := W3) ((le_lst (la_cons SL.same (le_strS (i := "1_0") rfl) (la_cons SL.same (le_strS (i := "1e3") rfl) (la_cons SL.same (le_strS (i := "0x1") rfl) (la_cons SL.same (le_strS (i := "1/1_0") rfl) (la_cons SL.same (le_strS (i := "1\n") rfl) (la_cons SL.same (le_strS (i := "\t1") rfl) la_nil)))))) (by show 6 ≤ 1000; decide)) : LE K [some v, some (.str (S (ratL r))), some (.ref p3), y1, some (.str (S longL)), some (.str (S wholeL))] (SL K [some v, some (.str (S (ratL r))), some (.ref p3), y1, some (.str (S longL)), some (.str (S wholeL))] [some (rD r), some (.str (S (ratL r))), none, none, none, none]) _ (.list W3)) ?_ (by show 3 < 6; decide) (fun d hd => ?_) fun σ2 HW sw h2 => ?_
    · intro i d e
      match i, e with
      | 0, e => cases e; exact ⟨_, rfl, Dp_same sC hv⟩
      | 1, e => cases e; exact ⟨_, rfl, .str _⟩
      | 2, e => cases e
      | 3, e => cases e
      | 4, e => cases e
      | 5, e => cases e
      | _ + 6, e => cases e
    · simp only [W3, List.mem_cons, List.not_mem_nil, or_false] at hd
      rcases hd with rfl | rfl | rfl | rfl | rfl | rfl
      · exact norts (by decide) (rt_bad (c := 95) (by decide) (by omega))
      · exact norts (by decide) (rt_bad (c := 101) (by decide) (by omega))
      · exact norts (by decide) (rt_bad (c := 120) (by decide) (by omega))
      · exact norts (by decide) (rt_bad (c := 95) (by decide) (by omega))
      · exact norts (by decide) (rt_bad (c := 10) (by decide) (by omega))
      · exact norts (by decide) (rt_bad (c := 9) (by decide) (by omega))
    have L3' : ∃ y, σ2 = [some v, some (.str (S (ratL r))), some (.ref p3), y, some (.str (S longL)), some (.str (S wholeL))] := by
      rcases h2 with rfl | ⟨x, rfl⟩
      · exact ⟨_, rfl⟩
      · exact ⟨_, rfl⟩
    obtain ⟨y2, rfl⟩ := L3'
    have sD := sC.trans sw
    have cm : (Str.ofString "-" : Str) = S [45] := rfl
    have c1s : (Str.ofString "1/" : Str) = S [49, 47] := rfl
    refine ⟨_, rfl, _, _, rfl, rfl, line1000 (by rw [ll]; decide), ?_⟩
    rw [cm, S_cat]
    refine ⟨_, _, .inr (rD (-(longV : Int), 1)), rfl, .str _, (fun a e => by cases e; rw [S_len]; decide), .inl ⟨_, _, rfl, nl_RT, rfl⟩, fun H8 z8 s17 hz8 => ?_⟩
    refine ⟨_, rfl, _, _, rfl, long_read, by rw [ll]; decide, _, rfl, (by show 2 ≤ sizeLine; decide), fun p9 np9 => ?_⟩
    have s18 : Same H8 (upd H8 p9 (.tup [.int (-(longV : Int)), .int 1])) := PB.same_new np9
    refine ⟨_, _, (-(longV : Int), 1), rfl, Dp_same s18 hz8, dp_mkr np9, true, rfl, itT rfl ?_⟩
    have sE := sD.trans (s17.trans s18)
    generalize upd H8 p9 (.tup [.int (-(longV : Int)), .int 1]) = H9 at sE
    clear hz8 s17 s18 np9
    refine ⟨_, rfl, _, _, rfl, rfl, line1000 (by rw [ll]; decide), ?_⟩
    rw [S_cat]
    have nrA : NoRT (.str (S (longL ++ [49]))) := norts (by decide) l1_no
    refine ⟨_, _, .inl "text", rfl, .str _, nrA.1, nrA.rdo, fun H10 z10 s19 hz10 => ⟨(by show 2 ≤ sizeLine; decide), fun p11 np11 => ?_⟩⟩
    have s20 := PB.same_new (o := .lst [.str "refused", .str "text"]) np11
    refine eq_same (shaped_ref "text" (by decide +kernel)) (Dp_same s20 hz10) (dp_ref np11) ⟨true, rfl, itT rfl ?_⟩
    have sF := sE.trans (s19.trans s20)
    refine ⟨_, rfl, _, _, rfl, rfl, line1000 (by rw [c1s, ll]; decide), ?_⟩
    rw [c1s, S_cat]
    refine ⟨_, _, rfl, rfl, line1000 (by rw [S_len]; decide), ?_⟩
    rw [S_cat]
    have nrB : NoRT (.str (S ([49, 47] ++ longL ++ [49]))) := norts (by decide) l2_no
    refine ⟨_, _, .inl "text", rfl, .str _, nrB.1, nrB.rdo, fun H12 z12 s21 hz12 => ⟨(by show 2 ≤ sizeLine; decide), fun p13 np13 => ?_⟩⟩
    have s22 := PB.same_new (o := .lst [.str "refused", .str "text"]) np13
    exact eq_same (shaped_ref "text" (by decide +kernel)) (Dp_same s22 hz12) (dp_ref np13) (q _ (sF.trans (s21.trans s22)))
end
end F3
set_option Elab.async false
set_option linter.all false
set_option maxRecDepth 100000
set_option maxHeartbeats 16000000
set_option exponentiation.threshold 3000
namespace F3
open PySem PySem.Spec PyProof.Rows L2 FX RM PB TM SX
theorem _root_.L2.Room.units65 {k : Nat} {A : Around} (r : Room k A) : A.units + 65 < cLine := by have := r.un; omega
theorem HandAt.updD {H1 H4 : Hp} {p D : Addr} {o : HO} (h1 : HandAt H1 p) (nD : H1 D = none) (s : SameBut p H1 H4) (h4 : HandAt H4 p) : HandAt (upd H4 D o) p := by
  obtain ⟨c, cs, i, r, t, a, b, q⟩ := h1
  obtain ⟨c', cs', i', r', t', a', b', q'⟩ := h4
  obtain ⟨l', e⟩ := s.2 c _ a
  have np : p ≠ D := ne_of_none a nD
  have nc : c ≠ D := ne_of_none b nD
  have ec : c' = c := by
    rw [e] at a'
    cases a'
    rfl
  subst ec
  exact ⟨c', cs', i', r', t', by rw [upd_ne np]; exact a', by rw [upd_ne nc]; exact b', q'⟩
theorem SameBut.updD {H1 H4 : Hp} {p D : Addr} {o : HO} (s : SameBut p H1 H4) (nD : H1 D = none) : SameBut p H1 (upd H4 D o) :=
  ⟨fun b x nb e => by rw [upd_ne (ne_of_none e nD)]; exact s.1 b x nb e, fun c l e => by
    obtain ⟨l', e'⟩ := s.2 c l e
    exact ⟨l', by rw [upd_ne (ne_of_none e nD)]; exact e'⟩⟩
theorem HandAt.neD {H1 : Hp} {p D : Addr} (h1 : HandAt H1 p) (nD : H1 D = none) : D ≠ p := by
  obtain ⟨c, cs, i, r, t, a, b, q⟩ := h1
  exact (ne_of_none a nD).symm
theorem HandAt.rats {H H' : Hp} {K : PySem.W.Frag} {p : Addr} {vs : List V} {rs : List Rt} (h : HandAt H p) (s : SameBut p H H') (k : DpAll K H vs (rs.map rD)) : DpAll K H' vs (rs.map rD) := by
  obtain ⟨c, cs, i, r, t, a, _⟩ := h
  refine DpAll_but a s.1 (noLs_all fun d hd => ?_) k
  obtain ⟨x, _, rfl⟩ := List.mem_map.mp hd
  exact noL_r x
theorem rats_snoc {H4 : Hp} {K : PySem.W.Frag} {D : Addr} {acc : List V} {rs : List Rt} {v : V} {r : Rt} (hD : H4 D = some (.lst acc)) (hA : DpAll K H4 acc (rs.map rD)) (hv : Dp K H4 v (rD r)) : DpAll K (upd H4 D (.lst (acc ++ [v]))) (acc ++ [v]) ((rs ++ [r]).map rD) := by
  rw [List.map_append]
  refine DpAll_but hD (fun b o n e => by rw [upd_ne n]; exact e) (noLs_all fun d hd => ?_) (DpAll_snoc hv hA)
  rcases List.mem_append.mp hd with hd | hd
  · obtain ⟨x, _, rfl⟩ := List.mem_map.mp hd
    exact noL_r x
  · obtain ⟨x, _, rfl⟩ := List.mem_map.mp hd
    exact noL_r x
theorem ix_listK {X : Cx} (K : PySem.W.Frag) (e : X.K = K := by rfl) : IxR X (rIxL K) := e ▸ ix_list
theorem call_len_seqK {X : Cx} (K : PySem.W.Frag) (e : X.K = K := by rfl) : CallR X (.builtin "len") (fun xs H Q => ∃ p ys, xs = [.ref p] ∧ (SqL K H p ys ∨ SqT K H p ys) ∧ Q (.int ys.length) H) := e ▸ call_len_seq
def spLaw (K : PySem.W.Frag) : Sp := fun vs H Q _ => ∃ (a : Addr) (ns : List Int), vs = [.ref a] ∧ SqL K H a (ns.map V.int) ∧ ns.length ≤ 63 ∧ ∀ H', Q (.bl true) H'
theorem szr_normG {n : Nat} {t b : Int} (hb : b ≠ 0) (h : Sz n t) (k : Sz n b) : SzR n (normG t b) := by
  unfold normG
  split
  · exact szr_norm (by omega) (sz_neg h) (sz_neg k)
  · exact szr_norm (by omega) h k
theorem six {α : Type} : ∀ {l : List α}, l.length = 6 → ∃ a b c d e f, l = [a, b, c, d, e, f]
  | [a, b, c, d, e, f], _ => ⟨a, b, c, d, e, f, rfl⟩
/-- what stands behind the making of the ratios -/
structure Mst (K : PySem.W.Frag) (p nb m : Addr) (n0 n5 : Int) (ns : List V) (rs : List Rt) (H : Hp) : Prop where
  h : HandAt H p
  nn : nb ≠ p
  nm : m ≠ p
  hn : H nb = some (.lst ns)
  e0 : ns[0]? = some (.int n0)
  e5 : ns[5]? = some (.int n5)
  z0 : Sz 151 n0
  z5 : Sz 151 n5
  hm : ∃ ms, H m = some (.lst ms) ∧ DpAll K H ms (rs.map rD)
  ne : rs ≠ []
  ok : ∀ r ∈ rs, IsRat r ∧ SzR 310 r
  le : rs.length ≤ 9
theorem Mst.same {K : PySem.W.Frag} {p nb m : Addr} {n0 n5 : Int} {ns : List V} {rs : List Rt} {H H' : Hp} (M : Mst K p nb m n0 n5 ns rs H) (s : Same H H') : Mst K p nb m n0 n5 ns rs H' := by
  obtain ⟨ms, h1, h2⟩ := M.hm
  exact ⟨M.h.same s, M.nn, M.nm, s _ _ M.hn, M.e0, M.e5, M.z0, M.z5, ⟨ms, s _ _ h1, DpAll_same s h2⟩, M.ne, M.ok, M.le⟩
theorem Mst.but {K : PySem.W.Frag} {p nb m : Addr} {n0 n5 : Int} {ns : List V} {rs : List Rt} {H H' : Hp} (M : Mst K p nb m n0 n5 ns rs H) (s : SameBut p H H') (h : HandAt H' p) : Mst K p nb m n0 n5 ns rs H' := by
  obtain ⟨ms, h1, h2⟩ := M.hm
  exact ⟨h, M.nn, M.nm, s.1 _ _ M.nn M.hn, M.e0, M.e5, M.z0, M.z5, ⟨ms, s.1 _ _ M.nm h1, M.h.rats s h2⟩, M.ne, M.ok, M.le⟩
theorem hTT : ∀ H H' : Hp, Same H H' → True → True := fun _ _ _ _ => trivial
theorem le_cn {K : PySem.W.Frag} {σ : L2.St} {B : Hp → Prop} {z : Addr} {x y : Int} (h : ∀ H, SqT K H z [.int x, .int y]) : LE K σ B (tC (.ref z)) (rD (x, y)) := fun H Q _ q => q H _ (fun _ _ e => e) (.tup (h H) (.cons (.int x) (.cons (.int y) .nil)))
theorem le_made {K : PySem.W.Frag} {σ : L2.St} {t1 t2 : TE} {d e : PyData} (h : LE K σ (fun _ => True) t1 d) (k : LE K σ (fun _ => True) t2 e) (zd : szD 2000 d) (ze : szD 2000 e) : LE K σ (fun _ => True) (tCall (spMadeL K) [] E0 (tCons t1 (tCons t2 tNil))) (outD (mkO d e)) := fun H Q _ q =>
  h H _ trivial fun H1 v s1 hv => k H1 _ trivial fun H2 u s2 hu => ⟨v, u, d, e, rfl, Dp_same s2 hv, hu, zd, ze, fun H3 z s3 hz => q H3 z ((s1.trans s2).trans s3) hz⟩
theorem s_ne {K : PySem.W.Frag} {σ : L2.St} {B : Hp → Prop} {ta tb : TE} {d : PyData} {H : Hp} {Q : Bool → Hp → Prop} (hB : ∀ H H', Same H H' → B H → B H') (h : LE K σ B ta d) (k : LE K σ B tb d) (sh : SeqAt.shaped d = true ∧ PyData.canLay0 d = true) (b : B H) (q : ∀ H', Same H H' → Q false H') :
    tTest (tOp (rNeD K) ta tb) σ H Q := h H _ b fun H1 x s1 hx => k H1 _ (hB _ _ s1 b) fun H2 y s2 hy => ne_same sh (Dp_same s2 hx) hy ⟨false, rfl, q H2 (s1.trans s2)⟩
theorem hDP {K : PySem.W.Frag} {z : V} {d : PyData} : ∀ H H' : Hp, Same H H' → Dp K H z d → Dp K H' z d := fun _ _ s h => Dp_same s h
theorem s_ifor {tA tB' : TT} {r e rest : TS} {D : Ends} {σ : L2.St} {H : Hp} (h : tA σ H fun c H1 => if c = true then (if true = true then r { D with nx := rest D } σ H1 else e { D with nx := rest D } σ H1) else tB' σ H1 fun b H2 => if b = true then r { D with nx := rest D } σ H2 else e { D with nx := rest D } σ H2) :
    tSeq (tIfS (tOr tA tB') r e) rest D σ H := h
theorem s_ifor1 {tA tB' : TT} {r e : TS} {D : Ends} {σ : L2.St} {H : Hp} (h : tA σ H fun c H1 => if c = true then (if true = true then r D σ H1 else e D σ H1) else tB' σ H1 fun b H2 => if b = true then r D σ H2 else e D σ H2) :
    tIfS (tOr tA tB') r e D σ H := h
theorem s_if1 {tA : TT} {r e rest : TS} {D : Ends} {σ : L2.St} {H : Hp} (h : tA σ H fun c H1 => if c = true then r { D with nx := rest D } σ H1 else e { D with nx := rest D } σ H1) : tSeq (tIfS tA r e) rest D σ H := h
theorem s_asg1 {te : TE} {i : Nat} {D : Ends} {σ : L2.St} {H : Hp} (h : te σ H fun x H1 => D.nx (σ.set i (some x)) H1) : tAsg te (gName i) D σ H := h
theorem LE.cast {K : PySem.W.Frag} {σ : L2.St} {B : Hp → Prop} {te : TE} {d d' : PyData} (e : d = d') (h : LE K σ B te d) : LE K σ B te d' := e ▸ h
theorem le_v1 {K : PySem.W.Frag} {σ : L2.St} {i : Nat} {v : V} {d : PyData} {C : Hp → Prop} (e : σ[i]? = some (some v)) : LE K σ (fun H' => Dp K H' v d ∧ C H') (tVar i) d := fun H Q b q => ⟨v, e, q H v (fun _ _ e => e) b.1⟩
theorem le_v2 {K : PySem.W.Frag} {σ : L2.St} {i : Nat} {v : V} {d : PyData} {C : Hp → Prop} (e : σ[i]? = some (some v)) : LE K σ (fun H' => C H' ∧ Dp K H' v d) (tVar i) d := fun H Q b q => ⟨v, e, q H v (fun _ _ e => e) b.2⟩
theorem le_iv {K : PySem.W.Frag} {σ : L2.St} {B : Hp → Prop} {i : Nat} {x : Int} (e : σ[i]? = some (some (.int x))) : LE K σ B (tVar i) (.int x) := fun H Q b q => ⟨_, e, q H _ (fun _ _ e => e) (.int x)⟩
theorem le_bin {K : PySem.W.Frag} {σ : L2.St} {B : Hp → Prop} {o : Rt → Rt → Rt} {t1 t2 : TE} {r s : Rt} (hB : ∀ H H', Same H H' → B H → B H') (h : LE K σ B t1 (rD r)) (k : LE K σ B t2 (rD s)) (ir : IsRat r) (is_ : IsRat s) (zr : SzR 2000 r) (zs : SzR 2000 s) :
    LE K σ B (tCall (spBin K o) [] E0 (tCons t1 (tCons t2 tNil))) (rD (o r s)) := fun H Q b q => h H _ b fun H1 v s1 hv => k H1 _ (hB _ _ s1 b) fun H2 u s2 hu => ⟨v, u, r, s, rfl, Dp_same s2 hv, hu, ir, is_, zr, zs, fun H3 z s3 hz => q H3 z ((s1.trans s2).trans s3) hz⟩
theorem le_neg1 {K : PySem.W.Frag} {σ : L2.St} {B : Hp → Prop} {t1 : TE} {r : Rt} (h : LE K σ B t1 (rD r)) : LE K σ B (tCall (spNeg K) [] E0 (tCons t1 tNil)) (rD (rneg r)) := fun H Q b q => h H _ b fun H1 v s1 hv => ⟨v, r, rfl, hv, fun H3 z s3 hz => q H3 z (s1.trans s3) hz⟩
theorem le_div {K : PySem.W.Frag} {σ : L2.St} {B : Hp → Prop} {t1 t2 : TE} {r s : Rt} (hB : ∀ H H', Same H H' → B H → B H') (h : LE K σ B t1 (rD r)) (k : LE K σ B t2 (rD s)) (ir : IsRat r) (is_ : IsRat s) (zr : SzR 2000 r) (zs : SzR 2000 s) :
    LE K σ B (tCall (spDivL K) [] E0 (tCons t1 (tCons t2 tNil))) (outD (ovO r s)) := fun H Q b q => h H _ b fun H1 v s1 hv => k H1 _ (hB _ _ s1 b) fun H2 u s2 hu => ⟨v, u, r, s, rfl, Dp_same s2 hv, hu, ir, is_, zr, zs, fun H3 z s3 hz => q H3 z ((s1.trans s2).trans s3) hz⟩
theorem le_cmp {K : PySem.W.Frag} {σ : L2.St} {B : Hp → Prop} {t1 t2 : TE} {r s : Rt} (hB : ∀ H H', Same H H' → B H → B H') (h : LE K σ B t1 (rD r)) (k : LE K σ B t2 (rD s)) (zr : SzR 2000 r) (zs : SzR 2000 s) :
    LE K σ B (tCall (spCmp K) [] E0 (tCons t1 (tCons t2 tNil))) (.int (cmpR r s)) := fun H Q b q => h H _ b fun H1 v s1 hv => k H1 _ (hB _ _ s1 b) fun H2 u s2 hu => ⟨v, u, r, s, rfl, Dp_same s2 hv, hu, zr, zs, q H2 _ (s1.trans s2) (.int _)⟩
theorem s_plain {K : PySem.W.Frag} {σ : L2.St} {B : Hp → Prop} {t1 t2 : TE} {r : Rt} {H : Hp} {Q : Bool → Hp → Prop} (hB : ∀ H H', Same H H' → B H → B H') (h : LE K σ B t1 (rD r)) (k : LE K σ B t2 (rD r)) (b : B H) (q : ∀ H', Same H H' → Q false H') :
    tNot (tB (tCall (spPlain K) [] E0 (tCons t1 (tCons t2 tNil)))) σ H Q := h H _ b fun H1 v s1 hv => k H1 _ (hB _ _ s1 b) fun H2 u s2 hu => ⟨v, u, r, rfl, Dp_same s2 hv, hu, true, rfl, q H2 (s1.trans s2)⟩
theorem shaped_i3 (x y z : Int) : SeqAt.shaped (.list [.int x, .int y, .int z]) = true ∧ PyData.canLay0 (.list [.int x, .int y, .int z]) = true := by
  have c : PyData.canLay0 (.list [.int x, .int y, .int z]) = true := by simp [PyData.canLay0, PyData.canLayAll0]
  exact ⟨by unfold SeqAt.shaped; rw [c]; simp [PyData.depth, PyData.depthAll], c⟩
theorem shaped_ov (a b : Rt) : SeqAt.shaped (outD (ovO a b)) = true ∧ PyData.canLay0 (outD (ovO a b)) = true := by
  unfold ovO
  split
  · exact shaped_ref "zero" (by decide +kernel)
  · exact shaped_r _
theorem le_sumL {K : PySem.W.Frag} {σ : L2.St} {B : Hp → Prop} {t1 : TE} {qs : List Rt} (h : LE K σ B t1 (.list (qs.map rD))) (l6 : qs.length ≤ 6) (ok : ∀ r ∈ qs, IsRat r ∧ SzR 310 r) : LE K σ B (tCall (spSumG K) [] E0 (tCons t1 tNil)) (rD (sumR qs)) := fun H Q b q => h H _ b fun H1 v s1 hv => by
  obtain ⟨p, xs, rfl, hS, hA⟩ := dp_lst hv
  exact ⟨p, xs, qs, rfl, ⟨.inl hS, hA⟩, l6, ok, fun H2 z s2 hz => q H2 z (s1.trans s2) hz⟩
theorem dp_tupl {K : PySem.W.Frag} {H : Hp} {v : V} {ds : List PyData} (h : Dp K H v (.tuple ds)) : ∃ p xs, v = .ref p ∧ SqT K H p xs ∧ DpAll K H xs ds := by
  cases h with
  | tup a b => exact ⟨_, _, rfl, a, b⟩
theorem le_sumT {K : PySem.W.Frag} {σ : L2.St} {B : Hp → Prop} {t1 : TE} {qs : List Rt} (h : LE K σ B t1 (.tuple (qs.map rD))) (l6 : qs.length ≤ 6) (ok : ∀ r ∈ qs, IsRat r ∧ SzR 310 r) : LE K σ B (tCall (spSumG K) [] E0 (tCons t1 tNil)) (rD (sumR qs)) := fun H Q b q => h H _ b fun H1 v s1 hv => by
  obtain ⟨p, xs, rfl, hS, hA⟩ := dp_tupl hv
  exact ⟨p, xs, qs, rfl, ⟨.inr hS, hA⟩, l6, ok, fun H2 z s2 hz => q H2 z (s1.trans s2) hz⟩
theorem le_tupof {K : PySem.W.Frag} {σ : L2.St} {B : Hp → Prop} {t1 : TE} {ds : List PyData} (h : LE K σ B t1 (.list ds)) : LE K σ B (tCB (fun xs H Q => ∃ p ys, xs = [.ref p] ∧ ((SqL K H p ys ∧ ∀ l, H l = none → Q (.ref l) (upd H l (.tup ys))) ∨ (SqT K H p ys ∧ Q (.ref p) H))) (tCons t1 tNil)) (.tuple ds) := fun H Q b q => h H _ b fun H1 v s1 hv => by
  obtain ⟨p, xs, rfl, hS, hA⟩ := dp_lst hv
  exact ⟨p, xs, rfl, .inl ⟨hS, fun l nl => q _ _ (s1.trans (PB.same_new nl)) (.tup (.inl (.inl upd_same)) (DpAll_same (PB.same_new nl) hA))⟩⟩
theorem szn {d : PyData} {n : Nat} (h : ∀ i, d ≠ .int i := by intro i e; cases e) : szD n d := fun i e => absurd e (h i)
theorem szi0 : szD 2000 (.int 0) := fun i e => by cases e; show (0 : Int).natAbs < 2 ^ 2000; exact Nat.pow_pos (by decide)
theorem szi1 : szD 2000 (.int 1) := fun i e => by cases e; exact sz1
theorem cmpR_swap (a b : Rt) : cmpR b a = -cmpR a b := by
  unfold cmpR sgnC
  split <;> split <;> (try split) <;> (try split) <;> omega
theorem cmpR_self (a : Rt) : cmpR a a = 0 := by
  unfold cmpR sgnC
  rw [Int.sub_self]; rfl
theorem shaped_rs (rs : List Rt) : SeqAt.shaped (.list (rs.map rD)) = true ∧ PyData.canLay0 (.list (rs.map rD)) = true := by
  have c : PyData.canLayAll0 (rs.map rD) = true := by
    induction rs with
    | nil => rfl
    | cons r rs ih => simp [PyData.canLayAll0, (shaped_r r).2, ih]
  have c2 : PyData.canLay0 (.list (rs.map rD)) = true := by simp [PyData.canLay0, c]
  have dd : PyData.depthAll (rs.map rD) ≤ 2 := by
    induction rs with
    | nil => simp [PyData.depthAll]
    | cons r rs ih =>
      have c' : PyData.canLayAll0 (rs.map rD) = true := by
        have := c
        simp [PyData.canLayAll0] at this
        exact this.2
      have := ih c' (by simp [PyData.canLay0, c'])
      simp [PyData.depthAll, rD, PyData.depth]
      omega
  exact ⟨by unfold SeqAt.shaped; rw [c2]; simp [PyData.depth]; omega, c2⟩
theorem any_in {rs : List Rt} {r : Rt} (h : r ∈ rs) : ((rs.map rD).any fun z => PyData.eqv z (rD r)) = true := List.any_eq_true.mpr ⟨rD r, List.mem_map.mpr ⟨r, h, rfl⟩, SeqAt.eqv_refl _ (shaped_r r).2⟩
theorem Mst.updD {K : PySem.W.Frag} {p nb m D2 : Addr} {n0 n5 : Int} {ns acc acc' : List V} {rs : List Rt} {H1 H4 : Hp} (M1 : Mst K p nb m n0 n5 ns rs H1) (nD : H1 D2 = none) (s : SameBut p H1 H4) (M4 : Mst K p nb m n0 n5 ns rs H4) (hD : H4 D2 = some (.lst acc)) : Mst K p nb m n0 n5 ns rs (upd H4 D2 (.lst acc')) := by
  obtain ⟨ms, h1, h2⟩ := M4.hm
  obtain ⟨ms1, h11, _⟩ := M1.hm
  refine ⟨M1.h.updD nD s M4.h, M4.nn, M4.nm, ?_, M4.e0, M4.e5, M4.z0, M4.z5, ⟨ms, ?_, ?_⟩, M4.ne, M4.ok, M4.le⟩
  · rw [upd_ne (ne_of_none M1.hn nD)]; exact M4.hn
  · rw [upd_ne (ne_of_none h11 nD)]; exact h1
  · refine DpAll_but hD (fun b o n e => by rw [upd_ne n]; exact e) (noLs_all fun d hd => ?_) h2
    obtain ⟨x, _, rfl⟩ := List.mem_map.mp hd
    exact noL_r x
section
variable {P : Program} {w : World} {K : PySem.W.Frag} {mg : Str → Option Value} {base : Heap}
abbrev slaw : Stmt := topS 45
theorem sclaw : FnScope ["_law_script", "_law_hand_here", "_law_numbers", "_law_tops", "_law_bottoms", "_law_made", "_law_top", "_law_bottom", "_law_told", "_law_refused", "_law_one", "_law_other", "_law_due", "_law_sign", "_law_row", "_law_kept", "_law_total", "_law_each", "_law_least", "_law_greatest", "_law_turn"] ["_law_script"] (defScope slaw) := ⟨rfl, rfl, rfl, by decide +kernel, rfl, by decide +kernel, by decide +kernel⟩
def spMake1 (K : PySem.W.Frag) : Sp := fun vs H Q _ => ∃ t : Int, vs = [.int t, .int 1] ∧ Sz 2000 t ∧ ∀ H' z, Same H H' → Dp K H' z (rD (t, 1)) → Q z H'
theorem ok_law {f : Addr} {fd : FuncData} (F : Fun K "law" "law" slaw f fd) (G_law_hand : DefOk P w K mg base CX0 "_law_hand" 1 ["_law_script"] (spHand K)) (G_law_take : DefOk P w K mg base CX0 "_law_take" 2 ["_law_hand_here", "_law_many"] spTake) (G_law_number : DefOk P w K mg base CX0 "_law_number" 3 ["_law_hand_here"] (spNum 151)) (G_law_made_ratio : DefOk P w K mg base CX0 "_law_made_ratio" 4 ["_law_top", "_law_bottom"] (spMadeL K)) (G_law_plain : DefOk P w K mg base CX0 "_law_plain" 1 ["_law_told", "_law_due"] (spPlain K)) (G_law_ratio : DefOk P w K mg base CX0 "_law_ratio" 2 ["_law_top", "_law_bottom"] (spLowG K)) (Gmk1 : DefDf P w K mg base "make_ratio" 3 ["top", "bottom"] [.int 1] (spMake1 K)) (Gplus : DefOk P w K mg base CX0 "plus" 2 ["one", "other"] (spBin K radd)) (Gminus : DefOk P w K mg base CX0 "minus" 3 ["one", "other"] (spBin K rsub)) (Gtimes : DefOk P w K mg base CX0 "times" 2 ["one", "other"] (spBin K rmul)) (Gnegative : DefOk P w K mg base CX0 "negative" 1 ["one"] (spNeg K)) (G_law_plus : DefOk P w K mg base CX0 "_law_plus" 3 ["_law_one", "_law_other"] (spBin K radd)) (G_law_less : DefOk P w K mg base CX0 "_law_less" 3 ["_law_one", "_law_other"] (spBin K rsub)) (G_law_times : DefOk P w K mg base CX0 "_law_times" 3 ["_law_one", "_law_other"] (spBin K rmul)) (G_law_divided : DefOk P w K mg base CX0 "_law_divided" 4 ["_law_one", "_law_other"] (spDivL K)) (G_law_compare : DefOk P w K mg base CX0 "_law_compare" 1 ["_law_one", "_law_other"] (spCmp K)) (Gcompare : DefOk P w K mg base CX0 "compare" 2 ["one", "other"] (spCmp K)) (Gsum_of : DefOk P w K mg base CX0 "sum_of" 3 ["row"] (spSumG K)) (Gleast_of : DefOk P w K mg base CX0 "least_of" 3 ["row"] (spExt K leR)) (Ggreatest_of : DefOk P w K mg base CX0 "greatest_of" 3 ["row"] (spExt K (fun r t => leR t r))) (G_law_kinds : DefOk P w K mg base CX0 "_law_kinds" 3 ["_law_one", "_law_number_here"] (spKinds K)) (G_law_texts : DefOk P w K mg base CX0 "_law_texts" 6 ["_law_one"] (spTexts K)) {zA zB zC : Addr} (gZ : mg "ZERO" = some (.ref zA)) (hZ : ∀ H, SqT K H zA [.int 0, .int 1]) (gO : mg "ONE" = some (.ref zB)) (hO : ∀ H, SqT K H zB [.int 1, .int 1]) (gHf : mg "HALF" = some (.ref zC)) (hHf : ∀ H, SqT K H zC [.int 1, .int 2]) (mlen : mg "len" = none) (mrange : mg "range" = none) (mlist : mg "list" = none) (mtuple : mg "tuple" = none) (misinstance : mg "isinstance" = none) (mbool : mg "bool" = none) : FnOk P w K mg base CX0 8 f fd ["_law_script"] (spLaw K) := by
  refine F.ok sclaw (fun vs H Q E h => ?_) (fun cdv A outer s H vs Q E hr h => ?_)
  · obtain ⟨a, ns, rfl, _⟩ := h; rfl
  · obtain ⟨sa, ns, rfl, hS, hlen, q⟩ := h
    refine ⟨_, (pss_cons (ps_set (i := 1) sclaw.nd rfl (.inr rfl) (pe_def G_law_hand (hr.mono (by decide)) (by rfl) (pa_cons (pv 0) pa_nil))) (pss_cons (ps_setLc (i := 2) (own := [("_law_turn", 20)]) (g := gName 20) (tt := tYes) rfl sclaw.nd rfl rfl (sw_true rfl rfl rfl (by decide +kernel)) (pi_range1 (by rfl) mrange (pa_cons pe_int pa_nil)) (blkOk_by (N := ["_law_script", "_law_hand_here", "_law_numbers", "_law_tops", "_law_bottoms", "_law_made", "_law_top", "_law_bottom", "_law_told", "_law_refused", "_law_one", "_law_other", "_law_due", "_law_sign", "_law_row", "_law_kept", "_law_total", "_law_each", "_law_least", "_law_greatest", "_law_turn"]) (sc := defScope slaw) (by decide +kernel)) (fun _ _ _ _ _ => pg_name (i := 20) sclaw.nd rfl (.inl rfl)) (fun _ _ _ _ _ => pts_nil) (fun _ _ _ _ _ => (pe_def G_law_number (hr.mono (by decide)) (by rfl) (pa_cons (pv 1) pa_nil)))) (pss_cons (ps_set (i := 3) sclaw.nd rfl (.inl rfl) (pe_lst (pa_cons (pe_ix ix_list (pv 2) pe_int (fun _ _ => rfl)) (pa_cons (pe_op op_mulW (pe_ix ix_list (pv 2) pe_int (fun _ _ => rfl)) (pe_ix ix_list (pv 2) pe_int (fun _ _ => rfl))) (pa_cons (pe_ix ix_list (pv 2) pe_int (fun _ _ => rfl)) pa_nil))))) (C8.pss_cut (ps_set (i := 4) sclaw.nd rfl (.inl rfl) (pe_lst (pa_cons (pe_ifExp (pt_cmpR op_ne (pe_ix ix_list (pv 2) pe_int (fun _ _ => rfl)) pe_int (nomark _)) (pe_ix ix_list (pv 2) pe_int (fun _ _ => rfl)) pe_int) (pa_cons (pe_ix ix_list (pv 2) pe_int (fun _ _ => rfl)) (pa_cons (pe_op op_mulW (pe_ix ix_list (pv 2) pe_int (fun _ _ => rfl)) (pe_ix ix_list (pv 2) pe_int (fun _ _ => rfl))) pa_nil))))) (pss_cons (ps_set (i := 5) sclaw.nd rfl (.inr rfl) (pe_lst pa_nil)) (C8.pss_cut (ps_for PassesOwn.never rfl (pi_list (pv 3)) (pg_name (i := 6) sclaw.nd rfl (.inl rfl)) (pss_one (ps_for PassesOwn.never rfl (pi_list (pv 4)) (pg_name (i := 7) sclaw.nd rfl (.inl rfl)) (pss_cons (ps_set (i := 8) sclaw.nd rfl (.inl rfl) (pe_def G_law_made_ratio (hr.mono (by decide)) (by rfl) (pa_cons (pv 6) (pa_cons (pv 7) pa_nil)))) (pss_one (ps_if (pt_cmpR op_eq (pv 7) pe_int (nomark _)) (pss_one (ps_if (pt_cmpR (op_neD hr.units) (pv 8) (pe_lst (pa_cons pe_str (pa_cons pe_str pa_nil))) (nomark _)) (pss_one (ps_ret pe_bl)) pss_nil)) (pss_one (ps_if (pt_not (pt_val (pe_def G_law_plain (hr.mono (by decide)) (by rfl) (pa_cons (pv 8) (pa_cons (pe_def G_law_ratio (hr.mono (by decide)) (by rfl) (pa_cons (pv 6) (pa_cons (pv 7) pa_nil))) pa_nil))))) (pss_one (ps_ret pe_bl)) (pss_one (ps_expr (pe_bm PySem.F.plainAttrs_list PySem.F.slot_list_append PySem.F.type_list_append mt_append (pv 5) (pa_cons (pv 8) pa_nil)))))))))))) (pss_cons (ps_if (PW.pt (pw_or (pt_cmpR (op_neD hr.units) (pe_defd Gmk1 (hr.mono (by decide)) (by rfl) (pa_cons (pe_ix ix_list (pv 2) pe_int (fun _ _ => rfl)) pa_nil)) (pe_tup (pa_cons (pe_ix ix_list (pv 2) pe_int (fun _ _ => rfl)) (pa_cons pe_int pa_nil))) (nomark _)) (pw_or1 (pt_cmpR (op_neD hr.units) (pe_tup (pa_cons (pe_glob (v := .ref zA) (by rfl) gZ rfl) (pa_cons (pe_glob (v := .ref zB) (by rfl) gO rfl) (pa_cons (pe_glob (v := .ref zC) (by rfl) gHf rfl) pa_nil)))) (pe_tup (pa_cons (pe_tup (pa_cons pe_int (pa_cons pe_int pa_nil))) (pa_cons (pe_tup (pa_cons pe_int (pa_cons pe_int pa_nil))) (pa_cons (pe_tup (pa_cons pe_int (pa_cons pe_int pa_nil))) pa_nil)))) (nomark _))))) (pss_one (ps_ret pe_bl)) pss_nil) (pss_cons (ps_set (i := 9) sclaw.nd rfl (.inl rfl) (pe_lst (pa_cons (pe_def G_law_made_ratio (hr.mono (by decide)) (by rfl) (pa_cons pe_str (pa_cons pe_int pa_nil))) (pa_cons (pe_def G_law_made_ratio (hr.mono (by decide)) (by rfl) (pa_cons pe_bl (pa_cons pe_int pa_nil))) (pa_cons (pe_def G_law_made_ratio (hr.mono (by decide)) (by rfl) (pa_cons pe_int (pa_cons pe_non pa_nil))) (pa_cons (pe_def G_law_made_ratio (hr.mono (by decide)) (by rfl) (pa_cons pe_int (pa_cons pe_bl pa_nil))) pa_nil)))))) (pss_cons (ps_if (pt_cmpR (op_neD hr.units) (pv 9) (pe_lst (pa_cons (pe_lst (pa_cons pe_str (pa_cons pe_str pa_nil))) (pa_cons (pe_lst (pa_cons pe_str (pa_cons pe_str pa_nil))) (pa_cons (pe_lst (pa_cons pe_str (pa_cons pe_str pa_nil))) (pa_cons (pe_lst (pa_cons pe_str (pa_cons pe_str pa_nil))) pa_nil))))) (nomark _)) (pss_one (ps_ret pe_bl)) pss_nil) (C8.pss_cut (ps_par (i := 10) (j := 11) rfl sclaw.nd rfl rfl (by decide) rfl rfl (pa_cons (pe_ix ix_list (pv 5) (pe_def G_law_take (hr.mono (by decide)) (by rfl) (pa_cons (pv 1) (pa_cons (pe_callB call_len_seq (by rfl) mlen PySem.boot_len (pa_cons (pv 5) pa_nil)) pa_nil))) (fun _ _ => rfl)) (pa_cons (pe_ix ix_list (pv 5) (pe_def G_law_take (hr.mono (by decide)) (by rfl) (pa_cons (pv 1) (pa_cons (pe_callB call_len_seq (by rfl) mlen PySem.boot_len (pa_cons (pv 5) pa_nil)) pa_nil))) (fun _ _ => rfl)) pa_nil)) rfl) (pss_cons (ps_if (PW.pt (pw_or (pt_not (pt_val (pe_def G_law_plain (hr.mono (by decide)) (by rfl) (pa_cons (pe_def Gplus (hr.mono (by decide)) (by rfl) (pa_cons (pv 10) (pa_cons (pv 11) pa_nil))) (pa_cons (pe_def G_law_plus (hr.mono (by decide)) (by rfl) (pa_cons (pv 10) (pa_cons (pv 11) pa_nil))) pa_nil))))) (pw_or1 (pt_not (pt_val (pe_def G_law_plain (hr.mono (by decide)) (by rfl) (pa_cons (pe_def Gminus (hr.mono (by decide)) (by rfl) (pa_cons (pv 10) (pa_cons (pv 11) pa_nil))) (pa_cons (pe_def G_law_less (hr.mono (by decide)) (by rfl) (pa_cons (pv 10) (pa_cons (pv 11) pa_nil))) pa_nil)))))))) (pss_one (ps_ret pe_bl)) pss_nil) (pss_cons (ps_if (PW.pt (pw_or (pt_not (pt_val (pe_def G_law_plain (hr.mono (by decide)) (by rfl) (pa_cons (pe_def Gtimes (hr.mono (by decide)) (by rfl) (pa_cons (pv 10) (pa_cons (pv 11) pa_nil))) (pa_cons (pe_def G_law_times (hr.mono (by decide)) (by rfl) (pa_cons (pv 10) (pa_cons (pv 11) pa_nil))) pa_nil))))) (pw_or1 (pt_not (pt_val (pe_def G_law_plain (hr.mono (by decide)) (by rfl) (pa_cons (pe_def Gnegative (hr.mono (by decide)) (by rfl) (pa_cons (pv 10) pa_nil)) (pa_cons (pe_tup (pa_cons (pe_un un_neg (pe_ix ix_it (pv 10) pe_int (fun _ _ => rfl))) (pa_cons (pe_ix ix_it (pv 10) pe_int (fun _ _ => rfl)) pa_nil))) pa_nil)))))))) (pss_one (ps_ret pe_bl)) pss_nil) (C8.pss_cut (ps_set (i := 12) sclaw.nd rfl (.inl rfl) (pe_ifExp (pt_cmpR op_eq (pe_ix ix_it (pv 11) pe_int (fun _ _ => rfl)) pe_int (nomark _)) (pe_lst (pa_cons pe_str (pa_cons pe_str pa_nil))) (pe_def G_law_ratio (hr.mono (by decide)) (by rfl) (pa_cons (pe_op op_mulW (pe_ix ix_it (pv 10) pe_int (fun _ _ => rfl)) (pe_ix ix_it (pv 11) pe_int (fun _ _ => rfl))) (pa_cons (pe_op op_mulW (pe_ix ix_it (pv 10) pe_int (fun _ _ => rfl)) (pe_ix ix_it (pv 11) pe_int (fun _ _ => rfl))) pa_nil))))) (pss_cons (ps_if (pt_cmpR (op_neD hr.units) (pe_def G_law_divided (hr.mono (by decide)) (by rfl) (pa_cons (pv 10) (pa_cons (pv 11) pa_nil))) (pv 12) (nomark _)) (pss_one (ps_ret pe_bl)) pss_nil) (pss_cons (ps_set (i := 13) sclaw.nd rfl (.inl rfl) (pe_def G_law_compare (hr.mono (by decide)) (by rfl) (pa_cons (pv 10) (pa_cons (pv 11) pa_nil)))) (C8.pss_cut (ps_if (PW.pt (pw_or (pt_cmpR (op_neD hr.units) (pe_lst (pa_cons (pe_def Gcompare (hr.mono (by decide)) (by rfl) (pa_cons (pv 10) (pa_cons (pv 11) pa_nil))) (pa_cons (pe_def Gcompare (hr.mono (by decide)) (by rfl) (pa_cons (pv 11) (pa_cons (pv 10) pa_nil))) (pa_cons (pe_def Gcompare (hr.mono (by decide)) (by rfl) (pa_cons (pv 10) (pa_cons (pv 10) pa_nil))) pa_nil)))) (pe_lst (pa_cons (pv 13) (pa_cons (pe_un un_neg (pv 13)) (pa_cons pe_int pa_nil)))) (nomark _)) (pw_or1 (pt_val (pe_callB call_isi (by rfl) misinstance boot_isinstance (pa_cons (pe_def Gcompare (hr.mono (by decide)) (by rfl) (pa_cons (pv 10) (pa_cons (pv 10) pa_nil))) (pa_cons (pe_bltn (v := .ty "bool") (by rfl) mbool (by decide +kernel) rfl) pa_nil))))))) (pss_one (ps_ret pe_bl)) pss_nil) (pss_cons (ps_setLc (i := 14) (own := [("_law_turn", 20)]) (g := gName 20) (tt := tYes) rfl sclaw.nd rfl rfl (sw_true rfl rfl rfl (by decide +kernel)) (pi_range1 (by rfl) mrange (pa_cons (pe_def G_law_take (hr.mono (by decide)) (by rfl) (pa_cons (pv 1) (pa_cons pe_int pa_nil))) pa_nil)) (blkOk_by (N := ["_law_script", "_law_hand_here", "_law_numbers", "_law_tops", "_law_bottoms", "_law_made", "_law_top", "_law_bottom", "_law_told", "_law_refused", "_law_one", "_law_other", "_law_due", "_law_sign", "_law_row", "_law_kept", "_law_total", "_law_each", "_law_least", "_law_greatest", "_law_turn"]) (sc := defScope slaw) (by decide +kernel)) (fun _ _ _ _ _ => pg_name (i := 20) sclaw.nd rfl (.inl rfl)) (fun _ _ _ _ _ => pts_nil) (fun _ _ _ _ _ => (pe_ix (ix_listK K) (pv 5) (pe_def G_law_take (hr.mono (by decide)) (by rfl) (pa_cons (pv 1) (pa_cons (pe_callB (call_len_seqK K) (by rfl) mlen PySem.boot_len (pa_cons (pv 5) pa_nil)) pa_nil))) (fun _ _ => rfl)))) (pss_cons (ps_set (i := 15) sclaw.nd rfl (.inl rfl) (pe_callTy call_list_of (by rfl) mlist (by decide +kernel) (pa_cons (pv 14) pa_nil))) (pss_cons (ps_set (i := 16) sclaw.nd rfl (.inl rfl) (pe_tup (pa_cons pe_int (pa_cons pe_int pa_nil)))) (pss_cons (ps_for PassesOwn.never rfl (pi_list (pv 14)) (pg_name (i := 17) sclaw.nd rfl (.inl rfl)) (pss_one (ps_set (i := 16) sclaw.nd rfl (.inl rfl) (pe_def G_law_plus (hr.mono (by decide)) (by rfl) (pa_cons (pv 16) (pa_cons (pv 17) pa_nil)))))) (C8.pss_cut (ps_if (PW.pt (pw_or (pt_not (pt_val (pe_def G_law_plain (hr.mono (by decide)) (by rfl) (pa_cons (pe_def Gsum_of (hr.mono (by decide)) (by rfl) (pa_cons (pv 14) pa_nil)) (pa_cons (pv 16) pa_nil))))) (pw_or1 (pt_cmpR (op_neD hr.units) (pe_def Gsum_of (hr.mono (by decide)) (by rfl) (pa_cons (pe_callTy call_tuple_of (by rfl) mtuple (by decide +kernel) (pa_cons (pv 14) pa_nil)) pa_nil)) (pv 16) (nomark _))))) (pss_one (ps_ret pe_bl)) pss_nil) (pss_cons (ps_expr (pe_bm PySem.F.plainAttrs_list PySem.F.slot_list_append PySem.F.type_list_append mt_append (pv 14) (pa_cons (pv 10) pa_nil))) (pss_cons (ps_par (i := 18) (j := 19) rfl sclaw.nd rfl rfl (by decide) rfl rfl (pa_cons (pe_def Gleast_of (hr.mono (by decide)) (by rfl) (pa_cons (pv 14) pa_nil)) (pa_cons (pe_def Ggreatest_of (hr.mono (by decide)) (by rfl) (pa_cons (pe_callTy call_tuple_of (by rfl) mtuple (by decide +kernel) (pa_cons (pv 14) pa_nil)) pa_nil)) pa_nil)) rfl) (C8.pss_cut (ps_if (PW.pt (pw_or (pt_cmpR (op_notInD hr.units65) (pv 18) (pv 14) (by with_unfolding_all rfl)) (pw_or (pt_cmpR (op_notInD hr.units65) (pv 19) (pv 14) (by with_unfolding_all rfl)) (pw_or1 (pt_cmpR (op_neD hr.units) (pv 14) (pe_op op_cat (pv 15) (pe_lst (pa_cons (pv 10) pa_nil))) (nomark _)))))) (pss_one (ps_ret pe_bl)) pss_nil) (pss_cons (ps_for PassesOwn.never rfl (pi_list (pv 14)) (pg_name (i := 17) sclaw.nd rfl (.inl rfl)) (pss_one (ps_if (PW.pt (pw_or (pt_cmpR op_lt (pe_def G_law_compare (hr.mono (by decide)) (by rfl) (pa_cons (pv 17) (pa_cons (pv 18) pa_nil))) pe_int (nomark _)) (pw_or1 (pt_cmpR op_gt (pe_def G_law_compare (hr.mono (by decide)) (by rfl) (pa_cons (pv 17) (pa_cons (pv 19) pa_nil))) pe_int (nomark _))))) (pss_one (ps_ret pe_bl)) pss_nil))) (pss_one (ps_ret (pe_and (pe_def G_law_kinds (hr.mono (by decide)) (by rfl) (pa_cons (pv 10) (pa_cons (pe_ix ix_list (pv 2) pe_int (fun _ _ => rfl)) pa_nil))) (pe_and (pe_def G_law_texts (hr.mono (by decide)) (by rfl) (pa_cons (pv 10) pa_nil)) (pe_one (pe_def G_law_texts (hr.mono (by decide)) (by rfl) (pa_cons (pe_tup (pa_cons (pe_ix ix_list (pv 2) pe_int (fun _ _ => rfl)) (pa_cons pe_int pa_nil))) pa_nil)))))))))))))))))))))))))))))))), ?_⟩
    refine ⟨.ref sa, rfl, sa, ns, rfl, hS, hlen, fun H1 p s1 np h1 => ?_⟩
    refine ⟨6, rfl, by decide, by decide, fun D nD => lc_range (n := 6) (fun i H' => HandAt H' p ∧ SameBut p H1 H' ∧ ∃ xs : List Int, H' D = some (.lst (xs.map V.int)) ∧ xs.length = i ∧ ∀ x ∈ xs, Sz 151 x)
      ⟨h1.same (PB.same_new nD), Same.but (PB.same_new nD), [], upd_same, rfl, fun _ h => nomatch h⟩ ?_ ?_⟩
    · rintro i H' hi ⟨h2, s2, xs, hD, hl, ok⟩
      have ne := h1.neD nD
      refine ⟨rfl, .ref p, rfl, p, rfl, h2, fun x H4 zx h4 s4 => ⟨_, s4.1 _ _ ne hD, small1000 (by rw [List.length_map]; omega), ?_⟩⟩
      refine ⟨h1.updD nD (s2.trans s4) h4, (s2.trans s4).updD nD, xs ++ [x], by rw [upd_same]; simp, by simp [hl], fun y hy => ?_⟩
      rcases List.mem_append.mp hy with hy | hy
      · exact ok y hy
      · rw [List.mem_singleton.mp hy]; exact zx
    rintro H2 ⟨h2, s2, xs, hD, hl, ok⟩
    have ne := h1.neD nD
    obtain ⟨n0, n1, n2, n3, n4, n5, rfl⟩ := six hl
    have z0 := ok n0 (by simp)
    have z1 := ok n1 (by simp)
    have z2 := ok n2 (by simp)
    have z3 := ok n3 (by simp)
    have z4 := ok n4 (by simp)
    have z5 := ok n5 (by simp)
    have z02 : Sz 302 (n0 * n2) := sz_mul z0 z2
    have z14 : Sz 302 (n1 * n4) := sz_mul z1 z4
    have hD' : H2 D = some (.lst [.int n0, .int n1, .int n2, .int n3, .int n4, .int n5]) := hD
    clear hD ok hl s2
    refine ⟨.ref D, rfl, D, _, 0, _, rfl, rfl, .of hD', rfl, .ref D, rfl, D, _, 0, _, rfl, rfl, .of hD', rfl, .ref D, rfl, D, _, 2, _, rfl, rfl, .of hD', rfl, _, _, rfl, rfl, wide_mul z0 z2 (by decide) (by decide) (by decide), .ref D, rfl, D, _, 1, _, rfl, rfl, .of hD', rfl, (by show 3 ≤ sizeLine; decide), fun tA ntA => ?_⟩
    have sA := PB.same_new (o := .lst [.int n0, .int (n0 * n2), .int n1]) ntA
    have hA : (upd H2 tA (.lst [.int n0, .int (n0 * n2), .int n1])) tA = some (.lst [.int n0, .int (n0 * n2), .int n1]) := upd_same
    have hDA := sA _ _ hD'
    have h3 := h2.same sA
    generalize upd H2 tA (.lst [.int n0, .int (n0 * n2), .int n1]) = H3 at sA hA hDA h3
    refine ⟨fun σ' H' => ∃ tB b0, b0 ≠ 0 ∧ Sz 151 b0 ∧ σ' = [some (.ref sa), some (.ref p), some (.ref D), some (.ref tA), some (.ref tB), none, none, none, none, none, none, none, none, none, none, none, none, none, none, none, none] ∧ Same H3 H' ∧ H' tB = some (.lst [.int b0, .int n3, .int (n1 * n4)]), ?_, ?_⟩
    · refine ⟨.ref D, rfl, D, _, 2, _, rfl, rfl, .of hDA, rfl, rfl, _, rfl, ?_⟩
      by_cases c : n2 = 0
      · refine itF (by rw [c]; rfl) ?_
        refine ⟨.ref D, rfl, D, _, 3, _, rfl, rfl, .of hDA, rfl, .ref D, rfl, D, _, 1, _, rfl, rfl, .of hDA, rfl, .ref D, rfl, D, _, 4, _, rfl, rfl, .of hDA, rfl, _, _, rfl, rfl, wide_mul z1 z4 (by decide) (by decide) (by decide), (by show 3 ≤ sizeLine; decide), fun tB ntB => ?_⟩
        exact ⟨tB, 1, by decide, by show (1 : Int).natAbs < 2 ^ 151; decide, rfl, PB.same_new ntB, upd_same⟩
      · refine itT (by rw [decide_eq_false fun z => c (V.int.inj z)]; rfl) ?_
        refine ⟨.ref D, rfl, D, _, 2, _, rfl, rfl, .of hDA, rfl, .ref D, rfl, D, _, 3, _, rfl, rfl, .of hDA, rfl, .ref D, rfl, D, _, 1, _, rfl, rfl, .of hDA, rfl, .ref D, rfl, D, _, 4, _, rfl, rfl, .of hDA, rfl, _, _, rfl, rfl, wide_mul z1 z4 (by decide) (by decide) (by decide), (by show 3 ≤ sizeLine; decide), fun tB ntB => ?_⟩
        exact ⟨tB, n2, c, z2, rfl, PB.same_new ntB, upd_same⟩
    rintro σ' H4 ⟨tB, b0, b0n, zb0, rfl, s34, hB⟩
    have hA4 := s34 _ _ hA
    have hD4 := s34 _ _ hDA
    have h4 := h3.same s34
    clear hA hDA h3 s34 sA
    refine ⟨Nat.zero_le _, fun m nm => ?_⟩
    have s45 := PB.same_new (o := .lst []) nm
    have hm0 : (upd H4 m (.lst [])) m = some (.lst []) := upd_same
    have h5 := h4.same s45
    have mp : m ≠ p := h4.neD nm
    have mA : tA ≠ m := ne_of_none hA4 nm
    have mB : tB ≠ m := ne_of_none hB nm
    have mD : D ≠ m := ne_of_none hD4 nm
    have hA5 := s45 _ _ hA4
    have hB5 := s45 _ _ hB
    have hD5 := s45 _ _ hD4
    obtain ⟨hc, hcs, hi_, hr_, ht_, hp1, hp2, hp3⟩ := h5
    have h5 : HandAt (upd H4 m (.lst [])) p := ⟨hc, hcs, hi_, hr_, ht_, hp1, hp2, hp3⟩
    have mc : hc ≠ m := by
      obtain ⟨c', cs', i', r', t', a', b', _⟩ := h4
      have e1 := s45 _ _ a'
      rw [hp1] at e1
      cases e1
      exact ne_of_none b' nm
    generalize upd H4 m (.lst []) = H5 at s45 hm0 h5 hA5 hB5 hD5 hp1 hp2
    refine ⟨fun σ' H' => ∃ v6 v7 v8 rs, σ' = [some (.ref sa), some (.ref p), some (.ref D), some (.ref tA), some (.ref tB), some (.ref m), v6, v7, v8, none, none, none, none, none, none, none, none, none, none, none, none] ∧ Mst K p D m n0 n5 [.int n0, .int n1, .int n2, .int n3, .int n4, .int n5] rs H', ?_, ?_⟩
    · have keepH : ∀ H' : Hp, (∀ b o, b ≠ m → H5 b = some o → H' b = some o) → HandAt H' p := fun H' k => ⟨hc, hcs, hi_, hr_, ht_, k _ _ mp.symm hp1, k _ _ mc hp2, hp3⟩
      refine ⟨_, rfl, tA, rfl, ⟨_, .of hA5⟩, for_list (K := K) (a := tA) (xs := [.int n0, .int (n0 * n2), .int n1])
        (fun i σ' H' => ∃ v6 v7 v8 rs ms, σ' = [some (.ref sa), some (.ref p), some (.ref D), some (.ref tA), some (.ref tB), some (.ref m), v6, v7, v8, none, none, none, none, none, none, none, none, none, none, none, none] ∧ (∀ b o, b ≠ m → H5 b = some o → H' b = some o) ∧ H' m = some (.lst ms) ∧ DpAll K H' ms (rs.map rD) ∧ (∀ r ∈ rs, IsRat r ∧ SzR 310 r) ∧ rs.length ≤ 3 * i ∧ (0 < i → rs ≠ []))
        ⟨none, none, none, [], [], rfl, fun _ _ _ e => e, hm0, .nil, (fun _ h => nomatch h), Nat.le_refl _, (fun h => absurd h (by decide))⟩ (fun i σ' H' _ ⟨_, _, _, _, _, _, k, _⟩ => .of (k _ _ mA hA5)) ?_ ?_⟩
      · rintro i x σ' H' hi ⟨v6, v7, v8, rs, ms, rfl, kp, hm, hms, okr, len, nee⟩
        obtain ⟨t, rfl, zt⟩ : ∃ t, x = .int t ∧ Sz 302 t := by
          match i, hi with
          | 0, e => cases e; exact ⟨_, rfl, sz_mono z0 (by decide)⟩
          | 1, e => cases e; exact ⟨_, rfl, z02⟩
          | 2, e => cases e; exact ⟨_, rfl, sz_mono z1 (by decide)⟩
        refine ⟨_, rfl, tB, rfl, ⟨_, .of (kp _ _ mB hB5)⟩, for_list (K := K) (a := tB) (xs := [.int b0, .int n3, .int (n1 * n4)])
          (fun j σ' H' => ∃ v7 v8 rs ms, σ' = [some (.ref sa), some (.ref p), some (.ref D), some (.ref tA), some (.ref tB), some (.ref m), some (.int t), v7, v8, none, none, none, none, none, none, none, none, none, none, none, none] ∧ (∀ b o, b ≠ m → H5 b = some o → H' b = some o) ∧ H' m = some (.lst ms) ∧ DpAll K H' ms (rs.map rD) ∧ (∀ r ∈ rs, IsRat r ∧ SzR 310 r) ∧ rs.length ≤ 3 * i + j ∧ (0 < i ∨ 0 < j → rs ≠ []))
          ⟨v7, v8, rs, ms, rfl, kp, hm, hms, okr, len, (fun h => nee (by omega))⟩ (fun j σ' H' _ ⟨_, _, _, _, _, k, _⟩ => .of (k _ _ mB hB5)) ?_ ?_⟩
        · rintro j x σ' H' hj ⟨v7, v8, rs, ms, rfl, kp, hm, hms, okr, len, nee⟩
          have lj : j < 3 := (List.getElem?_eq_some_iff.mp hj).1
          have li : i < 3 := (List.getElem?_eq_some_iff.mp hi).1
          obtain ⟨u, rfl, zu, u0⟩ : ∃ u, x = .int u ∧ Sz 302 u ∧ (j = 0 → u ≠ 0) := by
            match j, hj with
            | 0, e => cases e; exact ⟨_, rfl, sz_mono zb0 (by decide), fun _ => b0n⟩
            | 1, e => cases e; exact ⟨_, rfl, sz_mono z3 (by decide), fun h => by omega⟩
            | 2, e => cases e; exact ⟨_, rfl, z14, fun h => by omega⟩
          refine ⟨_, rfl, _, rfl, _, _, .int t, .int u, rfl, .int t, .int u, (fun i e => by cases e; exact sz_mono zt (by decide)), (fun i e => by cases e; exact sz_mono zu (by decide)), fun H6 z s6 hz => ?_⟩
          rw [mkO_int] at hz
          refine ⟨_, rfl, rfl, _, rfl, ?_⟩
          by_cases c : u = 0
          · rw [if_pos c] at hz
            refine itT (decide_eq_true (congrArg V.int c)) ?_
            refine ⟨_, rfl, (by show 2 ≤ sizeLine; decide), fun q nq => ?_⟩
            have s7 := PB.same_new (o := .lst [.str "refused", .str "bottom"]) nq
            have s67 := s6.trans s7
            refine ne_same (shaped_ref "bottom" (by decide +kernel)) (Dp_same s7 hz) (dp_ref nq) ⟨_, rfl, itF rfl ?_⟩
            exact ⟨some (.int u), some z, rs, ms, rfl, fun b o n e => s67 _ _ (kp b o n e), s67 _ _ hm, DpAll_same s67 hms, okr, by omega, fun _ => nee (.inr (by have : j ≠ 0 := fun j0 => u0 j0 c; omega))⟩
          · rw [if_neg c] at hz
            refine itF (decide_eq_false fun z => c (V.int.inj z)) ?_
            refine ⟨_, rfl, _, rfl, _, rfl, t, u, rfl, c, sz_mono zt (by decide), sz_mono zu (by decide), fun H7 z7 s7 hz7 => ?_⟩
            refine ⟨_, _, normG t u, rfl, Dp_same s7 hz, hz7, _, rfl, itF rfl ?_⟩
            have s67 := s6.trans s7
            have hm7 := s67 _ _ hm
            refine ⟨.ref m, rfl, .inl ⟨rfl, _, .inl (.inl hm7)⟩, _, rfl, m, _, _, rfl, rfl, hm7, small1000 (by rw [DpAll_lenR hms, List.length_map]; omega), ?_⟩
            refine ⟨some (.int u), some z, rs ++ [normG t u], ms ++ [z], rfl, fun b o n e => by rw [upd_ne n]; exact s67 _ _ (kp b o n e), upd_same, rats_snoc hm7 (DpAll_same s67 hms) (Dp_same s7 hz), fun r hr => ?_, by rw [List.length_append, List.length_singleton]; omega, fun _ => by simp⟩
            rcases List.mem_append.mp hr with hr | hr
            · exact okr r hr
            · rw [List.mem_singleton.mp hr]; exact ⟨normG_rat c, szr_normG c (sz_mono zt (by decide)) (sz_mono zu (by decide))⟩
        · rintro σ' H' ⟨v7, v8, rs, ms, rfl, kp, hm, hms, okr, len, nee⟩
          exact ⟨some (.int t), v7, v8, rs, ms, rfl, kp, hm, hms, okr, (by have : rs.length ≤ 3 * i + 3 := len; omega), fun _ => nee (.inr (by show 0 < 3; decide))⟩
      · rintro σ' H' ⟨v6, v7, v8, rs, ms, rfl, kp, hm, hms, okr, len, nee⟩
        exact ⟨v6, v7, v8, rs, rfl, ⟨keepH _ kp, ne, mp, kp _ _ mD hD5, rfl, rfl, z0, z5, ⟨ms, hm, hms⟩, nee (by show 0 < 3; decide), okr, len⟩⟩
    rintro σ' H6 ⟨v6, v7, v8, rs, rfl, M⟩
    clear hD5 hA5 hB5 h5 hp1 hp2 hp3 mc hm0 s45 hA4 hB hD4 h4 hD'
    generalize [V.int n0, V.int n1, V.int n2, V.int n3, V.int n4, V.int n5] = ns at M
    
    have i0 : atI ns 0 = some (.int n0) := atI_nat (j := 0) M.e0
    -- make_ratio with one argument, the constants
    refine ⟨.ref D, rfl, D, ns, 0, _, rfl, rfl, .of M.hn, i0, n0, rfl, sz_mono M.z0 (by decide), fun H7 z7 s7 hz7 => ?_⟩
    have M7 := M.same s7
    refine ⟨.ref D, rfl, D, ns, 0, _, rfl, rfl, .of M7.hn, i0, (by show 2 ≤ sizeLine; decide), fun q1 nq1 => ?_⟩
    have s8 := PB.same_new (o := .tup [.int n0, .int 1]) nq1
    refine ne_same (shaped_r (n0, 1)) (Dp_same s8 hz7) (dp_mkr nq1) ⟨_, rfl, itF rfl ?_⟩
    have M8 := M7.same s8
    generalize upd H7 q1 (.tup [.int n0, .int 1]) = H8 at M8
    clear M M7 hz7 nq1 s7 s8
    refine s_ne (B := fun _ => True) (d := .tuple [.tuple [.int 0, .int 1], .tuple [.int 1, .int 1], .tuple [.int 1, .int 2]]) hTT (le_tup (la_cons hTT (le_cn (hZ ·)) (la_cons hTT (le_cn (hO ·)) (la_cons hTT (le_cn (hHf ·)) la_nil))) (by show 3 ≤ 1000; decide)) (le_tup (la_cons hTT (le_tup (la_cons hTT le_int (la_cons hTT le_int la_nil)) (by show 2 ≤ 1000; decide)) (la_cons hTT (le_tup (la_cons hTT le_int (la_cons hTT le_int la_nil)) (by show 2 ≤ 1000; decide)) (la_cons hTT (le_tup (la_cons hTT le_int (la_cons hTT le_int la_nil)) (by show 2 ≤ 1000; decide)) la_nil))) (by show 3 ≤ 1000; decide)) ⟨by decide +kernel, by decide +kernel⟩ trivial fun H10 s10 => itF rfl ?_
    have M10 := M8.same s10
    clear M8 s10
    refine s_next ?_
    dsimp only
    refine s_asg ?_
    -- what is refused
    refine (le_lst (la_cons hTT (le_made le_str le_int szn szi0) (la_cons hTT (le_made le_bl le_int szn szi1) (la_cons hTT (le_made le_int le_non szi1 szn) (la_cons hTT (le_made le_int le_bl szi1 szn) la_nil)))) (by show 4 ≤ 1000; decide) : LE K _ (fun _ => True) _ (.list [outD (mkO (.str "1") (.int 0)), outD (mkO (.bool true) (.int 1)), outD (mkO (.int 1) .none), outD (mkO (.int 1) (.bool true))])) H10 _ trivial fun H11 z11 s11 hz11 => ?_
    have e11 : (PyData.list [outD (mkO (.str "1") (.int 0)), outD (mkO (.bool true) (.int 1)), outD (mkO (.int 1) .none), outD (mkO (.int 1) (.bool true))]) = .list [.list [.str "refused", .str "top"], .list [.str "refused", .str "top"], .list [.str "refused", .str "bottom"], .list [.str "refused", .str "bottom"]] := rfl
    rw [e11] at hz11
    have M11 := M10.same s11
    clear M10 s11 e11
    refine s_ne (B := fun H' => Dp K H' z11 (.list [.list [.str "refused", .str "top"], .list [.str "refused", .str "top"], .list [.str "refused", .str "bottom"], .list [.str "refused", .str "bottom"]])) (fun H H' s h => Dp_same s h) (fun H Q b q => ⟨_, rfl, q H _ (fun _ _ e => e) b⟩) (le_lst (la_cons hDP (le_lst (la_cons hDP le_str (la_cons hDP le_str la_nil)) (by show 2 ≤ 1000; decide)) (la_cons hDP (le_lst (la_cons hDP le_str (la_cons hDP le_str la_nil)) (by show 2 ≤ 1000; decide)) (la_cons hDP (le_lst (la_cons hDP le_str (la_cons hDP le_str la_nil)) (by show 2 ≤ 1000; decide)) (la_cons hDP (le_lst (la_cons hDP le_str (la_cons hDP le_str la_nil)) (by show 2 ≤ 1000; decide)) la_nil)))) (by show 4 ≤ 1000; decide)) ⟨by decide +kernel, by decide +kernel⟩ hz11 fun H12 s12 => itF rfl ?_
    have M12 := M11.same s12
    clear M11 s12 hz11 i0
    -- the two that are drawn
    have pick : ∀ {H' : Hp} {Q' : VK}, Mst K p D m n0 n5 ns rs H' → (∀ v r H'', r ∈ rs → SameBut p H' H'' → Mst K p D m n0 n5 ns rs H'' → Dp K H'' v (rD r) → Q' v H'') → ∃ ms, H' m = some (.lst ms) ∧ (0 : Int) < ((ms.length : Nat) : Int) ∧ ((ms.length : Nat) : Int) < 1073741824 ∧ ∀ x H'', 0 ≤ x → x < ((ms.length : Nat) : Int) → HandAt H'' p → SameBut p H' H'' → ∃ v, SqL K H'' m ms ∧ atI ms x = some v ∧ Q' v H'' := fun {H' Q'} M qq => by
      obtain ⟨ms, hm, hd⟩ := M.hm
      have lm : ms.length = rs.length := by rw [DpAll_lenR hd, List.length_map]
      have ln : 0 < rs.length := List.length_pos_iff.mpr M.ne
      have l9 := M.le
      refine ⟨ms, hm, by omega, by omega, fun x H'' x0 x1 h'' s'' => ?_⟩
      have M2 := M.but s'' h''
      have lx : x.toNat < ms.length := by omega
      have ex : ms[x.toNat]? = some ms[x.toNat] := List.getElem?_eq_getElem lx
      obtain ⟨r, er, hx⟩ := DpAll_rat (M.h.rats s'' hd) ex
      refine ⟨ms[x.toNat], .of (s''.1 _ _ M.nm hm), ?_, qq _ r _ (List.mem_of_getElem? er) s'' M2 hx⟩
      have z := atI_nat ex
      rw [Int.toNat_of_nonneg x0] at z
      exact z
    refine ⟨fun σ' H' => ∃ va vb a b, σ' = [some (.ref sa), some (.ref p), some (.ref D), some (.ref tA), some (.ref tB), some (.ref m), v6, v7, v8, some (z11), some (va), some (vb), none, none, none, none, none, none, none, none, none] ∧ Mst K p D m n0 n5 ns rs H' ∧ a ∈ rs ∧ b ∈ rs ∧ Dp K H' va (rD a) ∧ Dp K H' vb (rD b), ?_, ?_⟩
    · obtain ⟨ms, hm, l0, l1, go⟩ := pick (Q' := fun v H' => ∃ ms, H' m = some (.lst ms) ∧ (0 : Int) < ((ms.length : Nat) : Int) ∧ ((ms.length : Nat) : Int) < 1073741824 ∧ ∀ x H'', 0 ≤ x → x < ((ms.length : Nat) : Int) → HandAt H'' p → SameBut p H' H'' → ∃ u, SqL K H'' m ms ∧ atI ms x = some u ∧ ∃ a b, a ∈ rs ∧ b ∈ rs ∧ Mst K p D m n0 n5 ns rs H'' ∧ Dp K H'' v (rD a) ∧ Dp K H'' u (rD b)) M12 (fun v r H' hr s' M' hv => pick M' fun v2 r2 H'' hr2 s'' M'' hv2 => ⟨r, r2, hr, hr2, M'', M'.h.dp s'' (noL_r _) hv, hv2⟩)
      refine ⟨.ref m, rfl, .ref p, rfl, _, rfl, m, ms, rfl, .inl (.of hm), p, _, rfl, M12.h, l0, l1, fun x H' x0 x1 h' s' => ?_⟩
      obtain ⟨v, hS', at', ms', hm', l0', l1', go'⟩ := go x H' x0 x1 h' s'
      refine ⟨m, ms, x, v, rfl, rfl, hS', at', ?_⟩
      refine ⟨.ref m, rfl, .ref p, rfl, _, rfl, m, ms', rfl, .inl (.of hm'), p, _, rfl, h', l0', l1', fun y H'' y0 y1 h'' s'' => ?_⟩
      obtain ⟨u, hS'', at'', a, b, ha, hb, M'', hva, hvb⟩ := go' y H'' y0 y1 h'' s''
      exact ⟨m, ms', y, u, rfl, rfl, hS'', at'', v, u, rfl, v, u, a, b, rfl, M'', ha, hb, hva, hvb⟩
    rintro σ' H13 ⟨va, vb, a, b, rfl, M13, ma, mb, ha, hb⟩
    clear M12
    
    have e5_ := M13.e5
    have z5_ := M13.z5
    have oa := M13.ok a ma
    have ob := M13.ok b mb
    have oa2 := szr_mono oa.2 (by decide : 310 ≤ 2000)
    have ob2 := szr_mono ob.2 (by decide : 310 ≤ 2000)
    have hAB : ∀ H H' : Hp, Same H H' → (Dp K H va (rD a) ∧ Dp K H vb (rD b)) → (Dp K H' va (rD a) ∧ Dp K H' vb (rD b)) := fun _ _ s h => ⟨Dp_same s h.1, Dp_same s h.2⟩
    have B13 := And.intro ha hb
    clear ha hb
    refine s_ifor ?_
    refine s_plain (B := fun H' => Dp K H' va (rD a) ∧ Dp K H' vb (rD b)) hAB (le_bin hAB (le_v1 rfl) (le_v2 rfl) oa.1 ob.1 oa2 ob2) (le_bin hAB (le_v1 rfl) (le_v2 rfl) oa.1 ob.1 oa2 ob2) B13 fun H14 s14 => itF rfl ?_
    replace B13 := hAB _ _ s14 B13
    replace M13 := M13.same s14
    clear s14
    refine s_plain (B := fun H' => Dp K H' va (rD a) ∧ Dp K H' vb (rD b)) hAB (le_bin hAB (le_v1 rfl) (le_v2 rfl) oa.1 ob.1 oa2 ob2) (le_bin hAB (le_v1 rfl) (le_v2 rfl) oa.1 ob.1 oa2 ob2) B13 fun H15 s15 => itF rfl ?_
    replace B13 := hAB _ _ s15 B13
    replace M13 := M13.same s15
    clear s15
    refine s_next ?_
    dsimp only
    refine s_ifor ?_
    refine s_plain (B := fun H' => Dp K H' va (rD a) ∧ Dp K H' vb (rD b)) hAB (le_bin hAB (le_v1 rfl) (le_v2 rfl) oa.1 ob.1 oa2 ob2) (le_bin hAB (le_v1 rfl) (le_v2 rfl) oa.1 ob.1 oa2 ob2) B13 fun H16 s16 => itF rfl ?_
    replace B13 := hAB _ _ s16 B13
    replace M13 := M13.same s16
    clear s16
    refine s_plain (B := fun H' => Dp K H' va (rD a) ∧ Dp K H' vb (rD b)) hAB (le_neg1 (le_v1 rfl)) (le_tup (la_cons hAB (le_neg (le_at0 (r := a) (le_v1 rfl))) (la_cons hAB (le_at1 (r := a) (le_v1 rfl)) la_nil)) (by show 2 ≤ 1000; decide)) B13 fun H17 s17 => itF rfl ?_
    replace B13 := hAB _ _ s17 B13
    replace M13 := M13.same s17
    clear s17
    refine s_next ?_
    dsimp only
    refine ⟨fun σ' H' => ∃ vd, σ' = [some (.ref sa), some (.ref p), some (.ref D), some (.ref tA), some (.ref tB), some (.ref m), v6, v7, v8, some (z11), some (va), some (vb), some (vd), none, none, none, none, none, none, none, none] ∧ Mst K p D m n0 n5 ns rs H' ∧ Dp K H' vd (outD (ovO a b)) ∧ Dp K H' va (rD a) ∧ Dp K H' vb (rD b), ?_, ?_⟩
    · refine s_asg1 ?_
      have cb := cou_r B13.2
      refine ⟨_, rfl, _, _, 0, _, rfl, cb, rfl, rfl, _, rfl, ?_⟩
      by_cases c : b.1 = 0
      · refine itT (decide_eq_true (congrArg V.int c)) ?_
        have e : ovO a b = .inl "zero" := if_pos c
        refine (le_lst (la_cons hAB le_str (la_cons hAB le_str la_nil)) (by show 2 ≤ 1000; decide) : LE K _ (fun H' => Dp K H' va (rD a) ∧ Dp K H' vb (rD b)) _ (.list [.str "refused", .str "zero"])) _ _ B13 fun H' v s hv => ⟨v, rfl, M13.same s, by rw [e]; exact hv, (hAB _ _ s B13).1, (hAB _ _ s B13).2⟩
      · refine itF (decide_eq_false fun z => c (V.int.inj z)) ?_
        have e : ovO a b = .inr (rD (normG (a.1 * b.2) (a.2 * b.1))) := if_neg c
        have ca := cou_r B13.1
        refine ⟨_, rfl, _, _, 0, _, rfl, ca, rfl, _, rfl, _, _, 1, _, rfl, cb, rfl, _, _, rfl, rfl, wide_mul oa.2.1 ob.2.2 (by decide) (by decide) (by decide), _, rfl, _, _, 1, _, rfl, ca, rfl, _, rfl, _, _, 0, _, rfl, cb, rfl, _, _, rfl, rfl, wide_mul oa.2.2 ob.2.1 (by decide) (by decide) (by decide), _, _, rfl, Int.mul_ne_zero (by have := oa.1.1; omega) c, sz_mono (sz_mul oa.2.1 ob.2.2) (by decide), sz_mono (sz_mul oa.2.2 ob.2.1) (by decide), fun H' v s hv => ⟨v, rfl, M13.same s, by rw [e]; exact hv, (hAB _ _ s B13).1, (hAB _ _ s B13).2⟩⟩
    rintro σ' H18 ⟨vd, rfl, M18, hd, ha, hb⟩
    have hABD : ∀ H H' : Hp, Same H H' → (Dp K H vd (outD (ovO a b)) ∧ Dp K H va (rD a) ∧ Dp K H vb (rD b)) → (Dp K H' vd (outD (ovO a b)) ∧ Dp K H' va (rD a) ∧ Dp K H' vb (rD b)) := fun _ _ s h => ⟨Dp_same s h.1, Dp_same s h.2.1, Dp_same s h.2.2⟩
    refine s_if1 ?_
    refine s_ne (B := fun H' => Dp K H' vd (outD (ovO a b)) ∧ Dp K H' va (rD a) ∧ Dp K H' vb (rD b)) hABD (le_div hABD (fun H Q b q => ⟨_, rfl, q H _ (fun _ _ e => e) b.2.1⟩) (fun H Q b q => ⟨_, rfl, q H _ (fun _ _ e => e) b.2.2⟩) oa.1 ob.1 oa2 ob2) (fun H Q b q => ⟨_, rfl, q H _ (fun _ _ e => e) b.1⟩) (shaped_ov a b) ⟨hd, ha, hb⟩ fun H19 s19 => itF rfl ?_
    have M19 := M18.same s19
    have B19 : Dp K H19 va (rD a) ∧ Dp K H19 vb (rD b) := ⟨Dp_same s19 ha, Dp_same s19 hb⟩
    clear M18 hd ha hb s19 hABD M13 B13
    refine s_next ?_
    dsimp only
    refine s_asg ?_
    refine (le_cmp hAB (le_v1 rfl) (le_v2 rfl) oa2 ob2 : LE K _ (fun H' => Dp K H' va (rD a) ∧ Dp K H' vb (rD b)) _ (.int (cmpR a b))) _ _ B19 fun H20 v20 s20 hv20 => ?_
    obtain rfl := dp_int hv20
    have M20 := M19.same s20
    have B20 := hAB _ _ s20 B19
    clear M19 B19 s20 hv20
    refine ⟨fun σ' H' => σ' = [some (.ref sa), some (.ref p), some (.ref D), some (.ref tA), some (.ref tB), some (.ref m), v6, v7, v8, some (z11), some (va), some (vb), some (vd), some (.int (cmpR a b)), none, none, none, none, none, none, none] ∧ Mst K p D m n0 n5 ns rs H' ∧ Dp K H' va (rD a) ∧ Dp K H' vb (rD b), ?_, ?_⟩
    · refine s_ifor1 ?_
      refine s_ne (B := fun H' => Dp K H' va (rD a) ∧ Dp K H' vb (rD b)) hAB (LE.cast (by rw [cmpR_swap a b, cmpR_self a]) (le_lst (la_cons hAB (le_cmp hAB (le_v1 rfl) (le_v2 rfl) oa2 ob2) (la_cons hAB (le_cmp hAB (le_v2 rfl) (le_v1 rfl) ob2 oa2) (la_cons hAB (le_cmp hAB (le_v1 rfl) (le_v1 rfl) oa2 oa2) la_nil))) (by show 3 ≤ 1000; decide)))
        (le_lst (la_cons hAB (le_iv rfl) (la_cons hAB (le_neg (le_iv rfl)) (la_cons hAB le_int la_nil))) (by show 3 ≤ 1000; decide)) (shaped_i3 (cmpR a b) (-cmpR a b) 0) B20 fun H21 s21 => itF rfl ?_
      have M21 := M20.same s21
      have B21 := hAB _ _ s21 B20
      clear M20 B20 s21
      exact ⟨_, rfl, _, rfl, va, va, a, a, rfl, B21.1, B21.1, oa2, oa2, _, _, _, _, _, rfl, .ty _, .base (.int _), kit_ty (kit_bool (.int (cmpR a a))), _, rfl, itF rfl ⟨rfl, M21, B21.1, B21.2⟩⟩
    rintro σ' H22 ⟨rfl, M22, ha, hb⟩
    clear hAB
    
    refine ⟨.ref p, rfl, p, 7, rfl, M22.h, by decide, by decide, fun k HA k0 k7 hA sA => ⟨k, rfl, by omega, by omega, fun D2 nD2 => ?_⟩⟩
    have MA := M22.but sA hA
    have haA := M22.h.dp sA (noL_r _) ha
    refine lc_range (n := k.toNat) (fun i H' => Mst K p D m n0 n5 ns rs H' ∧ SameBut p HA H' ∧ ∃ (acc : List V) (qs : List Rt), H' D2 = some (.lst acc) ∧ DpAll K H' acc (qs.map rD) ∧ qs.length = i ∧ ∀ r ∈ qs, r ∈ rs)
      ⟨MA.same (PB.same_new nD2), Same.but (PB.same_new nD2), [], [], upd_same, .nil, rfl, fun _ h => nomatch h⟩ ?_ ?_
    · rintro i H' hi ⟨M', s', acc, qs, hD2, hacc, hl, hqs⟩
      have nep : D2 ≠ p := MA.h.neD nD2
      obtain ⟨ms, hm, l0, l1, go⟩ := pick (Q' := fun v H'' => ∃ acc', H'' D2 = some (.lst acc') ∧ acc'.length < sizeLine ∧ (fun i H' => Mst K p D m n0 n5 ns rs H' ∧ SameBut p HA H' ∧ ∃ (acc : List V) (qs : List Rt), H' D2 = some (.lst acc) ∧ DpAll K H' acc (qs.map rD) ∧ qs.length = i ∧ ∀ r ∈ qs, r ∈ rs) (i + 1) (upd H'' D2 (.lst (acc' ++ [v])))) M' (fun v r H'' hr s'' M'' hv => by
        have hD3 := s''.1 _ _ nep hD2
        refine ⟨acc, hD3, small1000 (by rw [DpAll_lenR hacc, List.length_map]; omega), MA.updD nD2 (s'.trans s'') M'' hD3, (s'.trans s'').updD nD2, acc ++ [v], qs ++ [r], upd_same, rats_snoc hD3 (M'.h.rats s'' hacc) hv, by simp [hl], fun x hx => ?_⟩
        rcases List.mem_append.mp hx with hx | hx
        · exact hqs x hx
        · rw [List.mem_singleton.mp hx]; exact hr)
      refine ⟨rfl, .ref m, rfl, .ref p, rfl, _, rfl, m, ms, rfl, .inl (.of hm), p, _, rfl, M'.h, l0, l1, fun x H'' x0 x1 h'' s'' => ?_⟩
      obtain ⟨v, hS'', at'', acc', e1, e2, e3⟩ := go x H'' x0 x1 h'' s''
      exact ⟨m, ms, x, v, rfl, rfl, hS'', at'', acc', e1, e2, e3⟩
    rintro HB ⟨MB, sB, acc, qs, hD2, hacc, hl, hqs⟩
    have l6 : qs.length ≤ 6 := by omega
    have okq : ∀ r ∈ qs, IsRat r ∧ SzR 310 r := fun r hr => MB.ok r (hqs r hr)
    have haB := MA.h.dp sB (noL_r _) haA
    have dD2 : D ≠ D2 := ne_of_none MA.hn nD2
    clear pick M22 ha hb sA hA MA haA sB nD2
    refine ⟨_, rfl, D2, acc, rfl, .inl (.of hD2), fun kp nk => ?_⟩
    have s1' := PB.same_new (o := .lst acc) nk
    have kD2 : kp ≠ D2 := (ne_of_none hD2 nk).symm
    have hk : (upd HB kp (.lst acc)) kp = some (.lst acc) := upd_same
    have hD2' := s1' _ _ hD2
    have hacc' := DpAll_same s1' hacc
    have hn' := s1' _ _ MB.hn
    have ha' := Dp_same s1' haB
    generalize upd HB kp (.lst acc) = HC at s1' hk hD2' hacc' hn' ha'
    clear MB hD2 hacc haB s1' nk
    refine ⟨(by show 2 ≤ sizeLine; decide), fun tt ntt => ?_⟩
    have s2' := PB.same_new (o := .tup [.int 0, .int 1]) ntt
    have ht : Dp K (upd HC tt (.tup [.int 0, .int 1])) (.ref tt) (rD (0, 1)) := dp_mkr ntt
    have hkE := s2' _ _ hk
    have hD2E := s2' _ _ hD2'
    have haccE := DpAll_same s2' hacc'
    have hnE := s2' _ _ hn'
    have haE := Dp_same s2' ha'
    generalize upd HC tt (.tup [.int 0, .int 1]) = HE at ht hkE hD2E haccE hnE haE
    clear hk hD2' hacc' hn' ha' s2' ntt
    have lx : acc.length = qs.length := by rw [DpAll_lenR haccE, List.length_map]
    refine ⟨_, rfl, D2, rfl, ⟨_, .of hD2E⟩, for_list (K := K) (a := D2) (xs := acc) (fun i σ' H' => ∃ vt ve, σ' = [some (.ref sa), some (.ref p), some (.ref D), some (.ref tA), some (.ref tB), some (.ref m), v6, v7, v8, some (z11), some (va), some (vb), some (vd), some (.int (cmpR a b)), some (.ref D2), some (.ref kp), some (vt), ve, none, none, none] ∧ Same HE H' ∧ Dp K H' vt (rD (sumR (qs.take i))))
      ⟨_, none, rfl, fun _ _ e => e, ht⟩ (fun i σ' H' _ ⟨_, _, _, s, _⟩ => .of (s _ _ hD2E)) ?_ ?_⟩
    · rintro i x σ' H' hi ⟨vt, ve, rfl, s', hvt⟩
      obtain ⟨r, er, hx⟩ := DpAll_rat haccE hi
      have il : i < qs.length := (List.getElem?_eq_some_iff.mp er).1
      obtain ⟨rr, rz⟩ := okq r (List.mem_of_getElem? er)
      obtain ⟨ir, iz⟩ := sum_ok (rs := qs.take i) (n := 310) (fun z hz => okq z (List.mem_of_mem_take hz))
      have iz2 : SzR 2000 (sumR (qs.take i)) := szr_mono iz (by rw [List.length_take]; have : min i qs.length ≤ 6 := by omega
                                                                omega)
      refine ⟨vt, rfl, x, rfl, vt, x, _, r, rfl, hvt, Dp_same s' hx, ir, rr, iz2, szr_mono rz (by decide), fun H2 z s2 hz => ⟨z, some x, rfl, s'.trans s2, ?_⟩⟩
      rw [List.take_add_one, er]
      show Dp K H2 z (rD (sumR (qs.take i ++ [r])))
      rw [sumR_snoc]; exact hz
    rintro σ' HF ⟨vt, ve, rfl, sF, hvt⟩
    rw [lx, List.take_length] at hvt
    have hD2F := sF _ _ hD2E
    have haccF := DpAll_same sF haccE
    refine ⟨fun σ' H' => ∃ (vt : V) (ve : Option V) (D2 kp : Addr) (acc : List V) (qs : List Rt), σ' = [some (.ref sa), some (.ref p), some (.ref D), some (.ref tA), some (.ref tB), some (.ref m), v6, v7, v8, some (z11), some (va), some (vb), some (vd), some (.int (cmpR a b)), some (.ref D2), some (.ref kp), some (vt), ve, none, none, none] ∧ Dp K H' va (rD a) ∧ D ≠ D2 ∧ kp ≠ D2 ∧ H' D = some (.lst ns) ∧ H' D2 = some (.lst acc) ∧ H' kp = some (.lst acc) ∧ DpAll K H' acc (qs.map rD) ∧ qs.length ≤ 6 ∧ (∀ r ∈ qs, IsRat r ∧ SzR 310 r), ?_, ?_⟩
    · refine s_ifor1 ?_
      have hRT : ∀ H H' : Hp, Same H H' → (Dp K H (.ref D2) (.list (qs.map rD)) ∧ Dp K H vt (rD (sumR qs))) → (Dp K H' (.ref D2) (.list (qs.map rD)) ∧ Dp K H' vt (rD (sumR qs))) := fun _ _ s h => ⟨Dp_same s h.1, Dp_same s h.2⟩
      have BF : Dp K HF (.ref D2) (.list (qs.map rD)) ∧ Dp K HF vt (rD (sumR qs)) := ⟨.lst (.of hD2F) haccF, hvt⟩
      refine s_plain (B := fun H' => Dp K H' (.ref D2) (.list (qs.map rD)) ∧ Dp K H' vt (rD (sumR qs))) hRT (le_sumL (le_v1 rfl) l6 okq) (le_v2 rfl) BF fun HG sG => itF rfl ?_
      refine s_ne (B := fun H' => Dp K H' (.ref D2) (.list (qs.map rD)) ∧ Dp K H' vt (rD (sumR qs))) hRT (le_sumT (le_tupof (le_v1 rfl)) l6 okq) (le_v2 rfl) (shaped_r _) (hRT _ _ sG BF) fun HI sI => itF rfl ?_
      have sx := sF.trans (sG.trans sI)
      exact ⟨vt, ve, D2, kp, acc, qs, rfl, Dp_same sx haE, dD2, kD2, sx _ _ hnE, sx _ _ hD2E, sx _ _ hkE, DpAll_same sx haccE, l6, okq⟩
    clear haE dD2 kD2 hnE hD2E hkE haccE l6 okq hvt hD2F haccF sF
    rintro σ' HJ ⟨vt2, ve2, D2', kp', acc', qs', rfl, ha, dD2, kD2, hn, hD2, hk, hacc, l6, okq'⟩
    replace l6 := And.intro l6 okq'
    have lxx : acc'.length = qs'.length := by rw [DpAll_lenR hacc, List.length_map]
    have okq : ∀ r ∈ qs' ++ [a], IsRat r ∧ SzR 310 r := fun r hr => by
      rcases List.mem_append.mp hr with hr | hr
      · exact l6.2 r hr
      · rw [List.mem_singleton.mp hr]; exact oa
    refine ⟨.ref D2', rfl, .inl ⟨rfl, _, .inl (.inl hD2)⟩, va, rfl, D2', _, _, rfl, rfl, hD2, small1000 (by have := l6.1; omega), ?_⟩
    have hrow : (upd HJ D2' (.lst (acc' ++ [va]))) D2' = some (.lst (acc' ++ [va])) := upd_same
    have hA := rats_snoc hD2 hacc ha
    have hkK : (upd HJ D2' (.lst (acc' ++ [va]))) kp' = some (.lst acc') := by rw [upd_ne kD2]; exact hk
    have hnK : (upd HJ D2' (.lst (acc' ++ [va]))) D = some (.lst ns) := by rw [upd_ne dD2]; exact hn
    have haK : Dp K (upd HJ D2' (.lst (acc' ++ [va]))) va (rD a) := Dp_but hD2 (fun b o n e => by rw [upd_ne n]; exact e) (noL_r _) ha
    have hAq : DpAll K (upd HJ D2' (.lst (acc' ++ [va]))) acc' (qs'.map rD) := DpAll_but hD2 (fun b o n e => by rw [upd_ne n]; exact e) (noLs_all fun d hd => by
      obtain ⟨x, _, rfl⟩ := List.mem_map.mp hd
      exact noL_r x) hacc
    generalize upd HJ D2' (.lst (acc' ++ [va])) = HK at hrow hA hkK hnK haK hAq
    clear hD2 hacc ha hk hn
    have neq : qs' ++ [a] ≠ [] := by simp
    refine ⟨_, rfl, D2', _, qs' ++ [a], rfl, ⟨.inl (.of hrow), hA⟩, neq, okq, fun z r hr hmin hz => ?_⟩
    refine ⟨_, rfl, D2', _, rfl, .inl ⟨.of hrow, fun tp ntp => ?_⟩⟩
    have sT := PB.same_new (o := .tup (acc' ++ [va])) ntp
    refine ⟨tp, _, qs' ++ [a], rfl, ⟨.inr (.inl (.inl upd_same)), DpAll_same sT hA⟩, neq, okq, fun z2 r2 hr2 hmax hz2 => ⟨z, z2, rfl, ?_⟩⟩
    replace hrow := sT _ _ hrow
    replace hA := DpAll_same sT hA
    replace hkK := sT _ _ hkK
    replace hnK := sT _ _ hnK
    replace haK := Dp_same sT haK
    replace hAq := DpAll_same sT hAq
    replace hz := Dp_same sT hz
    generalize upd HK tp (.tup (acc' ++ [va])) = HL at hrow hA hkK hnK haK hAq hz hz2
    clear sT ntp
    refine ⟨fun σ' H' => σ' = [some (.ref sa), some (.ref p), some (.ref D), some (.ref tA), some (.ref tB), some (.ref m), v6, v7, v8, some (z11), some (va), some (vb), some (vd), some (.int (cmpR a b)), some (.ref D2'), some (.ref kp'), some (vt2), ve2, some (z), some (z2), none] ∧ Dp K H' va (rD a) ∧ H' D = some (.lst ns) ∧ H' D2' = some (.lst (acc' ++ [va])) ∧ DpAll K H' (acc' ++ [va]) ((qs' ++ [a]).map rD) ∧ Dp K H' z (rD r) ∧ Dp K H' z2 (rD r2), ?_, ?_⟩
    · refine ⟨_, rfl, _, rfl, rD r, (qs' ++ [a]).map rD, hz, .lst (.of hrow) hA, (shaped_r r).1, (shaped_rs _).1, _, rfl, itF (by rw [any_in hr]; rfl) ?_⟩
      refine ⟨_, rfl, _, rfl, rD r2, (qs' ++ [a]).map rD, hz2, .lst (.of hrow) hA, (shaped_r r2).1, (shaped_rs _).1, _, rfl, itF (by rw [any_in hr2]; rfl) ?_⟩
      refine ⟨_, rfl, _, rfl, va, rfl, (by show 1 ≤ sizeLine; decide), fun l nl => ?_⟩
      have sL := PB.same_new (o := .lst [va]) nl
      refine ⟨kp', l, acc', [va], rfl, rfl, sL _ _ hkK, upd_same, Nat.le_of_lt (small1000 (by rw [lxx]; simp only [List.length_singleton]; have := l6.1; omega)), fun r' nr => ?_⟩
      have sR := PB.same_new (o := .lst (acc' ++ [va])) nr
      have sLR := sL.trans sR
      refine ne_same (shaped_rs (qs' ++ [a])) (.lst (.of (sLR _ _ hrow)) (DpAll_same sLR hA)) (.lst (.inl (.inl upd_same)) (DpAll_same sLR hA)) ⟨_, rfl, itF rfl ?_⟩
      exact ⟨rfl, Dp_same sLR haK, sLR _ _ hnK, sLR _ _ hrow, DpAll_same sLR hA, Dp_same sLR hz, Dp_same sLR hz2⟩
    rintro σ' HM ⟨rfl, ha, hn, hrow2, hA2, hz3, hz4⟩
    clear hrow hA hkK hnK haK hAq hz hz2
    have zr := (okq r hr).2
    have zr2 := (okq r2 hr2).2
    refine ⟨_, rfl, D2', rfl, ⟨_, .of hrow2⟩, for_list (K := K) (a := D2') (xs := acc' ++ [va]) (fun i σ' H' => ∃ ve, σ' = [some (.ref sa), some (.ref p), some (.ref D), some (.ref tA), some (.ref tB), some (.ref m), v6, v7, v8, some (z11), some (va), some (vb), some (vd), some (.int (cmpR a b)), some (.ref D2'), some (.ref kp'), some (vt2), ve, some (z), some (z2), none] ∧ H' = HM) ⟨ve2, rfl, rfl⟩ (fun i σ' H' _ ⟨_, _, e⟩ => by rw [e]; exact .of hrow2) ?_ ?_⟩
    · rintro i x σ' H' hi ⟨ve, rfl, rfl⟩
      obtain ⟨u, eu, hx⟩ := DpAll_rat hA2 hi
      have mu := List.mem_of_getElem? eu
      have zu := (okq u mu).2
      have c1 := hmin u mu
      have c2 := hmax u mu
      refine ⟨x, rfl, z, rfl, x, z, u, r, rfl, hx, hz3, szr_mono zu (by decide), szr_mono zr (by decide), _, _, rfl, rfl, _, rfl, itF ?_ ?_⟩
      · rw [show cmpR u r = sgnC (u.1 * r.2 - r.1 * u.2) from rfl, sgnC_neg]
        refine decide_eq_false ?_
        have : 0 ≤ u.1 * r.2 - r.1 * u.2 := c1
        omega
      refine ⟨x, rfl, z2, rfl, x, z2, u, r2, rfl, hx, hz4, szr_mono zu (by decide), szr_mono zr2 (by decide), _, _, rfl, rfl, _, rfl, itF ?_ ⟨some x, rfl, rfl⟩⟩
      rw [show cmpR u r2 = sgnC (u.1 * r2.2 - r2.1 * u.2) from rfl, sgnC_pos]
      refine decide_eq_false ?_
      have : 0 ≤ r2.1 * u.2 - u.1 * r2.2 := c2
      omega
    rintro σ' H' ⟨ve, rfl, rfl⟩
    have i5 : atI ns 5 = some (.int n5) := atI_nat (j := 5) e5_
    refine ⟨va, rfl, .ref D, rfl, D, ns, 5, .int n5, rfl, rfl, .of hn, i5, va, a, n5, rfl, ha, oa.1, szr_mono oa.2 (by decide), fun HN sN => ⟨true, rfl, itT rfl ?_⟩⟩
    refine ⟨va, rfl, va, a, rfl, Dp_same sN ha, oa.1, oa.2, fun HO sO => ⟨true, rfl, itT rfl ?_⟩⟩
    have sNO := sN.trans sO
    refine ⟨.ref D, rfl, D, ns, 5, .int n5, rfl, rfl, .of (sNO _ _ hn), i5, (by show 2 ≤ sizeLine; decide), fun tp2 ntp2 => ?_⟩
    exact ⟨_, (n5, 1), rfl, dp_mkr ntp2, rat_int n5, szr_int (sz_mono z5_ (by decide)) (by decide), fun HQ sQ => q HQ⟩
end
end F3
set_option Elab.async false
set_option linter.all false
set_option maxRecDepth 100000
set_option maxHeartbeats 4000000
set_option exponentiation.threshold 3000
namespace F3
open PySem PySem.Spec PyProof.Rows L2 FX RM PB TM SX
theorem init1 {K : PySem.W.Frag} {C : Addr} {g : Str} {H : Hp} {Q : VK} {E : XK} {vs : List V} (T : OexC K C) (n0 : PySem.W.findIn K (.ref C) g = some none) (h : spInit C [g] vs H Q E) :
    tOst K g (tVar 0) (tVar 1) { nx := fun _ H' => Q .non H', rt := Q } (start ["self", g] vs) H := by
  obtain ⟨a, ws, rfl, l, ha, q⟩ := h
  obtain ⟨v, rfl⟩ := len_one l
  refine ⟨v, rfl, .ref a, rfl, a, C, rfl, T, n0, .inl ⟨ha, fun dx nx ne => q _ dx (fun b o nb e => ?_) upd_same ?_ nx⟩⟩
  · rw [upd_ne nb, upd_ne (ne_of_none e nx)]; exact e
  · rw [upd_ne ne, upd_same]; rfl
section
variable {P : Program} {w : World} {K : PySem.W.Frag} {mg : Str → Option Value} {base : Heap}
theorem in_BadRatio {f : Addr} {fd : FuncData} {C : Addr} (F : Fun K "__init__" "BadRatio.__init__" (inClass (topS 3) 0) f fd) (T : OexC K C) (no : ∀ f ∈ (["what"] : List Str), PySem.W.findIn K (.ref C) f = some none) : FnOk P w K mg base CX0 1 f fd ["self", "what"] (spInit C ["what"]) := by
  refine F.ok (N := ["self", "what"]) ⟨rfl, rfl, rfl, by decide +kernel, rfl, by decide +kernel, by decide +kernel⟩ (fun vs H Q E h => ?_) (fun cdv A outer s H vs Q E hr h => ?_)
  · obtain ⟨a, ws, rfl, l, _⟩ := h; exact congrArg (· + 1) l
  · exact ⟨_, pss_one (ps_ost (pv 0) (pv 1)), init1 T (no _ (List.mem_cons_self ..)) h⟩
theorem fnXmake_ratio {f : Addr} {fd : FuncData} (F : FunD K "make_ratio" "make_ratio" (defArgs smake_ratio) (defBody smake_ratio) (defScope smake_ratio) [.int 1] [] f fd) (cBR : CT P w K mg base "BadRatio" ["what"]) (Gw1 : DefDf P w K mg base "is_whole" 1 ["thing", "low", "high"] [.non, .non] (spWhole K)) (Glowest_terms : DefOk P w K mg base CX0 "lowest_terms" 1 ["top", "bottom"] (spLowG K)) : FnOk P w K mg base (L2.CX P w) 3 f fd ["top", "bottom"] (spMakeX K) := by
  refine F.ok scmake_ratio (fun vs H Q E h => ?_) (fun cdv A outer s H vs Q E hr h => ?_)
  · obtain ⟨v, u, d, e, rfl, _⟩ := h; rfl
  · obtain ⟨v, u, d, e, rfl, hv, hu, zd, ze, o⟩ := h
    refine ⟨_, (pss_cons (ps_if (pt_not (pt_val (pe_defd Gw1 (hr.mono (by decide)) (by rfl) (pa_cons (pv 0) pa_nil)))) (pss_one (ps_raise rfl (takes_of rfl rfl rfl rfl) (pmk_exW cBR (hr.mono (by decide)) (by rfl) (pa_cons pe_str pa_nil)))) pss_nil) (pss_cons (ps_if (PW.pt (pw_or (pt_not (pt_val (pe_defd Gw1 (hr.mono (by decide)) (by rfl) (pa_cons (pv 1) pa_nil)))) (pw_or1 (pt_cmpR op_eq (pv 1) pe_int (nomark _))))) (pss_one (ps_raise rfl (takes_of rfl rfl rfl rfl) (pmk_exW cBR (hr.mono (by decide)) (by rfl) (pa_cons pe_str pa_nil)))) pss_nil) (pss_one (ps_ret (pe_def Glowest_terms (hr.mono (by decide)) (by rfl) (pa_cons (pv 0) (pa_cons (pv 1) pa_nil))))))), ?_⟩
    refine ⟨v, rfl, v, d, none, rfl, hv, _, rfl, ?_⟩
    cases ed : isWh d none with
    | false =>
      refine itT rfl (raise_ok ?_)
      have z : mkO d e = .inl "top" := if_pos ed
      rw [z] at o; exact o
    | true =>
      refine itF rfl ⟨u, rfl, u, e, none, rfl, hu, _, rfl, ?_⟩
      cases ee : isWh e none with
      | false =>
        refine itT rfl (itT rfl (raise_ok ?_))
        rw [mkO_bot ed ee] at o; exact o
      | true =>
        obtain ⟨t, rfl⟩ := isWh_int ed
        obtain ⟨b, rfl⟩ := isWh_int ee
        obtain rfl := dp_int hv
        obtain rfl := dp_int hu
        refine itF rfl ⟨_, rfl, rfl, _, rfl, ?_⟩
        by_cases b0 : b = 0
        · refine itT (decide_eq_true (congrArg V.int b0)) (raise_ok ?_)
          have z : mkO (.int t) (.int b) = .inl "bottom" := (mkO_int t b).trans (if_pos b0)
          rw [z] at o; exact o
        · refine itF (decide_eq_false fun z => b0 (V.int.inj z)) ?_
          have z : mkO (.int t) (.int b) = .inr (rD (normG t b)) := (mkO_int t b).trans (if_neg b0)
          rw [z] at o
          exact ⟨_, rfl, _, rfl, t, b, rfl, b0, sz_mono (zd t rfl) (by decide), sz_mono (ze b rfl) (by decide), o⟩
theorem fn1make_ratio {f : Addr} {fd : FuncData} (F : FunD K "make_ratio" "make_ratio" (defArgs smake_ratio) (defBody smake_ratio) (defScope smake_ratio) [.int 1] [] f fd) (Gw1 : DefDf P w K mg base "is_whole" 1 ["thing", "low", "high"] [.non, .non] (spWhole K)) (Glowest_terms : DefOk P w K mg base CX0 "lowest_terms" 1 ["top", "bottom"] (spLowG K)) : FnOk P w K mg base CX0 3 f fd ["top", "bottom"] (spMake1 K) := by
  refine F.ok scmake_ratio (fun vs H Q E h => ?_) (fun cdv A outer s H vs Q E hr h => ?_)
  · obtain ⟨t, rfl, _⟩ := h; rfl
  · obtain ⟨t, rfl, zt, q⟩ := h
    refine ⟨_, PSs.nox (pss_cons (ps_if (pt_not (pt_val (pe_defd Gw1 (hr.mono (by decide)) (by rfl) (pa_cons (pv 0) pa_nil)))) (pss_one ps_never) pss_nil) (pss_cons (ps_if (PW.pt (pw_or (pt_not (pt_val (pe_defd Gw1 (hr.mono (by decide)) (by rfl) (pa_cons (pv 1) pa_nil)))) (pw_or1 (pt_cmpR op_eq (pv 1) pe_int (nomark _))))) (pss_one ps_never) pss_nil) (pss_one (ps_ret (pe_def Glowest_terms (hr.mono (by decide)) (by rfl) (pa_cons (pv 0) (pa_cons (pv 1) pa_nil))))))), ?_⟩
    refine ⟨_, rfl, _, .int t, none, rfl, .int t, _, rfl, itF rfl ?_⟩
    refine ⟨_, rfl, _, .int 1, none, rfl, .int 1, _, rfl, itF rfl ?_⟩
    refine ⟨_, rfl, rfl, _, rfl, itF rfl ?_⟩
    refine ⟨_, rfl, _, rfl, t, 1, rfl, by decide, sz_mono zt (by decide), sz_mono sz1 (by decide), fun H' z s hz => q H' z s ?_⟩
    rw [normG_pos (by decide), norm_one] at hz
    exact hz
theorem vals_nil' {ds : List Value} (h : Vals [] ds) : ds = [] := by cases h; rfl
theorem okXmake {f : Addr} {fd : FuncData} (gf : mg "make_ratio" = some (.ref f)) (F : FunD K "make_ratio" "make_ratio" (defArgs smake_ratio) (defBody smake_ratio) (defScope smake_ratio) [.int 1] [] f fd) (cBR : CT P w K mg base "BadRatio" ["what"]) (Gw1 : DefDf P w K mg base "is_whole" 1 ["thing", "low", "high"] [.non, .non] (spWhole K)) (Glowest_terms : DefOk P w K mg base CX0 "lowest_terms" 1 ["top", "bottom"] (spLowG K)) : DefOk P w K mg base (L2.CX P w) "make_ratio" 3 ["top", "bottom"] (spMakeX K) := by
  obtain ⟨ds, hd, b⟩ := F.binds1 (ps := ["top", "bottom"]) 2 1 (List.cons_ne_nil _ _) rfl fun T kV doc pm an cdv ct us its hu hi => match us, hu, its, hi with | [_, _], _, [_], _ => ⟨_, rfl, rfl⟩
  obtain rfl := vals_nil' hd
  exact ⟨f, fd, gf, F.kp, b, fnXmake_ratio F cBR Gw1 Glowest_terms⟩
theorem ok1make {f : Addr} {fd : FuncData} (gf : mg "make_ratio" = some (.ref f)) (F : FunD K "make_ratio" "make_ratio" (defArgs smake_ratio) (defBody smake_ratio) (defScope smake_ratio) [.int 1] [] f fd) (Gw1 : DefDf P w K mg base "is_whole" 1 ["thing", "low", "high"] [.non, .non] (spWhole K)) (Glowest_terms : DefOk P w K mg base CX0 "lowest_terms" 1 ["top", "bottom"] (spLowG K)) : DefDf P w K mg base "make_ratio" 3 ["top", "bottom"] [.int 1] (spMake1 K) := by
  obtain ⟨ds, hd, b⟩ := F.binds1 (ps := ["top", "bottom"]) 1 0 (List.cons_ne_nil _ _) rfl fun T kV doc pm an cdv ct us its hu hi => match us, hu, its, hi with | [_], _, [_], _ => ⟨_, rfl, rfl⟩
  exact ⟨f, fd, ds, gf, F.kp, hd, b, fn1make_ratio F Gw1 Glowest_terms⟩
theorem okis_whole3 {f : Addr} {fd : FuncData} (g : mg "is_whole" = some (.ref f)) (F : FunD K "is_whole" "is_whole" (defArgs sis_whole) (defBody sis_whole) (defScope sis_whole) [.non, .non] [] f fd) (misinstance : mg "isinstance" = none) (mint : mg "int" = none) (mbool : mg "bool" = none) :
    DefOk P w K mg base CX0 "is_whole" 1 ["thing", "low", "high"] (spWh3 K) := by
  obtain ⟨ds, hd, b⟩ := F.binds1 (ps := ["thing", "low", "high"]) 3 2 (List.cons_ne_nil _ _) rfl fun T kV doc pm an cdv ct us its hu hi => match us, hu, its, hi with | [_, _, _], _, [_, _], _ => ⟨_, rfl, rfl⟩
  obtain rfl := vals_nil' hd
  exact ⟨f, fd, g, F.kp, b, fnis_whole3 F misinstance mint mbool⟩
end
end F3
set_option Elab.async false
set_option linter.all false
set_option maxRecDepth 100000
set_option maxHeartbeats 0
namespace F3
open PySem PySem.Spec PyProof.Rows L2 FX RM PB
def dD (x : Str) (i : Nat) : He.DefD := ⟨(x, none), x, x, defArgs (topS i), defBody (topS i), defScope (topS i), [], []⟩
def dW (x : Str) (i : Nat) : He.DefD := ⟨(x, none), x, x, defArgs (topS i), defBody (topS i), defScope (topS i), [.non, .non], []⟩
def d1 (x : Str) (i : Nat) : He.DefD := ⟨(x, none), x, x, defArgs (topS i), defBody (topS i), defScope (topS i), [.int 1], []⟩
def dI (x t : Str) (i : Nat) : He.DefD := ⟨(x, some "__init__"), "__init__", t, defArgs (inClass (topS i) 0), defBody (inClass (topS i) 0), defScope (inClass (topS i) 0), [], []⟩
def gintB (K : PySem.W.Frag) (x : Str) (i : Int) : Bool := match PySem.W.nsIn K mainGlobals x with
  | some (some (.int j _)) => decide (j = i)
  | _ => false
def gstrB (K : PySem.W.Frag) (x y : Str) : Bool := match PySem.W.nsIn K mainGlobals x with
  | some (some (.str j _)) => decide (j = y)
  | _ => false
theorem gintB_ok {K : PySem.W.Frag} {x : Str} {i : Int} (h : gintB K x i = true) : ∃ u, PySem.W.nsIn K mainGlobals x = some (some u) ∧ L2.RelV (.int i) u := by
  unfold gintB at h
  split at h
  · rename_i j t e
    obtain rfl := of_decide_eq_true h
    exact ⟨_, e, _, rfl⟩
  · cases h
theorem gstrB_ok {K : PySem.W.Frag} {x y : Str} (h : gstrB K x y = true) : ∃ u, PySem.W.nsIn K mainGlobals x = some (some u) ∧ L2.RelV (.str y) u := by
  unfold gstrB at h
  split at h
  · rename_i j t e
    obtain rfl := of_decide_eq_true h
    exact ⟨_, e, _, rfl⟩
  · cases h
def fn : List He.DefD := [dW "is_whole" 10, dD "is_ratio" 11, dD "lowest_terms" 12, d1 "make_ratio" 13, dD "plus" 14, dD "minus" 15, dD "times" 16, dD "over" 17, dD "negative" 18, dD "sign_of" 19, dD "compare" 20, dD "sum_of" 21, dD "least_of" 22, dD "greatest_of" 23, dD "whole_text" 24, dD "ratio_text" 25, dD "is_figures" 26, dD "ratio_of" 27, dD "_law_hand" 29, dD "_law_mixed" 30, dD "_law_take" 31, dD "_law_gcd" 32, dD "_law_ratio" 33, dD "_law_plus" 34, dD "_law_less" 35, dD "_law_times" 36, dD "_law_compare" 37, dD "_law_number" 38, dD "_law_plain" 39, dD "_law_made_ratio" 40, dD "_law_divided" 41, dD "_law_read" 42, dD "_law_kinds" 43, dD "_law_texts" 44, dD "law" 45, dI "BadRatio" "BadRatio.__init__" 3]
def fa : List He.Fa := [.glo "is_whole", .glo "is_ratio", .glo "lowest_terms", .glo "make_ratio", .glo "plus", .glo "minus", .glo "times", .glo "over", .glo "negative", .glo "sign_of", .glo "compare", .glo "sum_of", .glo "least_of", .glo "greatest_of", .glo "whole_text", .glo "ratio_text", .glo "is_figures", .glo "ratio_of", .glo "_law_hand", .glo "_law_mixed", .glo "_law_take", .glo "_law_gcd", .glo "_law_ratio", .glo "_law_plus", .glo "_law_less", .glo "_law_times", .glo "_law_compare", .glo "_law_number", .glo "_law_plain", .glo "_law_made_ratio", .glo "_law_divided", .glo "_law_read", .glo "_law_kinds", .glo "_law_texts", .glo "law", .free "len", .free "int", .free "abs", .free "isinstance", .free "tuple", .free "list", .free "bool", .free "range", .free "str", .free "divmod", .free "all", .glo "ZERO", .glo "ONE", .glo "HALF"]
def ck (K : PySem.W.Frag) : Bool := clsB K "BadRatio" ["what"] && ((He.Fa.exm "BadRatio" "BadRatio" true).ok K && (He.eqO (PySem.W.nsIn K mainGlobals "gcd") (some (some (.builtin "math.gcd"))) && (He.tupB K "ZERO" [.int 0, .int 1] && (He.tupB K "ONE" [.int 1, .int 1] && (He.tupB K "HALF" [.int 1, .int 2] && (gintB K "MOST_FIGURES" 300 && gstrB K "FIGURES" "0123456789"))))))
def says (K : PySem.W.Frag) : Prop := ck K = true ∧ He.SaysD fa fn K
def obsM (n : Nat) (g : Addr → Option Obj) : Bool × He.AlD := (ck (He.frG g (He.asD g n)), He.obsDG n fa fn g)
def hookM (n : Nat) : PySem.W.Hook where
  α := Bool × He.AlD
  obs := fun s => obsM n s.heap.get?
  val := fun _ => (true, He.valD fn)
  says := fun _ h => ∃ K : PySem.W.Frag, K.In h ∧ says K
  of := fun _ _ e => ⟨_, He.frG_in, congrArg (fun z : Bool × He.AlD => z.1) e, congrArg (fun z : Bool × He.AlD => z.2) e⟩
  keeps := fun _ _ _ ⟨K, hK, c⟩ k => ⟨K, PySem.W.Frag.In.keeps hK k, c⟩
theorem obsM_eq {n : Nat} {g : Addr → Option Obj} {s : Shared} (h : ∀ a, g a = s.heap.get? a) : obsM n g = (hookM n).obs s := by
  have e : g = s.heap.get? := funext h
  rw [e] <;> rfl
abbrev R : PySem.W.OpenRow := PySem.W.OpenLaw.row PySem.Challenge.rw_feltstone_k01_whole_ratios_reckoned
def ob (s : PySem.W.SharedT) : Bool × He.AlD := obsM 5 (HandSHeadRun.getT s)
theorem ob_eq (s : PySem.W.SharedT) : ob s = (hookM 5).obs s.abs := obsM_eq (HandSHeadRun.getT_eq s)
def n0 : List Str := ["FeltError", "BadRatio", "ZERO", "ONE", "HALF", "MOST_FIGURES", "FIGURES", "is_whole", "is_ratio", "lowest_terms", "make_ratio", "plus", "minus", "times", "over", "negative", "sign_of", "compare", "sum_of", "least_of", "greatest_of", "whole_text", "ratio_text", "is_figures", "ratio_of", "_law_hand", "_law_mixed", "_law_take", "_law_gcd", "_law_ratio"]
def n1 : List Str := ["_law_plus", "_law_less", "_law_times", "_law_compare", "_law_number", "_law_plain", "_law_made_ratio", "_law_divided", "_law_read", "_law_kinds", "_law_texts"]
def names : List Str := n0 ++ n1
theorem run (w : World) : HandSHeadRun.RunEqI R (PySem.W.view R.prog [0, 45]) (hookM 5) ob 60000 names w := by
  unfold HandSHeadRun.RunEqI
  kernel_rfl
end F3
set_option Elab.async false
set_option linter.all false
set_option maxRecDepth 100000
set_option maxHeartbeats 0
namespace F3
open PySem PySem.Spec PyProof.Rows L2 FX RM PB
theorem def_at {K : PySem.W.Frag} (c : He.SaysD fa fn K) {x : Str} {st : Stmt} (i : Nat) {d : He.DefD} (h : fn[i]? = some d) (e : d = ⟨(x, none), x, x, defArgs st, defBody st, defScope st, [], []⟩) : ∃ fd, FunD K x x (defArgs st) (defBody st) (defScope st) [] [] (He.ga K x) fd := by
  obtain ⟨fd, F⟩ := c.def_ i h
  subst e
  exact ⟨fd, F⟩
theorem def_atW {K : PySem.W.Frag} (c : He.SaysD fa fn K) {x : Str} {st : Stmt} (i : Nat) {d : He.DefD} (h : fn[i]? = some d) (e : d = ⟨(x, none), x, x, defArgs st, defBody st, defScope st, [.non, .non], []⟩) : ∃ fd, FunD K x x (defArgs st) (defBody st) (defScope st) [.non, .non] [] (He.ga K x) fd := by
  obtain ⟨fd, F⟩ := c.def_ i h
  subst e
  exact ⟨fd, F⟩
theorem def_at1 {K : PySem.W.Frag} (c : He.SaysD fa fn K) {x : Str} {st : Stmt} (i : Nat) {d : He.DefD} (h : fn[i]? = some d) (e : d = ⟨(x, none), x, x, defArgs st, defBody st, defScope st, [.int 1], []⟩) : ∃ fd, FunD K x x (defArgs st) (defBody st) (defScope st) [.int 1] [] (He.ga K x) fd := by
  obtain ⟨fd, F⟩ := c.def_ i h
  subst e
  exact ⟨fd, F⟩
theorem ini_at {K : PySem.W.Frag} (c : He.SaysD fa fn K) {x q : Str} {st : Stmt} (i : Nat) {d : He.DefD} (h : fn[i]? = some d) (e : d = ⟨(x, some "__init__"), "__init__", q, defArgs st, defBody st, defScope st, [], []⟩) :
    ∃ fd, FunD K "__init__" q (defArgs st) (defBody st) (defScope st) [] [] (He.ma K (He.ga K x) "__init__") fd := by
  obtain ⟨fd, F⟩ := c.def_ i h
  subst e
  exact ⟨fd, F⟩
section
variable {P : Program} {w : World} {K : PySem.W.Frag} {mg : Str → Option Value} {base h : Heap}
theorem facts (X : K.In h) (G : h.Ns mainGlobals mg) {f : Addr} (hfa : mg ("law" : Str) = some (.ref f)) (c : says K) :
    ∃ fd : FuncData, (∀ (s : Shared) (v : Value), BindsTo s fd ⟨[v], []⟩ [("_law_script", v)]) ∧ ∀ base : Heap, K.In base → base.Ns mainGlobals mg → FnOk P w K mg base CX0 8 f fd ["_law_script"] (spLaw K) := by
  obtain ⟨c1, c2⟩ := c
  obtain ⟨k1, c1⟩ := He.ba c1
  obtain ⟨k2, c1⟩ := He.ba c1
  obtain ⟨k3, c1⟩ := He.ba c1
  obtain ⟨k4, c1⟩ := He.ba c1
  obtain ⟨k5, c1⟩ := He.ba c1
  obtain ⟨k6, c1⟩ := He.ba c1
  obtain ⟨k7, k8⟩ := He.ba c1
  have cB := clsB_ok k1
  have mBR := He.exm_ok k2
  have gBR := He.glo_ok X G cB.glo
  have mgcd : mg "gcd" = some (.builtin "math.gcd") := PySem.W.mg_of X G (He.eqO_ok k3)
  have hZ : ∀ H, SqT K H (He.ga K "ZERO") [.int 0, .int 1] := fun H => He.tupB_ok k4 H
  have hO : ∀ H, SqT K H (He.ga K "ONE") [.int 1, .int 1] := fun H => He.tupB_ok k5 H
  have hHf : ∀ H, SqT K H (He.ga K "HALF") [.int 1, .int 2] := fun H => He.tupB_ok k6 H
  have gMF : ∃ u, mg "MOST_FIGURES" = some u ∧ L2.RelV (.int 300) u := by
    obtain ⟨u, e, r⟩ := gintB_ok k7
    exact ⟨u, PySem.W.mg_of X G e, r⟩
  have gFI : ∃ u, mg "FIGURES" = some u ∧ L2.RelV (.str "0123456789") u := by
    obtain ⟨u, e, r⟩ := gstrB_ok k8
    exact ⟨u, PySem.W.mg_of X G e, r⟩
  have xf : XfC K (He.ga K "BadRatio") := ⟨cB.is.hg, cB.is.hk, cB.is.hs, cB.is.hd⟩
  have nw := cB.no "what" (List.mem_cons_self ..)
  have mlen := He.free_ok X G (c2.fact 35 (f := .free "len") rfl)
  have mint := He.free_ok X G (c2.fact 36 (f := .free "int") rfl)
  have mabs := He.free_ok X G (c2.fact 37 (f := .free "abs") rfl)
  have misinstance := He.free_ok X G (c2.fact 38 (f := .free "isinstance") rfl)
  have mtuple := He.free_ok X G (c2.fact 39 (f := .free "tuple") rfl)
  have mlist := He.free_ok X G (c2.fact 40 (f := .free "list") rfl)
  have mbool := He.free_ok X G (c2.fact 41 (f := .free "bool") rfl)
  have mrange := He.free_ok X G (c2.fact 42 (f := .free "range") rfl)
  have mstr := He.free_ok X G (c2.fact 43 (f := .free "str") rfl)
  have mdivmod := He.free_ok X G (c2.fact 44 (f := .free "divmod") rfl)
  have mall := He.free_ok X G (c2.fact 45 (f := .free "all") rfl)
  have gZ := He.glo_ok X G (c2.fact 46 (f := .glo "ZERO") rfl)
  have gO := He.glo_ok X G (c2.fact 47 (f := .glo "ONE") rfl)
  have gHf := He.glo_ok X G (c2.fact 48 (f := .glo "HALF") rfl)
  obtain ⟨fdis_whole, Fis_whole⟩ := def_atW c2 (x := "is_whole") (st := topS 10) 0 rfl rfl
  have gis_whole := He.glo_ok X G (c2.fact 0 (f := .glo "is_whole") rfl)
  obtain ⟨fdis_ratio, Fis_ratio⟩ := def_at c2 (x := "is_ratio") (st := topS 11) 1 rfl rfl
  have gis_ratio := He.glo_ok X G (c2.fact 1 (f := .glo "is_ratio") rfl)
  have tis_ratio : Txt K mg "is_ratio" (topS 11) := ⟨_, _, fun_of Fis_ratio, gis_ratio⟩
  obtain ⟨fdlowest_terms, Flowest_terms⟩ := def_at c2 (x := "lowest_terms") (st := topS 12) 2 rfl rfl
  have glowest_terms := He.glo_ok X G (c2.fact 2 (f := .glo "lowest_terms") rfl)
  have tlowest_terms : Txt K mg "lowest_terms" (topS 12) := ⟨_, _, fun_of Flowest_terms, glowest_terms⟩
  obtain ⟨fdmake_ratio, Fmake_ratio⟩ := def_at1 c2 (x := "make_ratio") (st := topS 13) 3 rfl rfl
  have gmake_ratio := He.glo_ok X G (c2.fact 3 (f := .glo "make_ratio") rfl)
  obtain ⟨fdplus, Fplus⟩ := def_at c2 (x := "plus") (st := topS 14) 4 rfl rfl
  have gplus := He.glo_ok X G (c2.fact 4 (f := .glo "plus") rfl)
  have tplus : Txt K mg "plus" (topS 14) := ⟨_, _, fun_of Fplus, gplus⟩
  obtain ⟨fdminus, Fminus⟩ := def_at c2 (x := "minus") (st := topS 15) 5 rfl rfl
  have gminus := He.glo_ok X G (c2.fact 5 (f := .glo "minus") rfl)
  have tminus : Txt K mg "minus" (topS 15) := ⟨_, _, fun_of Fminus, gminus⟩
  obtain ⟨fdtimes, Ftimes⟩ := def_at c2 (x := "times") (st := topS 16) 6 rfl rfl
  have gtimes := He.glo_ok X G (c2.fact 6 (f := .glo "times") rfl)
  have ttimes : Txt K mg "times" (topS 16) := ⟨_, _, fun_of Ftimes, gtimes⟩
  obtain ⟨fdover, Fover⟩ := def_at c2 (x := "over") (st := topS 17) 7 rfl rfl
  have gover := He.glo_ok X G (c2.fact 7 (f := .glo "over") rfl)
  have tover : Txt K mg "over" (topS 17) := ⟨_, _, fun_of Fover, gover⟩
  obtain ⟨fdnegative, Fnegative⟩ := def_at c2 (x := "negative") (st := topS 18) 8 rfl rfl
  have gnegative := He.glo_ok X G (c2.fact 8 (f := .glo "negative") rfl)
  have tnegative : Txt K mg "negative" (topS 18) := ⟨_, _, fun_of Fnegative, gnegative⟩
  obtain ⟨fdsign_of, Fsign_of⟩ := def_at c2 (x := "sign_of") (st := topS 19) 9 rfl rfl
  have gsign_of := He.glo_ok X G (c2.fact 9 (f := .glo "sign_of") rfl)
  have tsign_of : Txt K mg "sign_of" (topS 19) := ⟨_, _, fun_of Fsign_of, gsign_of⟩
  obtain ⟨fdcompare, Fcompare⟩ := def_at c2 (x := "compare") (st := topS 20) 10 rfl rfl
  have gcompare := He.glo_ok X G (c2.fact 10 (f := .glo "compare") rfl)
  have tcompare : Txt K mg "compare" (topS 20) := ⟨_, _, fun_of Fcompare, gcompare⟩
  obtain ⟨fdsum_of, Fsum_of⟩ := def_at c2 (x := "sum_of") (st := topS 21) 11 rfl rfl
  have gsum_of := He.glo_ok X G (c2.fact 11 (f := .glo "sum_of") rfl)
  have tsum_of : Txt K mg "sum_of" (topS 21) := ⟨_, _, fun_of Fsum_of, gsum_of⟩
  obtain ⟨fdleast_of, Fleast_of⟩ := def_at c2 (x := "least_of") (st := topS 22) 12 rfl rfl
  have gleast_of := He.glo_ok X G (c2.fact 12 (f := .glo "least_of") rfl)
  have tleast_of : Txt K mg "least_of" (topS 22) := ⟨_, _, fun_of Fleast_of, gleast_of⟩
  obtain ⟨fdgreatest_of, Fgreatest_of⟩ := def_at c2 (x := "greatest_of") (st := topS 23) 13 rfl rfl
  have ggreatest_of := He.glo_ok X G (c2.fact 13 (f := .glo "greatest_of") rfl)
  have tgreatest_of : Txt K mg "greatest_of" (topS 23) := ⟨_, _, fun_of Fgreatest_of, ggreatest_of⟩
  obtain ⟨fdwhole_text, Fwhole_text⟩ := def_at c2 (x := "whole_text") (st := topS 24) 14 rfl rfl
  have gwhole_text := He.glo_ok X G (c2.fact 14 (f := .glo "whole_text") rfl)
  have twhole_text : Txt K mg "whole_text" (topS 24) := ⟨_, _, fun_of Fwhole_text, gwhole_text⟩
  obtain ⟨fdratio_text, Fratio_text⟩ := def_at c2 (x := "ratio_text") (st := topS 25) 15 rfl rfl
  have gratio_text := He.glo_ok X G (c2.fact 15 (f := .glo "ratio_text") rfl)
  have tratio_text : Txt K mg "ratio_text" (topS 25) := ⟨_, _, fun_of Fratio_text, gratio_text⟩
  obtain ⟨fdis_figures, Fis_figures⟩ := def_at c2 (x := "is_figures") (st := topS 26) 16 rfl rfl
  have gis_figures := He.glo_ok X G (c2.fact 16 (f := .glo "is_figures") rfl)
  have tis_figures : Txt K mg "is_figures" (topS 26) := ⟨_, _, fun_of Fis_figures, gis_figures⟩
  obtain ⟨fdratio_of, Fratio_of⟩ := def_at c2 (x := "ratio_of") (st := topS 27) 17 rfl rfl
  have gratio_of := He.glo_ok X G (c2.fact 17 (f := .glo "ratio_of") rfl)
  have tratio_of : Txt K mg "ratio_of" (topS 27) := ⟨_, _, fun_of Fratio_of, gratio_of⟩
  obtain ⟨fd_law_hand, F_law_hand⟩ := def_at c2 (x := "_law_hand") (st := topS 29) 18 rfl rfl
  have g_law_hand := He.glo_ok X G (c2.fact 18 (f := .glo "_law_hand") rfl)
  have t_law_hand : Txt K mg "_law_hand" (topS 29) := ⟨_, _, fun_of F_law_hand, g_law_hand⟩
  obtain ⟨fd_law_mixed, F_law_mixed⟩ := def_at c2 (x := "_law_mixed") (st := topS 30) 19 rfl rfl
  have g_law_mixed := He.glo_ok X G (c2.fact 19 (f := .glo "_law_mixed") rfl)
  have t_law_mixed : Txt K mg "_law_mixed" (topS 30) := ⟨_, _, fun_of F_law_mixed, g_law_mixed⟩
  obtain ⟨fd_law_take, F_law_take⟩ := def_at c2 (x := "_law_take") (st := topS 31) 20 rfl rfl
  have g_law_take := He.glo_ok X G (c2.fact 20 (f := .glo "_law_take") rfl)
  have t_law_take : Txt K mg "_law_take" (topS 31) := ⟨_, _, fun_of F_law_take, g_law_take⟩
  obtain ⟨fd_law_gcd, F_law_gcd⟩ := def_at c2 (x := "_law_gcd") (st := topS 32) 21 rfl rfl
  have g_law_gcd := He.glo_ok X G (c2.fact 21 (f := .glo "_law_gcd") rfl)
  have t_law_gcd : Txt K mg "_law_gcd" (topS 32) := ⟨_, _, fun_of F_law_gcd, g_law_gcd⟩
  obtain ⟨fd_law_ratio, F_law_ratio⟩ := def_at c2 (x := "_law_ratio") (st := topS 33) 22 rfl rfl
  have g_law_ratio := He.glo_ok X G (c2.fact 22 (f := .glo "_law_ratio") rfl)
  have t_law_ratio : Txt K mg "_law_ratio" (topS 33) := ⟨_, _, fun_of F_law_ratio, g_law_ratio⟩
  obtain ⟨fd_law_plus, F_law_plus⟩ := def_at c2 (x := "_law_plus") (st := topS 34) 23 rfl rfl
  have g_law_plus := He.glo_ok X G (c2.fact 23 (f := .glo "_law_plus") rfl)
  have t_law_plus : Txt K mg "_law_plus" (topS 34) := ⟨_, _, fun_of F_law_plus, g_law_plus⟩
  obtain ⟨fd_law_less, F_law_less⟩ := def_at c2 (x := "_law_less") (st := topS 35) 24 rfl rfl
  have g_law_less := He.glo_ok X G (c2.fact 24 (f := .glo "_law_less") rfl)
  have t_law_less : Txt K mg "_law_less" (topS 35) := ⟨_, _, fun_of F_law_less, g_law_less⟩
  obtain ⟨fd_law_times, F_law_times⟩ := def_at c2 (x := "_law_times") (st := topS 36) 25 rfl rfl
  have g_law_times := He.glo_ok X G (c2.fact 25 (f := .glo "_law_times") rfl)
  have t_law_times : Txt K mg "_law_times" (topS 36) := ⟨_, _, fun_of F_law_times, g_law_times⟩
  obtain ⟨fd_law_compare, F_law_compare⟩ := def_at c2 (x := "_law_compare") (st := topS 37) 26 rfl rfl
  have g_law_compare := He.glo_ok X G (c2.fact 26 (f := .glo "_law_compare") rfl)
  have t_law_compare : Txt K mg "_law_compare" (topS 37) := ⟨_, _, fun_of F_law_compare, g_law_compare⟩
  obtain ⟨fd_law_number, F_law_number⟩ := def_at c2 (x := "_law_number") (st := topS 38) 27 rfl rfl
  have g_law_number := He.glo_ok X G (c2.fact 27 (f := .glo "_law_number") rfl)
  have t_law_number : Txt K mg "_law_number" (topS 38) := ⟨_, _, fun_of F_law_number, g_law_number⟩
  obtain ⟨fd_law_plain, F_law_plain⟩ := def_at c2 (x := "_law_plain") (st := topS 39) 28 rfl rfl
  have g_law_plain := He.glo_ok X G (c2.fact 28 (f := .glo "_law_plain") rfl)
  have t_law_plain : Txt K mg "_law_plain" (topS 39) := ⟨_, _, fun_of F_law_plain, g_law_plain⟩
  obtain ⟨fd_law_made_ratio, F_law_made_ratio⟩ := def_at c2 (x := "_law_made_ratio") (st := topS 40) 29 rfl rfl
  have g_law_made_ratio := He.glo_ok X G (c2.fact 29 (f := .glo "_law_made_ratio") rfl)
  have t_law_made_ratio : Txt K mg "_law_made_ratio" (topS 40) := ⟨_, _, fun_of F_law_made_ratio, g_law_made_ratio⟩
  obtain ⟨fd_law_divided, F_law_divided⟩ := def_at c2 (x := "_law_divided") (st := topS 41) 30 rfl rfl
  have g_law_divided := He.glo_ok X G (c2.fact 30 (f := .glo "_law_divided") rfl)
  have t_law_divided : Txt K mg "_law_divided" (topS 41) := ⟨_, _, fun_of F_law_divided, g_law_divided⟩
  obtain ⟨fd_law_read, F_law_read⟩ := def_at c2 (x := "_law_read") (st := topS 42) 31 rfl rfl
  have g_law_read := He.glo_ok X G (c2.fact 31 (f := .glo "_law_read") rfl)
  have t_law_read : Txt K mg "_law_read" (topS 42) := ⟨_, _, fun_of F_law_read, g_law_read⟩
  obtain ⟨fd_law_kinds, F_law_kinds⟩ := def_at c2 (x := "_law_kinds") (st := topS 43) 32 rfl rfl
  have g_law_kinds := He.glo_ok X G (c2.fact 32 (f := .glo "_law_kinds") rfl)
  have t_law_kinds : Txt K mg "_law_kinds" (topS 43) := ⟨_, _, fun_of F_law_kinds, g_law_kinds⟩
  obtain ⟨fd_law_texts, F_law_texts⟩ := def_at c2 (x := "_law_texts") (st := topS 44) 33 rfl rfl
  have g_law_texts := He.glo_ok X G (c2.fact 33 (f := .glo "_law_texts") rfl)
  have t_law_texts : Txt K mg "_law_texts" (topS 44) := ⟨_, _, fun_of F_law_texts, g_law_texts⟩
  obtain ⟨fdlaw, Flaw⟩ := def_at c2 (x := "law") (st := topS 45) 34 rfl rfl
  have glaw := He.glo_ok X G (c2.fact 34 (f := .glo "law") rfl)
  have tlaw : Txt K mg "law" (topS 45) := ⟨_, _, fun_of Flaw, glaw⟩
  obtain ⟨fdI, FI⟩ := ini_at c2 (x := "BadRatio") (q := "BadRatio.__init__") (st := inClass (topS 3) 0) 35 rfl rfl
  have e := hfa.symm.trans glaw
  cases e
  have bl := FunD.bindsA (ps := ["_law_script"]) Flaw fun _ _ _ _ _ _ us hl => match us, hl with | [_], _ => rfl
  refine ⟨fdlaw, fun s v => bl s [v] rfl, fun base _ _ => ?_⟩
  have cBR : CT P w K mg base "BadRatio" ["what"] := ⟨cB, gBR, fun _ => ⟨fdI, ["self", "what"], in_BadRatio (fun_of FI) cB.o cB.no, FI.bindsN fun _ _ _ _ _ _ us hl => match us, hl with | [_, _], _ => rfl⟩⟩
  have Gw1 := okis_whole1 (P := P) (w := w) (base := base) gis_whole Fis_whole misinstance mint mbool
  have Gw2 := okis_whole2 (P := P) (w := w) (base := base) gis_whole Fis_whole misinstance mint mbool
  have Gw3 := okis_whole3 (P := P) (w := w) (base := base) gis_whole Fis_whole misinstance mint mbool
  obtain ⟨gk, KBW⟩ := kb_whole Fis_whole
  have GlowG := okGlowest_terms (P := P) (w := w) (base := base) tlowest_terms mgcd
  have GlowP := low_of GlowG
  have Gis_ratio := okis_ratio (P := P) (w := w) (base := base) tis_ratio Gw1 Gw2 misinstance mtuple mlen mgcd
  have Xmake_ratio := okXmake (P := P) (w := w) (base := base) gmake_ratio Fmake_ratio cBR Gw1 GlowG
  have Gmk1 := ok1make (P := P) (w := w) (base := base) gmake_ratio Fmake_ratio Gw1 GlowG
  have Gplus := okplus (P := P) (w := w) (base := base) tplus GlowP
  have Gnegative := oknegative (P := P) (w := w) (base := base) tnegative
  have Gminus := okminus (P := P) (w := w) (base := base) tminus Gplus Gnegative
  have Gtimes := oktimes (P := P) (w := w) (base := base) ttimes GlowP
  have Xover := okXover (P := P) (w := w) (base := base) tover cBR GlowG
  have Gsign_of := oksign_of (P := P) (w := w) (base := base) tsign_of
  have Gcompare := okcompare (P := P) (w := w) (base := base) tcompare Gsign_of
  have Gsum_of := okGsum_of (P := P) (w := w) (base := base) tsum_of Gplus gZ hZ
  have Gleast_of := okleast_of (P := P) (w := w) (base := base) tleast_of Gcompare
  have Ggreatest_of := okgreatest_of (P := P) (w := w) (base := base) tgreatest_of Gcompare
  have Gwhole_text := okwhole_text (P := P) (w := w) (base := base) twhole_text mstr mdivmod
  have Gratio_text := okratio_text (P := P) (w := w) (base := base) tratio_text Gwhole_text
  have Gis_figures := okis_figures (P := P) (w := w) (base := base) tis_figures mlen mall gMF gFI
  have Xratio_of := okXratio_of (P := P) (w := w) (base := base) tratio_of cBR misinstance mstr mint Gis_figures Gis_ratio Gratio_text
  have G_law_hand := dkHand (P := P) (w := w) (base := base) t_law_hand mint mlen
  have G_law_take := dkTake (P := P) (w := w) (base := base) t_law_take t_law_mixed mint mlen
  have G_law_gcd := ok_law_gcd (P := P) (w := w) (base := base) t_law_gcd mint mabs
  have G_law_ratio := okG_law_ratio (P := P) (w := w) (base := base) t_law_ratio G_law_gcd
  have GlawP := low_of G_law_ratio
  have G_law_plus := ok_law_plus (P := P) (w := w) (base := base) t_law_plus GlawP
  have G_law_less := ok_law_less (P := P) (w := w) (base := base) t_law_less GlawP
  have G_law_times := ok_law_times (P := P) (w := w) (base := base) t_law_times GlawP
  have G_law_compare := ok_law_compare (P := P) (w := w) (base := base) t_law_compare
  have G_law_number := ok_law_number (P := P) (w := w) (base := base) t_law_number G_law_take mrange
  have G_law_plain := ok_law_plain (P := P) (w := w) (base := base) t_law_plain misinstance mtuple mint mbool
  have G_law_made_ratio := ok_law_made_ratio (P := P) (w := w) (base := base) t_law_made_ratio Xmake_ratio gBR mBR xf nw
  have G_law_divided := ok_law_divided (P := P) (w := w) (base := base) t_law_divided Xover gBR mBR xf nw
  have G_law_read := ok_law_read (P := P) (w := w) (base := base) t_law_read Xratio_of gBR mBR xf nw
  have G_law_kinds := ok_law_kinds (P := P) (w := w) (base := base) t_law_kinds misinstance mint mbool Gis_ratio Gw1 Gw2 Fis_whole gis_whole KBW Gw3
  have G_law_texts := ok_law_texts (P := P) (w := w) (base := base) t_law_texts mstr mint Gratio_text G_law_read G_law_plain
  exact ok_law (fun_of Flaw) G_law_hand G_law_take G_law_number G_law_made_ratio G_law_plain G_law_ratio Gmk1 Gplus Gminus Gtimes Gnegative G_law_plus G_law_less G_law_times G_law_divided G_law_compare Gcompare Gsum_of Gleast_of Ggreatest_of G_law_kinds G_law_texts gZ hZ gO hO gHf hHf mlen mrange mlist mtuple misinstance mbool
end
end F3
open PySem PySem.W PySem.Calls PyProof.Rows
theorem PySem.Challenge.cw_feltstone_k01_whole_ratios_reckoned_holds : PySem.Challenge.rw_feltstone_k01_whole_ratios_reckoned.Holds := by
  w_on; o_law
  refine HandSHeadRun.head_imp (r := OpenLaw.row PySem.Challenge.rw_feltstone_k01_whole_ratios_reckoned) (q := view (OpenLaw.row PySem.Challenge.rw_feltstone_k01_whole_ratios_reckoned).prog [0, 45]) (H := F3.hookM 5) (ob := F3.ob) (M := 60000) (loose := F3.names)
    (d := HandSHeadRun.topDef (OpenLaw.row PySem.Challenge.rw_feltstone_k01_whole_ratios_reckoned).prog 45) (kwd := []) F3.ob_eq F3.run
    (by kernel_rfl) (by kernel_rfl) (by kernel_rfl) (by rfl) (by first | assumption | decide +kernel) (by decide +kernel) ⟨rfl, rfl, rfl, rfl, rfl, by decide +kernel⟩ ?hw ?hc
  case hw => w_witness2
  case hc =>
    refine L2.walk_ofE (l := PySem.Challenge.rw_feltstone_k01_whole_ratios_reckoned) (n := 63) (k := 8) (x := "_law_script") (CX := L2.CX0) rfl (by decide) (by kernel_rfl) ⟨rfl, by decide, by decide⟩ ?F (fun _ _ _ _ z => z)
    intro w mg fa h Y G hmg0
    obtain ⟨K, KX, c⟩ := Y
    have hmg : mg ("law" : PySem.Str) = some (.ref fa) := by
      have e : (HandSHeadRun.topDef (OpenLaw.row PySem.Challenge.rw_feltstone_k01_whole_ratios_reckoned).prog 45).name = ("law" : PySem.Str) := by kernel_rfl
      rw [← e]
      exact hmg0
    obtain ⟨fd, hb, hF⟩ := F3.facts (P := (PySem.Challenge.rw_feltstone_k01_whole_ratios_reckoned).prog) (w := w) KX G hmg c
    exact ⟨K, fd, F3.spLaw K, KX, hb, fun H a ns hl _ hS => ⟨a, ns, rfl, hS, hl, fun _ => rfl⟩, hF⟩
