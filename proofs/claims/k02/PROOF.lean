import PyProof.Rows.All
import Wide.All
import OpenK.AllK
import Wide.FinOn
import HandS.ForMost
import HandS.WordsExc
import HandS.ExcInit
import HandS.ExcIs
import HandS.ExcField
import HandS.ExcValue
import HandS.IsInst
import KE.KExcIs
import HandS.Defaults
import HandS.HeadHook1
import HandS.HeadHook2
import HandS.Wide
import HandS.Gcd
import HandS.NoneIn
import KE.SortData
import KE.DataMinMax
import HandS.SortKw
import HandS.SortInts
import HandS.DictComp
import HandS.Conv
import PyProof.P3In
import HandS.TryMany
import HandS.Flow
import HandS.Style
import HandS.Deep
import HandS.TupAny
import KE.KStateDown
import HandS.Head0
import HandS.Head1
import HandS.Head2
import HandS.Head3
import HandS.HeadEnd
import PySem.Challenge.RW_feltstone_k02_whole_directions_in_round
set_option Elab.async false
set_option linter.all false
set_option maxRecDepth 100000
set_option maxHeartbeats 4000000
/-! exceptions of own classes as values: made, read, asked for their class -/
namespace FX
open PySem PySem.Spec PyProof.Rows L2
/-- at e an exception of the class at C, with these fields -/
def ExAt (H : Hp) (e C : Addr) (fs : List (Str × V)) : Prop :=
  (fs = [] ∧ H e = some (exo e C none)) ∨ ∃ d, H e = some (exo e C (some d)) ∧ H d = some (exd d fs)
theorem ExAt.same {H H' : Hp} {e C : Addr} {fs : List (Str × V)} (x : ExAt H e C fs) (s : Same H H') : ExAt H' e C fs := by
  rcases x with ⟨a, b⟩ | ⟨d, a, b⟩
  · exact .inl ⟨a, s _ _ b⟩
  · exact .inr ⟨d, s _ _ a, s _ _ b⟩
/-- what an exception class's own constructor does -/
def spInit (C : Addr) (names : List Str) : Sp := fun vs H Q _ => ∃ (a : Addr) (ws : List V), vs = .ref a :: ws ∧ ws.length = names.length ∧ H a = some (exo a C none) ∧
  ∀ H' d, (∀ b o, b ≠ a → H b = some o → H' b = some o) → H' a = some (exo a C (some d)) → H' d = some (exd d (names.zip ws).reverse) → H d = none → Q .non H'
/-- the text's facts of an exception class, as one look -/
def oexB (K : PySem.W.Frag) (C : Addr) : Bool := (match K.lookup C with
    | some ⟨.type "type", _, .cls cd, sl⟩ => (match cd.mro, sl.toList with
      | .ref D :: bm, [_, _, _, _, some (.builtin n), _] => decide (D = C) && (decide (n = "ValueError.__new__") && (!cd.hasDel && (cd.hasDict && PySem.HandSPX.refsVE bm)))
      | _, _ => false)
    | _ => false) && (He.eqO (PySem.W.findIn K (.ref C) "__setattr__") (some (some (.builtin "object.__setattr__"))) && (decide (PySem.W.subIn K (.ref C) (.type "BaseException") = some true) && (decide (PySem.W.typeIn K (.ref C) = some (.type "type")) && PySem.W.keepIn K (.ref C))))
theorem oexB_ok {K : PySem.W.Frag} {C : Addr} (h : oexB K C = true) : OexC K C := by
  obtain ⟨h0, h⟩ := He.ba h
  obtain ⟨h1, h⟩ := He.ba h
  obtain ⟨h2, h⟩ := He.ba h
  obtain ⟨h3, h4⟩ := He.ba h
  refine ⟨?_, He.eqO_ok h1, of_decide_eq_true h2, of_decide_eq_true h3, h4⟩
  split at h0
  · rename_i dd cd sl lk
    split at h0
    · rename_i D bm k0 k1 k2 k3 n k5 em es
      obtain ⟨a, h0⟩ := He.ba h0
      obtain ⟨b, h0⟩ := He.ba h0
      obtain ⟨c, h0⟩ := He.ba h0
      obtain ⟨d, e⟩ := He.ba h0
      obtain rfl := of_decide_eq_true a
      obtain rfl := of_decide_eq_true b
      obtain ⟨nm, bs, mro, ns, qn, hd, sn, sub, ab, col, del⟩ := cd
      obtain ⟨l⟩ := sl
      dsimp only at em es c d
      subst em es d
      have c' : del = false := by simpa using c
      subst c'
      exact ⟨nm, qn, ns, bs, bm, sn, sub, ab, col, dd, k0, k1, k2, k3, k5, lk, e⟩
    · cases h0
  · cases h0
def isB (K : PySem.W.Frag) (D : Addr) : Bool := He.eqO (PySem.W.findIn K (.ref D) "__getattribute__") (some (some (.builtin "BaseException.__getattribute__"))) && (He.eqO (PySem.W.findIn K (.ref D) "__getattr__") (some none) &&
  (decide (PySem.W.subIn K (.ref D) (.type "BaseException") = some true) && (PySem.W.hasDictIn K D && (He.eqO (PySem.W.findIn K (.ref D) "__class__") (some (some (.builtin "object.__class__"))) &&
  (He.eqO (PySem.W.specialIn K (.builtin "object.__class__") "__get__") (some (some (.builtin "getset_descriptor.__get__"))) && (decide (PySem.W.takesIn K (.builtin "object.__class__") = some true) && decide (PySem.W.mroIn K D (.type "object") = some true)))))))
theorem isB_ok {K : PySem.W.Frag} {D : Addr} (h : isB K D = true) : ExcC K D := by
  obtain ⟨h1, h⟩ := He.ba h
  obtain ⟨h2, h⟩ := He.ba h
  obtain ⟨h3, h⟩ := He.ba h
  obtain ⟨h4, h⟩ := He.ba h
  obtain ⟨h5, h⟩ := He.ba h
  obtain ⟨h6, h⟩ := He.ba h
  obtain ⟨h7, h8⟩ := He.ba h
  exact ⟨He.eqO_ok h1, He.eqO_ok h2, of_decide_eq_true h3, h4, He.eqO_ok h5, He.eqO_ok h6, of_decide_eq_true h7, of_decide_eq_true h8⟩
/-- a class with its own constructor (the fields' names), or without one -/
def clsB (K : PySem.W.Frag) (x : Str) (names : List Str) : Bool := (He.Fa.glo x).ok K && (oexB K (He.ga K x) && (isB K (He.ga K x) && (names.all (fun f => (He.Fa.noat x f).ok K) && (if names = [] then PySem.W.excIn K (He.ga K x) He.veBase "ValueError.__new__" else
  (He.eqO (PySem.W.findIn K (.ref (He.ga K x)) "__init__") (some (some (.ref (He.ma K (He.ga K x) "__init__")))) && decide (PySem.W.typeIn K (.ref (He.ma K (He.ga K x) "__init__")) = some (.type "function")))))))
structure ClsOk (K : PySem.W.Frag) (x : Str) (names : List Str) : Prop where
  glo : (He.Fa.glo x).ok K = true
  o : OexC K (He.ga K x)
  is : ExcC K (He.ga K x)
  no : ∀ f ∈ names, PySem.W.findIn K (.ref (He.ga K x)) f = some none
  xin : names = [] → PySem.W.excIn K (He.ga K x) [.type "ValueError", .type "Exception", .type "BaseException", .type "object"] "ValueError.__new__" = true
  ini : names ≠ [] → PySem.W.findIn K (.ref (He.ga K x)) "__init__" = some (some (.ref (He.ma K (He.ga K x) "__init__")))
  ity : names ≠ [] → PySem.W.typeIn K (.ref (He.ma K (He.ga K x) "__init__")) = some (.type "function")
theorem clsB_ok {K : PySem.W.Frag} {x : Str} {names : List Str} (h : clsB K x names = true) : ClsOk K x names := by
  obtain ⟨h1, h⟩ := He.ba h
  obtain ⟨h2, h⟩ := He.ba h
  obtain ⟨h3, h⟩ := He.ba h
  obtain ⟨h4, h5⟩ := He.ba h
  refine ⟨h1, oexB_ok h2, isB_ok h3, fun f hf => He.noat_ok (List.all_eq_true.mp h4 f hf), fun e => ?_, fun e => ?_, fun e => ?_⟩
  · rw [if_pos e] at h5; exact h5
  · rw [if_neg e] at h5; exact He.eqO_ok (He.ba h5).1
  · rw [if_neg e] at h5; exact of_decide_eq_true (He.ba h5).2
theorem fun_of {K : PySem.W.Frag} {x q : Str} {st : Stmt} {f : Addr} {fd : FuncData} (F : FunD K x q (defArgs st) (defBody st) (defScope st) [] [] f fd) : Fun K x q st f fd := by
  obtain ⟨oc, od, dV, kV, doc, pm, an, cdv, ct, osl, rfl, lk, hcd, hD, hK⟩ := F.ex
  rcases hD with ⟨_, rfl⟩ | ⟨e, _⟩
  · exact ⟨⟨oc, od, kV, doc, pm, an, cdv, ct, osl, rfl, lk, hcd⟩, F.kp⟩
  · exact absurd rfl e
section
variable {X : Cx} {pins : List (Addr × Obj)} {σ : L2.St} {H : Hp} {s : Shared}
/-- the exception as the library sees it -/
theorem ExAt.inst {e C : Addr} {fs : List (Str × V)} (I : Inv X pins σ H s) (x : ExAt H e C fs) :
    ∃ (oe : Obj) (od : Option Obj), PySem.W.InstAt s.heap e oe C od ∧ (∀ f v, fs.lookup f = some v → ∃ oo u, od = some oo ∧ PySem.W.lookIn f oo = some (some u) ∧ RelV v u) := by
  rcases x with ⟨rfl, a⟩ | ⟨d, a, b⟩
  · obtain ⟨t1, h1⟩ := exo_at I.hok a
    exact ⟨_, none, ⟨h1, rfl, rfl, trivial⟩, fun f v l => by cases l⟩
  · obtain ⟨t1, h1⟩ := exo_at I.hok a
    obtain ⟨mA, hns, rel⟩ := exd_at I.hok b
    obtain ⟨od, ho, hl⟩ := lookIn_ns hns
    refine ⟨_, some od, ⟨h1, rfl, rfl, ho⟩, fun f v l => ?_⟩
    obtain ⟨u, hu, ru⟩ := RelO.some_of (v := v) (o := mA f) (by rw [← l]; exact rel f)
    exact ⟨od, u, rfl, by rw [hl, hu], ru⟩
/-- isinstance of such a value -/
def rIsX (K : PySem.W.Frag) : List V → Hp → VK → Prop := fun xs H Q => ∃ (e C : Addr) (fs : List (Str × V)) (c : V) (cv : Value) (b : Bool),
  xs = [.ref e, c] ∧ ExAt H e C fs ∧ ExcC K C ∧ ClsV c cv ∧ PySem.W.kitOne K (.ref C) cv = some b ∧ Q (.bl b) H
theorem call_isX : CallR X (.builtin "isinstance") (rIsX X.K) := by
  intro pins s σ H xs us Q I r h
  obtain ⟨e, C, fs, c, cv, b, rfl, x, T, k, hk, q⟩ := h
  obtain ⟨u1, u2, rfl, r1, r2⟩ := vals2 r
  obtain rfl := k.eq r2
  cases (show u1 = Value.ref e from r1)
  obtain ⟨oe, od, J, _⟩ := ExAt.inst I x
  obtain ⟨cd, hcd, _⟩ := PySem.W.any_some T.hd
  exact PySem.W.kia_one (PySem.W.kitx_exc (by rw [hcd]; rfl) T.hg T.hk T.hs T.ha T.hn T.ht T.hm) I.kIn J hk (fun z => nomatch z) fun tk => ⟨.bl b, H, I.tok tk, rfl, q⟩
/-- e.f -/
def tXv (K : PySem.W.Frag) (f : Str) (te : TE) : TE := fun σ H Q => te σ H fun x H1 => ∃ (e C : Addr) (fs : List (Str × V)) (v : V), x = .ref e ∧ ExAt H1 e C fs ∧ ExcC K C ∧ PySem.W.findIn K (.ref C) f = some none ∧ fs.lookup f = some v ∧ Q v H1
theorem pe_xv {e : Expr} {te : TE} {f : Str} {pos : Pos} (he : PE X e te) (hb : attributeBase e f X.env (eval e X.env) = eval e X.env := by rfl) : PE X (.Attribute e f pos) (tXv X.K f te) := by
  refine ⟨fun pins s σ H Q I h => ?_⟩
  refine attr_of hb (thn (he.run pins s σ H _ I h) fun u s1 hh => ?_)
  obtain ⟨x, H1, I1, rx, a, C, fs, v, rfl, ex, T, hno, l, q⟩ := hh
  cases (show u = Value.ref a from rx)
  obtain ⟨oe, od, J, hl⟩ := ExAt.inst I1 ex
  obtain ⟨oo, u, rfl, hu, ru⟩ := hl f v l
  exact PySem.HandSPX.exc_get I1.kIn J T.hg T.hk T.hs (PySem.W.findObj_own T.hd hno rfl hu) (handed_of ru) ⟨v, H1, I1.tok _, ru, q⟩
/-- C(..) as a value -/
def tEx (C : Addr) (names : List Str) (ta : TA) : TE := fun σ H Q => ta σ H fun vs H1 => vs.length = names.length ∧ vs.length ≤ 1000 ∧ ∀ e H', H1 e = none → Same H1 H' → ExAt H' e C (names.zip vs).reverse → Q (.ref e) H'
theorem pe_ex {x : Str} {C fI : Addr} {k : Nat} {fd : FuncData} {ps names : List Str} {e : Expr} {es : List Expr} {ta : TA} {p pos : Pos} (T : OexC X.K C) (iC : PySem.W.findIn X.K (.ref C) "__init__" = some (some (.ref fI))) (tI : PySem.W.typeIn X.K (.ref fI) = some (.type "function"))
    (F1 : FnOk X.prog X.w X.K X.mg X.base CX0 k fI fd ps (spInit C names)) (hr : Room (k + 1) X.A) (hb : Binds X.K fd ps []) (hg : Gl X x) (hm : X.mg x = some (.ref C)) (ha : PA X (e :: es) ta)
    (hdb : (x == ("__debug__" : Str)) = false := by decide) (he : starEach (e :: es) X.env = (false, eval e X.env) :: starEach es X.env := by rfl) (hpl : (backTo pos (starEach es X.env)).any (·.1) = false := by rfl) :
    PE X (.Call (.Name x p) (e :: es) [] pos) (tEx C names ta) := by
  refine ⟨fun pins s σ H Q I h => ?_⟩
  obtain ⟨nm, q, N, bs, bm, sn, sub, ab, col, dd, k0, k1, k2, k3, k5, hC, hbm⟩ := T.cls
  refine wpAny_Call_Name_kw (ld_glob I hg hm ?_ hdb)
  refine PySem.W.callWith_K (h₀ := X.base) I.ok.mod.kin T.kC (thn (ha.run pos pins s σ H _ I h) fun us s1 ⟨vs, H1, I1, r1, hl, hz, q1⟩ => ⟨I1.kIn, ?_⟩) he hpl
  show wpAny _ _ (call (.ref C) us) _ _ _
  obtain ⟨hp, g, dr, tk, os⟩ := s1
  have hsz : hp.objs.size ≤ hp.objs.size + 1 := Nat.le_succ _
  have hn : H1 (hp.objs.size + 1) = none := I1.hok.fresh hsz
  have kk : ∀ b o, hp.get? b = some o → ((hp.push (PySem.W.kdv_tup us)).push (PySem.HandSPX.excO C hp.objs.size)).get? b = some o := fun b o e => Heap.get?_push_of_some _ (Heap.get?_push_of_some _ e)
  have hget : ((hp.push (PySem.W.kdv_tup us)).push (PySem.HandSPX.excO C hp.objs.size)).get? (hp.objs.size + 1) = some (PySem.HandSPX.excO C hp.objs.size) := by heap_get
  have I2 : Inv X pins σ (upd H1 (hp.objs.size + 1) (exo (hp.objs.size + 1) C none)) ⟨(hp.push (PySem.W.kdv_tup us)).push (PySem.HandSPX.excO C hp.objs.size), g, dr, tk, os⟩ :=
    I1.laid (t' := tk) (a := hp.objs.size + 1) (o := exo (hp.objs.size + 1) C none) (h' := (hp.push (PySem.W.kdv_tup us)).push (PySem.HandSPX.excO C hp.objs.size)) kk hsz (exo_ok hget)
  have r2 : Vals (V.ref (hp.objs.size + 1) :: vs) (Value.ref (hp.objs.size + 1) :: us) := .cons rfl r1
  have hq : spInit C names (V.ref (hp.objs.size + 1) :: vs) (upd H1 (hp.objs.size + 1) (exo (hp.objs.size + 1) C none)) (fun v H2 => v = .non ∧ Q (.ref (hp.objs.size + 1)) H2) E0 := by
    refine ⟨_, vs, rfl, hl, upd_same, fun H' d keep ea ed _ => ⟨rfl, q1 _ H' hn (fun b o z => ?_) (.inr ⟨d, ea, ed⟩)⟩⟩
    have nb : b ≠ hp.objs.size + 1 := ne_of_none z hn
    exact keep b o nb (by rw [upd_ne nb]; exact z)
  have hlen : (Value.ref (hp.objs.size + 1) :: us).length = ps.length := by
    have e := r2.length
    rw [F1.len _ _ _ _ hq] at e
    exact e.symm
  have hus : us.length ≤ sizeLine := by
    rw [← Paired.length r1, sizeLine_eq]
    omega
  have bb : BindsTo ⟨(hp.push (PySem.W.kdv_tup us)).push (PySem.HandSPX.excO C hp.objs.size), g, dr, tk, os⟩ fd ⟨Value.ref (hp.objs.size + 1) :: us, []⟩ (ps.zip (Value.ref (hp.objs.size + 1) :: us)) := by
    have z := hb ⟨(hp.push (PySem.W.kdv_tup us)).push (PySem.HandSPX.excO C hp.objs.size), g, dr, tk, os⟩ (Value.ref (hp.objs.size + 1) :: us) I2.kIn (by rw [List.append_nil]; exact hlen)
    rw [List.append_nil] at z
    exact z
  refine wpAny_call (PySem.HandSPX.call_own F.excBase_ValueError (fun Y => PySem.HandSPX.refsVE_contains Y bm hbm) (I1.kIn _ _ hC) (PySem.W.looks_findIn I1.kIn iC) (fun self => PySem.W.bind_fn I1.kIn self tI) hus
    (codeAny_mono (F1.run _ X.stack _ _ ⟨Value.ref (hp.objs.size + 1) :: us, []⟩ (Value.ref (hp.objs.size + 1) :: us) _ _ E0 (hr.make C us []) (I2.env0.make C us []) bb r2 hq) fun r s' hq' => ?_))
  cases r with
  | error er => exact False.elim hq'
  | ok fl =>
    cases fl with
    | ret u =>
      obtain ⟨v, H', I3, rv, ev, q3⟩ := I2.after hq'
      subst ev
      exact ⟨rv, ⟨V.ref (hp.objs.size + 1), H', I3, rfl, q3⟩⟩
    | next => exact False.elim hq'
    | brk => exact False.elim hq'
    | cont => exact False.elim hq'
theorem pe_ex0 {x : Str} {C : Addr} {p pos : Pos} (T : OexC X.K C) (q : PySem.W.excIn X.K C [.type "ValueError", .type "Exception", .type "BaseException", .type "object"] "ValueError.__new__" = true) (hg : Gl X x) (hm : X.mg x = some (.ref C))
    (hdb : (x == ("__debug__" : Str)) = false := by decide) : PE X (.Call (.Name x p) [] [] pos) (tEx C [] tNil) := by
  refine ⟨fun pins s σ H Q I h => ?_⟩
  refine wpAny_Call_Name_kw (ld_glob I hg hm ?_ hdb)
  refine PySem.W.callWith_K0 I.kIn T.kC ?_
  obtain ⟨_, _, q1⟩ := h
  obtain ⟨hp, g, dr, tk, os⟩ := s
  obtain ⟨bm, N, nm, qn, bs, hdct, sn, sub, ab, col, dd, k0, k1, k2, k3, k5, mN, hC, hN, hni, Tl⟩ := exc_obj I.kIn q
  refine wpAny_call_exc_subT F.excBase_ValueError Tl hC hN hni (fun h' a hm => ?_) (by show 0 ≤ sizeLine; exact Nat.zero_le _)
  have hn : H a = none := I.hok.gone hm.new
  obtain ⟨t, ht, _, _⟩ := hm.there
  refine ⟨.ref a, upd H a (exo a C none), I.laidN hm.keeps hm.new hn (exo_ok ht), rfl, q1 a _ hn (fun b o z => ?_) (.inl ⟨rfl, upd_same⟩)⟩
  rw [upd_ne (ne_of_none z hn)]; exact z
end
end FX
set_option Elab.async false
set_option linter.all false
set_option maxRecDepth 100000
set_option maxHeartbeats 4000000
/-! a try with several clauses, each with a name for the error or without one; what a suite asks of the error -/
namespace FX
open PySem PySem.Spec PyProof.Rows L2
abbrev Clau := Value × Option Nat × (Addr → Value → Option Addr → TS)
def endsAs (o : Option Nat) (D : Ends) : Ends := match o with
  | none => D
  | some i => ⟨fun st hp => D.nx (st.set i none) hp, D.rt, fun st hp => D.bk (st.set i none) hp, fun st hp => D.ct (st.set i none) hp⟩
def inAs (o : Option Nat) (a : Addr) (st : L2.St) : L2.St := match o with
  | none => st
  | some i => st.set i (some (.ref a))
def wNm (K : PySem.W.Frag) (Wout : WX) (D : Ends) : List Clau → WX
  | [] => Wout
  | (c, o, ts) :: r => fun cls d st hp => ∃ b, PySem.W.exmOne K cls c = some b ∧ (b = true → ∀ a, hp a = none → ts a cls d (endsAs o D) (inAs o a st) hp) ∧ (b = false → wNm K Wout D r cls d st hp)
inductive HdsN (X : Cx) : List ExceptHandler → List Clau → Prop
  | nil : HdsN X [] []
  | plain {x : Str} {c : Value} {ts : Addr → Value → Option Addr → TS} {b0 : Stmt} {su : List Stmt} {np ps : Pos} {hl : List ExceptHandler} {l : List Clau} (hc : Names X x c)
      (hsu : ∀ (a : Addr) (oe : Obj) (cls : Value) (d : Option Addr) (pn : List (Addr × Obj)), Zc cls d oe → (∃ vs, oe.data = .fields vs) → PSs (X.suite a ((a, oe) :: pn)) (b0 :: su) (ts a cls d)) (r : HdsN X hl l) :
      HdsN X (.ExceptHandler (some (.Name x np)) none (b0 :: su) ps :: hl) ((c, none, ts) :: l)
  | named {x n : Str} {c : Value} {i : Nat} {ts : Addr → Value → Option Addr → TS} {b0 : Stmt} {su : List Stmt} {np ps : Pos} {hl : List ExceptHandler} {l : List Clau} (hc : Names X x c) (hN : X.N.Nodup) (hi : X.N[i]? = some n) (hln : X.env.kindOf n = some .local)
      (hsu : ∀ (a : Addr) (oe : Obj) (cls : Value) (d : Option Addr) (pn : List (Addr × Obj)), Zc cls d oe → (∃ vs, oe.data = .fields vs) → PSs (X.suite a ((a, oe) :: pn)) (b0 :: su) (ts a cls d)) (r : HdsN X hl l) :
      HdsN X (.ExceptHandler (some (.Name x np)) (some n) (b0 :: su) ps :: hl) ((c, some i, ts) :: l)
section
variable {X : Cx}
theorem names_own {x : Str} {C : Addr} (hg : Gl X x) (hm : X.mg x = some (.ref C)) (hd : (x == ("__debug__" : Str)) = false := by decide) : Names X x (.ref C) := ⟨hg, hd, .inl hm⟩
/-- the class that a clause names is asked for -/
theorem ask_class {x : Str} {np : Pos} {c : Value} {a : Addr} {oe : Obj} {pl : List (Addr × Obj)} {st : L2.St} {hp : Hp} {s : Shared} (hc : Names X x c) (J : Inv (X.suite a ((a, oe) :: pl)) [] st hp s) {Q : Value → Shared → Prop} {E : Value → Shared → Prop} (q : Q c s) :
    wpAny (model X.prog X.w) (X.A.mark (some (.ref a))) (eval (.Name x np) X.env) Q E s := by
  rcases hc with ⟨hg, hb, hm | ⟨hm, hv, hnn⟩⟩
  · exact ld_glob (X := X.suite a ((a, oe) :: pl)) J hg hm q hb
  · exact ld_blt (X := X.suite a ((a, oe) :: pl)) J hg hm hv q hnn hb
theorem ps_try_nm {body : List Stmt} {h0 : ExceptHandler} {hl : List ExceptHandler} {l : List Clau} {pos : Pos} {tb : WX → TS} {Wout : WX} (stk : X.stack = X.env :: X.outer) (fra : X.env.frame = some X.env.locals) (tk : Takes X Wout)
    (hb : ∀ (W : WX) (pn : List (Addr × Obj)) (xe : Value → Shared → Prop), Takes (X.tr pn xe) W → PassesOwn (model X.prog X.w) X.A X.env xe → PSs (X.tr pn xe) body (tb W)) (hh : HdsN X (h0 :: hl) l) :
    PS X (.Try body (h0 :: hl) [] [] pos) (fun D st hp => tb (wNm X.K Wout D l) D st hp) := by
  refine ⟨fun pins s σ H D I h => ?_⟩
  have fine := I.ok
  have frs2 : X.A.frames = some (X.env :: X.outer) := fine.frames.trans (congrArg some stk)
  refine wpAny_Try_except (wpAny_mono ((hb (wNm X.K Wout D l) (X.pn ++ pins) (fun x z => wpAny (model X.prog X.w) X.A (noteFrame x X.env) (fun _ z2 => wpAny (model X.prog X.w) X.A (setFlight x none) (fun _ z3 =>
    wpAny (model X.prog X.w) X.A (handleBy x X.env (h0 :: hl)) (SP X pins D) X.xe z3) X.xe z2) X.xe z) (fun u t0 air => ?_) PassesOwn.looking).run [] s σ H D (I.toTry _) h) (fun f t0 got => ?_) (fun _ _ bad => bad))
  · obtain ⟨ad, gr, sI, pp, st, hp, cls, d, rfl, J1, nb, up, sky, na, os, ag, w⟩ := air
    have J : Inv X pins st hp sI := J1.ofTry fine
    have sky2 : Sky gr (X.env :: X.outer) ad (Zc cls d) X.env.locals t0.heap := stk ▸ sky
    show wpAny (model X.prog X.w) X.A (noteFrame (.ref ad) X.env) _ _ _
    refine Sky.land Zc.steady frs2 fra sky2 fun hA flA upA => ?_
    have JA : Inv X pins st hp { t0 with heap := hA } := J.landed nb flA.1 (up.trans upA) os ag
    obtain ⟨oA, vA, gA, zA, dA⟩ := flA.there
    have off : ad ∉ frs (X.env :: X.outer) := fun mem => by
      obtain ⟨_, o2, g2, bad⟩ := flA.2.2.1.mem mem
      rw [gA] at g2
      cases g2
      exact bad _ dA
    have offL : ad ≠ X.env.locals := fun z => off (List.mem_filterMap.mpr ⟨X.env, List.mem_cons_self, by rw [fra, z]⟩)
    have offF : ad ∉ X.fs := fun mem => by
      obtain ⟨v, hv, z⟩ := List.mem_filterMap.mp mem
      exact off (List.mem_filterMap.mpr ⟨v, List.mem_cons_of_mem _ hv, z⟩)
    have SA := JA.suite gA dA na offL offF
    have all : ∀ {hq : List ExceptHandler} {lq : List Clau}, HdsN X hq lq → wNm X.K Wout D lq cls d st hp → wpAny (model X.prog X.w) X.A (handleBy (.ref ad) X.env hq) (SP X pins D) X.xe { t0 with heap := hA } := by
      intro hq lq k
      induction k with
      | nil =>
        intro w
        refine wpAny_handleBy_nil ?_
        obtain ⟨_, _, _, oe, vs, tb2, _, _, he, _, hd, h1, _⟩ := id flA
        unfold PySem.passOn
        refine wpAny_bind (wpAny_field he hd h1 ?_)
        rw [if_neg (show ¬ ((Value.ref tb2 == Value.none) = true) by simp)]
        have fin : wpAny (model X.prog X.w) X.A (setFlight (.ref ad) X.env.frame) (fun _ z4 => wpAny (model X.prog X.w) X.A (throw (.ref ad) : Sem Flow) (SP X pins D) X.xe z4) X.xe { t0 with heap := hA } := by
          rw [fra]
          refine HandSPX.setFlight_upZ flA fun hB hhB upB => wpAny_throw (tk _ _ ?_)
          exact ⟨ad, gr, sI, pins, st, hp, cls, d, rfl, J, nb, (up.trans upA).trans upB, .inr (.inr (stk ▸ hhB)), na, os, ag, w⟩
        first
          | exact wpAny_bind (wpAny_pure (wpAny_bind fin))
          | exact wpAny_bind fin
      | plain hc hsu r ih =>
        intro w
        obtain ⟨b, hb1, yes, no⟩ := w
        refine wpAny_handleBy_cons (codeAny_handlers_test ?_) (by intro q; cases q)
        have look := PySem.W.exm_one (M := model X.prog X.w) JA.kIn (fun A Q E s k q => wpAny_typeOf_ref (k _ _ gA) (by rw [zA.1]; exact q)) hb1
        refine ask_class hc SA (look.here ?_)
        cases b with
        | false => exact ih (no rfl)
        | true =>
          refine codeAny_handlers_suite (HandSPX.lands_againZ flA fun hB flB upB => ?_)
          have JB : Inv X pins st hp { t0 with heap := hB } := J.landed nb flB.1 ((up.trans upA).trans upB) os ag
          obtain ⟨oB, vB, gB, zB, dB⟩ := flB.there
          refine wpAny_mono ((hsu ad oB cls d (X.pn ++ pins) zB ⟨_, dB⟩).run [] _ _ hp _ (JB.suite gB dB na offL offF) (yes rfl ad na)) (fun f z6 got => ?_) (fun _ _ z => False.elim z)
          cases f with
          | ret u => obtain ⟨v6, st6, hp6, S6, r6, q6⟩ := got; exact ⟨_, _, _, S6.unsuite fine, r6, q6⟩
          | next => obtain ⟨st6, hp6, S6, q6⟩ := got; exact ⟨_, _, S6.unsuite fine, q6⟩
          | brk => obtain ⟨st6, hp6, S6, q6⟩ := got; exact ⟨_, _, S6.unsuite fine, q6⟩
          | cont => obtain ⟨st6, hp6, S6, q6⟩ := got; exact ⟨_, _, S6.unsuite fine, q6⟩
      | @named x n c i ts b0 su np ps hl2 l2 hc hN hi hln hsu r ih =>
        intro w
        obtain ⟨b, hb1, yes, no⟩ := w
        refine wpAny_handleBy_cons (codeAny_handlers_test ?_) (by intro q; cases q)
        have look := PySem.W.exm_one (M := model X.prog X.w) JA.kIn (fun A Q E s k q => wpAny_typeOf_ref (k _ _ gA) (by rw [zA.1]; exact q)) hb1
        refine ask_class hc SA (look.here ?_)
        cases b with
        | false => exact ih (no rfl)
        | true =>
          refine codeAny_handlers_suite_as (HandSPX.lands_againZ flA fun hB flB upB => ?_)
          have JB : Inv X pins st hp { t0 with heap := hB } := J.landed nb flB.1 ((up.trans upA).trans upB) os ag
          obtain ⟨oB, vB, gB, zB, dB⟩ := flB.there
          refine store_ok (X := X.suite ad ((ad, oB) :: (X.pn ++ pins))) (v := .ref ad) (JB.suite gB dB na offL offF) hN hi (.inl hln) rfl (fun z5 S5 => ?_) (.inr hln)
          refine wpAny_mono ((hsu ad oB cls d (X.pn ++ pins) zB ⟨_, dB⟩).run [] z5 _ hp _ S5 (yes rfl ad na)) (fun f z6 got => ?_) (fun _ _ z => False.elim z)
          have gone : ∀ {st6 : L2.St} {hp6 : Hp} {Q : Shared → Prop}, Inv (X.suite ad ((ad, oB) :: (X.pn ++ pins))) [] st6 hp6 z6 → (∀ z7, Inv X pins (st6.set i none) hp6 z7 → Q z7) →
              wpAny (model X.prog X.w) X.A (do bindName X.env n .none; unbindBehindTheSuite X.env n ps) (fun _ z7 => Q z7) X.xe z6 := fun S6 hq => gone_ok (S6.unsuite fine) hN hi hln hq
          cases f with
          | ret u => obtain ⟨v6, st6, hp6, S6, r6, q6⟩ := got; exact gone S6 fun z7 J7 => ⟨_, _, _, J7, r6, q6⟩
          | next => obtain ⟨st6, hp6, S6, q6⟩ := got; exact gone S6 fun z7 J7 => ⟨_, _, J7, q6⟩
          | brk => obtain ⟨st6, hp6, S6, q6⟩ := got; exact gone S6 fun z7 J7 => ⟨_, _, J7, q6⟩
          | cont => obtain ⟨st6, hp6, S6, q6⟩ := got; exact gone S6 fun z7 J7 => ⟨_, _, J7, q6⟩
    exact all hh w
  · cases f with
    | ret u => obtain ⟨v, st, hp, J, r, q⟩ := got; exact ⟨v, st, hp, J.ofTry fine, r, q⟩
    | next => obtain ⟨st, hp, J, q⟩ := got; exact wpAny_execs_nil ⟨st, hp, J.ofTry fine, q⟩
    | brk => obtain ⟨st, hp, J, q⟩ := got; exact ⟨st, hp, J.ofTry fine, q⟩
    | cont => obtain ⟨st, hp, J, q⟩ := got; exact ⟨st, hp, J.ofTry fine, q⟩
/-- isinstance of the error that the suite holds -/
def rIsP (K : PySem.W.Frag) (a : Addr) (cls : Value) (d : Option Addr) : List V → Hp → VK → Prop := fun xs hp Q => ∃ (C : Addr) (c : V) (cv : Value) (b : Bool), xs = [.ref a, c] ∧ cls = .ref C ∧ ExcC K C ∧
  (d = none ∨ ∃ dd fs, d = some dd ∧ hp dd = some (.xd fs)) ∧ ClsV c cv ∧ PySem.W.kitOne K (.ref C) cv = some b ∧ Q (.bl b) hp
theorem call_isP {a : Addr} {oe : Obj} {cls : Value} {d : Option Addr} {pn : List (Addr × Obj)} (hz : Zc cls d oe) (hf : ∃ vs, oe.data = .fields vs) : CallR (X.suite a ((a, oe) :: pn)) (.builtin "isinstance") (rIsP X.K a cls d) := by
  intro pins s σ H xs us Q I r h
  obtain ⟨C, c, cv, b, rfl, rfl, T, hd, k, hk, q⟩ := h
  obtain ⟨u1, u2, rfl, r1, r2⟩ := vals2 r
  obtain rfl := k.eq r2
  cases (show u1 = Value.ref a from r1)
  obtain ⟨got, _⟩ := I.pin (a, oe) (List.mem_append_left _ List.mem_cons_self)
  obtain ⟨vs, hv⟩ := hf
  have J : ∃ od, PySem.W.InstAt s.heap a oe C od := by
    rcases hd with rfl | ⟨dd, fs, rfl, e⟩
    · exact ⟨none, got, hz.1, by unfold PySem.W.notCls; rw [hv] <;> rfl, by rw [hz.2]; trivial⟩
    · have hx : ObjOk X.prog X.w H s.heap dd (.xd fs) := I.hok dd _ e
      obtain ⟨mA, hns, _⟩ := hx
      obtain ⟨od, ho, _⟩ := lookIn_ns hns
      exact ⟨some od, got, hz.1, by unfold PySem.W.notCls; rw [hv] <;> rfl, by rw [hz.2]; exact ho⟩
  obtain ⟨od, J⟩ := J
  obtain ⟨cd, hcd, _⟩ := PySem.W.any_some T.hd
  exact PySem.W.kia_one (PySem.W.kitx_exc (by rw [hcd]; rfl) T.hg T.hk T.hs T.ha T.hn T.ht T.hm) I.kIn J hk (fun z => nomatch z) fun tk => ⟨.bl b, H, I.tok tk, rfl, q⟩
/-- an own error without a constructor, made to be raised -/
theorem pmk_ex0 {x : Str} {C : Addr} {p pos : Pos} (H0 : Hp) (e0 : X.H_0 = H0) (hx : X.ex = []) (T : OexC X.K C) (q : PySem.W.excIn X.K C [.type "ValueError", .type "Exception", .type "BaseException", .type "object"] "ValueError.__new__" = true) (hg : Gl X x) (hm : X.mg x = some (.ref C))
    (hdb : (x == ("__debug__" : Str)) = false := by decide) : PMk X (.Call (.Name x p) [] [] pos) (fun st hp Q => (∀ a, hp a = none → H0 a = none) ∧ Q (.ref C) none hp) := by
  have he : PE X (.Call (.Name x p) [] [] pos) (fun _ hp Q => ∀ a, hp a = none → Q (.ref a) (upd hp a (ExO (.ref C) a))) := by
    refine ⟨fun pins s σ H Q I h => ?_⟩
    refine wpAny_Call_Name_kw (ld_glob I hg hm ?_ hdb)
    refine PySem.W.callWith_K0 I.kIn T.kC ?_
    obtain ⟨h0, g, dr, tk, os⟩ := s
    obtain ⟨bm, N, nm, qn, bs, hdct, sn, sub, ab, col, dd, k0, k1, k2, k3, k5, mN, hC, hN, hni, Tl⟩ := exc_obj I.kIn q
    refine wpAny_call_exc_subT F.excBase_ValueError Tl hC hN hni (fun h' a hm => ?_) (by show 0 ≤ sizeLine; exact Nat.zero_le _)
    have hn : H a = none := I.hok.gone hm.new
    obtain ⟨t, ht, _, _⟩ := hm.there
    exact ⟨.ref a, upd H a (ExO (.ref C) a), I.laidN hm.keeps hm.new hn (exO_ok ht ⟨rfl, rfl⟩ rfl rfl rfl (show 4 < 6 by decide)), rfl, h a hn⟩
  intro pins s σ H Q I h
  obtain ⟨h0, hq⟩ := h
  refine pmk_ret hx he pins s σ H Q I fun a na => ⟨a, .ref C, rfl, upd_same, fr0_none (by rw [e0]; exact h0 a na), raises_own T.exC T.tyC, ?_⟩
  rw [delH_new na]
  exact hq
end
end FX
set_option Elab.async false
set_option linter.all false
set_option maxHeartbeats 4000000
/-! ratios as couples of ints, without the program -/
namespace RM
abbrev Rt := Int × Int
def g2 (t b : Int) : Int := ((Nat.gcd t.natAbs b.natAbs : Nat) : Int)
/-- lowest terms, for a bottom above 0 -/
def norm (t b : Int) : Rt := (t / g2 t b, b / g2 t b)
def IsRat (r : Rt) : Prop := 0 < r.2 ∧ Nat.gcd r.1.natAbs r.2.natAbs = 1
/-- r is t / b -/
def Rep (r : Rt) (t b : Int) : Prop := IsRat r ∧ 0 < b ∧ r.1 * b = t * r.2
theorem g2_pos {t b : Int} (hb : b ≠ 0) : 0 < g2 t b := by
  have : 0 < Nat.gcd t.natAbs b.natAbs := Nat.gcd_pos_of_pos_right _ (by omega)
  unfold g2; omega
theorem g2_pos' {t b : Int} (hb : t ≠ 0) : 0 < g2 t b := by
  have : 0 < Nat.gcd t.natAbs b.natAbs := Nat.gcd_pos_of_pos_left _ (by omega)
  unfold g2; omega
theorem g2_l (t b : Int) : ∃ k, t = g2 t b * k := by
  have h : ((Nat.gcd t.natAbs b.natAbs : Nat) : Int) ∣ t := Int.natAbs_dvd_natAbs.mp (by rw [Int.natAbs_natCast]; exact Nat.gcd_dvd_left _ _)
  exact h
theorem g2_r (t b : Int) : ∃ k, b = g2 t b * k := by
  have h : ((Nat.gcd t.natAbs b.natAbs : Nat) : Int) ∣ b := Int.natAbs_dvd_natAbs.mp (by rw [Int.natAbs_natCast]; exact Nat.gcd_dvd_right _ _)
  exact h
/-- both parts taken out -/
theorem g2_parts {t b : Int} (h : t ≠ 0 ∨ b ≠ 0) : ∃ x y, t = g2 t b * x ∧ b = g2 t b * y ∧ t / g2 t b = x ∧ b / g2 t b = y ∧ Nat.gcd x.natAbs y.natAbs = 1 := by
  have gp : 0 < g2 t b := by
    rcases h with h | h
    · exact g2_pos' h
    · exact g2_pos h
  obtain ⟨x, hx⟩ := g2_l t b
  obtain ⟨y, hy⟩ := g2_r t b
  have gn : g2 t b ≠ 0 := by omega
  refine ⟨x, y, hx, hy, Int.ediv_eq_of_eq_mul_right gn hx, Int.ediv_eq_of_eq_mul_right gn hy, ?_⟩
  have e : (g2 t b).natAbs = Nat.gcd t.natAbs b.natAbs := by unfold g2; exact Int.natAbs_natCast _
  have ex : t.natAbs = (g2 t b).natAbs * x.natAbs := by rw [← Int.natAbs_mul, ← hx]
  have ey : b.natAbs = (g2 t b).natAbs * y.natAbs := by rw [← Int.natAbs_mul, ← hy]
  have k : (g2 t b).natAbs = (g2 t b).natAbs * Nat.gcd x.natAbs y.natAbs := by
    rw [← Nat.gcd_mul_left, ← ex, ← ey]; exact e
  have gp2 : 0 < (g2 t b).natAbs := by omega
  exact Nat.eq_of_mul_eq_mul_left gp2 (by rw [Nat.mul_one]; exact k.symm)
theorem rep_norm {t b : Int} (hb : 0 < b) : Rep (norm t b) t b := by
  obtain ⟨x, y, hx, hy, dx, dy, c⟩ := g2_parts (t := t) (b := b) (.inr (by omega))
  have gp : 0 < g2 t b := g2_pos (by omega)
  unfold norm
  rw [dx, dy]
  refine ⟨⟨?_, c⟩, hb, ?_⟩
  · show 0 < y
    have z : 0 < g2 t b * y := hy ▸ hb
    exact (by
      rcases Int.lt_trichotomy 0 y with h | h | h
      · exact h
      · rw [← h, Int.mul_zero] at z; omega
      · have := Int.mul_neg_of_pos_of_neg gp h; omega)
  · show x * b = t * y
    have e1 : x * b = x * (g2 t b * y) := congrArg (x * ·) hy
    have e2 : t * y = (g2 t b * x) * y := congrArg (· * y) hx
    rw [e1, e2]; grind
theorem rep_self {r : Rt} (h : IsRat r) : Rep r r.1 r.2 := ⟨h, h.1, rfl⟩
theorem rat_eq {r s : Rt} (h : IsRat r) (k : IsRat s) (e : r.1 * s.2 = s.1 * r.2) : r = s := by
  obtain ⟨a, b⟩ := r
  obtain ⟨c, d⟩ := s
  obtain ⟨hb, h1⟩ := h
  obtain ⟨hd, k1⟩ := k
  dsimp only at *
  have en : a.natAbs * d.natAbs = c.natAbs * b.natAbs := by rw [← Int.natAbs_mul, ← Int.natAbs_mul, e]
  have bd : b.natAbs ∣ d.natAbs := by
    have : b.natAbs ∣ a.natAbs * d.natAbs := ⟨c.natAbs, by rw [en, Nat.mul_comm]⟩
    exact Nat.Coprime.dvd_of_dvd_mul_left (by rw [Nat.coprime_iff_gcd_eq_one, Nat.gcd_comm]; exact h1) this
  have db : d.natAbs ∣ b.natAbs := by
    have : d.natAbs ∣ c.natAbs * b.natAbs := ⟨a.natAbs, by rw [← en, Nat.mul_comm]⟩
    exact Nat.Coprime.dvd_of_dvd_mul_left (by rw [Nat.coprime_iff_gcd_eq_one, Nat.gcd_comm]; exact k1) this
  have e2 : b.natAbs = d.natAbs := Nat.dvd_antisymm bd db
  have e3 : b = d := by omega
  subst e3
  have e4 : a = c := Int.eq_of_mul_eq_mul_right (by omega) e
  rw [e4]
theorem rep_eq {r s : Rt} {t b t' b' : Int} (h : Rep r t b) (k : Rep s t' b') (e : t * b' = t' * b) : r = s := by
  obtain ⟨h1, hb, h2⟩ := h
  obtain ⟨k1, kb, k2⟩ := k
  refine rat_eq h1 k1 ?_
  have nz : b * b' ≠ 0 := by
    have : 0 < b * b' := Int.mul_pos hb kb
    omega
  refine Int.eq_of_mul_eq_mul_right nz ?_
  have e1 : r.1 * s.2 * (b * b') = (r.1 * b) * (s.2 * b') := by grind
  have e2 : s.1 * r.2 * (b * b') = (s.1 * b') * (r.2 * b) := by grind
  rw [e1, e2, h2, k2]
  have e3 : t * r.2 * (s.2 * b') = (t * b') * (r.2 * s.2) := by grind
  have e4 : t' * s.2 * (r.2 * b) = (t' * b) * (r.2 * s.2) := by grind
  rw [e3, e4, e]
theorem norm_of {r : Rt} {t b : Int} (h : Rep r t b) : norm t b = r := rep_eq (rep_norm h.2.1) h rfl
theorem norm_eq {t b t' b' : Int} (h : 0 < b) (k : 0 < b') (e : t * b' = t' * b) : norm t b = norm t' b' := rep_eq (rep_norm h) (rep_norm k) e
theorem norm_rat {t b : Int} (h : 0 < b) : IsRat (norm t b) := (rep_norm h).1
def radd (r s : Rt) : Rt := norm (r.1 * s.2 + s.1 * r.2) (r.2 * s.2)
def rneg (r : Rt) : Rt := (-r.1, r.2)
def rsub (r s : Rt) : Rt := norm (r.1 * s.2 - s.1 * r.2) (r.2 * s.2)
def rmul (r s : Rt) : Rt := norm (r.1 * s.1) (r.2 * s.2)
theorem rep_add {r s : Rt} {t b t' b' : Int} (h : Rep r t b) (k : Rep s t' b') : Rep (radd r s) (t * b' + t' * b) (b * b') := by
  obtain ⟨h1, hb, h2⟩ := h
  obtain ⟨k1, kb, k2⟩ := k
  have z := rep_norm (t := r.1 * s.2 + s.1 * r.2) (Int.mul_pos h1.1 k1.1)
  have pp : 0 < r.2 * s.2 := Int.mul_pos h1.1 k1.1
  refine ⟨z.1, Int.mul_pos hb kb, ?_⟩
  have nz : r.2 * s.2 ≠ 0 := by omega
  refine Int.eq_of_mul_eq_mul_right nz ?_
  have e := z.2.2
  show (norm (r.1 * s.2 + s.1 * r.2) (r.2 * s.2)).1 * (b * b') * (r.2 * s.2) = (t * b' + t' * b) * (norm (r.1 * s.2 + s.1 * r.2) (r.2 * s.2)).2 * (r.2 * s.2)
  generalize norm (r.1 * s.2 + s.1 * r.2) (r.2 * s.2) = n at e ⊢
  have e1 : n.1 * (b * b') * (r.2 * s.2) = (n.1 * (r.2 * s.2)) * (b * b') := by grind
  have e2 : (t * b' + t' * b) * n.2 * (r.2 * s.2) = ((t * r.2) * (s.2 * b') + (t' * s.2) * (r.2 * b)) * n.2 := by grind
  rw [e1, e2, e, ← h2, ← k2]; grind
theorem rep_neg {r : Rt} {t b : Int} (h : Rep r t b) : Rep (rneg r) (-t) b := by
  obtain ⟨⟨h0, h1⟩, hb, h2⟩ := h
  refine ⟨⟨h0, ?_⟩, hb, ?_⟩
  · show Nat.gcd (-r.1).natAbs r.2.natAbs = 1
    rw [Int.natAbs_neg]; exact h1
  · show -r.1 * b = -t * r.2
    rw [Int.neg_mul, Int.neg_mul, h2]
theorem rsub_eq (r s : Rt) : rsub r s = radd r (rneg s) := by
  unfold rsub radd rneg
  have : r.1 * s.2 - s.1 * r.2 = r.1 * s.2 + -s.1 * r.2 := by grind
  rw [this]
theorem rep_sub {r s : Rt} {t b t' b' : Int} (h : Rep r t b) (k : Rep s t' b') : Rep (rsub r s) (t * b' - t' * b) (b * b') := by
  rw [rsub_eq]
  have z := rep_add h (rep_neg k)
  have e : t * b' - t' * b = t * b' + -t' * b := by grind
  rw [e]; exact z
theorem rep_mul {r s : Rt} {t b t' b' : Int} (h : Rep r t b) (k : Rep s t' b') : Rep (rmul r s) (t * t') (b * b') := by
  obtain ⟨h1, hb, h2⟩ := h
  obtain ⟨k1, kb, k2⟩ := k
  have z := rep_norm (t := r.1 * s.1) (Int.mul_pos h1.1 k1.1)
  have pp : 0 < r.2 * s.2 := Int.mul_pos h1.1 k1.1
  refine ⟨z.1, Int.mul_pos hb kb, ?_⟩
  have nz : r.2 * s.2 ≠ 0 := by omega
  refine Int.eq_of_mul_eq_mul_right nz ?_
  have e := z.2.2
  show (norm (r.1 * s.1) (r.2 * s.2)).1 * (b * b') * (r.2 * s.2) = (t * t') * (norm (r.1 * s.1) (r.2 * s.2)).2 * (r.2 * s.2)
  generalize norm (r.1 * s.1) (r.2 * s.2) = n at e ⊢
  have e1 : n.1 * (b * b') * (r.2 * s.2) = (n.1 * (r.2 * s.2)) * (b * b') := by grind
  have e2 : (t * t') * n.2 * (r.2 * s.2) = ((t * r.2) * (t' * s.2)) * n.2 := by grind
  rw [e1, e2, e, ← h2, ← k2]; grind
/-! sizes -/
def Sz (n : Nat) (x : Int) : Prop := x.natAbs < 2 ^ n
theorem sz_mono {n m : Nat} {x : Int} (h : Sz n x) (k : n ≤ m) : Sz m x := Nat.lt_of_lt_of_le h (Nat.pow_le_pow_right (by decide) k)
theorem sz_neg {n : Nat} {x : Int} (h : Sz n x) : Sz n (-x) := by unfold Sz; rw [Int.natAbs_neg]; exact h
theorem sz_mul {n m : Nat} {x y : Int} (h : Sz n x) (k : Sz m y) : Sz (n + m) (x * y) := by
  unfold Sz
  rw [Int.natAbs_mul, Nat.pow_add]
  exact Nat.mul_lt_mul'' h k
theorem sz_add {n : Nat} {x y : Int} (h : Sz n x) (k : Sz n y) : Sz (n + 1) (x + y) := by
  unfold Sz at *
  have := Int.natAbs_add_le x y
  rw [Nat.pow_succ]; omega
theorem sz_sub {n : Nat} {x y : Int} (h : Sz n x) (k : Sz n y) : Sz (n + 1) (x - y) := by
  rw [Int.sub_eq_add_neg]; exact sz_add h (sz_neg k)
theorem sz_div {n : Nat} {t b : Int} (hb : t ≠ 0 ∨ b ≠ 0) (h : Sz n t) : Sz n (t / g2 t b) := by
  obtain ⟨x, y, hx, hy, dx, dy, c⟩ := g2_parts hb
  rw [dx]
  refine Nat.lt_of_le_of_lt ?_ h
  have e : t.natAbs = (g2 t b).natAbs * x.natAbs := by rw [← Int.natAbs_mul, ← hx]
  have gp : 0 < (g2 t b).natAbs := by
    rcases hb with z | z
    · have := g2_pos' (b := b) z; omega
    · have := g2_pos (t := t) z; omega
  rw [e]
  exact Nat.le_mul_of_pos_left _ gp
theorem sz_div' {n : Nat} {t b : Int} (hb : t ≠ 0 ∨ b ≠ 0) (h : Sz n b) : Sz n (b / g2 t b) := by
  obtain ⟨x, y, hx, hy, dx, dy, c⟩ := g2_parts hb
  rw [dy]
  refine Nat.lt_of_le_of_lt ?_ h
  have e : b.natAbs = (g2 t b).natAbs * y.natAbs := by rw [← Int.natAbs_mul, ← hy]
  have gp : 0 < (g2 t b).natAbs := by
    rcases hb with z | z
    · have := g2_pos' (b := b) z; omega
    · have := g2_pos (t := t) z; omega
  rw [e]
  exact Nat.le_mul_of_pos_left _ gp
theorem sz_g {n : Nat} {t b : Int} (hb : b ≠ 0) (h : Sz n b) : Sz n (g2 t b) := by
  refine Nat.lt_of_le_of_lt ?_ h
  unfold g2
  rw [Int.natAbs_natCast]
  exact Nat.gcd_le_right _ (by omega)
def SzR (n : Nat) (r : Rt) : Prop := Sz n r.1 ∧ Sz n r.2
theorem szr_mono {n m : Nat} {r : Rt} (h : SzR n r) (k : n ≤ m) : SzR m r := ⟨sz_mono h.1 k, sz_mono h.2 k⟩
theorem szr_norm {n : Nat} {t b : Int} (hb : 0 < b) (h : Sz n t) (k : Sz n b) : SzR n (norm t b) := ⟨sz_div (.inr (by omega)) h, sz_div' (.inr (by omega)) k⟩
theorem szr_add {n m : Nat} {r s : Rt} (hr : IsRat r) (hs : IsRat s) (h : SzR n r) (k : SzR m s) : SzR (n + m + 1) (radd r s) :=
  szr_norm (Int.mul_pos hr.1 hs.1) (sz_add (sz_mul h.1 k.2) (by rw [Nat.add_comm]; exact sz_mul k.1 h.2)) (sz_mono (sz_mul h.2 k.2) (Nat.le_succ _))
theorem szr_neg {n : Nat} {r : Rt} (h : SzR n r) : SzR n (rneg r) := ⟨sz_neg h.1, h.2⟩
theorem rat_neg {r : Rt} (h : IsRat r) : IsRat (rneg r) := ⟨h.1, by show Nat.gcd (-r.1).natAbs r.2.natAbs = 1; rw [Int.natAbs_neg]; exact h.2⟩
theorem szr_sub {n m : Nat} {r s : Rt} (hr : IsRat r) (hs : IsRat s) (h : SzR n r) (k : SzR m s) : SzR (n + m + 1) (rsub r s) := by
  rw [rsub_eq]; exact szr_add hr (rat_neg hs) h (szr_neg k)
theorem szr_mul {n m : Nat} {r s : Rt} (hr : IsRat r) (hs : IsRat s) (h : SzR n r) (k : SzR m s) : SzR (n + m) (rmul r s) :=
  szr_norm (Int.mul_pos hr.1 hs.1) (sz_mul h.1 k.1) (sz_mul h.2 k.2)
theorem rat_add {r s : Rt} (hr : IsRat r) (hs : IsRat s) : IsRat (radd r s) := norm_rat (Int.mul_pos hr.1 hs.1)
theorem rat_sub {r s : Rt} (hr : IsRat r) (hs : IsRat s) : IsRat (rsub r s) := norm_rat (Int.mul_pos hr.1 hs.1)
theorem rat_mul {r s : Rt} (hr : IsRat r) (hs : IsRat s) : IsRat (rmul r s) := norm_rat (Int.mul_pos hr.1 hs.1)
theorem rat_zero : IsRat (0, 1) := ⟨by decide, by decide⟩
theorem rat_one : IsRat (1, 1) := ⟨by decide, by decide⟩
end RM
set_option Elab.async false
set_option linter.all false
set_option maxRecDepth 100000
set_option maxHeartbeats 4000000
/-! data that does not change: what is known of it stays; defs by their names -/
namespace PB
open PySem PySem.Spec PyProof.Rows L2 FX RM
theorem same_t {K : PySem.W.Frag} {H H' : Hp} {a : Addr} {xs : List V} (s : Same H H') (h : SqT K H a xs) : SqT K H' a xs := by
  rcases h with (h | ⟨o, h⟩) | h
  · exact .inl (.inl (s _ _ h))
  · exact .inl (.inr ⟨o, s _ _ h⟩)
  · exact .inr h
mutual
theorem Dp_same {K : PySem.W.Frag} {H H' : Hp} (s : Same H H') : ∀ {v : V} {d : PyData}, Dp K H v d → Dp K H' v d
  | _, _, .non => .non
  | _, _, .bl b => .bl b
  | _, _, .int i => .int i
  | _, _, .str x => .str x
  | _, _, .lst h g => .lst (s.seq h) (DpAll_same s g)
  | _, _, .tup h g => .tup (same_t s h) (DpAll_same s g)
theorem DpAll_same {K : PySem.W.Frag} {H H' : Hp} (s : Same H H') : ∀ {vs : List V} {ds : List PyData}, DpAll K H vs ds → DpAll K H' vs ds
  | _, _, .nil => .nil
  | _, _, .cons h g => .cons (Dp_same s h) (DpAll_same s g)
end
theorem same_new {H : Hp} {p : Addr} {o : HO} (h : H p = none) : Same H (upd H p o) := fun b x e => by
  rw [upd_ne (ne_of_none e h)]; exact e
def rD (r : Rt) : PyData := .tuple [.int r.1, .int r.2]
def pD (p : Rt × Rt) : PyData := .tuple [rD p.1, rD p.2]
def plD (p : Rt × Rt) : PyData := .list [rD p.1, rD p.2]
section
variable {K : PySem.W.Frag} {H H' : Hp} {v : V}
theorem dp_int {i : Int} (h : Dp K H v (.int i)) : v = .int i := by cases h; rfl
theorem dpa2 {vs : List V} {a b : PyData} (h : DpAll K H vs [a, b]) : ∃ x y, vs = [x, y] ∧ Dp K H x a ∧ Dp K H y b := by
  cases h with
  | cons h1 h => cases h with
    | cons h2 h => cases h with
      | nil => exact ⟨_, _, rfl, h1, h2⟩
theorem dp_t2 {a b : PyData} (h : Dp K H v (.tuple [a, b])) : ∃ p x y, v = .ref p ∧ SqT K H p [x, y] ∧ Dp K H x a ∧ Dp K H y b := by
  cases h with
  | tup h g =>
    obtain ⟨x, y, rfl, h1, h2⟩ := dpa2 g
    exact ⟨_, x, y, rfl, h, h1, h2⟩
theorem dp_l2 {a b : PyData} (h : Dp K H v (.list [a, b])) : ∃ p x y, v = .ref p ∧ SqL K H p [x, y] ∧ Dp K H x a ∧ Dp K H y b := by
  cases h with
  | lst h g =>
    obtain ⟨x, y, rfl, h1, h2⟩ := dpa2 g
    exact ⟨_, x, y, rfl, h, h1, h2⟩
theorem dp_r {r : Rt} (h : Dp K H v (rD r)) : ∃ p, v = .ref p ∧ SqT K H p [.int r.1, .int r.2] := by
  obtain ⟨p, x, y, rfl, hs, h1, h2⟩ := dp_t2 h
  rw [dp_int h1, dp_int h2] at hs
  exact ⟨p, rfl, hs⟩
theorem dp_mk2 {p : Addr} {x y : V} {a b : PyData} (hn : H p = none) (h1 : Dp K H x a) (h2 : Dp K H y b) : Dp K (upd H p (.tup [x, y])) (.ref p) (.tuple [a, b]) :=
  .tup (.inl (.inl upd_same)) (.cons (Dp_same (same_new hn) h1) (.cons (Dp_same (same_new hn) h2) .nil))
theorem dp_mkr {p : Addr} {a b : Int} (hn : H p = none) : Dp K (upd H p (.tup [.int a, .int b])) (.ref p) (rD (a, b)) := dp_mk2 hn (.int a) (.int b)
/-- a couple, a list or a tuple -/
def Cou (K : PySem.W.Frag) (H : Hp) (v : V) (x y : V) : Prop := ∃ p, v = .ref p ∧ (SqT K H p [x, y] ∨ SqL K H p [x, y])
theorem Cou.same {x y : V} (h : Cou K H v x y) (s : Same H H') : Cou K H' v x y := by
  obtain ⟨p, e, h | h⟩ := h
  · exact ⟨p, e, .inl (same_t s h)⟩
  · exact ⟨p, e, .inr (s.seq h)⟩
/-- a place or a step -/
def Pla (K : PySem.W.Frag) (H : Hp) (v : V) (p : Rt × Rt) : Prop := ∃ x y, Cou K H v x y ∧ Dp K H x (rD p.1) ∧ Dp K H y (rD p.2)
theorem Pla.same {p : Rt × Rt} (h : Pla K H v p) (s : Same H H') : Pla K H' v p := by
  obtain ⟨x, y, c, h1, h2⟩ := h
  exact ⟨x, y, c.same s, Dp_same s h1, Dp_same s h2⟩
theorem pla_t {p : Rt × Rt} (h : Dp K H v (pD p)) : Pla K H v p := by
  obtain ⟨a, x, y, rfl, hs, h1, h2⟩ := dp_t2 h
  exact ⟨x, y, ⟨a, rfl, .inl hs⟩, h1, h2⟩
theorem pla_l {p : Rt × Rt} (h : Dp K H v (plD p)) : Pla K H v p := by
  obtain ⟨a, x, y, rfl, hs, h1, h2⟩ := dp_l2 h
  exact ⟨x, y, ⟨a, rfl, .inr hs⟩, h1, h2⟩
/-- a direction -/
def Dir (K : PySem.W.Frag) (H : Hp) (v : V) (d : Int × Int) : Prop := Cou K H v (.int d.1) (.int d.2)
theorem dir_t {d : Int × Int} (h : Dp K H v (rD d)) : Dir K H v d := by
  obtain ⟨p, rfl, hs⟩ := dp_r h
  exact ⟨p, rfl, .inl hs⟩
end
/-! items and couples taken apart -/
section
variable {X : Cx}
/-- c[i] of a couple, a list or a tuple -/
def rIt (K : PySem.W.Frag) : L2.R2 := fun v y H Q => ∃ (x0 x1 : V) (i : Nat) (z : V), y = .int i ∧ Cou K H v x0 x1 ∧ [x0, x1][i]? = some z ∧ Q z H
theorem ix_it : IxR X (rIt X.K) := by
  intro value slice pins s σ H x y v u Q I rx ry h hs
  obtain ⟨x0, x1, i, z, rfl, ⟨p, rfl, c | c⟩, e, q⟩ := h
  · exact ix_tup value slice pins s σ H _ _ v u Q I rx ry ⟨p, _, _, _, rfl, rfl, c, atI_nat e, q⟩ hs
  · exact ix_list value slice pins s σ H _ _ v u Q I rx ry ⟨p, _, _, _, rfl, rfl, c, atI_nat e, q⟩ hs
theorem ix_itK (K : PySem.W.Frag) (e : X.K = K := by rfl) : IxR X (rIt K) := e ▸ ix_it
/-- x, y = c -/
def gCou (K : PySem.W.Frag) (t : TGs) : TG := fun v σ H Q => ∃ x y, Cou K H v x y ∧ t [x, y] σ H Q
theorem pg_cou {a b : Expr} {k : Nat} {t : TGs} {pos : Pos} (hc : X.calm = true) (h : PGs X [a, b] t) (hn : (assignEach [a, b] X.env).length = 2 := by rfl) (hst : (assignEach [a, b] X.env).findIdx? (·.1) = none := by rfl) : PG X (.Tuple [a, b] k pos) (gCou X.K t) := by
  have h1 := pg_tup (k := k) (pos := pos) hc h hn hst
  have h2 := pg_unl (k := k) (pos := pos) hc h hn hst
  refine ⟨fun pins s σ H v u Q I r q => ?_⟩
  obtain ⟨x, y, ⟨p, rfl, c | c⟩, q⟩ := q
  · exact h1.run pins s σ H _ u Q I r ⟨p, _, rfl, c, rfl, q⟩
  · exact h2.run pins s σ H _ u Q I r ⟨p, _, rfl, c, rfl, q⟩
end
/-! comprehensions over a list or a tuple -/
mutual
def noL : PyData → Bool
  | .list _ => false
  | .dict _ => false
  | .tuple xs => noLs xs
  | .none => true
  | .bool _ => true
  | .int _ => true
  | .str _ => true
def noLs : List PyData → Bool
  | [] => true
  | x :: xs => noL x && noLs xs
end
mutual
theorem Dp_but {K : PySem.W.Frag} {H H' : Hp} {p : Addr} {ys : List V} (hp : H p = some (.lst ys)) (s : ∀ b o, b ≠ p → H b = some o → H' b = some o) : ∀ {v : V} {d : PyData}, noL d = true → Dp K H v d → Dp K H' v d
  | _, _, _, .non => .non
  | _, _, _, .bl b => .bl b
  | _, _, _, .int i => .int i
  | _, _, _, .str x => .str x
  | _, _, n, .lst _ _ => by simp [noL] at n
  | _, _, n, .tup (a := a) h g => by
    have n2 := n
    simp only [noL] at n2
    refine .tup ?_ (DpAll_but hp s n2 g)
    rcases h with (h | ⟨o, h⟩) | h
    · exact .inl (.inl (s _ _ (fun e => by rw [e, hp] at h; cases h) h))
    · exact .inl (.inr ⟨o, s _ _ (fun e => by rw [e, hp] at h; cases h) h⟩)
    · exact .inr h
theorem DpAll_but {K : PySem.W.Frag} {H H' : Hp} {p : Addr} {ys : List V} (hp : H p = some (.lst ys)) (s : ∀ b o, b ≠ p → H b = some o → H' b = some o) : ∀ {vs : List V} {ds : List PyData}, noLs ds = true → DpAll K H vs ds → DpAll K H' vs ds
  | _, _, _, .nil => .nil
  | _, _, n, .cons h g => by
    have n2 := n
    simp only [noLs, Bool.and_eq_true] at n2
    exact .cons (Dp_but hp s n2.1 h) (DpAll_but hp s n2.2 g)
end
theorem noLs_all : ∀ {ds : List PyData}, (∀ d ∈ ds, noL d = true) → noLs ds = true
  | [], _ => by simp [noLs]
  | d :: ds, h => by simp [noLs, h d (List.mem_cons_self ..), noLs_all fun x hx => h x (List.mem_cons_of_mem _ hx)]
theorem DpAll_snoc {K : PySem.W.Frag} {H : Hp} {v : V} {d : PyData} (h : Dp K H v d) : ∀ {vs : List V} {ds : List PyData}, DpAll K H vs ds → DpAll K H (vs ++ [v]) (ds ++ [d])
  | _, _, .nil => .cons h .nil
  | _, _, .cons a b => .cons a (DpAll_snoc h b)
theorem DpAll_len {K : PySem.W.Frag} {H : Hp} : ∀ {vs : List V} {ds : List PyData}, DpAll K H vs ds → vs.length = ds.length
  | _, _, .nil => rfl
  | _, _, .cons _ b => congrArg (· + 1) (DpAll_len b)
theorem DpAll_at {K : PySem.W.Frag} {H : Hp} : ∀ {vs : List V} {ds : List PyData} {i : Nat} {v : V}, DpAll K H vs ds → vs[i]? = some v → ∃ d, ds[i]? = some d ∧ Dp K H v d
  | _, _, _, _, .nil, e => by cases e
  | _, _, 0, _, .cons a _, e => by cases e; exact ⟨_, rfl, a⟩
  | _, _, i + 1, _, .cons _ b, e => DpAll_at (i := i) b e
theorem DpAll_at' {K : PySem.W.Frag} {H : Hp} : ∀ {vs : List V} {ds : List PyData} {i : Nat} {d : PyData}, DpAll K H vs ds → ds[i]? = some d → ∃ v, vs[i]? = some v ∧ Dp K H v d
  | _, _, _, _, .nil, e => by cases e
  | _, _, 0, _, .cons a _, e => by cases e; exact ⟨_, rfl, a⟩
  | _, _, i + 1, _, .cons _ b, e => DpAll_at' (i := i) b e
def iSeq (K : PySem.W.Frag) (tl : TE) : TI := fun σ H R => iList K tl σ H R ∨ iTup K tl σ H R
section
variable {X : Cx}
theorem pi_seq {tg l : Expr} {tl : TE} (hl : PE X l tl) : PI X tg l (iSeq X.K tl) := ⟨fun pins s σ H R I h => h.elim (fun z => (pi_list (tg := tg) hl).run pins s σ H R I z) fun z => (pi_tup (tg := tg) hl).run pins s σ H R I z⟩
end
/-- [e for x in seq], each e some data that holds no list -/
theorem lc_map {K : PySem.W.Frag} {a : Addr} {xs : List V} {j : Nat} {g : TG} {te : TE} {vs : List Nat} {σ : L2.St} {H : Hp} {Q : VK} (f : Nat → PyData) (hn : ∀ i, noL (f i) = true) (hj : σ[j]? = some (some (.ref a))) (h0 : SqL K H a xs ∨ SqT K H a xs) (hz : xs.length < sizeLine)
    (hs : ∀ i x H' (R : V → Hp → Prop), xs[i]? = some x → Same H H' → (∀ y H4, Same H' H4 → Dp K H4 y (f i) → R y H4) → g x (wipe σ vs) H' fun σ2 H2 => wipe σ2 vs = wipe σ vs ∧ te σ2 H2 R)
    (hd : ∀ D H' ys, Same H H' → H D = none → H' D = some (.lst ys) → DpAll K H' ys ((List.range xs.length).map f) → Q (.ref D) H') : tLc (iSeq K (tVar j)) g tYes te vs σ H Q := by
  have main : ∀ D, H D = none → ∃ Pv : Nat → Hp → Prop, Pv 0 (upd H D (.lst [])) ∧ (∀ i H', Pv i H' → Same H H') ∧ (∀ i x H', xs[i]? = some x → Pv i H' → g x (wipe σ vs) H' fun σ2 H2 => wipe σ2 vs = wipe σ vs ∧ tYes σ2 H2 fun b H3 =>
      if b = true then te σ2 H3 fun y H4 => ∃ acc, H4 D = some (.lst acc) ∧ acc.length < sizeLine ∧ Pv (i + 1) (upd H4 D (.lst (acc ++ [y]))) else Pv (i + 1) H3) ∧ (∀ H', Pv xs.length H' → Q (.ref D) H') := by
    intro D nD
    refine ⟨fun i H' => Same H H' ∧ ∃ ys, H' D = some (.lst ys) ∧ ys.length = i ∧ DpAll K H' ys ((List.range i).map f), ⟨same_new nD, [], upd_same, rfl, .nil⟩, fun i H' h => h.1, ?_, ?_⟩
    · rintro i x H' hi ⟨s1, ys, hD, yl, hy⟩
      have il := (List.getElem?_eq_some_iff.mp hi).1
      refine hs i x H' _ hi s1 fun y H4 s4 h4 => ⟨ys, s4 _ _ hD, by omega, ?_, ys ++ [y], upd_same, by rw [List.length_append, yl]; rfl, ?_⟩
      · intro b o e
        rw [upd_ne (ne_of_none e nD)]; exact s4 _ _ (s1 _ _ e)
      · rw [List.range_succ, List.map_append]
        have sb : ∀ b o, b ≠ D → H4 b = some o → (upd H4 D (.lst (ys ++ [y]))) b = some o := fun b o n e => by rw [upd_ne n]; exact e
        refine DpAll_but (s4 _ _ hD) sb ?_ (DpAll_snoc h4 (DpAll_same s4 hy))
        refine noLs_all fun d hd => ?_
        rcases List.mem_append.mp hd with hd | hd
        · obtain ⟨k, _, rfl⟩ := List.mem_map.mp hd; exact hn k
        · rw [List.mem_singleton.mp hd]; exact hn i
    · rintro H' ⟨s1, ys, hD, yl, hy⟩
      exact hd D H' ys s1 nD hD hy
  rcases h0 with h0 | h0
  · refine .inl ⟨_, hj, a, rfl, ⟨_, h0⟩, fun D nD => ?_⟩
    obtain ⟨Pv, p0, p1, p2, p3⟩ := main D nD
    exact lc_list (K := K) (a := a) (xs := xs) Pv p0 (fun i H' _ h => (p1 i H' h).seq h0) p2 p3
  · refine .inr ⟨_, hj, a, rfl, ⟨_, h0⟩, fun D nD => ?_⟩
    obtain ⟨Pv, p0, p1, p2, p3⟩ := main D nD
    exact lc_tup (K := K) (a := a) (xs := xs) Pv p0 (fun i H' _ h => same_t (p1 i H' h) h0) p2 p3
/-! defs by their names -/
structure DefOk (P : Program) (w : World) (K : PySem.W.Frag) (mg : Str → Option Value) (base : Heap) (CX : CXT) (x : Str) (k : Nat) (ps : List Str) (sp : Sp) : Prop where
  ex : ∃ (f : Addr) (fd : FuncData), mg x = some (.ref f) ∧ PySem.W.keepIn K (.ref f) = true ∧ L2.Binds K fd ps [] ∧ FnOk P w K mg base CX k f fd ps sp
def Txt (K : PySem.W.Frag) (mg : Str → Option Value) (x : Str) (st : Stmt) : Prop := ∃ (f : Addr) (fd : FuncData), Fun K x x st f fd ∧ mg x = some (.ref f)
section
variable {X : Cx}
theorem pe_def {CX : CXT} {x : Str} {k : Nat} {ps : List Str} {sp : Sp} {e : Expr} {es : List Expr} {t : TA} {p pos : Pos} (D : DefOk X.prog X.w X.K X.mg X.base CX x k ps sp) (hr : Room k X.A) (hg : Gl X x) (ha : PA X (e :: es) t) (hx : Passes CX X E0 := by first | exact pass0 | exact passL)
    (hdb : (x == ("__debug__" : Str)) = false := by decide) (he : starEach (e :: es) X.env = (false, eval e X.env) :: starEach es X.env := by rfl) (hpl : (backTo pos (starEach es X.env)).any (·.1) = false := by rfl) :
    PE X (.Call (.Name x p) (e :: es) [] pos) (tCall sp [] E0 t) := by
  obtain ⟨f, fd, g, k, b, F⟩ := D.ex
  exact pe_call F hr hg g k b .nil hx ha hdb he hpl
end
end PB
set_option Elab.async false
set_option linter.all false
set_option maxRecDepth 100000
set_option maxHeartbeats 4000000
/-! sorted(..) and max(.., default=..) of rows of data -/
namespace KS
open PySem PySem.Spec PyProof.Rows L2 FX RM PB
open PySem.W (EachIs AllAlike Sortable dataLe AlikeAll)
theorem DpAll_lenK {K : PySem.W.Frag} {H : Hp} : ∀ {vs : List V} {ds : List PyData}, DpAll K H vs ds → vs.length = ds.length
  | _, _, .nil => rfl
  | _, _, .cons _ b => congrArg (· + 1) (DpAll_lenK b)
theorem each_zip {K : PySem.W.Frag} {H : Hp} : ∀ {xs : List V} {us : List Value} {ds : List PyData}, Vals xs us → DpAll K H xs ds → EachIs (fun (u : Value) (p : V × PyData) => L2.RelV p.1 u ∧ Dp K H p.1 p.2) us (xs.zip ds)
  | [], _, _, .nil, .nil => .nil
  | _ :: _, _, _, .cons a b, .cons c d => .cons ⟨a, c⟩ (each_zip b d)
theorem zip_snd {K : PySem.W.Frag} {H : Hp} : ∀ {xs : List V} {ds : List PyData}, DpAll K H xs ds → (xs.zip ds).map Prod.snd = ds
  | _, _, .nil => rfl
  | _, _, .cons _ d => by rw [List.zip_cons_cons, List.map_cons, zip_snd d]
theorem each_vals {K : PySem.W.Frag} {H : Hp} : ∀ {us : List Value} {ps : List (V × PyData)}, EachIs (fun (u : Value) (p : V × PyData) => L2.RelV p.1 u ∧ Dp K H p.1 p.2) us ps → Vals (ps.map Prod.fst) us ∧ DpAll K H (ps.map Prod.fst) (ps.map Prod.snd)
  | _, _, .nil => ⟨.nil, .nil⟩
  | _, _, .cons a b => ⟨.cons a.1 (each_vals b).1, .cons a.2 (each_vals b).2⟩
/-- sorted(xs), xs alike data -/
def rSortDat (K : PySem.W.Frag) : List V → Hp → VK → Prop := fun vs H Q => ∃ (a : Addr) (xs : List V) (ds : List PyData), vs = [V.ref a] ∧ SqL K H a xs ∧ DpAll K H xs ds ∧ AllAlike ds ∧ Sortable ds ∧ (∀ d ∈ ds, d.depth ≤ 60) ∧
  ∀ (ps : List (V × PyData)) (p : Addr), ps.Perm (xs.zip ds) → ps.Pairwise (fun x y => dataLe false Prod.snd x y = true) → H p = none → Q (.ref p) (upd H p (.lst (ps.map Prod.fst)))
section
variable {X : Cx}
theorem cr_sortDat (hu : X.A.units + 65 < cLine) : CallR X (.builtin "sorted") (rSortDat X.K) := by
  intro pins s σ H vs us Q I r h
  obtain ⟨a, xs, ds, rfl, hs, hA, hal, hk, hdp, q⟩ := h
  obtain ⟨its, rv, hl, hz⟩ := I.list hs
  rw [Vals.ref1 r]
  have e := each_zip rv hA
  have ln : (xs.zip ds).length = xs.length := by rw [List.length_zip, ← DpAll_lenK hA]; exact Nat.min_self _
  have er : EachIs (fun (v : Value) (b : V × PyData) => ∃ as, Reads s.heap v b.2 as) its (xs.zip ds) := e.mono fun u p hp => Dp.reads I p.2 p.1 u hp.2 hp.1
  have mp : (xs.zip ds).map Prod.snd = ds := zip_snd hA
  refine PySem.W.sorted_data (enc := Prod.snd) hl.isList e er (by rw [mp]; exact hal) (by rw [mp]; exact hk) (by rw [ln]; exact hz) (fun b hb => ?_) fun out ho eo => ?_
  · have : b.2 ∈ ds := by rw [← mp]; exact List.mem_map.mpr ⟨b, hb, rfl⟩
    have := hdp _ this
    omega
  · obtain ⟨vo, dd⟩ := each_vals eo
    obtain ⟨ep, he'⟩ := PyProof.Rows.sortedAll_at s.heap its out.toArray
    have pm : ((xs.zip ds).mergeSort (dataLe false Prod.snd)).Perm (xs.zip ds) := List.mergeSort_perm _ _
    have hlen : (((xs.zip ds).mergeSort (dataLe false Prod.snd)).map Prod.fst).length ≤ sizeLine := by
      rw [List.length_map, pm.length_eq, ln]; exact hz
    exact ⟨.ref _, upd H (s.heap.objs.size + 1) (.lst (((xs.zip ds).mergeSort (dataLe false Prod.snd)).map Prod.fst)), I.laid (t' := s.toks) (fun _ _ => PyProof.Rows.sortedAll_old) (Nat.le_succ _) ⟨hlen, out, ep, vo, he'⟩, rfl,
      q _ _ pm (PySem.W.sort_pairwise (PySem.W.sortLe_total _ _ _) _) (I.hok.fresh (Nat.le_succ _))⟩
/-- max(xs, default=d), xs ints -/
def rMaxDf (K : PySem.W.Frag) : List V → List V → Hp → VK → Prop := fun vs zs H Q => ∃ (a : Addr) (ns : List Int) (d : Int), vs = [V.ref a] ∧ zs = [V.int d] ∧ SqL K H a (ns.map V.int) ∧ ∀ m : Int, (ns = [] → m = d) → (ns ≠ [] → m ∈ ns ∧ ∀ y ∈ ns, y ≤ m) → Q (.int m) H
theorem fold_max : ∀ (ns : List Int) (n : Int), (ns.foldl max n = n ∨ ns.foldl max n ∈ ns) ∧ n ≤ ns.foldl max n ∧ ∀ y ∈ ns, y ≤ ns.foldl max n
  | [], n => ⟨.inl rfl, Int.le_refl _, fun _ h => nomatch h⟩
  | x :: ns, n => by
    obtain ⟨h1, h2, h3⟩ := fold_max ns (max n x)
    have hn : n ≤ max n x := Int.le_max_left ..
    have hx : x ≤ max n x := Int.le_max_right ..
    refine ⟨?_, Int.le_trans hn h2, fun y hy => ?_⟩
    · rcases h1 with h1 | h1
      · rw [List.foldl_cons, h1]
        by_cases c : n ≤ x
        · right; rw [Int.max_eq_right c]; exact List.mem_cons_self ..
        · left; exact Int.max_eq_left (by omega)
      · exact .inr (List.mem_cons_of_mem _ h1)
    · rcases List.mem_cons.mp hy with rfl | hy
      · exact Int.le_trans hx h2
      · exact h3 y hy
theorem dps_ints {K : PySem.W.Frag} {H : Hp} : ∀ ns : List Int, DpAll K H (ns.map V.int) (ns.map PyData.int)
  | [] => .nil
  | n :: ns => .cons (.int n) (dps_ints ns)
theorem alike_is (ns : List Int) : AlikeAll (ns.map PyData.int) := ⟨fun x hx y hy => by
  obtain ⟨a, _, rfl⟩ := List.mem_map.mp hx
  obtain ⟨b, _, rfl⟩ := List.mem_map.mp hy
  rfl, fun x hx => by
  obtain ⟨a, _, rfl⟩ := List.mem_map.mp hx
  intro e; cases e⟩
theorem cr_maxDf (hc : X.calm = true) (hu : X.A.units + 65 < cLine) : CallRK X (.builtin "max") [Str.ofString "default"] (rMaxDf X.K) := by
  intro pins s σ H vs zs us ws Q I r rz h
  obtain ⟨a, ns, d, rfl, rfl, hs, q⟩ := h
  obtain rfl := Vals.ref1 r
  obtain ⟨w1, rfl, t1, rfl⟩ := vals1 rz
  obtain ⟨its, rv, hl, hz⟩ := I.list hs
  obtain ⟨as, ra⟩ := Dp.readsAll I (ns.map PyData.int) (ns.map V.int) its (dps_ints ns) rv
  have dp : PyData.depthAll (ns.map PyData.int) = 0 := PySem.W.depth_ints ns
  refine PySem.W.max_list_default (I.ok.hd hc) hl.isList ra (alike_is ns) (by rw [dp]; omega) (fun e h' tk kp => ?_) fun y ys i v h' tk bs e hv rd kp => ?_
  · have e0 : ns = [] := List.map_eq_nil_iff.mp e
    exact ⟨.int d, H, I.kept kp, ⟨_, rfl⟩, q d (fun _ => rfl) (fun n => absurd e0 n)⟩
  · cases ns with
    | nil => cases e
    | cons n ns =>
      cases e
      rw [PySem.W.maxD_ints] at rd
      obtain ⟨t, rfl⟩ : ∃ t, v = Value.int (ns.foldl max n) t := by
        cases rd
        exact ⟨_, rfl⟩
      obtain ⟨h1, h2, h3⟩ := fold_max ns n
      refine ⟨.int (ns.foldl max n), H, I.kept kp, ⟨_, rfl⟩, q _ (fun z => by cases z) fun _ => ⟨?_, fun y hy => ?_⟩⟩
      · rcases h1 with h1 | h1
        · rw [h1]; exact List.mem_cons_self ..
        · exact List.mem_cons_of_mem _ h1
      · rcases List.mem_cons.mp hy with rfl | hy
        · exact h2
        · exact h3 y hy
end
end KS
set_option Elab.async false
set_option linter.all false
set_option maxRecDepth 100000
set_option maxHeartbeats 4000000
/-! dict comprehensions whose keys may be tuples; list(such a dict); membership in tuples of data -/
namespace KD
open PySem PySem.Spec PyProof.Rows L2 FX RM PB
section
variable {X : Cx}
theorem put_in {pins : List (Addr × Obj)} {τ : L2.St} {H G : Hp} {s : Shared} {E : Value → Shared → Prop} {D : Addr} {y z : V} {u r : Value} {R : Unit → Shared → Prop} (room : X.A.units < cLine) (I : Inv X pins τ H s) (g : DPut H D y z G) (ry : RelV y u) (rz : RelV z r)
    (k : ∀ t, Inv X pins τ G t → R () t) : wpAny (model X.prog X.w) X.A (dictSet D u r) R E s := by
  rcases g with ⟨kvs, c, e, rfl, l, rfl⟩ | ⟨kvs, c, b, e, rfl, eb, l, rfl⟩
  · exact d_dictSet I e l ry rz k
  · cases (show u = Value.ref b from ry)
    obtain ⟨big, nm, xs, rel, dh⟩ := dt_of I.hok e
    have lx : xs.length ≤ sizeLine := by rw [← Paired.length rel]; exact big
    have ln : (putK kvs c z).length ≤ sizeLine := by have := length_putK kvs c z; omega
    refine wpAny_dictSet_heap (hsz := lx) (knd := tupleKind (mixKind X.prog X.w)) (show X.A.units < cLine from room) (key_of I.hok eb) dh fun h2 dh2 same => k _ ?_
    obtain ⟨ob, es, ep, ho, hx, hd, hes, _, hn⟩ := dh2
    refine d_write I (by rw [e]; exact True.intro) same ⟨ob, ho⟩ ⟨ln, nm, _, (rel.put c eb rz).keeps fun b2 ys e2 => ?_, ob, es, ep, ho, hx, hd, hes, hn⟩
    rw [upd_ne (ne_of e2 e (fun w => nomatch w))]
    exact e2
/-- {k: v for target in walk}: D the new dict, W what holds before each turn -/
def tDP (wi : TI) (g : TG) (tk tv : TE) (own : List Nat) : TE := fun τ H Q => wi τ H fun J G => ∀ D, G D = none → ∃ W : Nat → Nat → Hp → Prop, (∃ m, W 0 m (upd G D (.dT []))) ∧ ∀ i m F, W i m F →
  (J.stop i F ∧ Q (.ref D) F) ∨ (J.go i F ∧ ∃ Nx : Hp → Prop, (∀ F', Nx F' → ∃ m', m' < m ∧ W (i + 1) m' F') ∧ ∀ x F', J.yld i F x F' → g x (wipe τ own) F' fun τ2 F2 => wipe τ2 own = wipe τ own ∧ tk τ2 F2 fun y F3 => tv τ2 F3 fun z F4 => ∃ F5, DPut F4 D y z F5 ∧ Nx F5)
theorem core {pins : List (Addr × Obj)} {s : Shared} {τ : L2.St} {H : Hp} {Q : VK} {kx vx tg it : Expr} {sc : Scope} {own : List (Str × Nat)} {pos pos' : Pos} {wi : TI} {g : TG} {tk tv : TE} {use : Option (Value → Sem Unit)} {Qf : Value → Shared → Prop}
    (room : X.A.units < cLine) (calm : X.calm = true) (nd : X.N.Nodup) (I : Inv X pins τ H s) (walk : PI X tg it wi) (blk : BlkOk X.N X.env.scope sc own)
    (pg : ∀ (s : Shared) (H : Hp) (C : Addr) (cl : List (Str × Addr)) (fp : List Addr), PG (X.blk s H sc (compEnvC sc cl C X.env) fp) tg g)
    (pk : ∀ (s : Shared) (H : Hp) (C : Addr) (cl : List (Str × Addr)) (fp : List Addr), PE (X.blk s H sc (compEnvC sc cl C X.env) fp) kx tk)
    (pv : ∀ (s : Shared) (H : Hp) (C : Addr) (cl : List (Str × Addr)) (fp : List Addr), PE (X.blk s H sc (compEnvC sc cl C X.env) fp) vx tv)
    (fold : ∀ x, foldedSetIterable it X.env x = pure x) (h : tDP wi g tk tv (own.map (·.2)) τ H Q)
    (back : ∀ D C t m G, Inv X pins τ G t → Q (.ref D) G → t.heap.Ns C m → FpOk X pins G C → compPost (model X.prog X.w) X.A X.xe use Qf (.ref D) C (.ok .next) t) :
    wpAny (model X.prog X.w) X.A (comprehension (.DictComp kx vx [⟨tg, it, [], 0⟩] sc pos) sc X.env pos' newDict false (eval it X.env) use) Qf X.xe s := by
  have cells : ∀ y ∈ sc.names, y.2 = .free → ∃ c, X.env.cells.lookup y.1 = some c := fun y m e => (blk.free y m e).elim (fun k => I.ok.has _ (.inl k)) fun k => I.ok.has _ (.inr k)
  refine wpAny_comprehension_free (use := use) rfl fold (closure_ok cells) blk.kind (fun y m e => by rw [blk.uniq y m, e]) (thn (walk.run pins s τ H _ I h) fun _ t1 hx => thn hx fun _ t2 ⟨it2, fp, tn, J, G, e, I2, T, stt, fpk, rest⟩ => ?_)
  subst e
  refine wpAny_newObj_type (newEnv_comp ?_)
  generalize hD : t2.heap.objs.size = D
  have free : G D = none := I2.hok.fresh (Nat.le_of_eq hD)
  obtain ⟨W, ⟨m0, w0⟩, turn⟩ := rest D free
  generalize ht3 : ({ t2 with heap := t2.heap.push { cls := .type "dict", data := .dict #[] } } : Shared) = t3
  have hp3 : t3.heap = t2.heap.push { cls := .type "dict", data := .dict #[] } := by rw [← ht3]
  have I3 : Inv X pins τ (upd G D (.dT [])) t3 := by
    rw [← ht3]
    refine I2.laid (t' := t2.toks) (fun _ _ e => Heap.get?_push_of_some _ e) (Nat.le_of_eq hD) ?_
    rw [← hD]
    exact dt_empty t2.heap I2.big
  have below : ∀ b ∈ fp, b < t2.heap.objs.size := fun b hb => by
    obtain ⟨_, e, _⟩ := T.obj _ _ stt b hb
    exact Heap.lt_size e
  have fp3 : ∀ b ∈ fp, FpOk X pins (upd G D (.dT [])) b ∧ b < t3.heap.objs.size := fun b hb => by
    have lt := below b hb
    exact ⟨⟨by rw [upd_ne (by rw [← hD]; exact Nat.ne_of_lt lt)]; exact (fpk b hb).1, (fpk b hb).2⟩, by rw [hp3, Heap.size_push]; exact Nat.lt_succ_of_lt lt⟩
  have stt3 : tn 0 t3.heap := T.keep _ _ _ stt fun b _ o e => by rw [hp3]; exact Heap.get?_push_of_some _ e
  have I4 := block_start I3 blk nd fp3
  have rg := pg t3 (upd G D (.dT [])) t3.heap.objs.size (cellsFrom (t3.heap.objs.size + 1) sc.names (cloFrom X.env.cells sc.names [])) fp
  have rk := pk t3 (upd G D (.dT [])) t3.heap.objs.size (cellsFrom (t3.heap.objs.size + 1) sc.names (cloFrom X.env.cells sc.names [])) fp
  have rv := pv t3 (upd G D (.dT [])) t3.heap.objs.size (cellsFrom (t3.heap.objs.size + 1) sc.names (cloFrom X.env.cells sc.names [])) fp
  show codeAny _ _ (.compStart (.DictComp kx vx [⟨tg, it, [], 0⟩] sc pos) 0 (.ref it2) (.ref D) (compEnvC sc (cellsFrom (t3.heap.objs.size + 1) sc.names (cloFrom X.env.cells sc.names [])) t3.heap.objs.size X.env)) (compPost (model X.prog X.w) X.A X.xe use Qf (.ref D) t3.heap.objs.size) { t3 with heap := pushCells (t3.heap.push { cls := .type "dict", data := .dict #[] }) sc.names }
  have hid : ∀ b ∈ fp, (upd G D (.dT [])) b = none := fun b hb => (fp3 b hb).1.1
  generalize hen : compEnvC sc (cellsFrom (t3.heap.objs.size + 1) sc.names (cloFrom X.env.cells sc.names [])) t3.heap.objs.size X.env = en at I4 rg rk rv ⊢
  have enl : en.locals = t3.heap.objs.size := by subst hen; rfl
  generalize hG3 : upd G D (.dT []) = G3 at I3 I4 rg rk rv w0 hid fp3
  generalize ht4 : ({ t3 with heap := pushCells (t3.heap.push { cls := .type "dict", data := .dict #[] }) sc.names } : Shared) = t4 at I4 ⊢
  have stt4 : tn 0 t4.heap := T.keep _ _ _ stt3 fun b _ o e => by rw [← ht4]; exact pushCells_keeps _ _ _ _ (Heap.get?_push_of_some _ e)
  have still : ∀ {τ' : L2.St} {F : Hp} {t : Shared}, Inv (X.blk t3 G3 sc en fp) [] τ' F t → (∀ b ∈ fp, F b = none) → ∀ b ∈ fp, FpOk (X.blk t3 G3 sc en fp) [] F b := fun {τ' F t} J hn b hb =>
    ⟨hn b hb, (J.ok.exf b hb).1, J.ok.exfs b hb, .inl hb, fun x c e => (J.ok.exf b hb).2 x c e, fun p hp => absurd (show p ∈ ([] : List (Addr × Obj)) ++ [] from hp) (by simp)⟩
  have loop : codeAny (model X.prog X.w) X.A (.compLoop (.DictComp kx vx [⟨tg, it, [], 0⟩] sc pos) 0 (.ref it2) (.ref D) en) (compPost (model X.prog X.w) X.A X.xe use Qf (.ref D) t3.heap.objs.size) t4 := by
    refine compLoop_anyD (fun n t => ∃ i F, Inv (X.blk t3 G3 sc en fp) [] (wipe τ (own.map (·.2))) F t ∧ tn i t.heap ∧ (∀ b ∈ fp, F b = none) ∧ W i n F) ?_ m0 ⟨0, G3, I4, stt4, hid, w0⟩
    rintro n t5 ⟨i, F5, I5, stt5, hid5, w5⟩
    rcases turn i n F5 w5 with ⟨stop, fin⟩ | ⟨go, Nx, next, step⟩
    · refine thnF (T.done (X.blk t3 G3 sc en fp) rfl rfl rfl calm i [] t5 _ F5 (fun _ _ => False) I5 (still I5 hid5) stt5 stop) fun r t6 ⟨hr, I6⟩ => ?_
      subst hr
      have I7 : Inv X pins τ F5 t6 := I3.call' (ch := fp) I6.os I6.base I6.hok I6.bare fun b hb => ⟨(fp3 b hb).1.2.2.2.1, (fp3 b hb).1.2.1, (fp3 b hb).1.2.2.2.2.1, (fp3 b hb).1.2.2.2.2.2⟩
      have nC : F5 t3.heap.objs.size = none := enl ▸ (show F5 en.locals = none from I6.free)
      obtain ⟨m, hn, _⟩ := I6.loc
      have hn : t6.heap.Ns en.locals m := hn
      exact back D t3.heap.objs.size t6 m F5 I7 fin (enl ▸ hn) (I3.fpOk (Nat.le_refl _) nC)
    · refine thnF (T.item (X.blk t3 G3 sc en fp) rfl rfl rfl calm i [] t5 _ F5 (fun _ _ => False) I5 (still I5 hid5) stt5 go) fun r t6 ⟨u, hr, h6⟩ => ?_
      subst hr
      refine thnF h6 fun _ t7 ⟨x, F7, I7, r7, y7, stt7, hid7⟩ => ?_
      have J7 := I7.pinned (still I7 hid7) (T.obj _ _ stt7)
      refine thnF (rg.run _ t7 _ F7 x u _ J7 r7 (step x F7 y7)) fun _ t8 ⟨τ8, F8, I8, wip, more⟩ => ?_
      refine thnF ((pts_nil (X := X.blk t3 G3 sc en fp)).run _ t8 τ8 F8 (fun b G => b = true ∧ tk τ8 G fun y F3 => tv τ8 F3 fun z F4 => ∃ F5, DPut F4 D y z F5 ∧ Nx F5) I8 ⟨rfl, more⟩) fun b t9 ⟨F9, I9, eb, more9⟩ => ?_
      subst eb
      have close : ∀ {t : Shared} {F : Hp}, Inv (X.blk t3 G3 sc en fp) ([] ++ pinsAt fp t7.heap) τ8 F t → Nx F → ∃ m, m < n ∧ ∃ i F, Inv (X.blk t3 G3 sc en fp) [] (wipe τ (own.map (·.2))) F t ∧ tn i t.heap ∧ (∀ b ∈ fp, F b = none) ∧ W i m F := fun {t F} J nx => by
        obtain ⟨m', lt, w'⟩ := next F nx
        have pin : ∀ b ∈ fp, ∀ o, t7.heap.get? b = some o → t.heap.get? b = some o ∧ F b = none := fun b hb o e =>
          let z := J.pin (b, o) (List.mem_append_right _ (List.mem_append_right _ (mem_pinsAt hb e)))
          ⟨z.1, z.2.1⟩
        refine ⟨m', lt, i + 1, F, (J.unpinned (pins := [])).weak (by rw [← wip, wipe_length]) (fun j v e => by rw [← wip] at e; exact (wipe_some e).1), T.keep _ _ _ stt7 fun b hb o e => (pin b hb o e).1, fun b hb => ?_, w'⟩
        obtain ⟨o, e, _⟩ := T.obj _ _ stt7 b hb
        exact (pin b hb o e).2
      simp only [if_true]
      refine thnF (rk.run _ t9 τ8 F9 _ I9 more9) fun _ t10 ⟨y, F10, I10, r10, more10⟩ => ?_
      refine thnF (rv.run _ t10 τ8 F10 _ I10 more10) fun _ t11 ⟨z, F11, I11, r11, F12, put, nx⟩ => ?_
      exact put_in (X := X.blk t3 G3 sc en fp) room I11 put r10 r11 fun t12 I12 => close I12 nx
  exact codeAny_compStart_dict loop (T.self X.A 0 _ _ _ stt4 loop)
theorem pe_dcT {kx vx tg it : Expr} {sc : Scope} {own : List (Str × Nat)} {pos : Pos} {wi : TI} {g : TG} {tk tv : TE} (room : X.A.units < cLine) (calm : X.calm = true) (nd : X.N.Nodup) (walk : PI X tg it wi) (blk : BlkOk X.N X.env.scope sc own)
    (pg : ∀ (s : Shared) (H : Hp) (C : Addr) (cl : List (Str × Addr)) (fp : List Addr), PG (X.blk s H sc (compEnvC sc cl C X.env) fp) tg g)
    (pk : ∀ (s : Shared) (H : Hp) (C : Addr) (cl : List (Str × Addr)) (fp : List Addr), PE (X.blk s H sc (compEnvC sc cl C X.env) fp) kx tk)
    (pv : ∀ (s : Shared) (H : Hp) (C : Addr) (cl : List (Str × Addr)) (fp : List Addr), PE (X.blk s H sc (compEnvC sc cl C X.env) fp) vx tv)
    (fold : ∀ x, foldedSetIterable it X.env x = pure x := by intro _; rfl) : PE X (.DictComp kx vx [⟨tg, it, [], 0⟩] sc pos) (tDP wi g tk tv (own.map (·.2))) := by
  refine ⟨fun pins s τ H Q I h => ?_⟩
  rw [arm_eval_DictComp]
  refine core room calm nd I walk blk pg pk pv fold h fun D C t m G J q hn f => ⟨m, hn, fun h2 sb => ?_⟩
  obtain ⟨f0, f1, f2, f3, f4, f5⟩ := f
  exact ⟨.ref D, G, J.turned (t' := t.toks) (fun b o hb e => (sb.2 b hb).trans e) f0 f1 f3 f4 f5, rfl, q⟩
theorem swD {kx vx : Expr} {gs : List Comprehension} {sc : Scope} {pos py : Pos} {y : Str} {l : Nat} {env : Env} (fn : env.scope.kind = .function) (loc : env.scope.names.lookup y = some .local) (row : (py.line == pos.line) = true)
    (un : (sc.names.any fun (n, k) => n == y && (k == .local || k == .cell)) = false) : swapsWith (.DictComp kx vx gs sc pos) (some (.Name y py)) l env = pure true := by
  have k1 : env.kindOf y = some .local := loc
  have k2 : env.blockKind = .function := by unfold Env.blockKind; rw [fn]; rfl
  unfold swapsWith
  simp only [k2, k1, un, Expr.pos, row]
  rfl
/-- name = {k: v for ..} on one row, the name a local -/
theorem ps_setDc {i : Nat} {y : Str} {py : Pos} {kx vx tg it : Expr} {sc : Scope} {own : List (Str × Nat)} {pos spos : Pos} {wi : TI} {g : TG} {tk tv : TE} (room : X.A.units < cLine) (calm : X.calm = true) (nd : X.N.Nodup) (at_ : X.N[i]? = some y) (loc : X.env.scope.names.lookup y = some .local)
    (sw : swapsWith (.DictComp kx vx [⟨tg, it, [], 0⟩] sc pos) (some (.Name y py)) spos.line X.env = pure true) (walk : PI X tg it wi) (blk : BlkOk X.N X.env.scope sc own)
    (pg : ∀ (s : Shared) (H : Hp) (C : Addr) (cl : List (Str × Addr)) (fp : List Addr), PG (X.blk s H sc (compEnvC sc cl C X.env) fp) tg g)
    (pk : ∀ (s : Shared) (H : Hp) (C : Addr) (cl : List (Str × Addr)) (fp : List Addr), PE (X.blk s H sc (compEnvC sc cl C X.env) fp) kx tk)
    (pv : ∀ (s : Shared) (H : Hp) (C : Addr) (cl : List (Str × Addr)) (fp : List Addr), PE (X.blk s H sc (compEnvC sc cl C X.env) fp) vx tv)
    (fold : ∀ x, foldedSetIterable it X.env x = pure x := by intro _; rfl) : PS X (.Assign [.Name y py] (.DictComp kx vx [⟨tg, it, [], 0⟩] sc pos) spos) (tAsg (tDP wi g tk tv (own.map (·.2))) (gName i)) := by
  refine ⟨fun pins s τ H D I h => ?_⟩
  rw [exec_Assign_Name_used _ _ _ _ sw]
  refine wpAny_bind (wpAny_standAt (wpAny_bind ?_))
  show wpAny _ X.A (do let _ ← comprehension (.DictComp kx vx [⟨tg, it, [], 0⟩] sc pos) sc X.env (firstIterPos [⟨tg, it, [], 0⟩] pos) newDict false (eval it X.env) (some (assign (.Name y py) X.env))) _ _ s
  have h2 : tDP wi g tk tv (own.map (·.2)) τ H (fun x G => gName i x τ G D.nx) := h
  refine wpAny_bind (thn (core (Qf := fun _ t => SP X pins D .next t) room calm nd I walk blk pg pk pv fold h2 fun L C t m G J q hn f => ?_) fun _ _ hq => wpAny_pure (wpAny_pure hq))
  show wpAny _ _ (assign (.Name y py) X.env (.ref L)) _ _ _
  obtain ⟨f0, f1, f2, f3, f4, f5⟩ := f
  refine wpAny_assign_Name (store_ok2 (v := V.ref L) J nd at_ (.inl loc) rfl (fun t2 J2 ⟨a, sb, ha⟩ => ?_) (.inr loc))
  have ne : C ≠ a := ha.elim (fun z => by rw [z]; exact f1) fun z e => f4 y a z e.symm
  exact ⟨m, hn.sameBut sb ne, fun h3 sb3 => ⟨_, G, J2.turned (t' := t2.toks) (fun b o hb e => (sb3.2 b hb).trans e) f0 f1 f3 f4 f5, q⟩⟩
/-- i ** j of wide numbers -/
def CPowW (i j : Int) : Prop := 0 ≤ j ∧ (Builtin.Int.intBits i : Int) * j ≤ 2 ^ 27
theorem op_powW : OpR X (binaryOp .Pow) (rI CPowW fun i j => .int (i ^ j.toNat)) := opI fun _ _ _ _ _ _ _ hc q => pow_int hc.1 hc.2 q
end
/-! what such a dict holds: unlike couples of whole numbers -/
abbrev Dn := Int × Int
def kd (d : Dn) : List L2.Key × V := ([.inl d.1, .inl d.2], .bl true)
def ins (us : List Dn) (d : Dn) : List Dn := if d ∈ us then us else us ++ [d]
def uq (ds : List Dn) : List Dn := ds.foldl ins []
theorem kd_inj {d e : Dn} (h : (kd d).1 = (kd e).1) : d = e := by
  have h := List.cons.inj h
  have h2 := List.cons.inj h.2
  exact Prod.ext (Sum.inl.inj h.1) (Sum.inl.inj h2.1)
theorem put_ins (us : List Dn) (d : Dn) : putK (us.map kd) (kd d).1 (.bl true) = (ins us d).map kd := by
  unfold putK ins
  by_cases m : d ∈ us
  · have a : ((us.map kd).any fun kv => decide (kv.1 = (kd d).1)) = true := List.any_eq_true.mpr ⟨kd d, List.mem_map.mpr ⟨d, m, rfl⟩, decide_eq_true rfl⟩
    rw [if_pos a, if_pos m, List.map_map]
    refine List.map_congr_left fun e _ => ?_
    show (if (kd e).1 = (kd d).1 then ((kd e).1, V.bl true) else kd e) = kd e
    split <;> rfl
  · have a : ¬ ((us.map kd).any fun kv => decide (kv.1 = (kd d).1)) = true := fun z => by
      obtain ⟨kv, h1, h2⟩ := List.any_eq_true.mp z
      obtain ⟨e, he, rfl⟩ := List.mem_map.mp h1
      exact m (kd_inj (of_decide_eq_true h2) ▸ he)
    rw [if_neg a, if_neg m, List.map_append]
    rfl
theorem uq_snoc (ds : List Dn) (d : Dn) : uq (ds ++ [d]) = ins (uq ds) d := by unfold uq; rw [List.foldl_append]; rfl
theorem ins_mem {us : List Dn} {d e : Dn} : e ∈ ins us d ↔ e ∈ us ∨ e = d := by
  unfold ins
  split
  · rename_i m
    exact ⟨.inl, fun h => h.elim id fun z => z ▸ m⟩
  · rw [List.mem_append, List.mem_singleton]
theorem ins_nodup {us : List Dn} {d : Dn} (h : us.Nodup) : (ins us d).Nodup := by
  unfold ins
  split
  · exact h
  · rename_i m
    exact List.nodup_append.mpr ⟨h, by simp, fun a ha b hb => by rw [List.mem_singleton.mp hb]; intro z; exact m (z ▸ ha)⟩
theorem fold_spec : ∀ (ds us : List Dn), us.Nodup → (ds.foldl ins us).Nodup ∧ (∀ e, e ∈ ds.foldl ins us ↔ e ∈ us ∨ e ∈ ds) ∧ (ds.foldl ins us).length ≤ us.length + ds.length
  | [], us, h => ⟨h, fun e => by simp, by simp⟩
  | d :: ds, us, h => by
    obtain ⟨a, b, c⟩ := fold_spec ds (ins us d) (ins_nodup h)
    refine ⟨a, fun e => ?_, ?_⟩
    · rw [List.foldl_cons, b, ins_mem, List.mem_cons, or_assoc]
    · have : (ins us d).length ≤ us.length + 1 := by
        unfold ins
        split
        · omega
        · rw [List.length_append]; exact Nat.le_refl _
      rw [List.foldl_cons, List.length_cons]
      omega
theorem uq_nodup (ds : List Dn) : (uq ds).Nodup := (fold_spec ds [] List.nodup_nil).1
theorem uq_mem {ds : List Dn} {e : Dn} : e ∈ uq ds ↔ e ∈ ds := by rw [show uq ds = ds.foldl ins [] from rfl, (fold_spec ds [] List.nodup_nil).2.1]; simp
theorem uq_len (ds : List Dn) : (uq ds).length ≤ ds.length := by have := (fold_spec ds [] List.nodup_nil).2.2; rw [show uq ds = ds.foldl ins [] from rfl]; simpa using this
/-- the walk over a list or a tuple of couples -/
theorem dc_seq {K : PySem.W.Frag} {a : Addr} {xs : List V} {j : Nat} {g : TG} {tk tv : TE} {own : List Nat} {τ : L2.St} {H : Hp} {Q : VK} (ds : List Dn) (hj : τ[j]? = some (some (.ref a))) (h0 : SqL K H a xs ∨ SqT K H a xs) (hl : ds.length = xs.length) (hz : xs.length < sizeLine)
    (hs : ∀ (i : Nat) (x : V) (F : Hp) (R : V → V → Hp → Prop) (d : Dn), xs[i]? = some x → ds[i]? = some d → Same H F → (∀ p, F p = none → R (.ref p) (.bl true) (upd F p (.tup [.int d.1, .int d.2]))) → g x (wipe τ own) F fun τ2 F2 => wipe τ2 own = wipe τ own ∧ tk τ2 F2 fun y F3 => tv τ2 F3 fun z F4 => R y z F4)
    (hd : ∀ D F, Same H F → F D = some (.dT ((uq ds).map kd)) → Q (.ref D) F) : tDP (iSeq K (tVar j)) g tk tv own τ H Q := by
  have turnD : ∀ (D : Addr) (i : Nat) (F : Hp) (x : V), H D = none → xs[i]? = some x → (Same H F ∧ F D = some (.dT ((uq (ds.take i)).map kd))) →
      g x (wipe τ own) F fun τ2 F2 => wipe τ2 own = wipe τ own ∧ tk τ2 F2 fun y F3 => tv τ2 F3 fun z F4 => ∃ F5, DPut F4 D y z F5 ∧ (Same H F5 ∧ F5 D = some (.dT ((uq (ds.take (i + 1))).map kd))) := by
    rintro D i F x nD ex ⟨sF, eD⟩
    have il : i < ds.length := by rw [hl]; exact (List.getElem?_eq_some_iff.mp ex).1
    refine hs i x F _ ds[i] ex (List.getElem?_eq_getElem il) sF fun p np => ?_
    have ne : D ≠ p := ne_of_none eD np
    refine ⟨_, DPut.t (k := (kd ds[i]).1) (kvs := (uq (ds.take i)).map kd) (by rw [upd_ne ne]; exact eD) upd_same ?_, fun b o e => ?_, ?_⟩
    · rw [List.length_map]
      have := uq_len (ds.take i)
      rw [List.length_take] at this
      omega
    · have bD : b ≠ D := ne_of_none e nD
      rw [upd_ne bD]
      exact PB.same_new np _ _ (sF _ _ e)
    · rw [upd_same, put_ins, List.take_succ_eq_append_getElem il, uq_snoc]
  have mk : ∀ (D : Addr) (nD : H D = none), (Same H (upd H D (.dT []))) ∧ (upd H D (.dT [])) D = some (.dT ((uq (ds.take 0)).map kd)) := fun D nD => ⟨PB.same_new nD, by rw [upd_same]; rfl⟩
  have fin : ∀ D F, (Same H F ∧ F D = some (.dT ((uq (ds.take xs.length)).map kd))) → Q (.ref D) F := fun D F h => hd D F h.1 (by rw [h.2, ← hl, List.take_length])
  rcases h0 with h0 | h0
  · refine .inl ⟨_, hj, a, rfl, ⟨_, h0⟩, fun D nD => ⟨fun i m F => m = xs.length - i ∧ i ≤ xs.length ∧ (Same H F ∧ F D = some (.dT ((uq (ds.take i)).map kd))), ⟨_, rfl, Nat.zero_le _, mk D nD⟩, ?_⟩⟩
    rintro i m F ⟨rfl, hi, p⟩
    have sq := p.1.seq h0
    by_cases lt : i < xs.length
    · exact .inr ⟨⟨xs, xs[i], sq, List.getElem?_eq_getElem lt⟩, _, fun F' p' => ⟨xs.length - (i + 1), by omega, rfl, lt, p'⟩, fun x F' y => by
        obtain ⟨rfl, y⟩ := y
        exact turnD D i _ x nD (y xs sq) p⟩
    · obtain rfl : i = xs.length := by omega
      exact .inl ⟨⟨xs, sq, Nat.le_refl _⟩, fin D F p⟩
  · refine .inr ⟨_, hj, a, rfl, ⟨_, h0⟩, fun D nD => ⟨fun i m F => m = xs.length - i ∧ i ≤ xs.length ∧ (Same H F ∧ F D = some (.dT ((uq (ds.take i)).map kd))), ⟨_, rfl, Nat.zero_le _, mk D nD⟩, ?_⟩⟩
    rintro i m F ⟨rfl, hi, p⟩
    have sq := PB.same_t p.1 h0
    by_cases lt : i < xs.length
    · exact .inr ⟨⟨xs, xs[i], sq, List.getElem?_eq_getElem lt⟩, _, fun F' p' => ⟨xs.length - (i + 1), by omega, rfl, lt, p'⟩, fun x F' y => by
        obtain ⟨rfl, y⟩ := y
        exact turnD D i _ x nD (y xs sq) p⟩
    · obtain rfl : i = xs.length := by omega
      exact .inl ⟨⟨xs, sq, Nat.le_refl _⟩, fin D F p⟩
/-- the keys of such a dict in a list -/
theorem keys_dp {K : PySem.W.Frag} {H : Hp} : ∀ {us : List Dn} {bs : List Addr}, IsKeys H (us.map kd) bs → DpAll K H (bs.map V.ref) (us.map rD)
  | [], _, .nil => .nil
  | _ :: _, _, .cons a b => .cons (.tup (.inl (.inl a)) (.cons (.int _) (.cons (.int _) .nil))) (keys_dp b)
/-- x not in t, a tuple of data -/
def rNotInT (K : PySem.W.Frag) : L2.R2 := fun x y H Q => ∃ d ds, Dp K H x d ∧ Dp K H y (.tuple ds) ∧ SeqAt.shaped d = true ∧ SeqAt.shaped (.tuple ds) = true ∧ Q (.bl (!ds.any fun z => PyData.eqv z d)) H
section
variable {X : Cx}
theorem op_notInT (hu : X.A.units + 65 < cLine) : OpR X (compareOp .NotIn) (rNotInT X.K) := by
  rintro pins s τ H x y v u Q I rx ry ⟨d, ds, hd, he, sd, se, q⟩
  obtain ⟨as, r1⟩ := Dp.reads I d x v hd rx
  obtain ⟨bs, r2⟩ := Dp.reads I (.tuple ds) y u he ry
  exact SeqAt.notIn_tuple_reads r2 r1 (SeqAt.canLay_of_shaped se) (SeqAt.canLay_of_shaped sd) (room_in_shaped sd hu) ⟨.bl _, H, I, rfl, q⟩
/-- [e for x in l], l any expression that comes to a list, each e some data that holds no list -/
theorem lc_mapG {K : PySem.W.Frag} {g : TG} {te tl : TE} {own : List Nat} {τ : L2.St} {H : Hp} {Q : VK} (facts : Addr → List V → Hp → Prop) (ht : ∀ R : VK, (∀ a xs F, facts a xs F → R (.ref a) F) → tl τ H R)
    (hk : ∀ a xs F, facts a xs F → SqL K F a xs ∧ xs.length < sizeLine ∧ ∃ f : Nat → PyData, (∀ i, noL (f i) = true) ∧
      (∀ i x F' (R' : V → Hp → Prop), xs[i]? = some x → Same F F' → (∀ y F4, Same F' F4 → Dp K F4 y (f i) → R' y F4) → g x (wipe τ own) F' fun τ2 F2 => wipe τ2 own = wipe τ own ∧ te τ2 F2 R') ∧
      (∀ D F' ys, Same F F' → F D = none → F' D = some (.lst ys) → DpAll K F' ys ((List.range xs.length).map f) → Q (.ref D) F')) : tLc (iSeq K tl) g tYes te own τ H Q := by
  refine .inl (ht _ fun a xs F hf => ?_)
  obtain ⟨h0, hz, f, hn, hs, hd⟩ := hk a xs F hf
  refine ⟨a, rfl, ⟨_, h0⟩, fun D nD => ?_⟩
  refine lc_list (K := K) (a := a) (xs := xs) (fun i F' => Same F F' ∧ ∃ ys, F' D = some (.lst ys) ∧ ys.length = i ∧ DpAll K F' ys ((List.range i).map f)) ⟨PB.same_new nD, [], upd_same, rfl, .nil⟩ (fun i F' _ h => h.1.seq h0) ?_ ?_
  · rintro i x F' hi ⟨s1, ys, eD, yl, hy⟩
    have il := (List.getElem?_eq_some_iff.mp hi).1
    refine hs i x F' _ hi s1 fun y F4 s4 h4 => ⟨ys, s4 _ _ eD, by omega, ?_, ys ++ [y], upd_same, by rw [List.length_append, yl]; rfl, ?_⟩
    · intro b o e
      rw [upd_ne (ne_of_none e nD)]; exact s4 _ _ (s1 _ _ e)
    · rw [List.range_succ, List.map_append]
      refine DpAll_but (s4 _ _ eD) (fun b o n e => by rw [upd_ne n]; exact e) ?_ (DpAll_snoc h4 (DpAll_same s4 hy))
      refine noLs_all fun d hd => ?_
      rcases List.mem_append.mp hd with hd | hd
      · obtain ⟨k, _, rfl⟩ := List.mem_map.mp hd; exact hn k
      · rw [List.mem_singleton.mp hd]; exact hn i
  · rintro F' ⟨s1, ys, eD, yl, hy⟩
    exact hd D F' ys s1 nD eD hy
end
end KD
set_option Elab.async false
set_option linter.all false
set_option maxRecDepth 100000
set_option maxHeartbeats 4000000
namespace F3
open PySem PySem.Spec PyProof.Rows L2 FX RM PB
def topS (i : Nat) : Stmt := PySem.Challenge.pw_feltstone_k02_whole_directions_in_round.main.body.getD i (.Pass ⟨0, 0, 0, 0⟩)
theorem cou_r {K : PySem.W.Frag} {H : Hp} {v : V} {r : Rt} (h : Dp K H v (rD r)) : Cou K H v (.int r.1) (.int r.2) := dir_t h
theorem sz1 : Sz 2000 1 := by show (1 : Int).natAbs < 2 ^ 2000; exact Nat.one_lt_two_pow (by decide)
theorem g2_one (t : Int) : g2 t 1 = 1 := by unfold g2; show ((Nat.gcd t.natAbs 1 : Nat) : Int) = 1; rw [Nat.gcd_one_right]; rfl
theorem norm_one (t : Int) : norm t 1 = (t, 1) := by unfold norm; rw [g2_one]; simp
theorem radd_fast {r s : Rt} (hr : IsRat r) (e : r.2 = s.2) : norm (r.1 + s.1) r.2 = radd r s := by
  unfold radd
  refine norm_eq hr.1 (Int.mul_pos hr.1 (e ▸ hr.1)) ?_
  rw [← e]; grind
/-! promises: ratios -/
def spLow (K : PySem.W.Frag) : Sp := fun vs H Q _ => ∃ t b : Int, vs = [.int t, .int b] ∧ 0 < b ∧ Sz 8000 t ∧ Sz 8000 b ∧ ∀ H' v, Same H H' → Dp K H' v (rD (norm t b)) → Q v H'
def spBin (K : PySem.W.Frag) (o : Rt → Rt → Rt) : Sp := fun vs H Q _ => ∃ v u r s, vs = [v, u] ∧ Dp K H v (rD r) ∧ Dp K H u (rD s) ∧ IsRat r ∧ IsRat s ∧ SzR 2000 r ∧ SzR 2000 s ∧ ∀ H' z, Same H H' → Dp K H' z (rD (o r s)) → Q z H'
def spNeg (K : PySem.W.Frag) : Sp := fun vs H Q _ => ∃ v r, vs = [v] ∧ Dp K H v (rD r) ∧ ∀ H' z, Same H H' → Dp K H' z (rD (rneg r)) → Q z H'
/-- the first by a positive whole number -/
def spOver (K : PySem.W.Frag) : Sp := fun vs H Q _ => ∃ v u r n, vs = [v, u] ∧ Dp K H v (rD r) ∧ Dp K H u (rD (n, 1)) ∧ 0 < n ∧ IsRat r ∧ SzR 2000 r ∧ Sz 2000 n ∧ ∀ H' z, Same H H' → Dp K H' z (rD (rmul r (1, n))) → Q z H'
section
variable {P : Program} {w : World} {K : PySem.W.Frag} {mg : Str → Option Value} {base : Heap}
end
end F3
set_option Elab.async false
set_option linter.all false
set_option maxRecDepth 100000
set_option maxHeartbeats 4000000
set_option exponentiation.threshold 3000
namespace F3
open PySem PySem.Spec PyProof.Rows L2 FX RM PB
theorem sz_gg {n : Nat} {x y : Int} (h : x ≠ 0 ∨ y ≠ 0) (a : Sz n x) (b : Sz n y) : Sz n (g2 x y) := by
  by_cases z : y = 0
  · have hx : x ≠ 0 := by
      rcases h with h | h
      · exact h
      · exact absurd z h
    refine Nat.lt_of_le_of_lt ?_ a
    unfold g2
    rw [Int.natAbs_natCast]
    exact Nat.gcd_le_left _ (by omega)
  · exact sz_g z b
theorem g2_posO {x y : Int} (h : x ≠ 0 ∨ y ≠ 0) : 0 < g2 x y := by
  rcases h with h | h
  · exact g2_pos' h
  · exact g2_pos h
/-! places: what is reckoned -/
abbrev Pl := Rt × Rt
def RatP (p : Pl) : Prop := IsRat p.1 ∧ IsRat p.2
def SzP (n : Nat) (p : Pl) : Prop := SzR n p.1 ∧ SzR n p.2
def rawA (d : Int × Int) (p : Pl) : Int × Int := (d.1 * p.1.1 * p.2.2 + d.2 * p.2.1 * p.1.2, p.1.2 * p.2.2)
def amt (d : Int × Int) (p : Pl) : Rt := norm (rawA d p).1 (rawA d p).2
def stepF (p s : Pl) : Pl := (rsub s.1 p.1, rsub s.2 p.2)
def byP (p s : Pl) : Pl := (radd p.1 s.1, radd p.2 s.2)
def growP (p : Pl) (z : Rt) : Pl := (rmul p.1 z, rmul p.2 z)
def wrow (p : Pl) : Int × Int × Int := if p.1.2 = p.2.2 then (p.1.1, p.2.1, p.1.2) else (p.1.1 * p.2.2, p.2.1 * p.1.2, p.1.2 * p.2.2)
def rawC (f g h : Int × Int × Int) : Int × Int := (f.2.2 * (g.1 * h.2.1 - g.2.1 * h.1) + g.2.2 * (h.1 * f.2.1 - h.2.1 * f.1) + h.2.2 * (f.1 * g.2.1 - f.2.1 * g.1), f.2.2 * g.2.2 * h.2.2)
def crossP (a b c : Pl) : Rt := norm (rawC (wrow a) (wrow b) (wrow c)).1 (rawC (wrow a) (wrow b) (wrow c)).2
def dirOf (p : Pl) : Int × Int := norm (p.1.1 * p.2.2) (p.2.1 * p.1.2)
def sumR (rs : List Rt) : Rt := rs.foldl radd (0, 1)
theorem szr_zero : SzR 1 ((0, 1) : Rt) := ⟨by show (0 : Int).natAbs < 2; decide, by show (1 : Int).natAbs < 2; decide⟩
theorem sumR_snoc (rs : List Rt) (r : Rt) : sumR (rs ++ [r]) = radd (sumR rs) r := by unfold sumR; rw [List.foldl_append]; rfl
theorem fold_ok {n : Nat} : ∀ (rs : List Rt) (s : Rt) (m : Nat), IsRat s → SzR m s → (∀ r ∈ rs, IsRat r ∧ SzR n r) → IsRat (rs.foldl radd s) ∧ SzR (m + rs.length * (n + 1)) (rs.foldl radd s)
  | [], s, m, h1, h2, _ => ⟨h1, szr_mono h2 (by omega)⟩
  | r :: rs, s, m, h1, h2, h => by
    obtain ⟨a, b⟩ := h r (List.mem_cons_self ..)
    obtain ⟨c, d⟩ := fold_ok rs (radd s r) (m + n + 1) (rat_add h1 a) (szr_add h1 a h2 b) (fun x hx => h x (List.mem_cons_of_mem _ hx))
    refine ⟨c, szr_mono d ?_⟩
    rw [List.length_cons, Nat.add_mul]; omega
theorem sum_ok {n : Nat} {rs : List Rt} (h : ∀ r ∈ rs, IsRat r ∧ SzR n r) : IsRat (sumR rs) ∧ SzR (1 + rs.length * (n + 1)) (sumR rs) := fold_ok rs (0, 1) 1 rat_zero szr_zero h
/-! promises: places -/
def spSum (K : PySem.W.Frag) : Sp := fun vs H Q _ => ∃ p xs rs, vs = [.ref p] ∧ SqL K H p xs ∧ DpAll K H xs (rs.map rD) ∧ rs.length ≤ 4 ∧ (∀ r ∈ rs, IsRat r ∧ SzR 300 r) ∧ ∀ H' z, Same H H' → Dp K H' z (rD (sumR rs)) → Q z H'
def spWd (K : PySem.W.Frag) : Sp := fun vs H Q _ => ∃ x y : Int, vs = [.int x, .int y] ∧ (x ≠ 0 ∨ y ≠ 0) ∧ Sz 8000 x ∧ Sz 8000 y ∧ ∀ H' z, Same H H' → Dp K H' z (rD (norm x y)) → Q z H'
def spDirOf (K : PySem.W.Frag) : Sp := fun vs H Q _ => ∃ v p, vs = [v] ∧ Pla K H v p ∧ RatP p ∧ SzP 2000 p ∧ (p.1.1 ≠ 0 ∨ p.2.1 ≠ 0) ∧ ∀ H' z, Same H H' → Dp K H' z (rD (dirOf p)) → Q z H'
def spRawA (K : PySem.W.Frag) (o : Int × Int → Pl → Int × Int) : Sp := fun vs H Q _ => ∃ v u d p, vs = [v, u] ∧ Dir K H v d ∧ Pla K H u p ∧ RatP p ∧ SzR 600 d ∧ SzP 600 p ∧ ∀ H' z, Same H H' → Dp K H' z (rD (o d p)) → Q z H'
def spPP (K : PySem.W.Frag) (n : Nat) (o : Pl → Pl → Pl) : Sp := fun vs H Q _ => ∃ v u p s, vs = [v, u] ∧ Pla K H v p ∧ Pla K H u s ∧ RatP p ∧ RatP s ∧ SzP n p ∧ SzP n s ∧ ∀ H' z, Same H H' → Dp K H' z (pD (o p s)) → Q z H'
def spGrow (K : PySem.W.Frag) : Sp := fun vs H Q _ => ∃ v u p s, vs = [v, u] ∧ Pla K H v p ∧ Dp K H u (rD s) ∧ RatP p ∧ IsRat s ∧ SzP 2000 p ∧ SzR 2000 s ∧ ∀ H' z, Same H H' → Dp K H' z (pD (growP p s)) → Q z H'
def spOn (K : PySem.W.Frag) : Sp := fun vs H Q _ => ∃ v u t p s r, vs = [v, u, t] ∧ Pla K H v p ∧ Pla K H u s ∧ Dp K H t (rD r) ∧ RatP p ∧ RatP s ∧ IsRat r ∧ SzP 600 p ∧ SzP 600 s ∧ SzR 600 r ∧ ∀ H' z, Same H H' → Dp K H' z (pD (byP p (growP (stepF p s) r))) → Q z H'
def tD (f : Int × Int × Int) : PyData := .tuple [.int f.1, .int f.2.1, .int f.2.2]
def spWrow (K : PySem.W.Frag) : Sp := fun vs H Q _ => ∃ v p, vs = [v] ∧ Pla K H v p ∧ RatP p ∧ SzP 600 p ∧ ∀ H' z, Same H H' → Dp K H' z (tD (wrow p)) → Q z H'
def spCross (K : PySem.W.Frag) (o : Pl → Pl → Pl → Rt) : Sp := fun vs H Q _ => ∃ v u t a b c, vs = [v, u, t] ∧ Pla K H v a ∧ Pla K H u b ∧ Pla K H t c ∧ RatP a ∧ RatP b ∧ RatP c ∧ SzP 600 a ∧ SzP 600 b ∧ SzP 600 c ∧ ∀ H' z, Same H H' → Dp K H' z (rD (o a b c)) → Q z H'
def spNormal (K : PySem.W.Frag) : Sp := fun vs H Q _ => ∃ v u p s, vs = [v, u] ∧ Pla K H v p ∧ Pla K H u s ∧ RatP p ∧ RatP s ∧ SzP 600 p ∧ SzP 600 s ∧ ((stepF p s).1.1 ≠ 0 ∨ (stepF p s).2.1 ≠ 0) ∧ ∀ H' z, Same H H' → Dp K H' z (rD (dirOf ((stepF p s).2, rneg (stepF p s).1))) → Q z H'
def spP1 (K : PySem.W.Frag) (o : Pl → Pl) : Sp := fun vs H Q _ => ∃ v p, vs = [v] ∧ Pla K H v p ∧ ∀ H' z, Same H H' → Dp K H' z (pD (o p)) → Q z H'
theorem wrow_spec {p : Pl} (h : RatP p) : 0 < (wrow p).2.2 ∧ (wrow p).1 * p.1.2 = p.1.1 * (wrow p).2.2 ∧ (wrow p).2.1 * p.2.2 = p.2.1 * (wrow p).2.2 := by
  unfold wrow
  by_cases e : p.1.2 = p.2.2
  · rw [if_pos e]; exact ⟨h.1.1, rfl, by show p.2.1 * p.2.2 = p.2.1 * p.1.2; rw [e]⟩
  · rw [if_neg e]; exact ⟨Int.mul_pos h.1.1 h.2.1, by show p.1.1 * p.2.2 * p.1.2 = p.1.1 * (p.1.2 * p.2.2); grind, by show p.2.1 * p.1.2 * p.2.2 = p.2.1 * (p.1.2 * p.2.2); grind⟩
theorem wrow_sz {n : Nat} {p : Pl} (h : SzP n p) : Sz (n + n) (wrow p).1 ∧ Sz (n + n) (wrow p).2.1 ∧ Sz (n + n) (wrow p).2.2 := by
  unfold wrow
  split
  · exact ⟨sz_mono h.1.1 (by omega), sz_mono h.2.1 (by omega), sz_mono h.1.2 (by omega)⟩
  · exact ⟨sz_mul h.1.1 h.2.2, sz_mul h.2.1 h.1.2, sz_mul h.1.2 h.2.2⟩
section
variable {P : Program} {w : World} {K : PySem.W.Frag} {mg : Str → Option Value} {base : Heap}
theorem dp_t3 {H : Hp} {v : V} {f : Int × Int × Int} (h : Dp K H v (tD f)) : ∃ p, v = .ref p ∧ SqT K H p [.int f.1, .int f.2.1, .int f.2.2] := by
  cases h with
  | tup h g =>
    cases g with
    | cons h1 g => cases g with
      | cons h2 g => cases g with
        | cons h3 g => cases g with
          | nil =>
            rw [dp_int h1, dp_int h2, dp_int h3] at h
            exact ⟨_, rfl, h⟩
abbrev swhole_direction : Stmt := topS 11
theorem scwhole_direction : FnScope ["x", "y", "share"] ["x", "y"] (defScope swhole_direction) := ⟨rfl, rfl, rfl, by decide +kernel, rfl, by decide +kernel, by decide +kernel⟩
theorem okwhole_direction (T : Txt K mg "whole_direction" swhole_direction) (mgcd : mg "gcd" = some (.builtin "math.gcd")) : DefOk P w K mg base CX0 "whole_direction" 1 ["x", "y"] (spWd K) := by
  obtain ⟨f, fd, F, gf⟩ := T
  refine ⟨f, fd, gf, F.kp, F.binds (fun _ _ _ _ _ _ us hl => match us, hl with | [_, _], _ => rfl), F.ok scwhole_direction (fun vs H Q E h => ?_) (fun cdv A outer s H vs Q E hr h => ?_)⟩
  · obtain ⟨x, y, rfl, _⟩ := h; rfl
  · obtain ⟨x, y, rfl, nz, zx, zy, q⟩ := h
    refine ⟨_, (pss_cons (ps_set (i := 2) scwhole_direction.nd rfl (.inl rfl) (pe_callBfun cr_gcd (by rfl) mgcd (pa_cons (pv 0) (pa_cons (pv 1) pa_nil)))) (pss_cons (ps_if (pt_cmpR op_eq (pv 2) pe_int (nomark _)) (pss_one ps_never) pss_nil) (pss_one (ps_ret (pe_tup (pa_cons (pe_op op_fdivW (pv 0) (pv 2)) (pa_cons (pe_op op_fdivW (pv 1) (pv 2)) pa_nil))))))), ?_⟩
    have gp := g2_posO nz
    have gz := sz_gg nz zx zy
    refine ⟨_, rfl, _, rfl, x, y, rfl, ?_⟩
    show tSeq _ _ _ [some (.int x), some (.int y), some (.int (g2 x y))] H
    refine ⟨_, rfl, rfl, _, rfl, ?_⟩
    rw [decide_eq_false (fun z => by have := V.int.inj z; omega : ¬ V.int (g2 x y) = V.int 0)]
    refine iteF ⟨_, rfl, _, rfl, _, _, rfl, rfl, wide_div gp gz (by decide) (by decide), _, rfl, _, rfl, _, _, rfl, rfl, wide_div gp gz (by decide) (by decide), (by show 2 ≤ sizeLine; decide), fun p np => q _ _ (same_new np) (dp_mkr np)⟩
abbrev sdirection_of : Stmt := topS 12
theorem scdirection_of : FnScope ["step", "x", "y"] ["step"] (defScope sdirection_of) := ⟨rfl, rfl, rfl, by decide +kernel, rfl, by decide +kernel, by decide +kernel⟩
theorem okdirection_of (T : Txt K mg "direction_of" sdirection_of) (Gwhole_direction : DefOk P w K mg base CX0 "whole_direction" 1 ["x", "y"] (spWd K)) : DefOk P w K mg base CX0 "direction_of" 2 ["step"] (spDirOf K) := by
  obtain ⟨f, fd, F, gf⟩ := T
  refine ⟨f, fd, gf, F.kp, F.binds (fun _ _ _ _ _ _ us hl => match us, hl with | [_], _ => rfl), F.ok scdirection_of (fun vs H Q E h => ?_) (fun cdv A outer s H vs Q E hr h => ?_)⟩
  · obtain ⟨v, p, rfl, _⟩ := h; rfl
  · obtain ⟨v, p, rfl, ⟨x, y, c, hx, hy⟩, rp, zp, nz, q⟩ := h
    refine ⟨_, (pss_cons (ps_asg (pv 0) (pg_cou rfl (pgs_cons (pg_name (i := 1) scdirection_of.nd rfl (.inl rfl)) (pgs_cons (pg_name (i := 2) scdirection_of.nd rfl (.inl rfl)) pgs_nil)))) (pss_one (ps_ret (pe_def Gwhole_direction (hr.mono (by decide)) (by rfl) (pa_cons (pe_op op_mulW (pe_ix ix_it (pv 1) pe_int (fun _ _ => rfl)) (pe_ix ix_it (pv 2) pe_int (fun _ _ => rfl))) (pa_cons (pe_op op_mulW (pe_ix ix_it (pv 2) pe_int (fun _ _ => rfl)) (pe_ix ix_it (pv 1) pe_int (fun _ _ => rfl))) pa_nil)))))), ?_⟩
    have cx := cou_r hx
    have cy := cou_r hy
    refine ⟨v, rfl, x, y, c, x, [y], rfl, y, [], rfl, rfl, x, rfl, _, _, 0, _, rfl, cx, rfl, y, rfl, _, _, 1, _, rfl, cy, rfl, _, _, rfl, rfl, wide_mul zp.1.1 zp.2.2 (by decide) (by decide) (by decide), y, rfl, _, _, 0, _, rfl, cy, rfl, x, rfl, _, _, 1, _, rfl, cx, rfl, _, _, rfl, rfl, wide_mul zp.2.1 zp.1.2 (by decide) (by decide) (by decide), _, _, rfl, ?_, sz_mono (sz_mul zp.1.1 zp.2.2) (by decide), sz_mono (sz_mul zp.2.1 zp.1.2) (by decide), fun H' z sm hz => q H' z sm hz⟩
    rcases nz with nz | nz
    · exact .inl (Int.mul_ne_zero nz (by have := rp.2.1; omega))
    · exact .inr (Int.mul_ne_zero nz (by have := rp.1.1; omega))
end
end F3
set_option Elab.async false
set_option linter.all false
set_option maxRecDepth 100000
set_option maxHeartbeats 4000000
set_option exponentiation.threshold 3000
namespace F3
open PySem PySem.Spec PyProof.Rows L2 FX RM PB
def rstep (p s : Pl) : Int × Int := ((wrow s).1 * (wrow p).2.2 - (wrow p).1 * (wrow s).2.2, (wrow s).2.1 * (wrow p).2.2 - (wrow p).2.1 * (wrow s).2.2)
def spRawS (K : PySem.W.Frag) : Sp := fun vs H Q _ => ∃ v u p s, vs = [v, u] ∧ Pla K H v p ∧ Pla K H u s ∧ RatP p ∧ RatP s ∧ SzP 600 p ∧ SzP 600 s ∧ ∀ H' z, Same H H' → Dp K H' z (rD (rstep p s)) → Q z H'
theorem norm_scaled {a b c : Int} (h : 0 < c) : norm (a * c) (b * c) = norm a b := by
  have e : g2 (a * c) (b * c) = g2 a b * c := by
    unfold g2
    rw [Int.natAbs_mul, Int.natAbs_mul, Nat.gcd_mul_right]
    rw [Int.natCast_mul, Int.natAbs_of_nonneg (Int.le_of_lt h)]
  unfold norm
  rw [e, Int.mul_ediv_mul_of_pos_left _ _ h, Int.mul_ediv_mul_of_pos_left _ _ h]
theorem norm_like {a b a' b' c c' : Int} (h : 0 < c) (h' : 0 < c') (e : a * c = a' * c') (e' : b * c = b' * c') : norm a b = norm a' b' := by
  rw [← norm_scaled h, e, e', norm_scaled h']
theorem rstep_rep {p s : Pl} (hp : RatP p) (hs : RatP s) : Rep (stepF p s).1 (rstep p s).1 ((wrow s).2.2 * (wrow p).2.2) ∧ Rep (stepF p s).2 (rstep p s).2 ((wrow s).2.2 * (wrow p).2.2) := by
  obtain ⟨a1, a2, a3⟩ := wrow_spec hp
  obtain ⟨b1, b2, b3⟩ := wrow_spec hs
  exact ⟨rep_sub (r := s.1) (s := p.1) ⟨hs.1, b1, b2.symm⟩ ⟨hp.1, a1, a2.symm⟩, rep_sub (r := s.2) (s := p.2) ⟨hs.2, b1, b3.symm⟩ ⟨hp.2, a1, a3.symm⟩⟩
theorem rep_zero {r : Rt} {t b : Int} (h : IsRat r) (w : 0 < b) (e : r.1 * b = t * r.2) : t = 0 ↔ r.1 = 0 := by
  constructor
  · intro z
    rw [z, Int.zero_mul] at e
    rcases Int.mul_eq_zero.mp e with k | k
    · exact k
    · omega
  · intro z
    rw [z, Int.zero_mul] at e
    rcases Int.mul_eq_zero.mp e.symm with k | k
    · exact k
    · have := h.1; omega
theorem rstep_zero {p s : Pl} (hp : RatP p) (hs : RatP s) : ((rstep p s).1 = 0 ↔ (stepF p s).1.1 = 0) ∧ ((rstep p s).2 = 0 ↔ (stepF p s).2.1 = 0) := by
  obtain ⟨⟨i1, w, e1⟩, ⟨i2, _, e2⟩⟩ := rstep_rep hp hs
  exact ⟨rep_zero i1 w e1, rep_zero i2 w e2⟩
theorem rstep_dir {p s : Pl} (hp : RatP p) (hs : RatP s) : norm (rstep p s).2 (-(rstep p s).1) = dirOf ((stepF p s).2, rneg (stepF p s).1) := by
  obtain ⟨⟨i1, w, e1⟩, ⟨i2, _, e2⟩⟩ := rstep_rep hp hs
  unfold dirOf
  refine norm_like (c := (stepF p s).1.2 * (stepF p s).2.2) (c' := (wrow s).2.2 * (wrow p).2.2) (Int.mul_pos i1.1 i2.1) w ?_ ?_
  · show (rstep p s).2 * ((stepF p s).1.2 * (stepF p s).2.2) = (stepF p s).2.1 * (stepF p s).1.2 * ((wrow s).2.2 * (wrow p).2.2)
    grind
  · show -(rstep p s).1 * ((stepF p s).1.2 * (stepF p s).2.2) = -(stepF p s).1.1 * (stepF p s).2.2 * ((wrow s).2.2 * (wrow p).2.2)
    grind
theorem rstep_sz {p s : Pl} (zp : SzP 600 p) (zs : SzP 600 s) : Sz 2401 (rstep p s).1 ∧ Sz 2401 (rstep p s).2 := by
  obtain ⟨ax, ay, aa⟩ := wrow_sz zp
  obtain ⟨bx, by_, bb⟩ := wrow_sz zs
  exact ⟨sz_sub (sz_mul bx aa) (sz_mul ax bb), sz_sub (sz_mul by_ aa) (sz_mul ay bb)⟩
def meanP (ps : List Pl) : Pl := (rmul (sumR (ps.map (·.1))) (1, (ps.length : Int)), rmul (sumR (ps.map (·.2))) (1, (ps.length : Int)))
def spMean (K : PySem.W.Frag) : Sp := fun vs H Q _ => ∃ p xs ps, vs = [.ref p] ∧ (SqL K H p xs ∨ SqT K H p xs) ∧ DpAll K H xs (ps.map pD) ∧ 0 < ps.length ∧ ps.length ≤ 4 ∧ (∀ r ∈ ps, RatP r ∧ SzP 300 r) ∧ ∀ H' z, Same H H' → Dp K H' z (pD (meanP ps)) → Q z H'
def spRawC (K : PySem.W.Frag) : Sp := fun vs H Q _ => ∃ v u t a b c, vs = [v, u, t] ∧ Pla K H v a ∧ Pla K H u b ∧ Pla K H t c ∧ RatP a ∧ RatP b ∧ RatP c ∧ SzP 600 a ∧ SzP 600 b ∧ SzP 600 c ∧ ∀ H' z, Same H H' → Dp K H' z (rD (rawC (wrow a) (wrow b) (wrow c))) → Q z H'
section
variable {P : Program} {w : World} {K : PySem.W.Frag} {mg : Str → Option Value} {base : Heap}
end
end F3
set_option Elab.async false
set_option linter.all false
set_option maxRecDepth 100000
set_option maxHeartbeats 4000000
namespace F3
open PySem PySem.Spec PyProof.Rows L2 FX RM PB
/-! kinds of data -/
def tyN : PyData → String
  | .none => "NoneType"
  | .bool _ => "bool"
  | .int _ => "int"
  | .str _ => "str"
  | .list _ => "list"
  | .tuple _ => "tuple"
  | .dict _ => "dict"
def isI : PyData → Bool
  | .int _ => true
  | .bool _ => true
  | _ => false
def isBo : PyData → Bool
  | .bool _ => true
  | _ => false
def isTu : PyData → Bool
  | .tuple _ => true
  | _ => false
def isRo : PyData → Bool
  | .tuple _ => true
  | .list _ => true
  | _ => false
theorem kit_int : ∀ d, kitB (tyN d) "int" = some (isI d)
  | .none => by show kitB "NoneType" "int" = some false; decide +kernel
  | .bool _ => by show kitB "bool" "int" = some true; decide +kernel
  | .int _ => by show kitB "int" "int" = some true; decide +kernel
  | .str _ => by show kitB "str" "int" = some false; decide +kernel
  | .list _ => by show kitB "list" "int" = some false; decide +kernel
  | .tuple _ => by show kitB "tuple" "int" = some false; decide +kernel
  | .dict _ => by show kitB "dict" "int" = some false; decide +kernel
theorem kit_bool : ∀ d, kitB (tyN d) "bool" = some (isBo d)
  | .none => by show kitB "NoneType" "bool" = some false; decide +kernel
  | .bool _ => by show kitB "bool" "bool" = some true; decide +kernel
  | .int _ => by show kitB "int" "bool" = some false; decide +kernel
  | .str _ => by show kitB "str" "bool" = some false; decide +kernel
  | .list _ => by show kitB "list" "bool" = some false; decide +kernel
  | .tuple _ => by show kitB "tuple" "bool" = some false; decide +kernel
  | .dict _ => by show kitB "dict" "bool" = some false; decide +kernel
theorem kit_tuple : ∀ d, kitB (tyN d) "tuple" = some (isTu d)
  | .none => by show kitB "NoneType" "tuple" = some false; decide +kernel
  | .bool _ => by show kitB "bool" "tuple" = some false; decide +kernel
  | .int _ => by show kitB "int" "tuple" = some false; decide +kernel
  | .str _ => by show kitB "str" "tuple" = some false; decide +kernel
  | .list _ => by show kitB "list" "tuple" = some false; decide +kernel
  | .tuple _ => by show kitB "tuple" "tuple" = some true; decide +kernel
  | .dict _ => by show kitB "dict" "tuple" = some false; decide +kernel
theorem kit_list : ∀ d, kitB (tyN d) "list" = some (match d with | .list _ => true | _ => false)
  | .none => by show kitB "NoneType" "list" = some false; decide +kernel
  | .bool _ => by show kitB "bool" "list" = some false; decide +kernel
  | .int _ => by show kitB "int" "list" = some false; decide +kernel
  | .str _ => by show kitB "str" "list" = some false; decide +kernel
  | .list _ => by show kitB "list" "list" = some true; decide +kernel
  | .tuple _ => by show kitB "tuple" "list" = some false; decide +kernel
  | .dict _ => by show kitB "dict" "list" = some false; decide +kernel
theorem kit_row {K : PySem.W.Frag} (d : PyData) : PySem.W.kitAny K (.type (tyN d)) [.type "list", .type "tuple"] = some (isRo d) := by
  refine kitAny_cons (kit_ty (kit_list d)) (fun _ => kitAny_cons (b := isTu d) (r := isRo d) (kit_ty (kit_tuple d)) (fun e => ?_) (fun e => ?_)) (fun e => ?_)
  · rw [kitAny_nil]; cases d <;> simp_all [isTu, isRo]
  · cases d <;> simp_all [isTu, isRo]
  · cases d <;> simp_all [isRo]
theorem tyx_t {K : PySem.W.Frag} {H : Hp} {a : Addr} {xs : List V} (h : SqT K H a xs) : TyX K H (.ref a) (.type "tuple") := by
  rcases h with (h | ⟨o, h⟩) | ⟨o, its, n, h, c, _⟩
  · exact .base (.tup h)
  · exact .fTuple h
  · exact .kTuple h c
theorem tyx_l {K : PySem.W.Frag} {H : Hp} {a : Addr} {xs : List V} (h : SqL K H a xs) : TyX K H (.ref a) (.type "list") := by
  rcases h with (h | ⟨o, h⟩) | ⟨o, its, n, h, c, _⟩
  · exact .base (.lst h)
  · exact .base (.frz h)
  · exact .kList h c
theorem dp_tyx {K : PySem.W.Frag} {H : Hp} {v : V} {d : PyData} (h : Dp K H v d) : TyX K H v (.type (tyN d)) := by
  cases h with
  | non => exact .base .non
  | bl b => exact .base (.bl b)
  | int i => exact .base (.int i)
  | str x => exact .base (.str x)
  | lst h _ => exact tyx_l h
  | tup h _ => exact tyx_t h
def isWh : PyData → Option Int → Bool
  | .int _, none => true
  | .int i, some l => decide (l ≤ i)
  | _, _ => false
def isRat : PyData → Bool
  | .tuple [.int t, .int b] => decide ((1 : Int) ≤ b) && decide (g2 t b = 1)
  | _ => false
def isPla : PyData → Bool
  | .tuple [a, b] => isRat a && isRat b
  | .list [a, b] => isRat a && isRat b
  | _ => false
def lowV : Option Int → V
  | none => .non
  | some l => .int l
theorem itF {c : Bool} {A B : Prop} (h : c = false) (b : B) : if c = true then A else B := by rw [h, if_neg Bool.false_ne_true]; exact b
theorem itT {c : Bool} {A B : Prop} (h : c = true) (a : A) : if c = true then A else B := by rw [h, if_pos rfl]; exact a
/-- a def with defaults -/
structure DefDf (P : Program) (w : World) (K : PySem.W.Frag) (mg : Str → Option Value) (base : Heap) (x : Str) (k : Nat) (ps : List Str) (dvs : List V) (sp : Sp) : Prop where
  ex : ∃ (f : Addr) (fd : FuncData) (ds : List Value), mg x = some (.ref f) ∧ PySem.W.keepIn K (.ref f) = true ∧ Vals dvs ds ∧ L2.Binds K fd ps ds ∧ FnOk P w K mg base CX0 k f fd ps sp
theorem len_two' {α : Type} : ∀ {l : List α}, l.length = 2 → ∃ a b, l = [a, b]
  | [a, b], _ => ⟨a, b, rfl⟩
section
variable {X : Cx}
theorem pe_defd {x : Str} {k : Nat} {ps : List Str} {dvs : List V} {sp : Sp} {e : Expr} {es : List Expr} {t : TA} {p pos : Pos} (D : DefDf X.prog X.w X.K X.mg X.base x k ps dvs sp) (hr : Room k X.A) (hg : Gl X x) (ha : PA X (e :: es) t)
    (hdb : (x == ("__debug__" : Str)) = false := by decide) (he : starEach (e :: es) X.env = (false, eval e X.env) :: starEach es X.env := by rfl) (hpl : (backTo pos (starEach es X.env)).any (·.1) = false := by rfl) :
    PE X (.Call (.Name x p) (e :: es) [] pos) (tCall sp dvs E0 t) := by
  obtain ⟨f, fd, ds, g, k, v, b, F⟩ := D.ex
  exact pe_call F hr hg g k b v pass0 ha hdb he hpl
end
def spWhole (K : PySem.W.Frag) : Sp := fun vs H Q _ => ∃ v d low, vs = [v, lowV low, .non] ∧ Dp K H v d ∧ Q (.bl (isWh d low)) H
def spIsR (K : PySem.W.Frag) : Sp := fun vs H Q _ => ∃ v d, vs = [v] ∧ Dp K H v d ∧ Q (.bl (isRat d)) H
def spRow (K : PySem.W.Frag) (o : PyData → Bool) : Sp := fun vs H Q _ => ∃ v d, vs = [v] ∧ Dp K H v d ∧ ∀ H', Same H H' → Q (.bl (o d)) H'
section
variable {P : Program} {w : World} {K : PySem.W.Frag} {mg : Str → Option Value} {base : Heap}
abbrev sis_whole : Stmt := topS 6
theorem scis_whole : FnScope ["thing", "low", "high"] ["thing", "low", "high"] (defScope sis_whole) := ⟨rfl, rfl, rfl, by decide +kernel, rfl, by decide +kernel, by decide +kernel⟩
theorem fnis_whole {f : Addr} {fd : FuncData} (F : FunD K "is_whole" "is_whole" (defArgs sis_whole) (defBody sis_whole) (defScope sis_whole) [.non, .non] [] f fd) (misinstance : mg "isinstance" = none) (mint : mg "int" = none) (mbool : mg "bool" = none) :
    FnOk P w K mg base CX0 1 f fd ["thing", "low", "high"] (spWhole K) := by
  refine F.ok scis_whole (fun vs H Q E h => ?_) (fun cdv A outer s H vs Q E hr h => ?_)
  · obtain ⟨v, d, low, rfl, _⟩ := h; rfl
  · obtain ⟨v, d, low, rfl, hv, q⟩ := h
    refine ⟨_, PSs.nox (pss_cons (ps_if (PW.pt (pw_or (pt_not (pt_val (pe_callB call_isi (by rfl) misinstance boot_isinstance (pa_cons (pv 0) (pa_cons (pe_bltn (v := .ty "int") (by rfl) mint (by decide +kernel) rfl) pa_nil))))) (pw_or1 (pt_val (pe_callB call_isi (by rfl) misinstance boot_isinstance (pa_cons (pv 0) (pa_cons (pe_bltn (v := .ty "bool") (by rfl) mbool (by decide +kernel) rfl) pa_nil))))))) (pss_one (ps_ret pe_bl)) pss_nil) (pss_one (ps_ret (pe_and (pe_or (pe_cmpR op_isN (pv 1) pe_non (nomark _)) (pe_one (pe_cmpR op_ge (pv 0) (pv 1) (nomark _)))) (pe_one (pe_or (pe_cmpR op_isN (pv 2) pe_non (nomark _)) (pe_one (pe_cmpR op_le (pv 0) (pv 2) (nomark _))))))))), ?_⟩
    have no : isI d = false → isWh d low = false := fun e => by cases d <;> simp_all [isI, isWh]
    have nb : isBo d = true → isWh d low = false := fun e => by cases d <;> simp_all [isBo, isWh]
    refine ⟨v, rfl, v, _, _, _, _, rfl, .ty _, dp_tyx hv, kit_ty (kit_int d), _, rfl, ?_⟩
    cases eI : isI d with
    | false => exact itT rfl (itT rfl (by show Q (.bl false) H; rw [no eI] at q; exact q))
    | true =>
      refine itF rfl ⟨v, rfl, v, _, _, _, _, rfl, .ty _, dp_tyx hv, kit_ty (kit_bool d), _, rfl, ?_⟩
      cases eB : isBo d with
      | true => exact itT rfl (by show Q (.bl false) H; rw [nb eB] at q; exact q)
      | false =>
        obtain ⟨i, rfl⟩ : ∃ i, d = .int i := by cases d <;> simp_all [isI, isBo]
        obtain rfl := dp_int hv
        refine itF rfl ?_
        cases low with
        | none => exact ⟨_, rfl, rfl, true, rfl, itT rfl ⟨true, rfl, itT rfl ⟨_, rfl, rfl, true, rfl, itT rfl q⟩⟩⟩
        | some l =>
          refine ⟨_, rfl, rfl, false, rfl, itF rfl ⟨_, rfl, _, rfl, _, _, rfl, rfl, _, rfl, ?_⟩⟩
          by_cases c : l ≤ i
          · rw [decide_eq_true c]
            have q2 : Q (.bl true) H := by have z : isWh (.int i) (some l) = true := decide_eq_true c; rw [z] at q; exact q
            exact itT rfl ⟨_, rfl, rfl, true, rfl, itT rfl q2⟩
          · rw [decide_eq_false c]
            have q2 : Q (.bl false) H := by have z : isWh (.int i) (some l) = false := decide_eq_false c; rw [z] at q; exact q
            exact itF rfl q2
theorem okis_whole1 {f : Addr} {fd : FuncData} (g : mg "is_whole" = some (.ref f)) (F : FunD K "is_whole" "is_whole" (defArgs sis_whole) (defBody sis_whole) (defScope sis_whole) [.non, .non] [] f fd) (misinstance : mg "isinstance" = none) (mint : mg "int" = none) (mbool : mg "bool" = none) :
    DefDf P w K mg base "is_whole" 1 ["thing", "low", "high"] [.non, .non] (spWhole K) := by
  obtain ⟨ds, hd, b⟩ := F.binds1 (ps := ["thing", "low", "high"]) 1 0 (List.cons_ne_nil _ _) rfl fun T kV doc pm an cdv ct us its hu hi => match us, hu, its, hi with | [_], _, [_, _], _ => ⟨_, rfl, rfl⟩
  exact ⟨f, fd, ds, g, F.kp, hd, b, fnis_whole F misinstance mint mbool⟩
theorem okis_whole2 {f : Addr} {fd : FuncData} (g : mg "is_whole" = some (.ref f)) (F : FunD K "is_whole" "is_whole" (defArgs sis_whole) (defBody sis_whole) (defScope sis_whole) [.non, .non] [] f fd) (misinstance : mg "isinstance" = none) (mint : mg "int" = none) (mbool : mg "bool" = none) :
    DefDf P w K mg base "is_whole" 1 ["thing", "low", "high"] [.non] (spWhole K) := by
  obtain ⟨ds, hd, b⟩ := F.binds1 (ps := ["thing", "low", "high"]) 2 1 (List.cons_ne_nil _ _) rfl fun T kV doc pm an cdv ct us its hu hi => match us, hu, its, hi with | [_, _], _, [_, _], _ => ⟨_, rfl, rfl⟩
  exact ⟨f, fd, ds, g, F.kp, hd, b, fnis_whole F misinstance mint mbool⟩
abbrev sis_row : Stmt := topS 5
theorem scis_row : FnScope ["thing"] ["thing"] (defScope sis_row) := ⟨rfl, rfl, rfl, by decide +kernel, rfl, by decide +kernel, by decide +kernel⟩
theorem okis_row (T : Txt K mg "is_row" sis_row) (misinstance : mg "isinstance" = none) (mtuple : mg "tuple" = none) (mlist : mg "list" = none) : DefOk P w K mg base CX0 "is_row" 1 ["thing"] (spRow K isRo) := by
  obtain ⟨f, fd, F, gf⟩ := T
  refine ⟨f, fd, gf, F.kp, F.binds (fun _ _ _ _ _ _ us hl => match us, hl with | [_], _ => rfl), F.ok scis_row (fun vs H Q E h => ?_) (fun cdv A outer s H vs Q E hr h => ?_)⟩
  · obtain ⟨v, d, rfl, _⟩ := h; rfl
  · obtain ⟨v, d, rfl, hv, q⟩ := h
    refine ⟨_, (pss_one (ps_ret (pe_callB call_isiT (by rfl) misinstance boot_isinstance (pa_cons (pv 0) (pa_cons (pe_tup (pa_cons (pe_bltn (v := .ty "list") (by rfl) mlist (by decide +kernel) rfl) (pa_cons (pe_bltn (v := .ty "tuple") (by rfl) mtuple (by decide +kernel) rfl) pa_nil))) pa_nil))))), ?_⟩
    refine ⟨v, rfl, (by show 2 ≤ sizeLine; decide), fun p np => ?_⟩
    exact ⟨v, p, _, _, _, _, rfl, upd_same, .cons (.ty _) (.cons (.ty _) .nil), dp_tyx (Dp_same (PB.same_new np) hv), kit_row d, q _ (PB.same_new np)⟩
end
end F3
set_option Elab.async false
set_option linter.all false
set_option maxRecDepth 100000
set_option maxHeartbeats 4000000
set_option exponentiation.threshold 3000
namespace F3
open PySem PySem.Spec PyProof.Rows L2 FX RM PB
section
variable {X : Cx}
theorem pe_defX {x : Str} {k : Nat} {ps : List Str} {sp : Sp} {E : XK} {e : Expr} {es : List Expr} {t : TA} {p pos : Pos} (D : DefOk X.prog X.w X.K X.mg X.base (L2.CX X.prog X.w) x k ps sp) (hr : Room k X.A) (hg : Gl X x) (ha : PA X (e :: es) t) (tk : Takes X (fun cls d _ H => E cls d H))
    (hdb : (x == ("__debug__" : Str)) = false := by decide) (he : starEach (e :: es) X.env = (false, eval e X.env) :: starEach es X.env := by rfl) (hpl : (backTo pos (starEach es X.env)).any (·.1) = false := by rfl) :
    PE X (.Call (.Name x p) (e :: es) [] pos) (tCall sp [] E t) := by
  obtain ⟨f, fd, g, k, b, F⟩ := D.ex
  exact pe_call F hr hg g k b .nil (passes_call tk fun _ _ _ _ h => h) ha hdb he hpl
theorem pe_defS {x : Str} {k : Nat} {ps : List Str} {sp : Sp} {W : WX} {e : Expr} {es : List Expr} {t : TA} {p pos : Pos} (D : DefOk X.prog X.w X.K X.mg X.base (L2.CX X.prog X.w) x k ps sp) (hr : Room k X.A) (hg : Gl X x) (ha : PA X (e :: es) t) (tk : Takes X W)
    (hdb : (x == ("__debug__" : Str)) = false := by decide) (he : starEach (e :: es) X.env = (false, eval e X.env) :: starEach es X.env := by rfl) (hpl : (backTo pos (starEach es X.env)).any (·.1) = false := by rfl) :
    PE X (.Call (.Name x p) (e :: es) [] pos) (tCallS sp (WE W) t) := by
  obtain ⟨f, fd, g, k, b, F⟩ := D.ex
  exact pe_callS F hr hg g k b (fun σ => passAt tk σ) ha hdb he hpl
end
def isSz : PyData → Bool
  | .tuple [.int t, .int b] => isRat (.tuple [.int t, .int b]) && decide (0 < t)
  | _ => false
def spCkP (K : PySem.W.Frag) : Sp := fun vs H Q E => ∃ v d, vs = [v] ∧ Dp K H v d ∧ (∀ a b, (d = .tuple [a, b] ∨ d = .list [a, b]) → isPla d = true → ∀ H' z, Same H H' → Dp K H' z (.tuple [a, b]) → Q z H') ∧ (isPla d = false → ∀ H', Same H H' → E (.ref (He.ga K "BadPlace")) none H')
def spCkA (K : PySem.W.Frag) (o : PyData → Bool) (x : Str) : Sp := fun vs H Q E => ∃ v d, vs = [v] ∧ Dp K H v d ∧ (o d = true → Q v H) ∧ (o d = false → E (.ref (He.ga K x)) none H)
def spWdX (K : PySem.W.Frag) : Sp := fun vs H Q E => ∃ x y : Int, vs = [.int x, .int y] ∧ Sz 8000 x ∧ Sz 8000 y ∧ ((x ≠ 0 ∨ y ≠ 0) → ∀ H' z, Same H H' → Dp K H' z (rD (norm x y)) → Q z H') ∧ ((x = 0 ∧ y = 0) → E (.ref (He.ga K "BadDirection")) none H)
def spDirX (K : PySem.W.Frag) : Sp := fun vs H Q E => ∃ v p, vs = [v] ∧ Pla K H v p ∧ RatP p ∧ SzP 2000 p ∧ ((p.1.1 ≠ 0 ∨ p.2.1 ≠ 0) → ∀ H' z, Same H H' → Dp K H' z (rD (dirOf p)) → Q z H') ∧ ((p.1.1 = 0 ∧ p.2.1 = 0) → E (.ref (He.ga K "BadDirection")) none H)
def spNorX (K : PySem.W.Frag) : Sp := fun vs H Q E => ∃ v u p s, vs = [v, u] ∧ Pla K H v p ∧ Pla K H u s ∧ RatP p ∧ RatP s ∧ SzP 600 p ∧ SzP 600 s ∧ (((stepF p s).1.1 ≠ 0 ∨ (stepF p s).2.1 ≠ 0) → ∀ H' z, Same H H' → Dp K H' z (rD (dirOf ((stepF p s).2, rneg (stepF p s).1))) → Q z H') ∧
  (((stepF p s).1.1 = 0 ∧ (stepF p s).2.1 = 0) → ∀ H', Same H H' → E (.ref (He.ga K "BadDirection")) none H')
section
variable {P : Program} {w : World} {K : PySem.W.Frag} {mg : Str → Option Value} {base : Heap}
theorem okXwhole_direction (T : Txt K mg "whole_direction" swhole_direction) (mgcd : mg "gcd" = some (.builtin "math.gcd")) (cBadDirection : ClsOk K "BadDirection" []) (gBadDirection : mg "BadDirection" = some (.ref (He.ga K "BadDirection"))) : DefOk P w K mg base (L2.CX P w) "whole_direction" 1 ["x", "y"] (spWdX K) := by
  obtain ⟨f, fd, F, gf⟩ := T
  refine ⟨f, fd, gf, F.kp, F.binds (fun _ _ _ _ _ _ us hl => match us, hl with | [_, _], _ => rfl), F.okX scwhole_direction (fun vs H Q E h => ?_) (fun cdv A outer s H vs Q E hr h => ?_)⟩
  · obtain ⟨x, y, rfl, _⟩ := h; rfl
  · obtain ⟨x, y, rfl, zx, zy, q, qE⟩ := h
    refine ⟨_, (pss_cons (ps_set (i := 2) scwhole_direction.nd rfl (.inl rfl) (pe_callBfun cr_gcd (by rfl) mgcd (pa_cons (pv 0) (pa_cons (pv 1) pa_nil)))) (pss_cons (ps_if (pt_cmpR op_eq (pv 2) pe_int (nomark _)) (pss_one (ps_raise rfl (takes_of rfl rfl rfl rfl) (pmk_ex0 H rfl rfl cBadDirection.o (cBadDirection.xin rfl) (by rfl) gBadDirection))) pss_nil) (pss_one (ps_ret (pe_tup (pa_cons (pe_op op_fdivW (pv 0) (pv 2)) (pa_cons (pe_op op_fdivW (pv 1) (pv 2)) pa_nil))))))), ?_⟩
    refine ⟨_, rfl, _, rfl, x, y, rfl, ?_⟩
    show tSeq _ _ _ [some (.int x), some (.int y), some (.int (g2 x y))] H
    by_cases nz : x ≠ 0 ∨ y ≠ 0
    · have gp := g2_posO nz
      have gz := sz_gg nz zx zy
      refine ⟨_, rfl, rfl, _, rfl, ?_⟩
      refine itF (decide_eq_false (fun z => by have := V.int.inj z; omega)) ⟨_, rfl, _, rfl, _, _, rfl, rfl, wide_div gp gz (by decide) (by decide), _, rfl, _, rfl, _, _, rfl, rfl, wide_div gp gz (by decide) (by decide), (by show 2 ≤ sizeLine; decide), fun p np => q nz _ _ (PB.same_new np) (dp_mkr np)⟩
    · have hx : x = 0 := by omega
      have hy : y = 0 := by omega
      refine ⟨_, rfl, rfl, _, rfl, itT (decide_eq_true ?_) ⟨fun a na => na, qE ⟨hx, hy⟩⟩⟩
      rw [hx, hy]; rfl
theorem okXdirection_of (T : Txt K mg "direction_of" sdirection_of) (Xwhole_direction : DefOk P w K mg base (L2.CX P w) "whole_direction" 1 ["x", "y"] (spWdX K)) : DefOk P w K mg base (L2.CX P w) "direction_of" 2 ["step"] (spDirX K) := by
  obtain ⟨f, fd, F, gf⟩ := T
  refine ⟨f, fd, gf, F.kp, F.binds (fun _ _ _ _ _ _ us hl => match us, hl with | [_], _ => rfl), F.okX scdirection_of (fun vs H Q E h => ?_) (fun cdv A outer s H vs Q E hr h => ?_)⟩
  · obtain ⟨v, p, rfl, _⟩ := h; rfl
  · obtain ⟨v, p, rfl, ⟨x, y, c, hx, hy⟩, rp, zp, q, qE⟩ := h
    refine ⟨_, (pss_cons (ps_asg (pv 0) (pg_cou rfl (pgs_cons (pg_name (i := 1) scdirection_of.nd rfl (.inl rfl)) (pgs_cons (pg_name (i := 2) scdirection_of.nd rfl (.inl rfl)) pgs_nil)))) (pss_one (ps_ret (pe_defX (E := E) Xwhole_direction (hr.mono (by decide)) (by rfl) (pa_cons (pe_op op_mulW (pe_ix ix_it (pv 1) pe_int (fun _ _ => rfl)) (pe_ix ix_it (pv 2) pe_int (fun _ _ => rfl))) (pa_cons (pe_op op_mulW (pe_ix ix_it (pv 2) pe_int (fun _ _ => rfl)) (pe_ix ix_it (pv 1) pe_int (fun _ _ => rfl))) pa_nil)) (takes_of rfl rfl rfl rfl))))), ?_⟩
    have cx := cou_r hx
    have cy := cou_r hy
    refine ⟨v, rfl, x, y, c, x, [y], rfl, y, [], rfl, rfl, x, rfl, _, _, 0, _, rfl, cx, rfl, y, rfl, _, _, 1, _, rfl, cy, rfl, _, _, rfl, rfl, wide_mul zp.1.1 zp.2.2 (by decide) (by decide) (by decide), y, rfl, _, _, 0, _, rfl, cy, rfl, x, rfl, _, _, 1, _, rfl, cx, rfl, _, _, rfl, rfl, wide_mul zp.2.1 zp.1.2 (by decide) (by decide) (by decide), _, _, rfl, sz_mono (sz_mul zp.1.1 zp.2.2) (by decide), sz_mono (sz_mul zp.2.1 zp.1.2) (by decide), fun nz H' z sm hz => q ?_ H' z sm hz, fun z => qE ⟨?_, ?_⟩⟩
    · by_cases a : p.1.1 = 0
      · by_cases b : p.2.1 = 0
        · rw [a, b] at nz; simp at nz
        · exact .inr b
      · exact .inl a
    · rcases Int.mul_eq_zero.mp z.1 with k | k
      · exact k
      · have := rp.2.1; omega
    · rcases Int.mul_eq_zero.mp z.2 with k | k
      · exact k
      · have := rp.1.1; omega
end
end F3
set_option Elab.async false
set_option linter.all false
set_option maxRecDepth 100000
set_option maxHeartbeats 4000000
set_option exponentiation.threshold 3000
namespace F3
open PySem PySem.Spec PyProof.Rows L2 FX RM PB
def spGcd : Sp := fun vs H Q _ => ∃ x y : Int, vs = [.int x, .int y] ∧ Q (.int (g2 x y)) H
def amtL (d : Int × Int) (p : Pl) : Rt := radd (rmul (d.1, 1) p.1) (rmul (d.2, 1) p.2)
def crossL (a b c : Pl) : Rt := rsub (rmul (rsub b.1 a.1) (rsub c.2 a.2)) (rmul (rsub b.2 a.2) (rsub c.1 a.1))
def spAmtL (K : PySem.W.Frag) : Sp := fun vs H Q _ => ∃ v u d p, vs = [v, u] ∧ Dp K H v (rD d) ∧ Dp K H u (pD p) ∧ RatP p ∧ SzR 600 d ∧ SzP 600 p ∧ ∀ H' z, Same H H' → Dp K H' z (rD (amtL d p)) → Q z H'
def spCroL (K : PySem.W.Frag) : Sp := fun vs H Q _ => ∃ v u t a b c, vs = [v, u, t] ∧ Dp K H v (pD a) ∧ Dp K H u (pD b) ∧ Dp K H t (pD c) ∧ RatP a ∧ RatP b ∧ RatP c ∧ SzP 300 a ∧ SzP 300 b ∧ SzP 300 c ∧ ∀ H' z, Same H H' → Dp K H' z (rD (crossL a b c)) → Q z H'
def spPT (K : PySem.W.Frag) (o : Pl → Pl → Pl) : Sp := fun vs H Q _ => ∃ v u p s, vs = [v, u] ∧ Dp K H v (pD p) ∧ Dp K H u (pD s) ∧ RatP p ∧ RatP s ∧ SzP 2000 p ∧ SzP 2000 s ∧ ∀ H' z, Same H H' → Dp K H' z (pD (o p s)) → Q z H'
def spPlain (K : PySem.W.Frag) : Sp := fun vs H Q _ => ∃ v u r, vs = [v, u] ∧ Dp K H v (rD r) ∧ Dp K H u (rD r) ∧ Q (.bl true) H
theorem rat_int (n : Int) : IsRat (n, 1) := ⟨by show (0 : Int) < 1; decide, by show Nat.gcd n.natAbs 1 = 1; exact Nat.gcd_one_right _⟩
theorem szr_int {n : Nat} {x : Int} (h : Sz n x) (k : 1 ≤ n) : SzR n (x, 1) := ⟨h, sz_mono (by show (1 : Int).natAbs < 2 ^ 1; decide) k⟩
theorem shaped_r (r : Rt) : SeqAt.shaped (rD r) = true ∧ PyData.canLay0 (rD r) = true := by
  have c : PyData.canLay0 (rD r) = true := by simp [rD, PyData.canLay0, PyData.canLayAll0]
  exact ⟨by unfold SeqAt.shaped; rw [c]; simp [rD, PyData.depth, PyData.depthAll], c⟩
theorem shaped_p (p : Pl) : SeqAt.shaped (pD p) = true ∧ PyData.canLay0 (pD p) = true := by
  have c : PyData.canLay0 (pD p) = true := by simp [pD, rD, PyData.canLay0, PyData.canLayAll0]
  exact ⟨by unfold SeqAt.shaped; rw [c]; simp [pD, rD, PyData.depth, PyData.depthAll], c⟩
/-- == and != of equal data -/
theorem eq_same {K : PySem.W.Frag} {H : Hp} {v u : V} {d : PyData} {Q : VK} (s : SeqAt.shaped d = true ∧ PyData.canLay0 d = true) (h1 : Dp K H v d) (h2 : Dp K H u d) (q : Q (.bl true) H) : rEqD K v u H Q :=
  ⟨d, d, h1, h2, s.1, s.1, by rw [SeqAt.eqv_refl _ s.2]; exact q⟩
theorem ne_same {K : PySem.W.Frag} {H : Hp} {v u : V} {d : PyData} {Q : VK} (s : SeqAt.shaped d = true ∧ PyData.canLay0 d = true) (h1 : Dp K H v d) (h2 : Dp K H u d) (q : Q (.bl false) H) : rNeD K v u H Q :=
  ⟨d, d, h1, h2, s.1, s.1, by rw [SeqAt.eqv_refl _ s.2]; exact q⟩
section
variable {P : Program} {w : World} {K : PySem.W.Frag} {mg : Str → Option Value} {base : Heap}
abbrev s_law_gcd : Stmt := topS 25
theorem sc_law_gcd : FnScope ["_law_one", "_law_other"] ["_law_one", "_law_other"] (defScope s_law_gcd) := ⟨rfl, rfl, rfl, by decide +kernel, rfl, by decide +kernel, by decide +kernel⟩
theorem ok_law_gcd (T : Txt K mg "_law_gcd" s_law_gcd) (mint : mg "int" = none) (mabs : mg "abs" = none) : DefOk P w K mg base CX0 "_law_gcd" 1 ["_law_one", "_law_other"] spGcd := by
  obtain ⟨f, fd, F, gf⟩ := T
  refine ⟨f, fd, gf, F.kp, F.binds (fun _ _ _ _ _ _ us hl => match us, hl with | [_, _], _ => rfl), F.ok sc_law_gcd (fun vs H Q E h => ?_) (fun cdv A outer s H vs Q E hr h => ?_)⟩
  · obtain ⟨x, y, rfl, _⟩ := h; rfl
  · obtain ⟨x, y, rfl, q⟩ := h
    refine ⟨_, (pss_cons (ps_par (i := 0) (j := 1) rfl sc_law_gcd.nd rfl rfl (by decide) rfl rfl (pa_cons (pe_callB call_abs (by rfl) mabs (by decide +kernel) (pa_cons (pv 0) pa_nil)) (pa_cons (pe_callB call_abs (by rfl) mabs (by decide +kernel) (pa_cons (pv 1) pa_nil)) pa_nil)) rfl) (pss_cons (ps_while PassesOwn.never (pt_truth (pv 1) (fun _ => rfl)) (pss_one (ps_par (i := 0) (j := 1) rfl sc_law_gcd.nd rfl rfl (by decide) rfl rfl (pa_cons (pv 1) (pa_cons (pe_op op_mod (pe_callTy call_int1 (by rfl) mint boot_int (pa_cons (pv 0) pa_nil)) (pv 1)) pa_nil)) rfl))) (pss_one (ps_ret (pv 0))))), ?_⟩
    have ab : ∀ i : Int, (if i < 0 then -i else i) = (i.natAbs : Int) := fun i => by split <;> omega
    refine ⟨_, rfl, x, rfl, _, rfl, y, rfl, _, _, rfl, ?_⟩
    rw [ab, ab]
    dsimp only [tSeq]
    refine while_by (fun σ H' => ∃ a b : Nat, σ = [some (.int (a : Int)), some (.int (b : Int))] ∧ Nat.gcd a b = Nat.gcd x.natAbs y.natAbs ∧ H' = H)
      (fun σ H' => match σ with | [_, some (.int b)] => b.toNat | _ => 0) ⟨_, _, rfl, rfl, rfl⟩ ?_ (fun σ H Q Q' hq hc => by
      obtain ⟨v, e, k, t, q⟩ := hc
      exact ⟨v, e, k, t, hq _ _ q⟩)
    rintro σ H' ⟨a, b, rfl, e, rfl⟩
    refine ⟨_, rfl, ((b : Int) != 0), rfl, ?_⟩
    by_cases b0 : b = 0
    · subst b0
      refine itF rfl ?_
      refine ⟨_, rfl, ?_⟩
      rw [Nat.gcd_zero_right] at e
      rw [e]; exact q
    · refine itT (by simp [b0]) ?_
      refine ⟨_, rfl, _, rfl, .inl ⟨_, rfl, _, rfl, _, _, rfl, rfl, (by show (0 : Int) < _; omega), _, _, rfl, ⟨b, a % b, rfl, ?_, rfl⟩, ?_⟩⟩
      · rw [← e, Nat.gcd_comm a b, Nat.gcd_rec b a, Nat.gcd_comm]
      · show ((a : Int) % (b : Int)).toNat < ((b : Int)).toNat
        have := Int.emod_lt_of_pos (a : Int) (by omega : (0 : Int) < (b : Int))
        omega
abbrev s_law_ratio : Stmt := topS 26
theorem sc_law_ratio : FnScope ["_law_top", "_law_bottom", "_law_part"] ["_law_top", "_law_bottom"] (defScope s_law_ratio) := ⟨rfl, rfl, rfl, by decide +kernel, rfl, by decide +kernel, by decide +kernel⟩
theorem ok_law_ratio (T : Txt K mg "_law_ratio" s_law_ratio) (G_law_gcd : DefOk P w K mg base CX0 "_law_gcd" 1 ["_law_one", "_law_other"] spGcd) : DefOk P w K mg base CX0 "_law_ratio" 2 ["_law_top", "_law_bottom"] (spLow K) := by
  obtain ⟨f, fd, F, gf⟩ := T
  refine ⟨f, fd, gf, F.kp, F.binds (fun _ _ _ _ _ _ us hl => match us, hl with | [_, _], _ => rfl), F.ok sc_law_ratio (fun vs H Q E h => ?_) (fun cdv A outer s H vs Q E hr h => ?_)⟩
  · obtain ⟨t, b, rfl, _⟩ := h; rfl
  · obtain ⟨t, b, rfl, b0, zt, zb, q⟩ := h
    refine ⟨_, (pss_cons (ps_set (i := 2) sc_law_ratio.nd rfl (.inl rfl) (pe_def G_law_gcd (hr.mono (by decide)) (by rfl) (pa_cons (pv 0) (pa_cons (pv 1) pa_nil)))) (pss_cons (ps_if (pt_cmpR op_lt (pv 1) pe_int (nomark _)) (pss_one (ps_set (i := 2) sc_law_ratio.nd rfl (.inl rfl) (pe_un un_neg (pv 2)))) pss_nil) (pss_one (ps_ret (pe_tup (pa_cons (pe_op op_fdivW (pv 0) (pv 2)) (pa_cons (pe_op op_fdivW (pv 1) (pv 2)) pa_nil))))))), ?_⟩
    have bn : b ≠ 0 := by omega
    have gp := g2_pos (t := t) bn
    have gz := sz_g (t := t) bn zb
    refine ⟨_, rfl, _, rfl, t, b, rfl, ?_⟩
    refine ⟨_, rfl, _, _, rfl, rfl, _, rfl, itF (decide_eq_false (by omega)) ?_⟩
    refine ⟨_, rfl, _, rfl, _, _, rfl, rfl, wide_div gp gz (by decide) (by decide), _, rfl, _, rfl, _, _, rfl, rfl, wide_div gp gz (by decide) (by decide), (by show 2 ≤ sizeLine; decide), fun p np => q _ _ (PB.same_new np) (dp_mkr np)⟩
abbrev s_law_times : Stmt := topS 27
theorem sc_law_times : FnScope ["_law_one", "_law_other"] ["_law_one", "_law_other"] (defScope s_law_times) := ⟨rfl, rfl, rfl, by decide +kernel, rfl, by decide +kernel, by decide +kernel⟩
theorem ok_law_times (T : Txt K mg "_law_times" s_law_times) (G_law_ratio : DefOk P w K mg base CX0 "_law_ratio" 2 ["_law_top", "_law_bottom"] (spLow K)) : DefOk P w K mg base CX0 "_law_times" 3 ["_law_one", "_law_other"] (spBin K rmul) := by
  obtain ⟨f, fd, F, gf⟩ := T
  refine ⟨f, fd, gf, F.kp, F.binds (fun _ _ _ _ _ _ us hl => match us, hl with | [_, _], _ => rfl), F.ok sc_law_times (fun vs H Q E h => ?_) (fun cdv A outer s H vs Q E hr h => ?_)⟩
  · obtain ⟨v, u, r, s_, rfl, _⟩ := h; rfl
  · obtain ⟨v, u, r, s_, rfl, hv, hu, ir, is_, zr, zs, q⟩ := h
    refine ⟨_, (pss_one (ps_ret (pe_def G_law_ratio (hr.mono (by decide)) (by rfl) (pa_cons (pe_op op_mulW (pe_ix ix_it (pv 0) pe_int (fun _ _ => rfl)) (pe_ix ix_it (pv 1) pe_int (fun _ _ => rfl))) (pa_cons (pe_op op_mulW (pe_ix ix_it (pv 0) pe_int (fun _ _ => rfl)) (pe_ix ix_it (pv 1) pe_int (fun _ _ => rfl))) pa_nil))))), ?_⟩
    have c1 := cou_r hv
    have c2 := cou_r hu
    exact ⟨v, rfl, _, _, 0, _, rfl, c1, rfl, u, rfl, _, _, 0, _, rfl, c2, rfl, _, _, rfl, rfl, wide_mul zr.1 zs.1 (by decide) (by decide) (by decide), v, rfl, _, _, 1, _, rfl, c1, rfl, u, rfl, _, _, 1, _, rfl, c2, rfl, _, _, rfl, rfl, wide_mul zr.2 zs.2 (by decide) (by decide) (by decide), _, _, rfl, Int.mul_pos ir.1 is_.1, sz_mono (sz_mul zr.1 zs.1) (by decide), sz_mono (sz_mul zr.2 zs.2) (by decide), fun H' z sm hz => q H' z sm hz⟩
abbrev s_law_direction : Stmt := topS 28
theorem sc_law_direction : FnScope ["_law_x", "_law_y", "_law_part"] ["_law_x", "_law_y"] (defScope s_law_direction) := ⟨rfl, rfl, rfl, by decide +kernel, rfl, by decide +kernel, by decide +kernel⟩
theorem ok_law_direction (T : Txt K mg "_law_direction" s_law_direction) (G_law_gcd : DefOk P w K mg base CX0 "_law_gcd" 1 ["_law_one", "_law_other"] spGcd) : DefOk P w K mg base CX0 "_law_direction" 2 ["_law_x", "_law_y"] (spWd K) := by
  obtain ⟨f, fd, F, gf⟩ := T
  refine ⟨f, fd, gf, F.kp, F.binds (fun _ _ _ _ _ _ us hl => match us, hl with | [_, _], _ => rfl), F.ok sc_law_direction (fun vs H Q E h => ?_) (fun cdv A outer s H vs Q E hr h => ?_)⟩
  · obtain ⟨x, y, rfl, _⟩ := h; rfl
  · obtain ⟨x, y, rfl, nz, zx, zy, q⟩ := h
    refine ⟨_, (pss_cons (ps_set (i := 2) sc_law_direction.nd rfl (.inl rfl) (pe_def G_law_gcd (hr.mono (by decide)) (by rfl) (pa_cons (pv 0) (pa_cons (pv 1) pa_nil)))) (pss_one (ps_ret (pe_tup (pa_cons (pe_op op_fdivW (pv 0) (pv 2)) (pa_cons (pe_op op_fdivW (pv 1) (pv 2)) pa_nil)))))), ?_⟩
    have gp := g2_posO nz
    have gz := sz_gg nz zx zy
    refine ⟨_, rfl, _, rfl, x, y, rfl, ?_⟩
    exact ⟨_, rfl, _, rfl, _, _, rfl, rfl, wide_div gp gz (by decide) (by decide), _, rfl, _, rfl, _, _, rfl, rfl, wide_div gp gz (by decide) (by decide), (by show 2 ≤ sizeLine; decide), fun p np => q _ _ (PB.same_new np) (dp_mkr np)⟩
end
end F3
set_option Elab.async false
set_option linter.all false
set_option maxRecDepth 100000
set_option maxHeartbeats 4000000
set_option exponentiation.threshold 3000
namespace F3
open PySem PySem.Spec PyProof.Rows L2 FX RM PB
/-! the text -/
abbrev sHand : Stmt := topS 22
abbrev sMixed : Stmt := topS 23
abbrev sTake : Stmt := topS 24
theorem scHand : FnScope ["_law_script", "_law_total", "_law_cells", "_law_cell"] ["_law_script"] (defScope sHand) := ⟨rfl, rfl, rfl, by decide +kernel, rfl, by decide +kernel, by decide +kernel⟩
theorem scMixed : FnScope ["_law_number_here", "_law_turn", "_law_once", "_law_twice"] ["_law_number_here", "_law_turn"] (defScope sMixed) := ⟨rfl, rfl, rfl, by decide +kernel, rfl, by decide +kernel, by decide +kernel⟩
theorem scTake : FnScope ["_law_hand_here", "_law_many", "_law_cell", "_law_rest"] ["_law_hand_here", "_law_many"] (defScope sTake) := ⟨rfl, rfl, rfl, by decide +kernel, rfl, by decide +kernel, by decide +kernel⟩
/-! heaps -/
theorem same_updH {H : Hp} {p : Addr} {o : HO} (h : H p = none) : Same H (upd H p o) := fun b x e => by
  rw [upd_ne (ne_of_none e h)]; exact e
/-- all but what stands at p is as it was -/
def SameBut (p : Addr) (H H' : Hp) : Prop := (∀ b o, b ≠ p → H b = some o → H' b = some o) ∧ ∀ c l, H p = some (.lst (.ref c :: l)) → ∃ l', H' p = some (.lst (.ref c :: l'))
theorem SameBut.rfl {p : Addr} {H : Hp} : SameBut p H H := ⟨fun _ _ _ e => e, fun _ l e => ⟨l, e⟩⟩
theorem sb_upd {H : Hp} {p c : Addr} {l l' : List V} (h : H p = some (.lst (.ref c :: l))) : SameBut p H (upd H p (.lst (.ref c :: l'))) := ⟨fun b x n e => by rw [upd_ne n]; exact e, fun c2 l2 e => by rw [h] at e; cases e; exact ⟨_, upd_same⟩⟩
theorem SameBut.trans {p : Addr} {H H1 H2 : Hp} (a : SameBut p H H1) (b : SameBut p H1 H2) : SameBut p H H2 := ⟨fun c o n e => b.1 c o n (a.1 c o n e), fun c l e => by obtain ⟨l1, e1⟩ := a.2 c l e; exact b.2 c l1 e1⟩
/-- the hand that a law draws from -/
def HandIs (H : Hp) (p c : Addr) (cs : List Int) (i r t : Int) : Prop :=
  H p = some (.lst [.ref c, .int i, .int r, .int t]) ∧ H c = some (.lst (cs.map V.int)) ∧ (∀ z ∈ cs, 0 ≤ z) ∧ 0 ≤ i ∧ i ≤ cs.length ∧ cs.length ≤ 63 ∧ 0 ≤ r ∧ 0 ≤ t ∧ t < 2147483629
def HandAt (H : Hp) (p : Addr) : Prop := ∃ c cs i r t, HandIs H p c cs i r t
theorem HandIs.ne {H : Hp} {p c : Addr} {cs : List Int} {i r t : Int} (h : HandIs H p c cs i r t) : c ≠ p := fun e => by
  obtain ⟨a, b, _⟩ := h
  subst e
  rw [a] at b
  have z := HO.lst.inj (Option.some.inj b)
  cases cs with
  | nil => cases z
  | cons x l => cases z
theorem HandIs.put {H : Hp} {p c : Addr} {cs : List Int} {i r t i' r' t' : Int} (h : HandIs H p c cs i r t) (hi : 0 ≤ i') (hi2 : i' ≤ cs.length) (hr : 0 ≤ r') (ht : 0 ≤ t') (ht2 : t' < 2147483629) :
    HandIs (upd H p (.lst [.ref c, .int i', .int r', .int t'])) p c cs i' r' t' := by
  have n := h.ne
  obtain ⟨a, b, c1, _, _, c4, _⟩ := h
  exact ⟨upd_same, by rw [upd_ne n]; exact b, c1, hi, hi2, c4, hr, ht, ht2⟩
theorem HandAt.same {H H' : Hp} {p : Addr} (h : HandAt H p) (s : Same H H') : HandAt H' p := by
  obtain ⟨c, cs, i, r, t, a, b, q⟩ := h
  exact ⟨c, cs, i, r, t, s _ _ a, s _ _ b, q⟩
/-! promises -/
def spHand (K : PySem.W.Frag) : Sp := fun vs H Q _ => ∃ (a : Addr) (ns : List Int), vs = [.ref a] ∧ SqL K H a (ns.map V.int) ∧ ns.length ≤ 63 ∧ ∀ H' p, Same H H' → H p = none → HandAt H' p → Q (.ref p) H'
def spMixed : Sp := fun vs H Q _ => ∃ (n t : Int), vs = [.int n, .int t] ∧ 0 ≤ n ∧ n < 2147483647 ∧ 0 ≤ t ∧ t ≤ 1000 ∧ ∀ z, Q (.int z) H
def spTake : Sp := fun vs H Q _ => ∃ (p : Addr) (m : Int), vs = [.ref p, .int m] ∧ HandAt H p ∧ 0 < m ∧ m < 1073741824 ∧ ∀ v H', 0 ≤ v → v < m → HandAt H' p → SameBut p H H' → Q (.int v) H'
section
variable {P : Program} {w : World} {K : PySem.W.Frag} {mg : Str → Option Value} {base : Heap}
theorem ok_mixed {f : Addr} {fd : FuncData} {k : Nat} (F : Fun K "_law_mixed" "_law_mixed" sMixed f fd) (mi : mg "int" = none) : FnOk P w K mg base CX0 (k + 1) f fd ["_law_number_here", "_law_turn"] spMixed := by
  refine F.ok scMixed (fun vs H Q E h => ?_) (fun cdv A outer s H vs Q E hr h => ?_)
  · obtain ⟨n, t, rfl, _⟩ := h; rfl
  · obtain ⟨n, t, rfl, n0, n1, t0, t1, q⟩ := h
    refine ⟨_, pss_cons (ps_set (i := 2) scMixed.nd rfl (.inl rfl) (pe_op op_mod (pe_callTy call_int1 (by rfl) mi boot_int (pa_cons
          (pe_op op_add (pe_op op_add (pe_op op_mul (pv 0) pe_int) (pe_op op_mul (pv 1) pe_int)) pe_int) pa_nil)) pe_int))
      (pss_cons (ps_set (i := 3) scMixed.nd rfl (.inl rfl) (pe_op op_mod (pe_callTy call_int1 (by rfl) mi boot_int (pa_cons
          (pe_op op_add (pe_op op_add (pe_op op_mul (pv 2) (pv 2)) (pe_op op_mul (pv 1) pe_int)) (pe_op op_fdiv (pv 2) pe_int)) pa_nil)) pe_int))
      (pss_one (ps_ret (pe_op op_fdiv (pe_callTy call_int1 (by rfl) mi boot_int (pa_cons
          (pe_op op_mod (pe_callTy call_int1 (by rfl) mi boot_int (pa_cons (pe_op op_add (pe_op op_mul (pv 3) pe_int) (pe_op op_fdiv (pv 2) pe_int)) pa_nil)) pe_int) pa_nil)) pe_int)))), ?_⟩
    refine ⟨_, rfl, _, _, rfl, rfl, .inl ⟨by omega, by omega⟩, _, rfl, _, _, rfl, rfl, .inl ⟨by omega, by omega⟩, _, _, rfl, rfl, _, _, rfl, rfl, .inl ⟨_, rfl, _, _, rfl, rfl, (by show (0 : Int) < _; decide), ?_⟩⟩
    generalize hx : (n * 48271 + t * 7919 + 65537) % 2147483647 = x
    have x0 : 0 ≤ x := by omega
    have x1 : x < 2147483647 := by omega
    refine ⟨_, rfl, _, rfl, _, _, rfl, rfl, .inl ⟨by omega, by omega⟩, _, rfl, _, _, rfl, rfl, .inl ⟨by omega, by omega⟩, _, _, rfl, rfl, _, rfl, _, _, rfl, rfl, ⟨by decide, by decide⟩, _, _, rfl, rfl, .inl ⟨_, rfl, _, _, rfl, rfl, (by show (0 : Int) < _; decide), ?_⟩⟩
    generalize hy : (x * x + t * 104729 + x / 127) % 2147483629 = y
    have y0 : 0 ≤ y := by omega
    have y1 : y < 2147483629 := by omega
    refine ⟨_, rfl, _, _, rfl, rfl, .inl ⟨by omega, by omega⟩, _, rfl, _, _, rfl, rfl, ⟨by decide, by decide⟩, _, _, rfl, rfl, .inl ⟨_, rfl, _, _, rfl, rfl, (by show (0 : Int) < _; decide), .inl ⟨_, rfl, _, _, rfl, rfl, ⟨by decide, by decide⟩, q _⟩⟩⟩
theorem ok_hand {f : Addr} {fd : FuncData} {k : Nat} (F : Fun K "_law_hand" "_law_hand" sHand f fd) (mi : mg "int" = none) (ml : mg "len" = none) : FnOk P w K mg base CX0 (k + 1) f fd ["_law_script"] (spHand K) := by
  refine F.ok scHand (fun vs H Q E h => ?_) (fun cdv A outer s H vs Q E hr h => ?_)
  · obtain ⟨a, ns, rfl, _⟩ := h; rfl
  · obtain ⟨a, ns, rfl, hS, hlen, q⟩ := h
    refine ⟨_, pss_cons (ps_set (i := 1) scHand.nd rfl (.inl rfl) (pe_op op_add (pe_callB call_len_seq (by rfl) ml PySem.boot_len (pa_cons (pv 0) pa_nil)) pe_int))
      (pss_cons (ps_set (i := 2) scHand.nd rfl (.inl rfl) (pe_lst pa_nil))
      (pss_cons (ps_for PassesOwn.never rfl (pi_list (pv 0)) (pg_name (i := 3) scHand.nd rfl (.inl rfl))
        (pss_cons (ps_set (i := 1) scHand.nd rfl (.inl rfl) (pe_op op_mod (pe_callTy call_int1 (by rfl) mi boot_int (pa_cons
            (pe_op op_add (pe_op op_mul (pv 1) pe_int) (pe_callTy call_int1 (by rfl) mi boot_int (pa_cons (pv 3) pa_nil))) pa_nil)) pe_int))
        (pss_one (ps_expr (pe_bm PySem.F.plainAttrs_list PySem.F.slot_list_append PySem.F.type_list_append mt_append (pv 2) (pa_cons
          (pe_ifExp (pt_cmpR op_ge (pv 3) pe_int (nomark _)) (pe_callTy call_int1 (by rfl) mi boot_int (pa_cons (pv 3) pa_nil))
            (pe_un un_neg (pe_callTy call_int1 (by rfl) mi boot_int (pa_cons (pv 3) pa_nil)))) pa_nil))))))
      (pss_one (ps_ret (pe_lst (pa_cons (pv 2) (pa_cons pe_int (pa_cons pe_int (pa_cons (pv 1) pa_nil))))))))), ?_⟩
    refine ⟨.ref a, rfl, a, _, rfl, .inl hS, _, _, rfl, rfl, Nat.zero_le _, fun c nc => ?_⟩
    refine ⟨.ref a, rfl, a, rfl, ⟨_, (same_updH nc).seq hS⟩, for_list (K := K) (a := a) (xs := ns.map V.int)
      (fun i σ H' => ∃ (t : Int) (y : Option V) (cs : List Int), σ = [some (.ref a), some (.int t), some (.ref c), y] ∧ 0 ≤ t ∧ t < 2147483629 ∧ (∀ z ∈ cs, 0 ≤ z) ∧ cs.length = i ∧ Same H H' ∧ H' c = some (.lst (cs.map V.int)))
      ⟨_, none, [], rfl, ?_, ?_, (fun z hz => nomatch hz), rfl, same_updH nc, upd_same⟩ (fun i σ H' _ ⟨_, _, _, _, _, _, _, _, s5, _⟩ => s5.seq hS) ?_ ?_⟩
    · rw [List.length_map]; omega
    · rw [List.length_map]; omega
    · rintro i x σ H' hi ⟨t, y, cs, rfl, t0, t1, c0, cl, sm, hc⟩
      obtain ⟨z, rfl⟩ : ∃ z, x = V.int z := by
        rw [List.getElem?_map] at hi
        cases e : ns[i]? with
        | none => rw [e] at hi; cases hi
        | some z => rw [e] at hi; exact ⟨z, (Option.some.inj hi).symm⟩
      have il : i < 63 := by
        have := (List.getElem?_eq_some_iff.mp hi).1
        rw [List.length_map] at this
        omega
      refine ⟨_, rfl, _, _, rfl, rfl, .inl ⟨by omega, by omega⟩, .int z, rfl, .inl ⟨_, rfl, _, _, rfl, rfl, .inl ⟨_, rfl, _, _, rfl, rfl, (by show (0 : Int) < _; decide), ?_⟩⟩⟩
      have go : ∀ y : Int, 0 ≤ y → ∃ l xs y', V.ref c = V.ref l ∧ [V.int y] = [y'] ∧ H' l = some (.lst xs) ∧ xs.length < sizeLine ∧ (∃ (t' : Int) (v : Option V) (cs' : List Int), [some (V.ref a), some (V.int ((t * 1019 + z) % 2147483629)), some (V.ref c), some (V.int z)] = [some (.ref a), some (.int t'), some (.ref c), v] ∧ 0 ≤ t' ∧ t' < 2147483629 ∧ (∀ z ∈ cs', 0 ≤ z) ∧ cs'.length = i + 1 ∧ Same H (upd H' l (.lst (xs ++ [y']))) ∧ upd H' l (.lst (xs ++ [y'])) c = some (.lst (cs'.map V.int))) := fun y hy => by
        refine ⟨c, _, .int y, rfl, rfl, hc, by rw [List.length_map]; exact small1000 (by omega), _, _, cs ++ [y], rfl, by omega, by omega, ?_, by simp [cl], fun b o e => ?_, ?_⟩
        · intro z hz
          rcases List.mem_append.mp hz with hz | hz
          · exact c0 z hz
          · rw [List.mem_singleton.mp hz]; exact hy
        · rw [upd_ne (ne_of_none e nc)]; exact sm _ _ e
        · rw [upd_same, List.map_append]; rfl
      refine ⟨.ref c, rfl, .inl ⟨rfl, _, .inl (.inl hc)⟩, .int z, rfl, _, _, rfl, rfl, _, rfl, ite2 (fun e => ?_) (fun e => ?_)⟩
      · exact ⟨_, rfl, .inl ⟨_, rfl, go z (of_decide_eq_true e)⟩⟩
      · exact ⟨_, rfl, .inl ⟨_, rfl, _, rfl, go (-z) (by have : ¬ (0 : Int) ≤ z := fun h => e (decide_eq_true h); omega)⟩⟩
    · rintro σ H' ⟨t, y, cs, rfl, t0, t1, c0, cl, sm, hc⟩
      refine ⟨_, rfl, _, rfl, (by show 4 ≤ sizeLine; decide), fun p np => q _ p ?_ (sm.free np) ?_⟩
      · exact sm.trans (same_updH np)
      · refine ⟨c, cs, 0, 0, t, upd_same, ?_, c0, by omega, by omega, ?_, by omega, t0, t1⟩
        · rw [upd_ne (ne_of_none hc np)]; exact hc
        · rw [cl, List.length_map]; exact hlen
theorem ok_take {f fM : Addr} {fd fdM : FuncData} {k : Nat} (F : Fun K "_law_take" "_law_take" sTake f fd) (FM : Fun K "_law_mixed" "_law_mixed" sMixed fM fdM) (bM : Binds K fdM ["_law_number_here", "_law_turn"] []) (gM : mg "_law_mixed" = some (.ref fM))
    (mi : mg "int" = none) (ml : mg "len" = none) : FnOk P w K mg base CX0 (k + 2) f fd ["_law_hand_here", "_law_many"] spTake := by
  have GM : FnOk P w K mg base CX0 (k + 1) fM fdM ["_law_number_here", "_law_turn"] spMixed := ok_mixed FM mi
  refine F.ok scTake (fun vs H Q E h => ?_) (fun cdv A outer s H vs Q E hr h => ?_)
  · obtain ⟨p, m, rfl, _⟩ := h; rfl
  · obtain ⟨p, m, rfl, hH, m0, m1, q⟩ := h
    obtain ⟨c, cs, i, r, t, hh⟩ := hH
    refine ⟨_, pss_cons (ps_if (PW.pt (pw_and (pt_cmpR op_eq (pe_ix ix_list (pv 0) pe_int (fun _ _ => rfl)) pe_int (nomark _))
          (pw_and1 (pt_cmpR op_lt (pe_ix ix_list (pv 0) pe_int (fun _ _ => rfl)) (pe_callB call_len_seq (by rfl) ml PySem.boot_len (pa_cons (pe_ix ix_list (pv 0) pe_int (fun _ _ => rfl)) pa_nil)) (nomark _)))))
        (pss_cons (ps_set (i := 2) scTake.nd rfl (.inl rfl) (pe_ix ix_list (pe_ix ix_list (pv 0) pe_int (fun _ _ => rfl)) (pe_ix ix_list (pv 0) pe_int (fun _ _ => rfl)) (fun _ _ => rfl)))
        (pss_cons (ps_asg (pe_op op_add (pe_ix ix_list (pv 0) pe_int (fun _ _ => rfl)) pe_int) (pg_sub (pv 0) pe_int set_list))
        (pss_cons (ps_if (pt_cmpR op_lt (pv 2) (pe_op op_pow pe_int pe_int) (nomark _))
          (pss_one (ps_ret (pe_op op_mod (pe_callTy call_int1 (by rfl) mi boot_int (pa_cons (pe_call GM hr (by rfl) gM FM.kp bM .nil pass0
            (pa_cons (pe_op op_mod (pe_callTy call_int1 (by rfl) mi boot_int (pa_cons (pv 2) pa_nil)) pe_int) (pa_cons (pe_ix ix_list (pv 0) pe_int (fun _ _ => rfl)) pa_nil))) pa_nil)) (pv 1)))) pss_nil)
        (pss_one (ps_asg (pv 2) (pg_sub (pv 0) pe_int set_list)))))) pss_nil)
      (pss_cons (ps_if (pt_cmpR op_gt (pe_ix ix_list (pv 0) pe_int (fun _ _ => rfl)) pe_int (nomark _))
        (pss_cons (ps_set (i := 3) scTake.nd rfl (.inl rfl) (pe_ix ix_list (pv 0) pe_int (fun _ _ => rfl)))
        (pss_cons (ps_asg (pe_op op_fdiv (pe_callTy call_int1 (by rfl) mi boot_int (pa_cons (pv 3) pa_nil)) (pv 1)) (pg_sub (pv 0) pe_int set_list))
        (pss_one (ps_ret (pe_op op_mod (pe_callTy call_int1 (by rfl) mi boot_int (pa_cons (pv 3) pa_nil)) (pv 1)))))) pss_nil)
      (pss_cons (ps_asg (pe_op op_mod (pe_callTy call_int1 (by rfl) mi boot_int (pa_cons (pe_op op_add (pe_ix ix_list (pv 0) pe_int (fun _ _ => rfl)) pe_int) pa_nil)) pe_int) (pg_sub (pv 0) pe_int set_list))
      (pss_one (ps_ret (pe_op op_mod (pe_callTy call_int1 (by rfl) mi boot_int (pa_cons (pe_call GM hr (by rfl) gM FM.kp bM .nil pass0
            (pa_cons (pe_ix ix_list (pv 0) pe_int (fun _ _ => rfl)) (pa_cons (pe_ix ix_list (pv 0) pe_int (fun _ _ => rfl)) pa_nil))) pa_nil)) (pv 1)))))), ?_⟩
    have nn := hh.ne
    obtain ⟨hp, hc, c0, i0, i1, cl, r0, t0, t1⟩ := id hh
    -- what stands behind the first if
    have tail : ∀ (H1 : Hp) (i r : Int) (x2 : Option V), HandIs H1 p c cs i r t → SameBut p H H1 → tSeq
        (tIfS (tTest (tOp (rI0 fun i j => .bl (decide (j < i))) (tOp (rIxL K) (tVar 0) (tC (.int 2))) (tC (.int 0)))) (tSeq (tAsg (tOp (rIxL K) (tVar 0) (tC (.int 2))) (gName 3))
          (tSeq (tAsg (tOp (rI CDiv fun i j => .int (i / j)) (tCB (fun xs H Q => (∃ i, xs = [.int i] ∧ Q (.int i) H) ∨ ∃ k, xs = [.bl k] ∧ Q (.int (if k then 1 else 0)) H) (tCons (tVar 3) tNil)) (tVar 1)) (gSub (tVar 0) (tC (.int 2)) rSetL))
            (tRet (tOp (rI (fun _ j => 0 < j) fun i j => .int (i % j)) (tCB (fun xs H Q => (∃ i, xs = [.int i] ∧ Q (.int i) H) ∨ ∃ k, xs = [.bl k] ∧ Q (.int (if k then 1 else 0)) H) (tCons (tVar 3) tNil)) (tVar 1))))) tNext)
        (tSeq (tAsg (tOp (rI (fun _ j => 0 < j) fun i j => .int (i % j)) (tCB (fun xs H Q => (∃ i, xs = [.int i] ∧ Q (.int i) H) ∨ ∃ k, xs = [.bl k] ∧ Q (.int (if k then 1 else 0)) H)
            (tCons (tOp (rI0 fun i j => .int (i + j)) (tOp (rIxL K) (tVar 0) (tC (.int 3))) (tC (.int 1))) tNil)) (tC (.int 2147483629))) (gSub (tVar 0) (tC (.int 3)) rSetL))
          (tRet (tOp (rI (fun _ j => 0 < j) fun i j => .int (i % j)) (tCB (fun xs H Q => (∃ i, xs = [.int i] ∧ Q (.int i) H) ∨ ∃ k, xs = [.bl k] ∧ Q (.int (if k then 1 else 0)) H)
            (tCons (tCall spMixed [] E0 (tCons (tOp (rIxL K) (tVar 0) (tC (.int 3))) (tCons (tOp (rIxL K) (tVar 0) (tC (.int 1))) tNil))) tNil)) (tVar 1))))
        { nx := fun _ H' => Q .non H', rt := Q } [some (.ref p), some (.int m), x2, none] H1 := by
      intro H1 i r x2 h1 sb
      obtain ⟨hp1, hc1, _, i0', i1', _, r0', _, _⟩ := id h1
      refine ⟨.ref p, rfl, p, _, 2, _, rfl, rfl, .of hp1, rfl, _, _, rfl, rfl, _, rfl, ite2 (fun e => ?_) (fun e => ?_)⟩
      · have rp : 0 < r := of_decide_eq_true e
        refine ⟨.ref p, rfl, p, _, 2, _, rfl, rfl, .of hp1, rfl, .int r, rfl, .inl ⟨_, rfl, .int m, rfl, _, _, rfl, rfl, ⟨m0, m1⟩, .ref p, rfl, p, _, 2, 2, rfl, rfl, hp1, rfl, ?_⟩⟩
        refine ⟨.int r, rfl, .inl ⟨_, rfl, .int m, rfl, _, _, rfl, rfl, m0, q _ _ (Int.emod_nonneg _ (by omega)) (Int.emod_lt_of_pos _ m0) ⟨c, cs, i, r / m, t, ?_⟩ (sb.trans (sb_upd hp1))⟩⟩
        exact h1.put i0' i1' (Int.ediv_nonneg r0' (by omega)) t0 t1
      · refine ⟨.ref p, rfl, p, _, 3, _, rfl, rfl, .of hp1, rfl, _, _, rfl, rfl, .inl ⟨_, rfl, _, _, rfl, rfl, (by show (0 : Int) < _; decide), .ref p, rfl, p, _, 3, 3, rfl, rfl, hp1, rfl, ?_⟩⟩
        have z0 : 0 ≤ (t + 1) % 2147483629 := by omega
        have z1 : (t + 1) % 2147483629 < 2147483629 := by omega
        have h2 := h1.put (i' := i) (r' := r) i0' i1' r0' z0 z1
        refine ⟨.ref p, rfl, p, _, 3, _, rfl, rfl, .of upd_same, rfl, .ref p, rfl, p, _, 1, _, rfl, rfl, .of upd_same, rfl, _, _, rfl, z0, by omega, i0', by omega, fun z => .inl ⟨_, rfl, .int m, rfl, _, _, rfl, rfl, m0, ?_⟩⟩
        exact q _ _ (Int.emod_nonneg _ (by omega)) (Int.emod_lt_of_pos _ m0) ⟨c, cs, i, r, _, h2⟩ (sb.trans (sb_upd hp1))
    refine ⟨.ref p, rfl, p, _, 2, _, rfl, rfl, .of hp, rfl, rfl, _, rfl, ite2 (fun e => ?_) (fun e => ?_)⟩
    · have re : r = 0 := V.int.inj (of_decide_eq_true e)
      refine ⟨.ref p, rfl, p, _, 1, _, rfl, rfl, .of hp, rfl, .ref p, rfl, p, _, 0, _, rfl, rfl, .of hp, rfl, c, _, rfl, .inl (.of hc), _, _, rfl, rfl, _, rfl, ite2 (fun e => ?_) (fun e => ?_)⟩
      · have il : i < cs.length := by
          have := of_decide_eq_true e
          rw [List.length_map] at this
          exact this
        obtain ⟨n, rfl⟩ := Int.eq_ofNat_of_zero_le i0
        have nl : n < cs.length := by omega
        have g : (cs.map V.int)[n]? = some (.int cs[n]) := by rw [List.getElem?_map, List.getElem?_eq_getElem nl]; rfl
        have z0 : 0 ≤ cs[n] := c0 _ (List.getElem_mem nl)
        have h2 := hh.put (i' := n + 1) (r' := r) (t' := t) (by omega) (by omega) r0 t0 t1
        refine ⟨.ref p, rfl, p, _, 0, _, rfl, rfl, .of hp, rfl, .ref p, rfl, p, _, 1, _, rfl, rfl, .of hp, rfl, c, _, _, _, rfl, rfl, .of hc, atI_nat g, ?_⟩
        refine ⟨.ref p, rfl, p, _, 1, _, rfl, rfl, .of hp, rfl, _, _, rfl, rfl, .ref p, rfl, p, _, 1, 1, rfl, rfl, hp, rfl, ?_⟩
        refine ⟨_, rfl, _, _, rfl, rfl, ⟨by decide, by decide, by decide⟩, _, _, rfl, rfl, _, rfl, ite2 (fun e => ?_) (fun e => ?_)⟩
        · refine ⟨_, rfl, .inl ⟨_, rfl, _, _, rfl, rfl, (by show (0 : Int) < _; decide), .ref p, rfl, p, _, 1, _, rfl, rfl, .of upd_same, rfl, _, _, rfl, by omega, by omega, by omega, by omega, fun z => .inl ⟨_, rfl, .int m, rfl, _, _, rfl, rfl, m0, ?_⟩⟩⟩
          exact q _ _ (Int.emod_nonneg _ (by omega)) (Int.emod_lt_of_pos _ m0) ⟨c, cs, _, r, t, h2⟩ (sb_upd hp)
        · refine ⟨_, rfl, .ref p, rfl, p, _, 2, 2, rfl, rfl, upd_same, rfl, ?_⟩
          rw [upd_upd]
          exact tail _ (n + 1) _ _ (hh.put (by omega) (by omega) z0 t0 t1) (sb_upd hp)
      · exact tail H i r _ hh SameBut.rfl
    · exact tail H i r _ hh SameBut.rfl

theorem dkHand (T : Txt K mg "_law_hand" sHand) (mint : mg "int" = none) (mlen : mg "len" = none) : DefOk P w K mg base CX0 "_law_hand" 1 ["_law_script"] (spHand K) := by
  obtain ⟨f, fd, F, g⟩ := T
  exact ⟨f, fd, g, F.kp, F.binds (fun _ _ _ _ _ _ us hl => match us, hl with | [_], _ => rfl), ok_hand (k := 0) F mint mlen⟩
theorem dkTake (T : Txt K mg "_law_take" sTake) (TM : Txt K mg "_law_mixed" sMixed) (mint : mg "int" = none) (mlen : mg "len" = none) : DefOk P w K mg base CX0 "_law_take" 2 ["_law_hand_here", "_law_many"] spTake := by
  obtain ⟨f, fd, F, g⟩ := T
  obtain ⟨fM, fdM, FM, gM⟩ := TM
  exact ⟨f, fd, g, F.kp, F.binds (fun _ _ _ _ _ _ us hl => match us, hl with | [_, _], _ => rfl), ok_take (k := 0) F FM (FM.binds (fun _ _ _ _ _ _ us hl => match us, hl with | [_, _], _ => rfl)) gM mint mlen⟩
/-- the hand goes on; data without lists stays -/
theorem HandAt.dp {H H' : Hp} {p : Addr} {v : V} {d : PyData} (h : HandAt H p) (s : SameBut p H H') (n : noL d = true) (k : Dp K H v d) : Dp K H' v d := by
  obtain ⟨c, cs, i, r, t, a, _⟩ := h
  exact Dp_but a s.1 n k
theorem noL_r (r : Rt) : noL (rD r) = true := by simp [rD, noL, noLs]
theorem noL_p (p : Pl) : noL (pD p) = true := by simp [pD, rD, noL, noLs]
theorem Same.but {H H' : Hp} {p : Addr} (s : Same H H') : SameBut p H H' := ⟨fun b o _ e => s b o e, fun c l e => ⟨l, s _ _ e⟩⟩
/-! what is drawn -/
def spNum (n : Nat) : Sp := fun vs H Q _ => ∃ p, vs = [.ref p] ∧ HandAt H p ∧ ∀ (x : Int) H', Sz n x → HandAt H' p → SameBut p H H' → Q (.int x) H'
def spDraw (K : PySem.W.Frag) (ok : Rt → Prop) : Sp := fun vs H Q _ => ∃ p, vs = [.ref p] ∧ HandAt H p ∧ ∀ (r : Rt) v H', ok r → Dp K H' v (rD r) → HandAt H' p → SameBut p H H' → Q v H'
def spDrawP (K : PySem.W.Frag) : Sp := fun vs H Q _ => ∃ p, vs = [.ref p] ∧ HandAt H p ∧ ∀ (r : Pl) v H', RatP r → SzP 151 r → Dp K H' v (pD r) → HandAt H' p → SameBut p H H' → Q v H'
abbrev s_law_number : Stmt := topS 30
theorem sc_law_number : FnScope ["_law_hand_here", "_law_kind", "_law_total", "_law_turn"] ["_law_hand_here"] (defScope s_law_number) := ⟨rfl, rfl, rfl, by decide +kernel, rfl, by decide +kernel, by decide +kernel⟩
theorem ok_law_number (T : Txt K mg "_law_number" s_law_number) (G_law_take : DefOk P w K mg base CX0 "_law_take" 2 ["_law_hand_here", "_law_many"] spTake) (mrange : mg "range" = none) : DefOk P w K mg base CX0 "_law_number" 3 ["_law_hand_here"] (spNum 151) := by
  obtain ⟨f, fd, F, gf⟩ := T
  refine ⟨f, fd, gf, F.kp, F.binds (fun _ _ _ _ _ _ us hl => match us, hl with | [_], _ => rfl), F.ok sc_law_number (fun vs H Q E h => ?_) (fun cdv A outer s H vs Q E hr h => ?_)⟩
  · obtain ⟨p, rfl, _⟩ := h; rfl
  · obtain ⟨p, rfl, hH, q⟩ := h
    refine ⟨_, (pss_cons (ps_set (i := 1) sc_law_number.nd rfl (.inl rfl) (pe_def G_law_take (hr.mono (by decide)) (by rfl) (pa_cons (pv 0) (pa_cons pe_int pa_nil)))) (pss_cons (ps_if (pt_cmpR op_lt (pv 1) pe_int (nomark _)) (pss_one (ps_ret (pe_op op_sub (pe_def G_law_take (hr.mono (by decide)) (by rfl) (pa_cons (pv 0) (pa_cons pe_int pa_nil))) pe_int))) pss_nil) (pss_cons (ps_set (i := 2) sc_law_number.nd rfl (.inl rfl) pe_int) (pss_cons (ps_for PassesOwn.never rfl (pi_range1 (by rfl) mrange (pa_cons (pe_ifExp (pt_cmpR op_lt (pv 1) pe_int (nomark _)) pe_int pe_int) pa_nil)) (pg_name (i := 3) sc_law_number.nd rfl (.inl rfl)) (pss_one (ps_set (i := 2) sc_law_number.nd rfl (.inl rfl) (pe_op op_add (pe_op op_mulW (pv 2) (pe_op op_pow pe_int pe_int)) (pe_def G_law_take (hr.mono (by decide)) (by rfl) (pa_cons (pv 0) (pa_cons (pe_op op_pow pe_int pe_int) pa_nil))))))) (pss_one (ps_ret (pe_op op_mulW (pv 2) (pe_op op_sub pe_int (pe_op op_mulW pe_int (pe_def G_law_take (hr.mono (by decide)) (by rfl) (pa_cons (pv 0) (pa_cons pe_int pa_nil)))))))))))), ?_⟩
    have ten : CPow 10 9 := ⟨by decide, by decide, by decide⟩
    refine ⟨.ref p, rfl, p, 9, rfl, hH, by decide, by decide, fun k H1 k0 k9 h1 s1 => ?_⟩
    refine ⟨_, rfl, _, _, rfl, rfl, _, rfl, ite2 (fun e => ?_) (fun e => ?_)⟩
    · refine ⟨.ref p, rfl, p, 25, rfl, h1, by decide, by decide, fun x H2 x0 x25 h2 s2 => ⟨_, _, rfl, rfl, q _ _ ?_ h2 (s1.trans s2)⟩⟩
      exact sz_mono (n := 5) (by show (x - 12).natAbs < 2 ^ 5; omega) (by decide)
    · have run : ∀ n : Nat, n ≤ 5 → tFor (iRng1 (fun _ H Q => Q [.int (n : Int)] H)) (gName 3) (tAsg (tOp (rI0 fun i j => .int (i + j)) (tOp (rI CMulW fun i j => .int (i * j)) (tVar 2) (tOp (rI CPow fun i j => .int (i ^ j.toNat)) (tC (.int 10)) (tC (.int 9))))
          (tCall spTake [] E0 (tCons (tVar 0) (tCons (tOp (rI CPow fun i j => .int (i ^ j.toNat)) (tC (.int 10)) (tC (.int 9))) tNil)))) (gName 2))
          ⟨tRet (tOp (rI CMulW fun i j => .int (i * j)) (tVar 2) (tOp (rI0 fun i j => .int (i - j)) (tC (.int 1)) (tOp (rI CMulW fun i j => .int (i * j)) (tC (.int 2)) (tCall spTake [] E0 (tCons (tVar 0) (tCons (tC (.int 2)) tNil)))))) ⟨fun _ H' => Q .non H', Q, fun _ _ => False, fun _ _ => False⟩, Q, fun _ _ => False, fun _ _ => False⟩
          [some (.ref p), some (.int k), some (.int 0), none] H1 := fun n hn => by
        have big : ∀ i : Nat, i ≤ 5 → ((10 : Int) ^ 9) ^ i ≤ 2 ^ 150 := fun i hi => by
          match i, hi with
          | 0, _ => decide
          | 1, _ => decide
          | 2, _ => decide
          | 3, _ => decide
          | 4, _ => decide
          | 5, _ => decide
        have szb : ∀ (i : Nat) (t : Int), i ≤ 5 → 0 ≤ t → t < ((10 : Int) ^ 9) ^ i → Sz 150 t := fun i t hi t0 t1 => by
          have b := big i hi
          have c : t < 2 ^ 150 := Int.lt_of_lt_of_le t1 b
          show t.natAbs < 2 ^ 150
          have d : ((t.natAbs : Nat) : Int) = t := Int.natAbs_of_nonneg t0
          have e : ((t.natAbs : Nat) : Int) < ((2 ^ 150 : Nat) : Int) := by rw [d]; exact c
          exact Int.ofNat_lt.mp e
        refine ⟨_, rfl, by omega, by omega, for_range (n := n) (fun i σ H' => ∃ (t : Int) (y : Option V), σ = [some (.ref p), some (.int k), some (.int t), y] ∧ 0 ≤ t ∧ t < ((10 : Int) ^ 9) ^ i ∧ HandAt H' p ∧ SameBut p H1 H')
          ⟨0, none, rfl, by decide, by decide, h1, SameBut.rfl⟩ ?_ ?_⟩
        · rintro i σ H' hi ⟨t, y, rfl, t0, t1, h2, s2⟩
          refine ⟨_, rfl, _, _, rfl, rfl, ten, _, _, rfl, rfl, wide_mul (szb i t (by omega) t0 t1) (by decide : ((10 : Int) ^ (9 : Int).toNat).natAbs < 2 ^ 30) (by decide) (by decide) (by decide), ?_⟩
          refine ⟨.ref p, rfl, _, _, rfl, rfl, ten, p, _, rfl, h2, by decide, by decide, fun x H3 x0 x1 h3 s3 => ⟨_, _, rfl, rfl, _, _, rfl, ?_, ?_, h3, s2.trans s3⟩⟩
          · have : (0 : Int) ≤ t * 10 ^ (9 : Int).toNat := Int.mul_nonneg t0 (by decide)
            omega
          · show t * 10 ^ (9 : Int).toNat + x < ((10 : Int) ^ 9) ^ (i + 1)
            have e : (10 : Int) ^ (9 : Int).toNat = 1000000000 := by decide
            have e2 : ((10 : Int) ^ 9) = 1000000000 := by decide
            rw [e] at x1 ⊢
            rw [e2] at t1 ⊢
            rw [Int.pow_succ]
            generalize (1000000000 : Int) ^ i = m at t1 ⊢
            omega
        · rintro σ H' ⟨t, y, rfl, t0, t1, h2, s2⟩
          have tz := szb n t hn t0 t1
          refine ⟨_, rfl, .ref p, rfl, p, 2, rfl, h2, by decide, by decide, fun x H3 x0 x2 h3 s3 => ?_⟩
          have xz : Sz 1 (1 - 2 * x) := by show (1 - 2 * x).natAbs < 2; omega
          refine ⟨_, _, rfl, rfl, wide_mul (by decide : (2 : Int).natAbs < 2 ^ 2) (by show x.natAbs < 2 ^ 2; omega) (by decide) (by decide) (by decide), _, _, rfl, rfl, _, _, rfl, rfl, wide_mul tz xz (by decide) (by decide) (by decide), q _ _ ?_ h3 ((s1.trans s2).trans s3)⟩
          exact sz_mul tz xz
      refine ⟨_, rfl, _, _, rfl, rfl, _, rfl, ite2 (fun e => ?_) (fun e => ?_)⟩
      · exact run 1 (by decide)
      · exact run 5 (by decide)
end
end F3
set_option Elab.async false
set_option linter.all false
set_option maxRecDepth 100000
set_option maxHeartbeats 4000000
set_option exponentiation.threshold 3000
namespace F3
open PySem PySem.Spec PyProof.Rows L2 FX RM PB
def Lay (K : PySem.W.Frag) (t : TA) (rs : List Rt) : Prop := ∀ σ H (Q : List V → Hp → Prop), (∀ H' vs, Same H H' → DpAll K H' vs (rs.map rD) → Q vs H') → t σ H Q
theorem lay_nil {K : PySem.W.Frag} : Lay K tNil [] := fun _ H Q q => q H [] (fun _ _ e => e) .nil
theorem lay_cons {K : PySem.W.Frag} {a b : Int} {t2 t : TA} {rs : List Rt} (h : ∀ σ H (Q : List V → Hp → Prop), Q [.int a, .int b] H → t2 σ H Q) (k : Lay K t rs) : Lay K (tCons (tTup t2) t) ((a, b) :: rs) :=
  fun σ H Q q => h σ H _ ⟨(by show 2 ≤ sizeLine; decide), fun p np => k σ _ _ fun H' vs s hv => q H' (.ref p :: vs) ((PB.same_new np).trans s) (.cons (Dp_same s (dp_mkr np)) hv)⟩
theorem DpAll_app {K : PySem.W.Frag} {H : Hp} : ∀ {vs us : List V} {ds es : List PyData}, DpAll K H vs ds → DpAll K H us es → DpAll K H (vs ++ us) (ds ++ es)
  | _, _, _, _, .nil, h => h
  | _, _, _, _, .cons a b, h => .cons a (DpAll_app b h)
section
variable {P : Program} {w : World} {K : PySem.W.Frag} {mg : Str → Option Value} {base : Heap}
def rows1 : List Rt := [(1, 0), (0, 1), (-1, 0), (0, -1), (1, 1), (-1, 1), (-1, -1), (1, -1)]
def rows2 : List Rt := [(2, 1), (1, 2), (-1, 2), (-2, 1), (-2, -1), (-1, -2), (1, -2), (2, -1)]
theorem rows_sz : ∀ r ∈ rows1 ++ rows2, SzR 151 r := fun r hr => szr_mono (n := 2) ((by decide : ∀ r ∈ rows1 ++ rows2, r.1.natAbs < 2 ^ 2 ∧ r.2.natAbs < 2 ^ 2) r hr) (by decide)
theorem lay1 : Lay K (tCons (tTup (tCons (tC (.int 1)) (tCons (tC (.int 0)) tNil))) (tCons (tTup (tCons (tC (.int 0)) (tCons (tC (.int 1)) tNil))) (tCons (tTup (tCons (tUn (rU fun i => .int (-i)) (tC (.int 1))) (tCons (tC (.int 0)) tNil))) (tCons (tTup (tCons (tC (.int 0)) (tCons (tUn (rU fun i => .int (-i)) (tC (.int 1))) tNil))) (tCons (tTup (tCons (tC (.int 1)) (tCons (tC (.int 1)) tNil))) (tCons (tTup (tCons (tUn (rU fun i => .int (-i)) (tC (.int 1))) (tCons (tC (.int 1)) tNil))) (tCons (tTup (tCons (tUn (rU fun i => .int (-i)) (tC (.int 1))) (tCons (tUn (rU fun i => .int (-i)) (tC (.int 1))) tNil))) (tCons (tTup (tCons (tC (.int 1)) (tCons (tUn (rU fun i => .int (-i)) (tC (.int 1))) tNil))) (tNil))))))))) rows1 := (lay_cons (fun _ _ _ q => q) (lay_cons (fun _ _ _ q => q) (lay_cons (fun _ _ _ q => ⟨_, rfl, q⟩) (lay_cons (fun _ _ _ q => ⟨_, rfl, q⟩) (lay_cons (fun _ _ _ q => q) (lay_cons (fun _ _ _ q => ⟨_, rfl, q⟩) (lay_cons (fun _ _ _ q => ⟨_, rfl, _, rfl, q⟩) (lay_cons (fun _ _ _ q => ⟨_, rfl, q⟩) lay_nil))))))))
theorem lay2 : Lay K (tCons (tTup (tCons (tC (.int 2)) (tCons (tC (.int 1)) tNil))) (tCons (tTup (tCons (tC (.int 1)) (tCons (tC (.int 2)) tNil))) (tCons (tTup (tCons (tUn (rU fun i => .int (-i)) (tC (.int 1))) (tCons (tC (.int 2)) tNil))) (tCons (tTup (tCons (tUn (rU fun i => .int (-i)) (tC (.int 2))) (tCons (tC (.int 1)) tNil))) (tCons (tTup (tCons (tUn (rU fun i => .int (-i)) (tC (.int 2))) (tCons (tUn (rU fun i => .int (-i)) (tC (.int 1))) tNil))) (tCons (tTup (tCons (tUn (rU fun i => .int (-i)) (tC (.int 1))) (tCons (tUn (rU fun i => .int (-i)) (tC (.int 2))) tNil))) (tCons (tTup (tCons (tC (.int 1)) (tCons (tUn (rU fun i => .int (-i)) (tC (.int 2))) tNil))) (tCons (tTup (tCons (tC (.int 2)) (tCons (tUn (rU fun i => .int (-i)) (tC (.int 1))) tNil))) (tNil))))))))) rows2 := (lay_cons (fun _ _ _ q => q) (lay_cons (fun _ _ _ q => q) (lay_cons (fun _ _ _ q => ⟨_, rfl, q⟩) (lay_cons (fun _ _ _ q => ⟨_, rfl, q⟩) (lay_cons (fun _ _ _ q => ⟨_, rfl, _, rfl, q⟩) (lay_cons (fun _ _ _ q => ⟨_, rfl, _, rfl, q⟩) (lay_cons (fun _ _ _ q => ⟨_, rfl, q⟩) (lay_cons (fun _ _ _ q => ⟨_, rfl, q⟩) lay_nil))))))))
abbrev s_law_way : Stmt := topS 29
theorem sc_law_way : FnScope ["_law_hand_here", "_law_rows"] ["_law_hand_here"] (defScope s_law_way) := ⟨rfl, rfl, rfl, by decide +kernel, rfl, by decide +kernel, by decide +kernel⟩
theorem ok_law_way (T : Txt K mg "_law_way" s_law_way) (G_law_take : DefOk P w K mg base CX0 "_law_take" 2 ["_law_hand_here", "_law_many"] spTake) : DefOk P w K mg base CX0 "_law_way" 3 ["_law_hand_here"] (spDraw K (SzR 151)) := by
  obtain ⟨f, fd, F, gf⟩ := T
  refine ⟨f, fd, gf, F.kp, F.binds (fun _ _ _ _ _ _ us hl => match us, hl with | [_], _ => rfl), F.ok sc_law_way (fun vs H Q E h => ?_) (fun cdv A outer s H vs Q E hr h => ?_)⟩
  · obtain ⟨p, rfl, _⟩ := h; rfl
  · obtain ⟨p, rfl, hH, q⟩ := h
    refine ⟨_, (pss_cons (ps_set (i := 1) sc_law_way.nd rfl (.inl rfl) (pe_lst (pa_cons (pe_tup (pa_cons pe_int (pa_cons pe_int pa_nil))) (pa_cons (pe_tup (pa_cons pe_int (pa_cons pe_int pa_nil))) (pa_cons (pe_tup (pa_cons (pe_un un_neg pe_int) (pa_cons pe_int pa_nil))) (pa_cons (pe_tup (pa_cons pe_int (pa_cons (pe_un un_neg pe_int) pa_nil))) (pa_cons (pe_tup (pa_cons pe_int (pa_cons pe_int pa_nil))) (pa_cons (pe_tup (pa_cons (pe_un un_neg pe_int) (pa_cons pe_int pa_nil))) (pa_cons (pe_tup (pa_cons (pe_un un_neg pe_int) (pa_cons (pe_un un_neg pe_int) pa_nil))) (pa_cons (pe_tup (pa_cons pe_int (pa_cons (pe_un un_neg pe_int) pa_nil))) pa_nil)))))))))) (pss_cons (ps_set (i := 1) sc_law_way.nd rfl (.inl rfl) (pe_op op_cat (pv 1) (pe_lst (pa_cons (pe_tup (pa_cons pe_int (pa_cons pe_int pa_nil))) (pa_cons (pe_tup (pa_cons pe_int (pa_cons pe_int pa_nil))) (pa_cons (pe_tup (pa_cons (pe_un un_neg pe_int) (pa_cons pe_int pa_nil))) (pa_cons (pe_tup (pa_cons (pe_un un_neg pe_int) (pa_cons pe_int pa_nil))) (pa_cons (pe_tup (pa_cons (pe_un un_neg pe_int) (pa_cons (pe_un un_neg pe_int) pa_nil))) (pa_cons (pe_tup (pa_cons (pe_un un_neg pe_int) (pa_cons (pe_un un_neg pe_int) pa_nil))) (pa_cons (pe_tup (pa_cons pe_int (pa_cons (pe_un un_neg pe_int) pa_nil))) (pa_cons (pe_tup (pa_cons pe_int (pa_cons (pe_un un_neg pe_int) pa_nil))) pa_nil))))))))))) (pss_one (ps_ret (pe_ix ix_list (pv 1) (pe_def G_law_take (hr.mono (by decide)) (by rfl) (pa_cons (pv 0) (pa_cons pe_int pa_nil))) (fun _ _ => rfl)))))), ?_⟩
    dsimp only [tSeq, tAsg, tLst]
    refine lay1 (K := K) _ _ _ fun H1 vs s1 hv => ?_
    have lv : vs.length = 8 := DpAll_len hv
    refine ⟨by rw [lv]; decide, fun l nl => ?_⟩
    dsimp only [gName, tOp, tVar]
    refine ⟨.ref l, rfl, ?_⟩
    refine lay2 (K := K) _ _ _ fun H2 us s2 hu => ?_
    have lu : us.length = 8 := DpAll_len hu
    refine ⟨by rw [lu]; decide, fun m nm => ?_⟩
    have e1 : H2 l = some (.lst vs) := s2 _ _ upd_same
    have ne : l ≠ m := ne_of_none e1 nm
    refine ⟨l, m, vs, us, rfl, rfl, by rw [upd_ne ne]; exact e1, upd_same, by rw [lv, lu]; decide, fun n nn => ?_⟩
    have hl3 : (upd (upd H2 m (.lst us)) n (.lst (vs ++ us))) n = some (.lst (vs ++ us)) := upd_same
    have s3 : Same H (upd (upd H2 m (.lst us)) n (.lst (vs ++ us))) := ((s1.trans (PB.same_new nl)).trans (s2.trans (PB.same_new nm))).trans (PB.same_new nn)
    have hall : DpAll K (upd (upd H2 m (.lst us)) n (.lst (vs ++ us))) (vs ++ us) ((rows1 ++ rows2).map rD) := by
      rw [List.map_append]
      refine DpAll_app (DpAll_same ?_ hv) (DpAll_same ?_ hu)
      · exact ((PB.same_new nl).trans (s2.trans (PB.same_new nm))).trans (PB.same_new nn)
      · exact (PB.same_new nm).trans (PB.same_new nn)
    have hnp : n ≠ p := by
      obtain ⟨c, cs, i, r, t, a, _⟩ := hH
      intro e
      have : (upd H2 m (.lst us)) p = some (.lst _) := ((s1.trans (PB.same_new nl)).trans (s2.trans (PB.same_new nm))) _ _ a
      rw [e, this] at nn
      cases nn
    have hH3 := hH.same s3
    generalize upd (upd H2 m (.lst us)) n (.lst (vs ++ us)) = H3 at hl3 s3 hall hH3 ⊢
    refine ⟨.ref n, rfl, .ref p, rfl, p, 16, rfl, hH3, by decide, by decide, fun x H4 x0 x1 h4 s4 => ?_⟩
    have lx : x.toNat < (vs ++ us).length := by rw [List.length_append, lv, lu]; omega
    have ex : (vs ++ us)[x.toNat]? = some (vs ++ us)[x.toNat] := List.getElem?_eq_getElem lx
    obtain ⟨d, ed, hd⟩ := DpAll_at hall ex
    rw [List.getElem?_map] at ed
    cases er : (rows1 ++ rows2)[x.toNat]? with
    | none => rw [er] at ed; cases ed
    | some r =>
      rw [er] at ed
      cases ed
      refine ⟨n, _, x, _, rfl, rfl, .inl (.inl (s4.1 _ _ hnp hl3)), ?_, q r _ _ (rows_sz r (List.mem_of_getElem? er)) (hH3.dp s4 (noL_r r) hd) h4 ((Same.but s3).trans s4)⟩
      have := atI_nat ex
      rw [Int.toNat_of_nonneg x0] at this
      exact this
abbrev s_law_any_way : Stmt := topS 31
theorem sc_law_any_way : FnScope ["_law_hand_here", "_law_x", "_law_y"] ["_law_hand_here"] (defScope s_law_any_way) := ⟨rfl, rfl, rfl, by decide +kernel, rfl, by decide +kernel, by decide +kernel⟩
theorem ok_law_any_way (T : Txt K mg "_law_any_way" s_law_any_way) (G_law_take : DefOk P w K mg base CX0 "_law_take" 2 ["_law_hand_here", "_law_many"] spTake) (G_law_way : DefOk P w K mg base CX0 "_law_way" 3 ["_law_hand_here"] (spDraw K (SzR 151))) (G_law_number : DefOk P w K mg base CX0 "_law_number" 3 ["_law_hand_here"] (spNum 151)) (G_law_direction : DefOk P w K mg base CX0 "_law_direction" 2 ["_law_x", "_law_y"] (spWd K)) : DefOk P w K mg base CX0 "_law_any_way" 4 ["_law_hand_here"] (spDraw K (SzR 151)) := by
  obtain ⟨f, fd, F, gf⟩ := T
  refine ⟨f, fd, gf, F.kp, F.binds (fun _ _ _ _ _ _ us hl => match us, hl with | [_], _ => rfl), F.ok sc_law_any_way (fun vs H Q E h => ?_) (fun cdv A outer s H vs Q E hr h => ?_)⟩
  · obtain ⟨p, rfl, _⟩ := h; rfl
  · obtain ⟨p, rfl, hH, q⟩ := h
    refine ⟨_, (pss_cons (ps_if (pt_truth (pe_def G_law_take (hr.mono (by decide)) (by rfl) (pa_cons (pv 0) (pa_cons pe_int pa_nil))) (fun _ => rfl)) (pss_one (ps_ret (pe_def G_law_way (hr.mono (by decide)) (by rfl) (pa_cons (pv 0) pa_nil)))) pss_nil) (pss_cons (ps_par (i := 1) (j := 2) rfl sc_law_any_way.nd rfl rfl (by decide) rfl rfl (pa_cons (pe_def G_law_number (hr.mono (by decide)) (by rfl) (pa_cons (pv 0) pa_nil)) (pa_cons (pe_def G_law_number (hr.mono (by decide)) (by rfl) (pa_cons (pv 0) pa_nil)) pa_nil)) rfl) (pss_one (ps_ret (pe_ifExp (PW.pt (pw_and (pt_cmpR op_eq (pv 1) pe_int (nomark _)) (pw_and1 (pt_cmpR op_eq (pv 2) pe_int (nomark _))))) (pe_tup (pa_cons pe_int (pa_cons (pe_un un_neg pe_int) pa_nil))) (pe_def G_law_direction (hr.mono (by decide)) (by rfl) (pa_cons (pv 1) (pa_cons (pv 2) pa_nil)))))))), ?_⟩
    refine ⟨.ref p, rfl, p, 3, rfl, hH, by decide, by decide, fun k H1 k0 k4 h1 s1 => ?_⟩
    refine ⟨_, rfl, ite2 (fun e => ?_) (fun e => ?_)⟩
    · exact ⟨.ref p, rfl, p, rfl, h1, fun r v H2 o hv h2 s2 => q r v H2 o hv h2 (s1.trans s2)⟩
    · refine ⟨.ref p, rfl, p, rfl, h1, fun x H2 zx h2 s2 => ?_⟩
      refine ⟨.ref p, rfl, p, rfl, h2, fun y H3 zy h3 s3 => ?_⟩
      have s13 := (s1.trans s2).trans s3
      refine ⟨_, _, rfl, ?_⟩
      refine ⟨_, rfl, rfl, _, rfl, ?_⟩
      by_cases x0 : x = 0
      · refine itT (decide_eq_true (by rw [x0])) ⟨_, rfl, rfl, _, rfl, ?_⟩
        by_cases y0 : y = 0
        · refine itT (decide_eq_true (by rw [y0])) ⟨_, rfl, (by show 2 ≤ sizeLine; decide), fun a na => ?_⟩
          have sn := PB.same_new (o := .tup [.int 0, .int (-1)]) na
          exact q (0, -1) _ _ (szr_mono (n := 2) ⟨by show (0 : Int).natAbs < 4; decide, by show (-1 : Int).natAbs < 4; decide⟩ (by decide)) (dp_mkr na) (h3.same sn) (s13.trans (Same.but sn))
        · refine itF (decide_eq_false fun z => y0 (V.int.inj z)) ?_
          exact ⟨_, rfl, _, rfl, x, y, rfl, .inr y0, sz_mono zx (by decide), sz_mono zy (by decide), fun H4 z s4 hz => q _ _ _ ⟨sz_div (.inr y0) zx, sz_div' (.inr y0) zy⟩ hz (h3.same s4) (s13.trans (Same.but s4))⟩
      · refine itF (decide_eq_false fun z => x0 (V.int.inj z)) (itF rfl ?_)
        exact ⟨_, rfl, _, rfl, x, y, rfl, .inl x0, sz_mono zx (by decide), sz_mono zy (by decide), fun H4 z s4 hz => q _ _ _ ⟨sz_div (.inl x0) zx, sz_div' (.inl x0) zy⟩ hz (h3.same s4) (s13.trans (Same.but s4))⟩
end
end F3
set_option Elab.async false
set_option linter.all false
set_option maxRecDepth 100000
set_option maxHeartbeats 4000000
set_option exponentiation.threshold 3000
namespace F3
open PySem PySem.Spec PyProof.Rows L2 FX RM PB
def sgn (i : Int) : Int := if i < 0 then -1 else if 0 < i then 1 else 0
def isDir : PyData → Bool
  | .tuple [.int a, .int b] => decide (g2 a b = 1)
  | .list [.int a, .int b] => decide (g2 a b = 1)
  | _ => false
def quart (d : Int × Int) : Int × Int × Int := if 0 < d.1 ∧ 0 ≤ d.2 then (0, d.1, d.2) else if 0 < d.2 then (1, d.2, -d.1) else if d.1 < 0 then (2, -d.1, -d.2) else (3, -d.2, d.1)
def spSign : Sp := fun vs H Q _ => ∃ i : Int, vs = [.int i] ∧ Q (.int (sgn i)) H
def spD1 (K : PySem.W.Frag) (o : Int × Int → Int × Int) : Sp := fun vs H Q _ => ∃ v d, vs = [v] ∧ Dir K H v d ∧ ∀ H' z, Same H H' → Dp K H' z (rD (o d)) → Q z H'
def spTurn (K : PySem.W.Frag) : Sp := fun vs H Q _ => ∃ v u d e, vs = [v, u] ∧ Dir K H v d ∧ Dir K H u e ∧ SzR 600 d ∧ SzR 600 e ∧ Q (.int (sgn (d.1 * e.2 - d.2 * e.1))) H
def spBet (K : PySem.W.Frag) : Sp := fun vs H Q E => ∃ v u d e, vs = [v, u] ∧ Dir K H v d ∧ Dir K H u e ∧ SzR 600 d ∧ SzR 600 e ∧ ((d.1 + e.1 ≠ 0 ∨ d.2 + e.2 ≠ 0) → ∀ H' z, Same H H' → Dp K H' z (rD (norm (d.1 + e.1) (d.2 + e.2))) → Q z H') ∧ ((d.1 + e.1 = 0 ∧ d.2 + e.2 = 0) → E (.ref (He.ga K "BadDirection")) none H)
def spQuart (K : PySem.W.Frag) : Sp := fun vs H Q _ => ∃ v d, vs = [v] ∧ Dir K H v d ∧ ∀ H' z, Same H H' → Dp K H' z (tD (quart d)) → Q z H'
def spFloor : Sp := fun vs H Q _ => ∃ t b s : Int, vs = [.int t, .int b, .int s] ∧ 0 < b ∧ Sz 2000 t ∧ Sz 2000 b ∧ Sz 4000 s ∧ Q (.int (t * s / b)) H
def spCkD (K : PySem.W.Frag) : Sp := fun vs H Q E => ∃ v d, vs = [v] ∧ Dp K H v d ∧ (∀ a b, (d = .tuple [a, b] ∨ d = .list [a, b]) → isDir d = true → ∀ H' z, Same H H' → Dp K H' z (.tuple [a, b]) → Q z H') ∧ (isDir d = false → ∀ H', Same H H' → E (.ref (He.ga K "BadDirection")) none H')
section
variable {P : Program} {w : World} {K : PySem.W.Frag} {mg : Str → Option Value} {base : Heap}
abbrev ssign_of : Stmt := topS 7
theorem scsign_of : FnScope ["number"] ["number"] (defScope ssign_of) := ⟨rfl, rfl, rfl, by decide +kernel, rfl, by decide +kernel, by decide +kernel⟩
theorem oksign_of (T : Txt K mg "sign_of" ssign_of)  : DefOk P w K mg base CX0 "sign_of" 1 ["number"] spSign := by
  obtain ⟨f, fd, F, gf⟩ := T
  refine ⟨f, fd, gf, F.kp, F.binds (fun _ _ _ _ _ _ us hl => match us, hl with | [_], _ => rfl), F.ok scsign_of (fun vs H Q E h => ?_) (fun cdv A outer s H vs Q E hr h => ?_)⟩
  · obtain ⟨i, rfl, _⟩ := h; rfl
  · obtain ⟨i, rfl, q⟩ := h
    refine ⟨_, (pss_cons (ps_if (pt_cmpR op_lt (pv 0) pe_int (nomark _)) (pss_one (ps_ret (pe_un un_neg pe_int))) pss_nil) (pss_cons (ps_if (pt_cmpR op_gt (pv 0) pe_int (nomark _)) (pss_one (ps_ret pe_int)) pss_nil) (pss_one (ps_ret pe_int)))), ?_⟩
    refine ⟨_, rfl, _, _, rfl, rfl, _, rfl, ite2 (fun e => ?_) (fun e => ?_)⟩
    · have h : i < 0 := of_decide_eq_true e
      have z : sgn i = -1 := if_pos h
      rw [z] at q
      exact ⟨_, rfl, q⟩
    · have h : ¬ i < 0 := fun z => e (decide_eq_true z)
      refine ⟨_, rfl, _, _, rfl, rfl, _, rfl, ite2 (fun e2 => ?_) (fun e2 => ?_)⟩
      · have h2 : 0 < i := of_decide_eq_true e2
        have z : sgn i = 1 := by unfold sgn; rw [if_neg h, if_pos h2]
        rw [z] at q
        exact q
      · have h2 : ¬ 0 < i := fun z => e2 (decide_eq_true z)
        have z : sgn i = 0 := by unfold sgn; rw [if_neg h, if_neg h2]
        rw [z] at q
        exact q
abbrev sacross : Stmt := topS 13
theorem scacross : FnScope ["direction", "x", "y"] ["direction"] (defScope sacross) := ⟨rfl, rfl, rfl, by decide +kernel, rfl, by decide +kernel, by decide +kernel⟩
theorem okacross (T : Txt K mg "across" sacross)  : DefOk P w K mg base CX0 "across" 1 ["direction"] (spD1 K (fun d => (-d.2, d.1))) := by
  obtain ⟨f, fd, F, gf⟩ := T
  refine ⟨f, fd, gf, F.kp, F.binds (fun _ _ _ _ _ _ us hl => match us, hl with | [_], _ => rfl), F.ok scacross (fun vs H Q E h => ?_) (fun cdv A outer s H vs Q E hr h => ?_)⟩
  · obtain ⟨v, d, rfl, _⟩ := h; rfl
  · obtain ⟨v, d, rfl, c, q⟩ := h
    refine ⟨_, (pss_cons (ps_asg (pv 0) (pg_cou rfl (pgs_cons (pg_name (i := 1) scacross.nd rfl (.inl rfl)) (pgs_cons (pg_name (i := 2) scacross.nd rfl (.inl rfl)) pgs_nil)))) (pss_one (ps_ret (pe_tup (pa_cons (pe_un un_neg (pv 2)) (pa_cons (pv 1) pa_nil)))))), ?_⟩
    exact ⟨v, rfl, _, _, c, _, _, rfl, _, _, rfl, rfl, _, rfl, _, rfl, _, rfl, (by show 2 ≤ sizeLine; decide), fun p np => q _ _ (PB.same_new np) (dp_mkr np)⟩
abbrev sopposite : Stmt := topS 14
theorem scopposite : FnScope ["direction", "x", "y"] ["direction"] (defScope sopposite) := ⟨rfl, rfl, rfl, by decide +kernel, rfl, by decide +kernel, by decide +kernel⟩
theorem okopposite (T : Txt K mg "opposite" sopposite)  : DefOk P w K mg base CX0 "opposite" 1 ["direction"] (spD1 K (fun d => (-d.1, -d.2))) := by
  obtain ⟨f, fd, F, gf⟩ := T
  refine ⟨f, fd, gf, F.kp, F.binds (fun _ _ _ _ _ _ us hl => match us, hl with | [_], _ => rfl), F.ok scopposite (fun vs H Q E h => ?_) (fun cdv A outer s H vs Q E hr h => ?_)⟩
  · obtain ⟨v, d, rfl, _⟩ := h; rfl
  · obtain ⟨v, d, rfl, c, q⟩ := h
    refine ⟨_, (pss_cons (ps_asg (pv 0) (pg_cou rfl (pgs_cons (pg_name (i := 1) scopposite.nd rfl (.inl rfl)) (pgs_cons (pg_name (i := 2) scopposite.nd rfl (.inl rfl)) pgs_nil)))) (pss_one (ps_ret (pe_tup (pa_cons (pe_un un_neg (pv 1)) (pa_cons (pe_un un_neg (pv 2)) pa_nil)))))), ?_⟩
    exact ⟨v, rfl, _, _, c, _, _, rfl, _, _, rfl, rfl, _, rfl, _, rfl, _, rfl, _, rfl, (by show 2 ≤ sizeLine; decide), fun p np => q _ _ (PB.same_new np) (dp_mkr np)⟩
abbrev smirror_direction : Stmt := topS 15
theorem scmirror_direction : FnScope ["direction", "x", "y"] ["direction"] (defScope smirror_direction) := ⟨rfl, rfl, rfl, by decide +kernel, rfl, by decide +kernel, by decide +kernel⟩
theorem okmirror_direction (T : Txt K mg "mirror_direction" smirror_direction)  : DefOk P w K mg base CX0 "mirror_direction" 1 ["direction"] (spD1 K (fun d => (-d.1, d.2))) := by
  obtain ⟨f, fd, F, gf⟩ := T
  refine ⟨f, fd, gf, F.kp, F.binds (fun _ _ _ _ _ _ us hl => match us, hl with | [_], _ => rfl), F.ok scmirror_direction (fun vs H Q E h => ?_) (fun cdv A outer s H vs Q E hr h => ?_)⟩
  · obtain ⟨v, d, rfl, _⟩ := h; rfl
  · obtain ⟨v, d, rfl, c, q⟩ := h
    refine ⟨_, (pss_cons (ps_asg (pv 0) (pg_cou rfl (pgs_cons (pg_name (i := 1) scmirror_direction.nd rfl (.inl rfl)) (pgs_cons (pg_name (i := 2) scmirror_direction.nd rfl (.inl rfl)) pgs_nil)))) (pss_one (ps_ret (pe_tup (pa_cons (pe_un un_neg (pv 1)) (pa_cons (pv 2) pa_nil)))))), ?_⟩
    exact ⟨v, rfl, _, _, c, _, _, rfl, _, _, rfl, rfl, _, rfl, _, rfl, _, rfl, (by show 2 ≤ sizeLine; decide), fun p np => q _ _ (PB.same_new np) (dp_mkr np)⟩
abbrev sturn_of : Stmt := topS 17
theorem scturn_of : FnScope ["one", "other"] ["one", "other"] (defScope sturn_of) := ⟨rfl, rfl, rfl, by decide +kernel, rfl, by decide +kernel, by decide +kernel⟩
theorem okturn_of (T : Txt K mg "turn_of" sturn_of) (Gsign_of : DefOk P w K mg base CX0 "sign_of" 1 ["number"] spSign) : DefOk P w K mg base CX0 "turn_of" 2 ["one", "other"] (spTurn K) := by
  obtain ⟨f, fd, F, gf⟩ := T
  refine ⟨f, fd, gf, F.kp, F.binds (fun _ _ _ _ _ _ us hl => match us, hl with | [_, _], _ => rfl), F.ok scturn_of (fun vs H Q E h => ?_) (fun cdv A outer s H vs Q E hr h => ?_)⟩
  · obtain ⟨v, u, d, e, rfl, _⟩ := h; rfl
  · obtain ⟨v, u, d, e, rfl, c1, c2, zd, ze, q⟩ := h
    refine ⟨_, (pss_one (ps_ret (pe_def Gsign_of (hr.mono (by decide)) (by rfl) (pa_cons (pe_op op_sub (pe_op op_mulW (pe_ix ix_it (pv 0) pe_int (fun _ _ => rfl)) (pe_ix ix_it (pv 1) pe_int (fun _ _ => rfl))) (pe_op op_mulW (pe_ix ix_it (pv 0) pe_int (fun _ _ => rfl)) (pe_ix ix_it (pv 1) pe_int (fun _ _ => rfl)))) pa_nil)))), ?_⟩
    exact ⟨v, rfl, _, _, 0, _, rfl, c1, rfl, u, rfl, _, _, 1, _, rfl, c2, rfl, _, _, rfl, rfl, wide_mul zd.1 ze.2 (by decide) (by decide) (by decide), v, rfl, _, _, 1, _, rfl, c1, rfl, u, rfl, _, _, 0, _, rfl, c2, rfl, _, _, rfl, rfl, wide_mul zd.2 ze.1 (by decide) (by decide) (by decide), _, _, rfl, rfl, _, rfl, q⟩
abbrev sbetween_of : Stmt := topS 16
theorem scbetween_of : FnScope ["one", "other"] ["one", "other"] (defScope sbetween_of) := ⟨rfl, rfl, rfl, by decide +kernel, rfl, by decide +kernel, by decide +kernel⟩
theorem okXbetween_of (T : Txt K mg "between_of" sbetween_of) (Xwhole_direction : DefOk P w K mg base (L2.CX P w) "whole_direction" 1 ["x", "y"] (spWdX K)) : DefOk P w K mg base (L2.CX P w) "between_of" 2 ["one", "other"] (spBet K) := by
  obtain ⟨f, fd, F, gf⟩ := T
  refine ⟨f, fd, gf, F.kp, F.binds (fun _ _ _ _ _ _ us hl => match us, hl with | [_, _], _ => rfl), F.okX scbetween_of (fun vs H Q E h => ?_) (fun cdv A outer s H vs Q E hr h => ?_)⟩
  · obtain ⟨v, u, d, e, rfl, _⟩ := h; rfl
  · obtain ⟨v, u, d, e, rfl, c1, c2, zd, ze, q1, q2⟩ := h
    refine ⟨_, (pss_one (ps_ret (pe_defX (E := E) Xwhole_direction (hr.mono (by decide)) (by rfl) (pa_cons (pe_op op_add (pe_ix ix_it (pv 0) pe_int (fun _ _ => rfl)) (pe_ix ix_it (pv 1) pe_int (fun _ _ => rfl))) (pa_cons (pe_op op_add (pe_ix ix_it (pv 0) pe_int (fun _ _ => rfl)) (pe_ix ix_it (pv 1) pe_int (fun _ _ => rfl))) pa_nil)) (takes_of rfl rfl rfl rfl)))), ?_⟩
    exact ⟨v, rfl, _, _, 0, _, rfl, c1, rfl, u, rfl, _, _, 0, _, rfl, c2, rfl, _, _, rfl, rfl, v, rfl, _, _, 1, _, rfl, c1, rfl, u, rfl, _, _, 1, _, rfl, c2, rfl, _, _, rfl, rfl, _, _, rfl, sz_mono (sz_add zd.1 ze.1) (by decide), sz_mono (sz_add zd.2 ze.2) (by decide), q1, q2⟩
abbrev squarter_of : Stmt := topS 18
theorem scquarter_of : FnScope ["direction", "x", "y"] ["direction"] (defScope squarter_of) := ⟨rfl, rfl, rfl, by decide +kernel, rfl, by decide +kernel, by decide +kernel⟩
theorem okquarter_of (T : Txt K mg "quarter_of" squarter_of)  : DefOk P w K mg base CX0 "quarter_of" 1 ["direction"] (spQuart K) := by
  obtain ⟨f, fd, F, gf⟩ := T
  refine ⟨f, fd, gf, F.kp, F.binds (fun _ _ _ _ _ _ us hl => match us, hl with | [_], _ => rfl), F.ok scquarter_of (fun vs H Q E h => ?_) (fun cdv A outer s H vs Q E hr h => ?_)⟩
  · obtain ⟨v, d, rfl, _⟩ := h; rfl
  · obtain ⟨v, d, rfl, c, q⟩ := h
    refine ⟨_, (pss_cons (ps_asg (pv 0) (pg_cou rfl (pgs_cons (pg_name (i := 1) scquarter_of.nd rfl (.inl rfl)) (pgs_cons (pg_name (i := 2) scquarter_of.nd rfl (.inl rfl)) pgs_nil)))) (pss_cons (ps_if (PW.pt (pw_and (pt_cmpR op_gt (pv 1) pe_int (nomark _)) (pw_and1 (pt_cmpR op_ge (pv 2) pe_int (nomark _))))) (pss_one (ps_ret (pe_tup (pa_cons pe_int (pa_cons (pv 1) (pa_cons (pv 2) pa_nil)))))) pss_nil) (pss_cons (ps_if (pt_cmpR op_gt (pv 2) pe_int (nomark _)) (pss_one (ps_ret (pe_tup (pa_cons pe_int (pa_cons (pv 2) (pa_cons (pe_un un_neg (pv 1)) pa_nil)))))) pss_nil) (pss_cons (ps_if (pt_cmpR op_lt (pv 1) pe_int (nomark _)) (pss_one (ps_ret (pe_tup (pa_cons pe_int (pa_cons (pe_un un_neg (pv 1)) (pa_cons (pe_un un_neg (pv 2)) pa_nil)))))) pss_nil) (pss_one (ps_ret (pe_tup (pa_cons pe_int (pa_cons (pe_un un_neg (pv 2)) (pa_cons (pv 1) pa_nil)))))))))), ?_⟩
    have fin : ∀ (a b e : Int), quart d = (a, b, e) → ∀ p, H p = none → Q (.ref p) (upd H p (.tup [.int a, .int b, .int e])) := fun a b e h p np => q _ _ (PB.same_new np) (by rw [h]; exact .tup (.inl (.inl upd_same)) (.cons (.int _) (.cons (.int _) (.cons (.int _) .nil))))
    refine ⟨v, rfl, _, _, c, _, _, rfl, _, _, rfl, rfl, ?_⟩
    by_cases x0 : 0 < d.1
    · refine ⟨_, rfl, _, _, rfl, rfl, _, rfl, itT (decide_eq_true x0) ?_⟩
      by_cases y0 : 0 ≤ d.2
      · refine ⟨_, rfl, _, _, rfl, rfl, _, rfl, itT (decide_eq_true y0) ?_⟩
        exact ⟨_, rfl, _, rfl, (by show 3 ≤ sizeLine; decide), fin _ _ _ (if_pos ⟨x0, y0⟩)⟩
      · refine ⟨_, rfl, _, _, rfl, rfl, _, rfl, itF (decide_eq_false y0) ?_⟩
        refine ⟨_, rfl, _, _, rfl, rfl, _, rfl, itF (decide_eq_false (by omega)) ?_⟩
        refine ⟨_, rfl, _, _, rfl, rfl, _, rfl, itF (decide_eq_false (by omega)) ?_⟩
        exact ⟨_, rfl, _, rfl, _, rfl, (by show 3 ≤ sizeLine; decide), fin _ _ _ (by unfold quart; rw [if_neg (by omega), if_neg (by omega), if_neg (by omega)])⟩
    · refine ⟨_, rfl, _, _, rfl, rfl, _, rfl, itF (decide_eq_false x0) (itF rfl ?_)⟩
      by_cases y0 : 0 < d.2
      · refine ⟨_, rfl, _, _, rfl, rfl, _, rfl, itT (decide_eq_true y0) ?_⟩
        exact ⟨_, rfl, _, rfl, _, rfl, (by show 3 ≤ sizeLine; decide), fin _ _ _ (by unfold quart; rw [if_neg (by omega), if_pos y0])⟩
      · refine ⟨_, rfl, _, _, rfl, rfl, _, rfl, itF (decide_eq_false y0) ?_⟩
        by_cases xn : d.1 < 0
        · refine ⟨_, rfl, _, _, rfl, rfl, _, rfl, itT (decide_eq_true xn) ?_⟩
          exact ⟨_, rfl, _, rfl, _, rfl, _, rfl, (by show 3 ≤ sizeLine; decide), fin _ _ _ (by unfold quart; rw [if_neg (by omega), if_neg y0, if_pos xn])⟩
        · refine ⟨_, rfl, _, _, rfl, rfl, _, rfl, itF (decide_eq_false xn) ?_⟩
          exact ⟨_, rfl, _, rfl, _, rfl, (by show 3 ≤ sizeLine; decide), fin _ _ _ (by unfold quart; rw [if_neg (by omega), if_neg y0, if_neg xn])⟩
abbrev sis_direction : Stmt := topS 9
theorem scis_direction : FnScope ["thing"] ["thing"] (defScope sis_direction) := ⟨rfl, rfl, rfl, by decide +kernel, rfl, by decide +kernel, by decide +kernel⟩
theorem okis_direction (T : Txt K mg "is_direction" sis_direction) (Gis_row : DefOk P w K mg base CX0 "is_row" 1 ["thing"] (spRow K isRo)) (Gw1 : DefDf P w K mg base "is_whole" 1 ["thing", "low", "high"] [.non, .non] (spWhole K)) (mlen : mg "len" = none) (mgcd : mg "gcd" = some (.builtin "math.gcd")) : DefOk P w K mg base CX0 "is_direction" 2 ["thing"] (spRow K isDir) := by
  obtain ⟨f, fd, F, gf⟩ := T
  refine ⟨f, fd, gf, F.kp, F.binds (fun _ _ _ _ _ _ us hl => match us, hl with | [_], _ => rfl), F.ok scis_direction (fun vs H Q E h => ?_) (fun cdv A outer s H vs Q E hr h => ?_)⟩
  · obtain ⟨v, d, rfl, _⟩ := h; rfl
  · obtain ⟨v, d, rfl, hv, q⟩ := h
    refine ⟨_, (pss_cons (ps_if (PW.pt (pw_or (pt_not (pt_val (pe_def Gis_row (hr.mono (by decide)) (by rfl) (pa_cons (pv 0) pa_nil)))) (pw_or1 (pt_cmpR op_ne (pe_callB call_len_seq (by rfl) mlen PySem.boot_len (pa_cons (pv 0) pa_nil)) pe_int (nomark _))))) (pss_one (ps_ret pe_bl)) pss_nil) (pss_one (ps_ret (pe_and (pe_defd Gw1 (hr.mono (by decide)) (by rfl) (pa_cons (pe_ix ix_it (pv 0) pe_int (fun _ _ => rfl)) pa_nil)) (pe_and (pe_defd Gw1 (hr.mono (by decide)) (by rfl) (pa_cons (pe_ix ix_it (pv 0) pe_int (fun _ _ => rfl)) pa_nil)) (pe_one (pe_cmpR op_eq (pe_callBfun cr_gcd (by rfl) mgcd (pa_cons (pe_ix ix_it (pv 0) pe_int (fun _ _ => rfl)) (pa_cons (pe_ix ix_it (pv 0) pe_int (fun _ _ => rfl)) pa_nil))) pe_int (nomark _)))))))), ?_⟩
    refine ⟨v, rfl, v, d, rfl, hv, fun H1 s1 => ⟨_, rfl, ?_⟩⟩
    have q1 := q H1 s1
    have hv1 := Dp_same s1 hv
    cases eR : isRo d with
    | false =>
      have z : isDir d = false := by cases d <;> simp_all [isRo, isDir]
      rw [z] at q1
      exact itT rfl (itT rfl q1)
    | true =>
      have two : ∃ (a : Addr) (xs : List V) (ds : List PyData), v = .ref a ∧ (SqL K H1 a xs ∨ SqT K H1 a xs) ∧ DpAll K H1 xs ds ∧ (d = .tuple ds ∨ d = .list ds) := by
        cases hv1 with
        | non => cases eR
        | bl _ => cases eR
        | int _ => cases eR
        | str _ => cases eR
        | lst hs hd => exact ⟨_, _, _, rfl, .inl hs, hd, .inr rfl⟩
        | tup hs hd => exact ⟨_, _, _, rfl, .inr hs, hd, .inl rfl⟩
      obtain ⟨a, xs, ds, rfl, hs, hd, ed⟩ := two
      refine itF rfl ⟨.ref a, rfl, a, xs, rfl, hs, rfl, _, rfl, ?_⟩
      by_cases l2 : xs.length = 2
      · have e0 : (!decide (V.int (xs.length : Int) = V.int 2)) = false := by rw [l2]; rfl
        refine itF e0 ?_
        obtain ⟨x, y, rfl⟩ := len_two' l2
        cases hd with
        | cons hx hd => cases hd with
          | @cons _ _ dy ds2 hy hd => cases hd with
            | nil =>
              rename_i dx
              have c : Cou K H1 (.ref a) x y := ⟨a, rfl, hs.symm⟩
              refine ⟨.ref a, rfl, x, y, 0, _, rfl, c, rfl, x, dx, none, rfl, hx, _, rfl, ?_⟩
              cases w1 : isWh dx none with
              | false =>
                have z : isDir d = false := by rcases ed with rfl | rfl <;> cases dx <;> simp_all [isWh, isDir]
                rw [z] at q1
                exact itF rfl q1
              | true =>
                obtain ⟨t, rfl⟩ : ∃ t, dx = .int t := by cases dx <;> simp_all [isWh]
                refine itT rfl ⟨.ref a, rfl, x, y, 1, _, rfl, c, rfl, y, dy, none, rfl, hy, _, rfl, ?_⟩
                cases w2 : isWh dy none with
                | false =>
                  have z : isDir d = false := by rcases ed with rfl | rfl <;> cases dy <;> simp_all [isWh, isDir]
                  rw [z] at q1
                  exact itF rfl q1
                | true =>
                  obtain ⟨b, rfl⟩ : ∃ b, dy = .int b := by cases dy <;> simp_all [isWh]
                  obtain rfl := dp_int hx
                  obtain rfl := dp_int hy
                  refine itT rfl ⟨.ref a, rfl, _, _, 0, _, rfl, c, rfl, .ref a, rfl, _, _, 1, _, rfl, c, rfl, t, b, rfl, rfl, ?_⟩
                  have z : isDir d = decide (V.int (g2 t b) = V.int 1) := by
                    have e1 : isDir d = decide (g2 t b = 1) := by rcases ed with rfl | rfl <;> rfl
                    rw [e1]
                    by_cases k : g2 t b = 1
                    · rw [decide_eq_true k, k]; rfl
                    · rw [decide_eq_false k, decide_eq_false (fun z => k (V.int.inj z))]
                  rw [z] at q1
                  exact q1
      · have e0 : (!decide (V.int (xs.length : Int) = V.int 2)) = true := by
          rw [decide_eq_false (fun z => l2 (by have := V.int.inj z; omega))]; rfl
        have z : isDir d = false := by
          have dl := DpAll_len hd
          match ds, dl with
          | [], _ => rcases ed with rfl | rfl <;> rfl
          | [_], _ => rcases ed with rfl | rfl <;> simp [isDir]
          | [_, _], dl => exact absurd dl l2
          | _ :: _ :: _ :: _, _ => rcases ed with rfl | rfl <;> simp [isDir]
        rw [z] at q1
        exact itT e0 q1
abbrev scheck_direction : Stmt := topS 10
theorem sccheck_direction : FnScope ["direction"] ["direction"] (defScope scheck_direction) := ⟨rfl, rfl, rfl, by decide +kernel, rfl, by decide +kernel, by decide +kernel⟩
theorem okXcheck_direction (T : Txt K mg "check_direction" scheck_direction) (Gis_direction : DefOk P w K mg base CX0 "is_direction" 2 ["thing"] (spRow K isDir)) (cBadDirection : ClsOk K "BadDirection" []) (gBadDirection : mg "BadDirection" = some (.ref (He.ga K "BadDirection"))) : DefOk P w K mg base (L2.CX P w) "check_direction" 3 ["direction"] (spCkD K) := by
  obtain ⟨f, fd, F, gf⟩ := T
  refine ⟨f, fd, gf, F.kp, F.binds (fun _ _ _ _ _ _ us hl => match us, hl with | [_], _ => rfl), F.okX sccheck_direction (fun vs H Q E h => ?_) (fun cdv A outer s H vs Q E hr h => ?_)⟩
  · obtain ⟨v, d, rfl, _⟩ := h; rfl
  · obtain ⟨v, d, rfl, hv, q, qE⟩ := h
    refine ⟨_, (pss_cons (ps_if (pt_not (pt_val (pe_def Gis_direction (hr.mono (by decide)) (by rfl) (pa_cons (pv 0) pa_nil)))) (pss_one (ps_raise rfl (takes_of rfl rfl rfl rfl) (pmk_ex0 H rfl rfl cBadDirection.o (cBadDirection.xin rfl) (by rfl) gBadDirection))) pss_nil) (pss_one (ps_ret (pe_tup (pa_cons (pe_ix ix_it (pv 0) pe_int (fun _ _ => rfl)) (pa_cons (pe_ix ix_it (pv 0) pe_int (fun _ _ => rfl)) pa_nil)))))), ?_⟩
    refine ⟨v, rfl, v, d, rfl, hv, fun H1 s1 => ⟨_, rfl, ?_⟩⟩
    cases eP : isDir d with
    | false => exact itT rfl ⟨fun a na => s1.free na, qE eP H1 s1⟩
    | true =>
      have hv1 := Dp_same s1 hv
      have two : ∃ a b x y, (d = .tuple [a, b] ∨ d = .list [a, b]) ∧ Cou K H1 v x y ∧ Dp K H1 x a ∧ Dp K H1 y b := by
        unfold isDir at eP
        split at eP
        · obtain ⟨p, x, y, rfl, hs, hx, hy⟩ := dp_t2 hv1
          exact ⟨_, _, x, y, .inl rfl, ⟨p, rfl, .inl hs⟩, hx, hy⟩
        · obtain ⟨p, x, y, rfl, hs, hx, hy⟩ := dp_l2 hv1
          exact ⟨_, _, x, y, .inr rfl, ⟨p, rfl, .inr hs⟩, hx, hy⟩
        · cases eP
      obtain ⟨a, b, x, y, ed, c, hx, hy⟩ := two
      refine itF rfl ⟨v, rfl, x, y, 0, _, rfl, c, rfl, v, rfl, x, y, 1, _, rfl, c, rfl, (by show 2 ≤ sizeLine; decide), fun p np => ?_⟩
      exact q a b ed eP _ _ (s1.trans (PB.same_new np)) (dp_mk2 np hx hy)
abbrev sscaled_floor : Stmt := topS 19
theorem scscaled_floor : FnScope ["top", "bottom", "scale"] ["top", "bottom", "scale"] (defScope sscaled_floor) := ⟨rfl, rfl, rfl, by decide +kernel, rfl, by decide +kernel, by decide +kernel⟩
theorem okscaled_floor (T : Txt K mg "scaled_floor" sscaled_floor)  : DefOk P w K mg base CX0 "scaled_floor" 1 ["top", "bottom", "scale"] spFloor := by
  obtain ⟨f, fd, F, gf⟩ := T
  refine ⟨f, fd, gf, F.kp, F.binds (fun _ _ _ _ _ _ us hl => match us, hl with | [_, _, _], _ => rfl), F.ok scscaled_floor (fun vs H Q E h => ?_) (fun cdv A outer s H vs Q E hr h => ?_)⟩
  · obtain ⟨t, b, s_, rfl, _⟩ := h; rfl
  · obtain ⟨t, b, s_, rfl, b0, zt, zb, zs, q⟩ := h
    refine ⟨_, (pss_one (ps_ret (pe_op op_fdivW (pe_op op_mulW (pv 0) (pv 2)) (pv 1)))), ?_⟩
    exact ⟨_, rfl, _, rfl, _, _, rfl, rfl, wide_mul zt zs (by decide) (by decide) (by decide), _, rfl, _, _, rfl, rfl, wide_div b0 zb (by decide) (by decide), q⟩
end
end F3
set_option Elab.async false
set_option linter.all false
set_option maxRecDepth 100000
set_option maxHeartbeats 4000000
/-! round order: the numbers by which rows of directions are sorted -/
namespace F3
open PySem PySem.Spec PyProof.Rows L2 FX RM PB KD
open PySem.W (dataLe keyToks keyToksAll)
def halfOf (d : Dn) : Int := if 0 < d.2 ∨ (d.2 = 0 ∧ 0 < d.1) then 0 else 1
/-- a lesser angle -/
def Bef (d e : Dn) : Prop := halfOf d < halfOf e ∨ (halfOf d = halfOf e ∧ 0 < d.1 * e.2 - d.2 * e.1)
def Prim (d : Dn) : Prop := g2 d.1 d.2 = 1
theorem prim_ne {d : Dn} (h : Prim d) : d.1 ≠ 0 ∨ d.2 ≠ 0 := by
  by_cases a : d.1 = 0
  · refine .inr fun b => ?_
    unfold Prim at h
    rw [a, b] at h
    exact absurd h (by decide)
  · exact .inl a
theorem quart_pos {d : Dn} (h : Prim d) : 0 < (quart d).2.1 ∧ 0 ≤ (quart d).2.2 := by
  have nz := prim_ne h
  unfold quart
  split
  · rename_i c; exact c
  · split
    · rename_i c1 c2; exact ⟨c2, by show 0 ≤ -d.1; omega⟩
    · split
      · rename_i c1 c2 c3; exact ⟨by show 0 < -d.1; omega, by show 0 ≤ -d.2; omega⟩
      · rename_i c1 c2 c3; exact ⟨by show 0 < -d.2; omega, by show 0 ≤ d.1; omega⟩
/-- the direction of a row -/
def unq (q : Int × Int × Int) : Dn := if q.1 = 0 then (q.2.1, q.2.2) else if q.1 = 1 then (-q.2.2, q.2.1) else if q.1 = 2 then (-q.2.1, -q.2.2) else (q.2.2, -q.2.1)
theorem unq_quart (d : Dn) : unq (quart d) = d ∧ ((quart d).1 = 0 ∨ (quart d).1 = 1 ∨ (quart d).1 = 2 ∨ (quart d).1 = 3) := by
  unfold quart
  split
  · exact ⟨rfl, .inl rfl⟩
  · split
    · exact ⟨Prod.ext (by show -(-d.1) = d.1; omega) rfl, .inr (.inl rfl)⟩
    · split
      · exact ⟨Prod.ext (by show -(-d.1) = d.1; omega) (by show -(-d.2) = d.2; omega), .inr (.inr (.inl rfl))⟩
      · exact ⟨Prod.ext rfl (by show -(-d.2) = d.2; omega), .inr (.inr (.inr rfl))⟩
theorem quart_prim {d : Dn} (h : Prim d) : IsRat ((quart d).2.2, (quart d).2.1) := by
  refine ⟨(quart_pos h).1, ?_⟩
  have g : Nat.gcd d.1.natAbs d.2.natAbs = 1 := by
    have := h
    unfold Prim g2 at this
    exact Int.ofNat.inj this
  show Nat.gcd (quart d).2.2.natAbs (quart d).2.1.natAbs = 1
  unfold quart
  split
  · rw [Nat.gcd_comm]; exact g
  · split
    · show Nat.gcd (-d.1).natAbs d.2.natAbs = 1
      rw [Int.natAbs_neg]; exact g
    · split
      · show Nat.gcd (-d.2).natAbs (-d.1).natAbs = 1
        rw [Int.natAbs_neg, Int.natAbs_neg, Nat.gcd_comm]; exact g
      · show Nat.gcd d.1.natAbs (-d.2).natAbs = 1
        rw [Int.natAbs_neg]; exact g
theorem quart_eq {d e : Dn} (hd : Prim d) (he : Prim e) (q : (quart d).1 = (quart e).1) (c : (quart d).2.2 * (quart e).2.1 = (quart e).2.2 * (quart d).2.1) : d = e := by
  have r := rat_eq (quart_prim hd) (quart_prim he) c
  have r1 := congrArg Prod.fst r
  have r2 := congrArg Prod.snd r
  rw [← (unq_quart d).1, ← (unq_quart e).1]
  exact congrArg unq (Prod.ext q (Prod.ext r2 r1))
theorem floor_lt {x1 y1 x2 y2 s : Int} (h1 : 0 < x1) (h2 : 0 < x2) (hs : x1 * x2 ≤ s) (c : y1 * x2 < y2 * x1) : y1 * s / x1 < y2 * s / x2 := by
  have s0 : 0 < s := Int.lt_of_lt_of_le (Int.mul_pos h1 h2) hs
  refine Int.lt_of_lt_of_le (Int.lt_succ _) ((Int.le_ediv_iff_mul_le h2).mpr ?_)
  have a : y1 * s / x1 * x1 ≤ y1 * s := Int.ediv_mul_le _ (by omega)
  refine Int.le_of_mul_le_mul_right (a := x1) ?_ h1
  have b : y1 * s / x1 * x1 * x2 ≤ y1 * s * x2 := Int.mul_le_mul_of_nonneg_right a (by omega)
  have k : s * 1 ≤ s * (y2 * x1 - y1 * x2) := Int.mul_le_mul_of_nonneg_left (by omega) (by omega)
  have e1 : (y1 * s / x1 + 1) * x2 * x1 = y1 * s / x1 * x1 * x2 + x1 * x2 := by generalize y1 * s / x1 = m; grind
  have e2 : y2 * s * x1 = s * (y2 * x1 - y1 * x2) + y1 * s * x2 := by grind
  rw [e1, e2]
  omega
/-- the row that is sorted -/
def rowD (s : Int) (d : Dn) : PyData := .tuple [.int (quart d).1, .int ((quart d).2.2 * s / (quart d).2.1), rD d]
theorem toks_row (s : Int) (d : Dn) : keyToks (rowD s d) = [.inl 1, .inl (quart d).1, .inl 1, .inl ((quart d).2.2 * s / (quart d).2.1), .inl 1, .inl 1, .inl d.1, .inl 1, .inl d.2, .inl 0, .inl 0] := by
  simp [rowD, rD, keyToks, keyToksAll]
theorem lex1 (a b : Int) (h : a < b) (l m : List (Int ⊕ List Nat)) : PyProof.Rows.lexLt itemOrd (.inl a :: l) (.inl b :: m) = true := by
  rw [PyProof.Rows.lex_cons]
  have : itemOrd.blt (.inl a : Int ⊕ List Nat) (.inl b) = true := decide_eq_true h
  rw [this]; rfl
theorem row_le {s : Int} {d e : Dn} (hd : Prim d) (he : Prim e) (ne : d ≠ e) (s1 : (quart d).2.1 * (quart e).2.1 ≤ s) (h : (!PyProof.Rows.lexLt itemOrd (keyToks (rowD s e)) (keyToks (rowD s d))) = true) : Bef d e := by
  rw [toks_row, toks_row, PyProof.Rows.lex_self] at h
  have q1 : ¬ (quart e).1 < (quart d).1 := fun z => by rw [lex1 _ _ z] at h; cases h
  obtain ⟨pd, od⟩ := quart_pos hd
  obtain ⟨pe, oe⟩ := quart_pos he
  obtain ⟨ud, kd⟩ := unq_quart d
  obtain ⟨ue, ke⟩ := unq_quart e
  have hl : halfOf (unq (quart d)) = (if (quart d).1 ≤ 1 then 0 else 1) := by
    unfold unq halfOf
    generalize quart d = q at *
    obtain ⟨q, x, y⟩ := q
    dsimp only at *
    rcases kd with rfl | rfl | rfl | rfl <;> simp <;> omega
  have hm : halfOf (unq (quart e)) = (if (quart e).1 ≤ 1 then 0 else 1) := by
    unfold unq halfOf
    generalize quart e = q at *
    obtain ⟨q, x, y⟩ := q
    dsimp only at *
    rcases ke with rfl | rfl | rfl | rfl <;> simp <;> omega
  by_cases qe : (quart d).1 = (quart e).1
  · rw [qe, PyProof.Rows.lex_self, PyProof.Rows.lex_self] at h
    have f1 : ¬ (quart e).2.2 * s / (quart e).2.1 < (quart d).2.2 * s / (quart d).2.1 := fun z => by rw [lex1 _ _ z] at h; cases h
    have c : (quart d).2.2 * (quart e).2.1 < (quart e).2.2 * (quart d).2.1 := by
      rcases Int.lt_trichotomy ((quart d).2.2 * (quart e).2.1) ((quart e).2.2 * (quart d).2.1) with c | c | c
      · exact c
      · exact absurd (quart_eq hd he qe c) ne
      · exact absurd (floor_lt pe pd (by rw [Int.mul_comm]; exact s1) c) f1
    refine .inr ⟨?_, ?_⟩
    · rw [← ud, ← ue, hl, hm, qe]
    · have x0 : 0 < (quart d).2.1 * (quart e).2.2 - (quart d).2.2 * (quart e).2.1 := by
        have e1 : (quart e).2.2 * (quart d).2.1 = (quart d).2.1 * (quart e).2.2 := Int.mul_comm _ _
        omega
      rw [← ud, ← ue]
      generalize quart d = q at *
      generalize quart e = r at *
      obtain ⟨q, x, y⟩ := q
      obtain ⟨r, z, w⟩ := r
      dsimp only at *
      subst qe
      rcases kd with rfl | rfl | rfl | rfl
      · exact x0
      · show 0 < -y * z - x * -w
        have : -y * z - x * -w = x * w - y * z := by grind
        omega
      · show 0 < -x * -w - -y * -z
        have : -x * -w - -y * -z = x * w - y * z := by grind
        omega
      · show 0 < y * -z - -x * w
        have : y * -z - -x * w = x * w - y * z := by grind
        omega
  · have ql : (quart d).1 < (quart e).1 := by omega
    unfold Bef
    rw [← ud, ← ue, hl, hm]
    have cr : (quart d).1 + 1 = (quart e).1 → 0 < (unq (quart d)).1 * (unq (quart e)).2 - (unq (quart d)).2 * (unq (quart e)).1 := fun k => by
      have m1 : 0 < (quart d).2.1 * (quart e).2.1 := Int.mul_pos pd pe
      have m2 : 0 ≤ (quart d).2.2 * (quart e).2.2 := Int.mul_nonneg od oe
      generalize quart d = q at *
      generalize quart e = r at *
      obtain ⟨q, x, y⟩ := q
      obtain ⟨r, z, w⟩ := r
      dsimp only at *
      rcases kd with rfl | rfl | rfl | rfl
      · obtain rfl : r = 1 := by omega
        show 0 < x * z - y * -w
        have : x * z - y * -w = x * z + y * w := by grind
        omega
      · obtain rfl : r = 2 := by omega
        show 0 < -y * -w - x * -z
        have : -y * -w - x * -z = x * z + y * w := by grind
        omega
      · obtain rfl : r = 3 := by omega
        show 0 < -x * -z - -y * w
        have : -x * -z - -y * w = x * z + y * w := by grind
        omega
      · omega
    by_cases h1 : (quart d).1 ≤ 1
    · by_cases h2 : (quart e).1 ≤ 1
      · exact .inr ⟨by rw [if_pos h1, if_pos h2], cr (by omega)⟩
      · exact .inl (by rw [if_pos h1, if_neg h2]; decide)
    · have h2 : ¬ (quart e).1 ≤ 1 := by omega
      exact .inr ⟨by rw [if_neg h1, if_neg h2], cr (by omega)⟩
/-- the direction of a sorted row -/
def getD' : PyData → Dn
  | .tuple [_, _, .tuple [.int a, .int b]] => (a, b)
  | _ => (0, 0)
theorem get_row (s : Int) (d : Dn) : getD' (rowD s d) = d := rfl
theorem alike_rows (s : Int) (us : List Dn) : PySem.W.AllAlike (us.map (rowD s)) := fun x hx y hy => by
  obtain ⟨a, _, rfl⟩ := List.mem_map.mp hx
  obtain ⟨b, _, rfl⟩ := List.mem_map.mp hy
  simp [rowD, rD, PySem.W.alike, PySem.W.alikeAll]
theorem sortable_rows (s : Int) (us : List Dn) : PySem.W.Sortable (us.map (rowD s)) := .inl fun x hx => by
  obtain ⟨a, _, rfl⟩ := List.mem_map.mp hx
  exact ⟨_, _, rfl⟩
theorem depth_rows (s : Int) (us : List Dn) : ∀ d ∈ us.map (rowD s), d.depth ≤ 60 := fun x hx => by
  obtain ⟨a, _, rfl⟩ := List.mem_map.mp hx
  simp [rowD, rD, PyData.depth, PyData.depthAll]
/-- what the sorted rows give -/
theorem sorted_bef {s : Int} {us : List Dn} {ps : List (V × PyData)} {xs : List V} (hl : xs.length = us.length) (hp : ∀ d ∈ us, Prim d) (nd : us.Nodup) (hs : ∀ d ∈ us, ∀ e ∈ us, (quart d).2.1 * (quart e).2.1 ≤ s)
    (pm : ps.Perm (xs.zip (us.map (rowD s)))) (pw : ps.Pairwise fun x y => dataLe false Prod.snd x y = true) :
    ∃ os : List Dn, os.Pairwise Bef ∧ (∀ d, d ∈ os ↔ d ∈ us) ∧ os.length = us.length ∧ ps.map Prod.snd = os.map (rowD s) := by
  have p2 : (ps.map Prod.snd).Perm (us.map (rowD s)) := by
    have := pm.map Prod.snd
    rwa [List.map_snd_zip (by rw [List.length_map]; omega)] at this
  have p3 : ((ps.map Prod.snd).map getD').Perm us := by
    have := p2.map getD'
    rw [List.map_map (f := rowD s)] at this
    rwa [show getD' ∘ rowD s = id from rfl, List.map_id] at this
  have e4 : ps.map Prod.snd = ((ps.map Prod.snd).map getD').map (rowD s) := by
    rw [List.map_map]
    refine (List.map_id _).symm.trans (List.map_congr_left fun x hx => ?_)
    obtain ⟨d, _, rfl⟩ := List.mem_map.mp (p2.mem_iff.mp hx)
    rfl
  refine ⟨(ps.map Prod.snd).map getD', ?_, fun d => p3.mem_iff, p3.length_eq, e4⟩
  have nd2 : ((ps.map Prod.snd).map getD').Nodup := p3.nodup_iff.mpr nd
  have pw2 : (ps.map Prod.snd).Pairwise fun x y => (!PyProof.Rows.lexLt itemOrd (keyToks y) (keyToks x)) = true := by
    rw [List.pairwise_map]
    exact pw.imp fun h => h
  rw [e4, List.pairwise_map] at pw2
  have all : ∀ d ∈ (ps.map Prod.snd).map getD', d ∈ us := fun d hd => p3.mem_iff.mp hd
  generalize (ps.map Prod.snd).map getD' = os at nd2 pw2 all
  clear e4 p3 p2 pw pm
  induction os with
  | nil => exact .nil
  | cons d os ih =>
    rw [List.pairwise_cons] at pw2 ⊢
    rw [List.nodup_cons] at nd2
    refine ⟨fun e he => row_le (hp d (all d (List.mem_cons_self ..))) (hp e (all e (List.mem_cons_of_mem _ he))) (fun z => nd2.1 (z ▸ he)) (hs _ (all d (List.mem_cons_self ..)) _ (all e (List.mem_cons_of_mem _ he))) (pw2.1 e he), ih nd2.2 pw2.2 fun x hx => all x (List.mem_cons_of_mem _ hx)⟩
end F3
set_option Elab.async false
set_option linter.all false
set_option maxRecDepth 100000
set_option maxHeartbeats 4000000
set_option exponentiation.threshold 3000
namespace F3
open PySem PySem.Spec PyProof.Rows L2 FX RM PB KD KS
theorem ix_tupK {X : Cx} (K : PySem.W.Frag) (e : X.K = K := by rfl) : IxR X (rIxT K) := e ▸ ix_tup
theorem pg_couK {X : Cx} (K : PySem.W.Frag) {a b : Expr} {k : Nat} {t : TGs} {pos : Pos} (hc : X.calm = true) (h : PGs X [a, b] t) (e : X.K = K := by rfl) (hn : (assignEach [a, b] X.env).length = 2 := by rfl) (hst : (assignEach [a, b] X.env).findIdx? (·.1) = none := by rfl) : PG X (.Tuple [a, b] k pos) (gCou K t) := e ▸ pg_cou hc h hn hst
theorem pg_tupK {X : Cx} (K : PySem.W.Frag) {es : List Expr} {k : Nat} {t : TGs} {n : Nat} {pos : Pos} (hc : X.calm = true) (h : PGs X es t) (e : X.K = K := by rfl) (hn : (assignEach es X.env).length = n := by rfl) (hst : (assignEach es X.env).findIdx? (·.1) = none := by rfl) : PG X (.Tuple es k pos) (gTup K n t) := e ▸ pg_tup hc h hn hst
theorem Room.u65 {k : Nat} {A : Around} (r : Room (k + 1) A) : A.units + 65 < cLine := by have := r.un; omega
theorem ix_listK {X : Cx} (K : PySem.W.Frag) (e : X.K = K := by rfl) : IxR X (rIxL K) := e ▸ ix_list
theorem range_getD {α : Type} (us : List Dn) (z : Dn) {g : Dn → α} : (List.range us.length).map (fun i => g (us.getD i z)) = us.map g := by
  apply List.ext_getElem
  · simp
  · intro i h1 h2
    simp at h1 h2
    simp [List.getD_eq_getElem?_getD, h2]
theorem dpa_ints {K : PySem.W.Frag} {H : Hp} : ∀ {vs : List V} {ns : List Int}, DpAll K H vs (ns.map PyData.int) → vs = ns.map V.int
  | [], [], _ => rfl
  | _ :: _, _ :: _, .cons a b => by rw [dp_int a, dpa_ints b]; rfl
theorem quart_sz {n : Nat} {d : Dn} (h : SzR n d) : Sz n (quart d).2.1 ∧ Sz n (quart d).2.2 := by
  unfold quart
  split
  · exact ⟨h.1, h.2⟩
  · split
    · exact ⟨h.2, sz_neg h.1⟩
    · split
      · exact ⟨sz_neg h.1, sz_neg h.2⟩
      · exact ⟨sz_neg h.2, h.1⟩
theorem dpall_of {K : PySem.W.Frag} {H : Hp} : ∀ {ps : List (V × PyData)}, (∀ z ∈ ps, Dp K H z.1 z.2) → DpAll K H (ps.map Prod.fst) (ps.map Prod.snd)
  | [], _ => .nil
  | z :: ps, h => .cons (h z (List.mem_cons_self ..)) (dpall_of fun y hy => h y (List.mem_cons_of_mem _ hy))
theorem zip_dp {K : PySem.W.Frag} {H : Hp} : ∀ {xs : List V} {ds : List PyData}, DpAll K H xs ds → ∀ z ∈ xs.zip ds, Dp K H z.1 z.2
  | _, _, .nil, _, h => nomatch h
  | _, _, .cons a b, z, h => by
    rw [List.zip_cons_cons] at h
    rcases List.mem_cons.mp h with rfl | h
    · exact a
    · exact zip_dp b z h
theorem dp_row {K : PySem.W.Frag} {H : Hp} {v : V} {s : Int} {d : Dn} (h : Dp K H v (rowD s d)) : ∃ p a b c, v = .ref p ∧ SqT K H p [a, b, c] ∧ Dp K H c (rD d) := by
  cases h with
  | tup h g =>
    cases g with
    | cons h1 g => cases g with
      | cons h2 g => cases g with
        | cons h3 g => cases g with
          | nil => exact ⟨_, _, _, _, rfl, h, h3⟩
end F3
set_option Elab.async false
set_option linter.all false
set_option maxRecDepth 100000
set_option maxHeartbeats 4000000
set_option exponentiation.threshold 3000
namespace F3
open PySem PySem.Spec PyProof.Rows L2 FX RM PB KD
/-- a direction that is drawn -/
def Way (d : Rt) : Prop := Prim d ∧ SzR 151 d
theorem norm_prim {x y : Int} (h : x ≠ 0 ∨ y ≠ 0) : Prim (norm x y) := by
  obtain ⟨a, b, _, _, e1, e2, g⟩ := g2_parts h
  show g2 (x / g2 x y) (y / g2 x y) = 1
  rw [e1, e2]
  show ((Nat.gcd a.natAbs b.natAbs : Nat) : Int) = 1
  rw [g]; rfl
section
variable {P : Program} {w : World} {K : PySem.W.Frag} {mg : Str → Option Value} {base : Heap}
theorem rows_way : ∀ r ∈ rows1 ++ rows2, Way r := fun r hr => ⟨(by decide +kernel : ∀ r ∈ rows1 ++ rows2, g2 r.1 r.2 = 1) r hr, rows_sz r hr⟩
theorem okP_law_way (T : Txt K mg "_law_way" s_law_way) (G_law_take : DefOk P w K mg base CX0 "_law_take" 2 ["_law_hand_here", "_law_many"] spTake) : DefOk P w K mg base CX0 "_law_way" 3 ["_law_hand_here"] (spDraw K Way) := by
  obtain ⟨f, fd, F, gf⟩ := T
  refine ⟨f, fd, gf, F.kp, F.binds (fun _ _ _ _ _ _ us hl => match us, hl with | [_], _ => rfl), F.ok sc_law_way (fun vs H Q E h => ?_) (fun cdv A outer s H vs Q E hr h => ?_)⟩
  · obtain ⟨p, rfl, _⟩ := h; rfl
  · obtain ⟨p, rfl, hH, q⟩ := h
    refine ⟨_, (pss_cons (ps_set (i := 1) sc_law_way.nd rfl (.inl rfl) (pe_lst (pa_cons (pe_tup (pa_cons pe_int (pa_cons pe_int pa_nil))) (pa_cons (pe_tup (pa_cons pe_int (pa_cons pe_int pa_nil))) (pa_cons (pe_tup (pa_cons (pe_un un_neg pe_int) (pa_cons pe_int pa_nil))) (pa_cons (pe_tup (pa_cons pe_int (pa_cons (pe_un un_neg pe_int) pa_nil))) (pa_cons (pe_tup (pa_cons pe_int (pa_cons pe_int pa_nil))) (pa_cons (pe_tup (pa_cons (pe_un un_neg pe_int) (pa_cons pe_int pa_nil))) (pa_cons (pe_tup (pa_cons (pe_un un_neg pe_int) (pa_cons (pe_un un_neg pe_int) pa_nil))) (pa_cons (pe_tup (pa_cons pe_int (pa_cons (pe_un un_neg pe_int) pa_nil))) pa_nil)))))))))) (pss_cons (ps_set (i := 1) sc_law_way.nd rfl (.inl rfl) (pe_op op_cat (pv 1) (pe_lst (pa_cons (pe_tup (pa_cons pe_int (pa_cons pe_int pa_nil))) (pa_cons (pe_tup (pa_cons pe_int (pa_cons pe_int pa_nil))) (pa_cons (pe_tup (pa_cons (pe_un un_neg pe_int) (pa_cons pe_int pa_nil))) (pa_cons (pe_tup (pa_cons (pe_un un_neg pe_int) (pa_cons pe_int pa_nil))) (pa_cons (pe_tup (pa_cons (pe_un un_neg pe_int) (pa_cons (pe_un un_neg pe_int) pa_nil))) (pa_cons (pe_tup (pa_cons (pe_un un_neg pe_int) (pa_cons (pe_un un_neg pe_int) pa_nil))) (pa_cons (pe_tup (pa_cons pe_int (pa_cons (pe_un un_neg pe_int) pa_nil))) (pa_cons (pe_tup (pa_cons pe_int (pa_cons (pe_un un_neg pe_int) pa_nil))) pa_nil))))))))))) (pss_one (ps_ret (pe_ix ix_list (pv 1) (pe_def G_law_take (hr.mono (by decide)) (by rfl) (pa_cons (pv 0) (pa_cons pe_int pa_nil))) (fun _ _ => rfl)))))), ?_⟩
    dsimp only [tSeq, tAsg, tLst]
    refine lay1 (K := K) _ _ _ fun H1 vs s1 hv => ?_
    have lv : vs.length = 8 := DpAll_len hv
    refine ⟨by rw [lv]; decide, fun l nl => ?_⟩
    dsimp only [gName, tOp, tVar]
    refine ⟨.ref l, rfl, ?_⟩
    refine lay2 (K := K) _ _ _ fun H2 us s2 hu => ?_
    have lu : us.length = 8 := DpAll_len hu
    refine ⟨by rw [lu]; decide, fun m nm => ?_⟩
    have e1 : H2 l = some (.lst vs) := s2 _ _ upd_same
    have ne : l ≠ m := ne_of_none e1 nm
    refine ⟨l, m, vs, us, rfl, rfl, by rw [upd_ne ne]; exact e1, upd_same, by rw [lv, lu]; decide, fun n nn => ?_⟩
    have hl3 : (upd (upd H2 m (.lst us)) n (.lst (vs ++ us))) n = some (.lst (vs ++ us)) := upd_same
    have s3 : Same H (upd (upd H2 m (.lst us)) n (.lst (vs ++ us))) := ((s1.trans (PB.same_new nl)).trans (s2.trans (PB.same_new nm))).trans (PB.same_new nn)
    have hall : DpAll K (upd (upd H2 m (.lst us)) n (.lst (vs ++ us))) (vs ++ us) ((rows1 ++ rows2).map rD) := by
      rw [List.map_append]
      refine DpAll_app (DpAll_same ?_ hv) (DpAll_same ?_ hu)
      · exact ((PB.same_new nl).trans (s2.trans (PB.same_new nm))).trans (PB.same_new nn)
      · exact (PB.same_new nm).trans (PB.same_new nn)
    have hnp : n ≠ p := by
      obtain ⟨c, cs, i, r, t, a, _⟩ := hH
      intro e
      have : (upd H2 m (.lst us)) p = some (.lst _) := ((s1.trans (PB.same_new nl)).trans (s2.trans (PB.same_new nm))) _ _ a
      rw [e, this] at nn
      cases nn
    have hH3 := hH.same s3
    generalize upd (upd H2 m (.lst us)) n (.lst (vs ++ us)) = H3 at hl3 s3 hall hH3 ⊢
    refine ⟨.ref n, rfl, .ref p, rfl, p, 16, rfl, hH3, by decide, by decide, fun x H4 x0 x1 h4 s4 => ?_⟩
    have lx : x.toNat < (vs ++ us).length := by rw [List.length_append, lv, lu]; omega
    have ex : (vs ++ us)[x.toNat]? = some (vs ++ us)[x.toNat] := List.getElem?_eq_getElem lx
    obtain ⟨d, ed, hd⟩ := DpAll_at hall ex
    rw [List.getElem?_map] at ed
    cases er : (rows1 ++ rows2)[x.toNat]? with
    | none => rw [er] at ed; cases ed
    | some r =>
      rw [er] at ed
      cases ed
      refine ⟨n, _, x, _, rfl, rfl, .inl (.inl (s4.1 _ _ hnp hl3)), ?_, q r _ _ (rows_way r (List.mem_of_getElem? er)) (hH3.dp s4 (noL_r r) hd) h4 ((Same.but s3).trans s4)⟩
      have := atI_nat ex
      rw [Int.toNat_of_nonneg x0] at this
      exact this
theorem okP_law_any_way (T : Txt K mg "_law_any_way" s_law_any_way) (G_law_take : DefOk P w K mg base CX0 "_law_take" 2 ["_law_hand_here", "_law_many"] spTake) (G_law_way : DefOk P w K mg base CX0 "_law_way" 3 ["_law_hand_here"] (spDraw K Way)) (G_law_number : DefOk P w K mg base CX0 "_law_number" 3 ["_law_hand_here"] (spNum 151)) (G_law_direction : DefOk P w K mg base CX0 "_law_direction" 2 ["_law_x", "_law_y"] (spWd K)) : DefOk P w K mg base CX0 "_law_any_way" 4 ["_law_hand_here"] (spDraw K Way) := by
  obtain ⟨f, fd, F, gf⟩ := T
  refine ⟨f, fd, gf, F.kp, F.binds (fun _ _ _ _ _ _ us hl => match us, hl with | [_], _ => rfl), F.ok sc_law_any_way (fun vs H Q E h => ?_) (fun cdv A outer s H vs Q E hr h => ?_)⟩
  · obtain ⟨p, rfl, _⟩ := h; rfl
  · obtain ⟨p, rfl, hH, q⟩ := h
    refine ⟨_, (pss_cons (ps_if (pt_truth (pe_def G_law_take (hr.mono (by decide)) (by rfl) (pa_cons (pv 0) (pa_cons pe_int pa_nil))) (fun _ => rfl)) (pss_one (ps_ret (pe_def G_law_way (hr.mono (by decide)) (by rfl) (pa_cons (pv 0) pa_nil)))) pss_nil) (pss_cons (ps_par (i := 1) (j := 2) rfl sc_law_any_way.nd rfl rfl (by decide) rfl rfl (pa_cons (pe_def G_law_number (hr.mono (by decide)) (by rfl) (pa_cons (pv 0) pa_nil)) (pa_cons (pe_def G_law_number (hr.mono (by decide)) (by rfl) (pa_cons (pv 0) pa_nil)) pa_nil)) rfl) (pss_one (ps_ret (pe_ifExp (PW.pt (pw_and (pt_cmpR op_eq (pv 1) pe_int (nomark _)) (pw_and1 (pt_cmpR op_eq (pv 2) pe_int (nomark _))))) (pe_tup (pa_cons pe_int (pa_cons (pe_un un_neg pe_int) pa_nil))) (pe_def G_law_direction (hr.mono (by decide)) (by rfl) (pa_cons (pv 1) (pa_cons (pv 2) pa_nil)))))))), ?_⟩
    refine ⟨.ref p, rfl, p, 3, rfl, hH, by decide, by decide, fun k H1 k0 k4 h1 s1 => ?_⟩
    refine ⟨_, rfl, ite2 (fun e => ?_) (fun e => ?_)⟩
    · exact ⟨.ref p, rfl, p, rfl, h1, fun r v H2 o hv h2 s2 => q r v H2 o hv h2 (s1.trans s2)⟩
    · refine ⟨.ref p, rfl, p, rfl, h1, fun x H2 zx h2 s2 => ?_⟩
      refine ⟨.ref p, rfl, p, rfl, h2, fun y H3 zy h3 s3 => ?_⟩
      have s13 := (s1.trans s2).trans s3
      refine ⟨_, _, rfl, ?_⟩
      refine ⟨_, rfl, rfl, _, rfl, ?_⟩
      by_cases x0 : x = 0
      · refine itT (decide_eq_true (by rw [x0])) ⟨_, rfl, rfl, _, rfl, ?_⟩
        by_cases y0 : y = 0
        · refine itT (decide_eq_true (by rw [y0])) ⟨_, rfl, (by show 2 ≤ sizeLine; decide), fun a na => ?_⟩
          have sn := PB.same_new (o := .tup [.int 0, .int (-1)]) na
          exact q (0, -1) _ _ ⟨(by decide +kernel : g2 0 (-1) = 1), szr_mono (n := 2) ⟨by show (0 : Int).natAbs < 4; decide, by show (-1 : Int).natAbs < 4; decide⟩ (by decide)⟩ (dp_mkr na) (h3.same sn) (s13.trans (Same.but sn))
        · refine itF (decide_eq_false fun z => y0 (V.int.inj z)) ?_
          exact ⟨_, rfl, _, rfl, x, y, rfl, .inr y0, sz_mono zx (by decide), sz_mono zy (by decide), fun H4 z s4 hz => q _ _ _ ⟨norm_prim (.inr y0), sz_div (.inr y0) zx, sz_div' (.inr y0) zy⟩ hz (h3.same s4) (s13.trans (Same.but s4))⟩
      · refine itF (decide_eq_false fun z => x0 (V.int.inj z)) (itF rfl ?_)
        exact ⟨_, rfl, _, rfl, x, y, rfl, .inl x0, sz_mono zx (by decide), sz_mono zy (by decide), fun H4 z s4 hz => q _ _ _ ⟨norm_prim (.inl x0), sz_div (.inl x0) zx, sz_div' (.inl x0) zy⟩ hz (h3.same s4) (s13.trans (Same.but s4))⟩
end
end F3
set_option Elab.async false
set_option linter.all false
set_option maxRecDepth 100000
set_option maxHeartbeats 4000000
set_option exponentiation.threshold 3000
namespace F3
open PySem PySem.Spec PyProof.Rows L2 FX RM PB KD KS
/-- the directions of a list or a tuple, in round order -/
def spOrd (K : PySem.W.Frag) : Sp := fun vs H Q _ => ∃ (p : Addr) (xs : List V) (ds : List Dn), vs = [.ref p] ∧ (SqL K H p xs ∨ SqT K H p xs) ∧ ds.length = xs.length ∧ ds.length ≤ 60 ∧ (∀ (i : Nat) (x : V) (d : Dn), xs[i]? = some x → ds[i]? = some d → Dir K H x d) ∧ (∀ d ∈ ds, Prim d ∧ SzR 151 d) ∧
  ∀ (H' : Hp) (z : V) (os : List Dn), Same H H' → os.Pairwise Bef → (∀ d, d ∈ os ↔ d ∈ ds) → os.length ≤ 60 → Dp K H' z (.tuple (os.map rD)) → Q z H'
section
variable {P : Program} {w : World} {K : PySem.W.Frag} {mg : Str → Option Value} {base : Heap}
abbrev sorder_round : Stmt := topS 20
theorem scorder_round : FnScope ["directions", "unlike", "rows", "scale", "keyed", "direction", "row", "quarter", "x", "y"] ["directions"] (defScope sorder_round) := ⟨rfl, rfl, rfl, by decide +kernel, rfl, by decide +kernel, by decide +kernel⟩
theorem okorder_round (T : Txt K mg "order_round" sorder_round) (Gquarter_of : DefOk P w K mg base CX0 "quarter_of" 1 ["direction"] (spQuart K)) (Gscaled_floor : DefOk P w K mg base CX0 "scaled_floor" 1 ["top", "bottom", "scale"] spFloor) (mlist : mg "list" = none) (mtuple : mg "tuple" = none) (mmax : mg "max" = none) (msorted : mg "sorted" = none) : DefOk P w K mg base CX0 "order_round" 2 ["directions"] (spOrd K) := by
  obtain ⟨f, fd, F, gf⟩ := T
  refine ⟨f, fd, gf, F.kp, F.binds (fun _ _ _ _ _ _ us hl => match us, hl with | [_], _ => rfl), F.ok scorder_round (fun vs H Q E h => ?_) (fun cdv A outer s H vs Q E hr h => ?_)⟩
  · obtain ⟨p, xs, ds, rfl, _⟩ := h; rfl
  · obtain ⟨p, xs, ds, rfl, hS, hl, l6, hD, hP, q⟩ := h
    refine ⟨_, (pss_cons (ps_setDc (i := 1) (own := [("x", 8), ("y", 9)]) (Nat.lt_of_le_of_lt (Nat.le_add_right _ _) hr.units) rfl scorder_round.nd rfl rfl (swD rfl rfl rfl (by decide +kernel)) (pi_seq (pv 0)) (blkOk_by (N := ["directions", "unlike", "rows", "scale", "keyed", "direction", "row", "quarter", "x", "y"]) (sc := defScope sorder_round) (by decide +kernel)) (fun _ _ _ _ _ => (pg_couK K rfl (pgs_cons (pg_name (i := 8) scorder_round.nd rfl (.inl rfl)) (pgs_cons (pg_name (i := 9) scorder_round.nd rfl (.inl rfl)) pgs_nil)))) (fun _ _ _ _ _ => (pe_tup (pa_cons (pv 8) (pa_cons (pv 9) pa_nil)))) (fun _ _ _ _ _ => pe_bl)) (pss_cons (ps_setLc (i := 2) (own := [("direction", 5)]) rfl scorder_round.nd rfl rfl (sw_true rfl rfl rfl (by decide +kernel)) (pi_seq (pe_callTy (call_list_dT rfl) (by rfl) mlist (by decide +kernel) (pa_cons (pv 1) pa_nil))) (blkOk_by (N := ["directions", "unlike", "rows", "scale", "keyed", "direction", "row", "quarter", "x", "y"]) (sc := defScope sorder_round) (by decide +kernel)) (fun _ _ _ _ _ => (pg_name (i := 5) scorder_round.nd rfl (.inl rfl))) (fun _ _ _ _ _ => pts_nil) (fun _ _ _ _ _ => (pe_tup (pa_cons (pe_def Gquarter_of (hr.mono (by decide)) (by rfl) (pa_cons (pv 5) pa_nil)) (pa_cons (pv 5) pa_nil))))) (pss_cons (ps_set (i := 3) scorder_round.nd rfl (.inr rfl) (pe_op op_powW (pe_callBK (cr_maxDf rfl (Room.u65 hr)) (by rfl) mmax (by decide +kernel) (pa_cons (pe_lc (own := [("row", 6)]) rfl scorder_round.nd (pi_seq (pv 2)) (blkOk_by (N := ["directions", "unlike", "rows", "scale", "keyed", "direction", "row", "quarter", "x", "y"]) (sc := defScope sorder_round) (by decide +kernel)) (fun _ _ _ _ _ => (pg_name (i := 6) scorder_round.nd rfl (.inl rfl))) (fun _ _ _ _ _ => pts_nil) (fun _ _ _ _ _ => (pe_ix (ix_tupK K) (pe_ix (ix_itK K) (pv 6) pe_int (fun _ _ => rfl)) pe_int (fun _ _ => rfl)))) pa_nil) (pk_cons pe_int pk_nil)) pe_int)) (pss_cons (ps_setLc (i := 4) (own := [("quarter", 7), ("x", 8), ("y", 9), ("direction", 5)]) rfl scorder_round.nd rfl rfl (sw_true rfl rfl rfl (by decide +kernel)) (pi_seq (pv 2)) (blkOk_by (N := ["directions", "unlike", "rows", "scale", "keyed", "direction", "row", "quarter", "x", "y"]) (sc := defScope sorder_round) (by decide +kernel)) (fun _ _ _ _ _ => (pg_couK K rfl (pgs_cons (pg_tupK (n := 3) K rfl (pgs_cons (pg_name (i := 7) scorder_round.nd rfl (.inl rfl)) (pgs_cons (pg_name (i := 8) scorder_round.nd rfl (.inl rfl)) (pgs_cons (pg_name (i := 9) scorder_round.nd rfl (.inl rfl)) pgs_nil)))) (pgs_cons (pg_name (i := 5) scorder_round.nd rfl (.inl rfl)) pgs_nil)))) (fun _ _ _ _ _ => pts_nil) (fun _ _ _ _ _ => (pe_tup (pa_cons (pv 7) (pa_cons (pe_def Gscaled_floor (hr.mono (by decide)) (by rfl) (pa_cons (pv 9) (pa_cons (pv 8) (pa_cons (pv 3) pa_nil)))) (pa_cons (pv 5) pa_nil)))))) (pss_one (ps_ret (pe_callTy call_tuple_of (by rfl) mtuple (by decide +kernel) (pa_cons (pe_lc (own := [("row", 6)]) rfl scorder_round.nd (pi_seq (pe_callB (cr_sortDat (Room.u65 hr)) (by rfl) msorted (by decide +kernel) (pa_cons (pv 4) pa_nil))) (blkOk_by (N := ["directions", "unlike", "rows", "scale", "keyed", "direction", "row", "quarter", "x", "y"]) (sc := defScope sorder_round) (by decide +kernel)) (fun _ _ _ _ _ => (pg_name (i := 6) scorder_round.nd rfl (.inl rfl))) (fun _ _ _ _ _ => pts_nil) (fun _ _ _ _ _ => (pe_ix (ix_tupK K) (pv 6) pe_int (fun _ _ => rfl)))) pa_nil)))))))), ?_⟩
    have lx : xs.length < sizeLine := small1000 (by omega)
    dsimp only [tSeq, tAsg]
    refine dc_seq (K := K) (a := p) (xs := xs) (j := 0) ds (by rfl) hS hl lx (fun i x F R d ex ed sF hR => ?_) fun D F1 s1 hD1 => ?_
    · have hd := (hD i x d ex ed).same sF
      exact ⟨_, _, hd, _, _, rfl, _, _, rfl, rfl, rfl, _, rfl, _, rfl, (by show 2 ≤ sizeLine; decide), fun a na => hR a na⟩
    have hu : (uq ds).length ≤ 60 := Nat.le_trans (uq_len ds) l6
    have hp : ∀ d ∈ uq ds, Prim d ∧ SzR 151 d := fun d hd => hP d (uq_mem.mp hd)
    have nd := uq_nodup ds
    have um : ∀ e, e ∈ uq ds ↔ e ∈ ds := fun e => uq_mem
    generalize uq ds = us at hD1 hu hp nd um
    dsimp only [tSeq, tAsg, gName]
    refine lc_mapG (K := K) (fun a ys F => Same F1 F ∧ SqL K F a ys ∧ DpAll K F ys (us.map rD)) (fun R hR => ⟨.ref D, rfl, D, _, rfl, .inl hD1, fun l bs nl hk => hR l _ _ ⟨PB.same_new nl, .inl (.inl upd_same), DpAll_same (PB.same_new nl) (keys_dp hk)⟩⟩) (fun a ys F ⟨sF, hL, hA⟩ => ?_)
    have yl : ys.length = us.length := by rw [DpAll_len hA, List.length_map]
    have at_ : ∀ {i : Nat} {x : V} {G : Hp}, Same F G → ys[i]? = some x → ∃ d, us[i]? = some d ∧ Dp K G x (rD d) := fun {i x G} s e => by
      obtain ⟨d, ed, hd⟩ := DpAll_at hA e
      rw [List.getElem?_map] at ed
      cases eu : us[i]? with
      | none => rw [eu] at ed; cases ed
      | some u => rw [eu] at ed; cases ed; exact ⟨u, rfl, Dp_same s hd⟩
    refine ⟨hL, small1000 (by omega), fun i => .tuple [tD (quart (us.getD i (0, 0))), rD (us.getD i (0, 0))], fun i => by simp [tD, rD, noL, noLs], fun i x G R ex sx hR => ?_, fun E G zs sG nE eE hZ => ?_⟩
    · obtain ⟨d, ed, hx⟩ := at_ sx ex
      have e : us.getD i (0, 0) = d := by rw [List.getD_eq_getElem?_getD, ed]; rfl
      (try dsimp only at hR)
      rw [e] at hR
      exact ⟨rfl, x, rfl, x, _, rfl, dir_t hx, fun H2 z s2 hz => ⟨x, rfl, (by show 2 ≤ sizeLine; decide), fun b nb => hR _ _ (s2.trans (PB.same_new nb)) (dp_mk2 nb hz (Dp_same s2 hx))⟩⟩
    have hZ1 : DpAll K G zs (us.map fun d => .tuple [tD (quart d), rD d]) := by rw [← range_getD us (0, 0), ← yl]; exact hZ
    clear hZ at_ hA
    have at_ : ∀ {i : Nat} {x : V} {F2 : Hp}, Same G F2 → zs[i]? = some x → ∃ d, us[i]? = some d ∧ Dp K F2 x (.tuple [tD (quart d), rD d]) := fun {i x F2} s e => by
      obtain ⟨d, ed, hd⟩ := DpAll_at hZ1 e
      rw [List.getElem?_map] at ed
      cases eu : us[i]? with
      | none => rw [eu] at ed; cases ed
      | some u => rw [eu] at ed; cases ed; exact ⟨u, rfl, Dp_same s hd⟩
    have zl : zs.length = us.length := by rw [DpAll_len hZ1, List.length_map]
    have hzL : SqL K G E zs := .inl (.inl eE)
    have zz : zs.length < sizeLine := small1000 (by omega)
    dsimp only [tSeq, tAsg, gName, tOp, tCKw, tCons, tNil, tC]
    refine lc_map (K := K) (a := E) (xs := zs) (j := 2) (fun i => .int (quart (us.getD i (0, 0))).2.1) (fun i => by simp [noL]) (by rfl) (.inl hzL) zz (fun i x F2 R ex sx hR => ?_) fun D3 F3 ws s3 n3 e3 h3 => ?_
    · obtain ⟨d, ed, hx⟩ := at_ sx ex
      have e : us.getD i (0, 0) = d := by rw [List.getD_eq_getElem?_getD, ed]; rfl
      (try dsimp only at hR)
      rw [e] at hR
      obtain ⟨pc, a1, a2, rfl, hS2, h1, h2⟩ := dp_t2 hx
      obtain ⟨pt, rfl, hT⟩ := dp_t3 h1
      exact ⟨rfl, _, rfl, _, _, 0, _, rfl, ⟨pc, rfl, .inl hS2⟩, rfl, pt, _, 1, _, rfl, rfl, hT, rfl, hR _ _ (fun _ _ z => z) (.int _)⟩
    have h3' : DpAll K F3 ws ((us.map fun d => (quart d).2.1).map PyData.int) := by
      rw [List.map_map, ← range_getD us (0, 0), ← zl]; exact h3
    have ew := dpa_ints h3'
    refine ⟨D3, us.map fun d => (quart d).2.1, 1, rfl, rfl, by rw [← ew]; exact .inl (.inl e3), fun m m0 m1 => ?_⟩
    have mz : Sz 151 m ∧ ∀ d ∈ us, (quart d).2.1 ≤ m := by
      cases us with
      | nil => rw [m0 rfl]; exact ⟨sz_mono (n := 1) (by show (1 : Int).natAbs < 2 ^ 1; decide) (by decide), fun d h => nomatch h⟩
      | cons u us =>
        obtain ⟨k1, k2⟩ := m1 (by simp)
        refine ⟨?_, fun d hd => k2 _ (List.mem_map.mpr ⟨d, hd, rfl⟩)⟩
        obtain ⟨d, hd, rfl⟩ := List.mem_map.mp k1
        exact (quart_sz (hp d hd).2).1
    refine ⟨_, _, rfl, rfl, ⟨by decide, ?_⟩, ?_⟩
    · have := intBits_le mz.1
      omega
    have hs : ∀ d ∈ us, ∀ e ∈ us, (quart d).2.1 * (quart e).2.1 ≤ m ^ (2 : Int).toNat := fun d hd e he => by
      have e2 : m ^ (2 : Int).toNat = m * m := by show m ^ 2 = m * m; rw [Int.pow_succ, Int.pow_succ, Int.pow_zero, Int.one_mul]
      rw [e2]
      have a1 := (quart_pos (hp d hd).1).1
      have a2 := (quart_pos (hp e he).1).1
      have b1 := mz.2 d hd
      have b2 := mz.2 e he
      exact Int.mul_le_mul b1 b2 (by omega) (by omega)
    have sz : Sz 4000 (m ^ (2 : Int).toNat) := by
      have e2 : m ^ (2 : Int).toNat = m * m := by show m ^ 2 = m * m; rw [Int.pow_succ, Int.pow_succ, Int.pow_zero, Int.one_mul]
      rw [e2]
      exact sz_mono (sz_mul mz.1 mz.1) (by decide)
    dsimp only [tSeq, tAsg, gName]
    revert hs sz
    generalize m ^ (2 : Int).toNat = sc
    intro hs sz
    refine lc_map (K := K) (a := E) (xs := zs) (j := 2) (fun i => rowD sc (us.getD i (0, 0))) (fun i => by simp [rowD, rD, noL, noLs]) (by rfl) (.inl (s3.seq hzL)) zz (fun i x F4 R ex sx hR => ?_) fun D5 F5 ks s5 n5 e5 h5 => ?_
    · obtain ⟨d, ed, hx⟩ := at_ (s3.trans sx) ex
      have e : us.getD i (0, 0) = d := by rw [List.getD_eq_getElem?_getD, ed]; rfl
      (try dsimp only at hR)
      rw [e] at hR
      have pd := hp d (List.mem_of_getElem? ed)
      obtain ⟨pc, a1, a2, rfl, hS2, h1, h2⟩ := dp_t2 hx
      obtain ⟨pt, rfl, hT⟩ := dp_t3 h1
      refine ⟨_, _, ⟨pc, rfl, .inl hS2⟩, _, _, rfl, pt, _, rfl, hT, rfl, _, _, rfl, _, _, rfl, _, _, rfl, rfl, _, _, rfl, rfl, rfl, ?_⟩
      refine ⟨_, rfl, _, rfl, _, rfl, _, rfl, _, _, _, rfl, (quart_pos pd.1).1, sz_mono (quart_sz pd.2).2 (by decide), sz_mono (quart_sz pd.2).1 (by decide), sz, _, rfl, (by show 3 ≤ sizeLine; decide), fun b nb => ?_⟩
      exact hR _ _ (PB.same_new nb) (.tup (.inl (.inl upd_same)) (.cons (.int _) (.cons (.int _) (.cons (Dp_same (PB.same_new nb) h2) .nil))))
    have h5' : DpAll K F5 ks (us.map (rowD sc)) := by rw [← range_getD us (0, 0), ← zl]; exact h5
    have kl : ks.length = us.length := by rw [DpAll_len h5', List.length_map]
    dsimp only [tRet, tCB, tCons, tNil]
    refine lc_mapG (K := K) (fun a rs F6 => ∃ os : List Dn, Same F5 F6 ∧ SqL K F6 a rs ∧ DpAll K F6 rs (os.map (rowD sc)) ∧ os.Pairwise Bef ∧ (∀ d, d ∈ os ↔ d ∈ us) ∧ os.length = us.length)
      (fun R hR => ⟨_, rfl, D5, ks, us.map (rowD sc), rfl, .inl (.inl e5), h5', alike_rows sc us, sortable_rows sc us, depth_rows sc us, fun ps b pm pw nb => ?_⟩) (fun a rs F6 ⟨os, s6, hL6, h6, ob, om, ol⟩ => ?_)
    · obtain ⟨os, o1, o2, o3, o4⟩ := sorted_bef kl (fun d hd => (hp d hd).1) nd hs pm pw
      refine hR b (ps.map Prod.fst) _ ⟨os, PB.same_new nb, .inl (.inl upd_same), ?_, o1, o2, o3⟩
      rw [← o4]
      exact dpall_of fun z hz => Dp_same (PB.same_new nb) (zip_dp h5' z (pm.mem_iff.mp hz))
    have rl : rs.length = os.length := by rw [DpAll_len h6, List.length_map]
    refine ⟨hL6, small1000 (by omega), fun i => rD (os.getD i (0, 0)), fun i => noL_r _, fun i x F7 R ex sx hR => ?_, fun D8 F8 ts s8 n8 e8 h8 => ?_⟩
    · obtain ⟨d', ed, hd⟩ := DpAll_at h6 ex
      rw [List.getElem?_map] at ed
      cases eo : os[i]? with
      | none => rw [eo] at ed; cases ed
      | some d =>
        rw [eo] at ed
        cases ed
        have e : os.getD i (0, 0) = d := by rw [List.getD_eq_getElem?_getD, eo]; rfl
        (try dsimp only at hR)
        rw [e] at hR
        obtain ⟨pr, c1, c2, c3, rfl, hT, hc⟩ := dp_row (Dp_same sx hd)
        exact ⟨rfl, _, rfl, pr, _, 2, _, rfl, rfl, hT, rfl, hR _ _ (fun _ _ z => z) hc⟩
    have h8' : DpAll K F8 ts (os.map rD) := by rw [← range_getD os (0, 0), ← rl]; exact h8
    refine ⟨D8, ts, rfl, .inl ⟨.inl (.inl e8), fun l nl => ?_⟩⟩
    exact q _ _ os (((((((s1.trans sF).trans sG).trans s3).trans s5).trans s6).trans s8).trans (PB.same_new nl)) ob (fun d => (om d).trans (um d)) (by omega) (.tup (.inl (.inl upd_same)) (DpAll_same (PB.same_new nl) h8'))
end
end F3
set_option Elab.async false
set_option linter.all false
set_option maxRecDepth 100000
set_option maxHeartbeats 4000000
set_option exponentiation.threshold 3000
namespace F3
open PySem PySem.Spec PyProof.Rows L2 FX RM PB KD KS
def tupOk : Nat → PyData → Prop
  | 0, .int _ => True
  | n + 1, .tuple ds => ∀ d ∈ ds, tupOk n d
  | _, _ => False
def spTup (K : PySem.W.Frag) (n : Nat) : Sp := fun vs H Q _ => ∃ v d, vs = [v] ∧ Dp K H v d ∧ tupOk n d ∧ ∀ H', Same H H' → Q (.bl true) H'
def spRef (K : PySem.W.Frag) (o : PyData → Bool) : Sp := fun vs H Q _ => ∃ v d, vs = [v] ∧ Dp K H v d ∧ o d = false ∧ ∀ H', Same H H' → Q (.bl true) H'
theorem tup_r (r : Rt) : tupOk 1 (rD r) := by
  intro d hd
  rcases List.mem_cons.mp hd with e | hd
  · rw [e]; trivial
  · rw [List.mem_singleton.mp hd]; trivial
theorem tup_rs (os : List Dn) : tupOk 2 (.tuple (os.map rD)) := by
  intro d hd
  obtain ⟨r, _, rfl⟩ := List.mem_map.mp hd
  exact tup_r r
theorem eqv_r (a b : Rt) : PyData.eqv (rD a) (rD b) = decide (a = b) := by
  rw [Bool.eq_iff_iff]
  simp [rD, PyData.eqv, PyData.eqvAll, Prod.ext_iff]
theorem lay_rs : ∀ os : List Dn, PyData.canLayAll0 (os.map rD) = true ∧ PyData.depthAll (os.map rD) ≤ 1
  | [] => ⟨rfl, by simp [PyData.depthAll]⟩
  | o :: os => by
    obtain ⟨a, b⟩ := lay_rs os
    refine ⟨?_, ?_⟩
    · rw [List.map_cons, PyData.canLayAll0, a, (shaped_r o).2]; rfl
    · rw [List.map_cons, PyData.depthAll]
      have : (rD o).depth ≤ 1 := by simp [rD, PyData.depth, PyData.depthAll]
      omega
theorem shaped_t (os : List Dn) : SeqAt.shaped (.tuple (os.map rD)) = true ∧ SeqAt.shaped (.list (os.map rD)) = true := by
  obtain ⟨a, b⟩ := lay_rs os
  unfold SeqAt.shaped
  rw [PyData.canLay0, PyData.canLay0, a, PyData.depth, PyData.depth]
  exact ⟨by simp; omega, by simp; omega⟩
theorem any_r {os : List Dn} {d : Dn} (h : d ∈ os) : ((os.map rD).any fun z => PyData.eqv z (rD d)) = true :=
  List.any_eq_true.mpr ⟨rD d, List.mem_map.mpr ⟨d, h, rfl⟩, by rw [eqv_r]; exact decide_eq_true rfl⟩
def spHalf (K : PySem.W.Frag) : Sp := fun vs H Q _ => ∃ v d, vs = [v] ∧ PB.Dir K H v d ∧ Q (.int (halfOf d)) H
def spBef (K : PySem.W.Frag) : Sp := fun vs H Q _ => ∃ v u d e, vs = [v, u] ∧ PB.Dir K H v d ∧ PB.Dir K H u e ∧ SzR 151 d ∧ SzR 151 e ∧ Bef d e ∧ Q (.bl true) H
def spOrdd (K : PySem.W.Frag) : Sp := fun vs H Q _ => ∃ (p : Addr) (xs : List V) (ds : List Dn), vs = [.ref p] ∧ (SqL K H p xs ∨ SqT K H p xs) ∧ ds.length = xs.length ∧ ds.length ≤ 60 ∧ (∀ (i : Nat) (x : V) (d : Dn), xs[i]? = some x → ds[i]? = some d → PB.Dir K H x d) ∧ (∀ d ∈ ds, Prim d ∧ SzR 151 d) ∧ ∀ H', Same H H' → Q (.bl true) H'
def spStRef (K : PySem.W.Frag) : Sp := fun vs H Q _ => ∃ v p, vs = [v] ∧ Pla K H v p ∧ RatP p ∧ SzP 2000 p ∧ p.1.1 = 0 ∧ p.2.1 = 0 ∧ Q (.bl true) H
def spSum2 (K : PySem.W.Frag) : Sp := fun vs H Q _ => ∃ v u d e, vs = [v, u] ∧ Dp K H v (rD d) ∧ Dp K H u (rD e) ∧ SzR 151 d ∧ SzR 151 e ∧ ∀ H', Same H H' → Q (.bl true) H'
section
variable {P : Program} {w : World} {K : PySem.W.Frag} {mg : Str → Option Value} {base : Heap}
abbrev s_law_tuples : Stmt := topS 32
theorem sc_law_tuples : FnScope ["_law_thing", "_law_item"] ["_law_thing"] (defScope s_law_tuples) := ⟨rfl, rfl, rfl, by decide +kernel, rfl, by decide +kernel, by decide +kernel⟩
theorem ok_law_tuples (T : Txt K mg "_law_tuples" s_law_tuples) (misinstance : mg "isinstance" = none) (mtuple : mg "tuple" = none) (mint : mg "int" = none) (mbool : mg "bool" = none) : DefOk P w K mg base CX0 "_law_tuples" 1 ["_law_thing"] (spTup K 0) := by
  obtain ⟨f, fd, F, gf⟩ := T
  refine ⟨f, fd, gf, F.kp, F.binds (fun _ _ _ _ _ _ us hl => match us, hl with | [_], _ => rfl), F.ok sc_law_tuples (fun vs H Q E h => ?_) (fun cdv A outer s H vs Q E hr h => ?_)⟩
  · obtain ⟨v, d, rfl, _⟩ := h; rfl
  · obtain ⟨v, d, rfl, hv, ok, q⟩ := h
    refine ⟨_, (pss_cons (ps_if (pt_val (pe_callB call_isi (by rfl) misinstance boot_isinstance (pa_cons (pv 0) (pa_cons (pe_bltn (v := .ty "tuple") (by rfl) mtuple (by decide +kernel) rfl) pa_nil)))) pss_never pss_nil) (pss_one (ps_ret (pe_and (pe_callB call_isi (by rfl) misinstance boot_isinstance (pa_cons (pv 0) (pa_cons (pe_bltn (v := .ty "int") (by rfl) mint (by decide +kernel) rfl) pa_nil))) (pe_one (pe_not (pe_callB call_isi (by rfl) misinstance boot_isinstance (pa_cons (pv 0) (pa_cons (pe_bltn (v := .ty "bool") (by rfl) mbool (by decide +kernel) rfl) pa_nil))))))))), ?_⟩
    obtain ⟨i, rfl⟩ : ∃ i, d = .int i := by
      cases d with
      | int i => exact ⟨i, rfl⟩
      | _ => exact ok.elim
    refine ⟨v, rfl, v, _, _, _, _, rfl, .ty _, dp_tyx hv, kit_ty (kit_tuple (.int i)), _, rfl, itF rfl ?_⟩
    refine ⟨v, rfl, v, _, _, _, _, rfl, .ty _, dp_tyx hv, kit_ty (kit_int (.int i)), true, rfl, itT rfl ?_⟩
    exact ⟨v, rfl, v, _, _, _, _, rfl, .ty _, dp_tyx hv, kit_ty (kit_bool (.int i)), _, rfl, q H (fun _ _ e => e)⟩
theorem okL1_law_tuples (T : Txt K mg "_law_tuples" s_law_tuples) (G_law_tuples : DefOk P w K mg base CX0 "_law_tuples" 1 ["_law_thing"] (spTup K 0)) (misinstance : mg "isinstance" = none) (mtuple : mg "tuple" = none) (mint : mg "int" = none) (mbool : mg "bool" = none) : DefOk P w K mg base CX0 "_law_tuples" 2 ["_law_thing"] (spTup K 1) := by
  obtain ⟨f, fd, F, gf⟩ := T
  refine ⟨f, fd, gf, F.kp, F.binds (fun _ _ _ _ _ _ us hl => match us, hl with | [_], _ => rfl), F.ok sc_law_tuples (fun vs H Q E h => ?_) (fun cdv A outer s H vs Q E hr h => ?_)⟩
  · obtain ⟨v, d, rfl, _⟩ := h; rfl
  · obtain ⟨v, d, rfl, hv, ok, q⟩ := h
    refine ⟨_, (pss_cons (ps_if (pt_val (pe_callB call_isi (by rfl) misinstance boot_isinstance (pa_cons (pv 0) (pa_cons (pe_bltn (v := .ty "tuple") (by rfl) mtuple (by decide +kernel) rfl) pa_nil)))) (pss_one (ps_ret (pe_notT (pe_lc (own := [("_law_item", 1)]) (g := gName 1) (tt := tNot (tB (tCall (spTup K 0) [] E0 (tCons (tVar 1) tNil)))) rfl sc_law_tuples.nd (pi_seq (pv 0)) (blkOk_by (N := ["_law_thing", "_law_item"]) (sc := defScope s_law_tuples) (by decide +kernel)) (fun _ _ _ _ _ => pg_name (i := 1) sc_law_tuples.nd rfl (.inl rfl)) (fun _ _ _ _ _ => (pts_one (pt_not (pt_val (pe_def G_law_tuples (hr.mono (by decide)) (by rfl) (pa_cons (pv 1) pa_nil)))))) (fun _ _ _ _ _ => pe_int))))) pss_nil) (pss_one (ps_ret (pe_and (pe_callB call_isi (by rfl) misinstance boot_isinstance (pa_cons (pv 0) (pa_cons (pe_bltn (v := .ty "int") (by rfl) mint (by decide +kernel) rfl) pa_nil))) (pe_one (pe_not (pe_callB call_isi (by rfl) misinstance boot_isinstance (pa_cons (pv 0) (pa_cons (pe_bltn (v := .ty "bool") (by rfl) mbool (by decide +kernel) rfl) pa_nil))))))))), ?_⟩
    obtain ⟨ds, rfl⟩ : ∃ ds, d = .tuple ds := by
      cases d with
      | tuple ds => exact ⟨ds, rfl⟩
      | _ => exact ok.elim
    refine ⟨v, rfl, v, _, _, _, _, rfl, .ty _, dp_tyx hv, kit_ty (kit_tuple (.tuple ds)), _, rfl, itT rfl ?_⟩
    cases hv with
    | tup hS hA =>
      rename_i a xs
      dsimp only [tRet, tNotT]
      refine .inr ⟨_, rfl, a, rfl, ⟨_, hS⟩, fun D nD => ?_⟩
      refine lc_tup (K := K) (a := a) (xs := xs) (fun i H' => Same H H' ∧ H' D = some (.lst [])) ⟨PB.same_new nD, upd_same⟩ (fun i H' _ h => same_t h.1 hS) ?_ ?_
      · rintro i x H' hi ⟨s1, hD⟩
        obtain ⟨d, ed, hd⟩ := DpAll_at hA hi
        refine ⟨rfl, x, rfl, x, d, rfl, Dp_same s1 hd, ok d (List.mem_of_getElem? ed), fun H3 s3 => ⟨_, rfl, ?_⟩⟩
        exact itF rfl ⟨s1.trans s3, s3 _ _ hD⟩
      · rintro H' ⟨s1, hD⟩
        exact ⟨false, .inl ⟨[], .inl (.inl hD), rfl⟩, q H' s1⟩
theorem okL2_law_tuples (T : Txt K mg "_law_tuples" s_law_tuples) (G_law_tuples : DefOk P w K mg base CX0 "_law_tuples" 2 ["_law_thing"] (spTup K 1)) (misinstance : mg "isinstance" = none) (mtuple : mg "tuple" = none) (mint : mg "int" = none) (mbool : mg "bool" = none) : DefOk P w K mg base CX0 "_law_tuples" 3 ["_law_thing"] (spTup K 2) := by
  obtain ⟨f, fd, F, gf⟩ := T
  refine ⟨f, fd, gf, F.kp, F.binds (fun _ _ _ _ _ _ us hl => match us, hl with | [_], _ => rfl), F.ok sc_law_tuples (fun vs H Q E h => ?_) (fun cdv A outer s H vs Q E hr h => ?_)⟩
  · obtain ⟨v, d, rfl, _⟩ := h; rfl
  · obtain ⟨v, d, rfl, hv, ok, q⟩ := h
    refine ⟨_, (pss_cons (ps_if (pt_val (pe_callB call_isi (by rfl) misinstance boot_isinstance (pa_cons (pv 0) (pa_cons (pe_bltn (v := .ty "tuple") (by rfl) mtuple (by decide +kernel) rfl) pa_nil)))) (pss_one (ps_ret (pe_notT (pe_lc (own := [("_law_item", 1)]) (g := gName 1) (tt := tNot (tB (tCall (spTup K 1) [] E0 (tCons (tVar 1) tNil)))) rfl sc_law_tuples.nd (pi_seq (pv 0)) (blkOk_by (N := ["_law_thing", "_law_item"]) (sc := defScope s_law_tuples) (by decide +kernel)) (fun _ _ _ _ _ => pg_name (i := 1) sc_law_tuples.nd rfl (.inl rfl)) (fun _ _ _ _ _ => (pts_one (pt_not (pt_val (pe_def G_law_tuples (hr.mono (by decide)) (by rfl) (pa_cons (pv 1) pa_nil)))))) (fun _ _ _ _ _ => pe_int))))) pss_nil) (pss_one (ps_ret (pe_and (pe_callB call_isi (by rfl) misinstance boot_isinstance (pa_cons (pv 0) (pa_cons (pe_bltn (v := .ty "int") (by rfl) mint (by decide +kernel) rfl) pa_nil))) (pe_one (pe_not (pe_callB call_isi (by rfl) misinstance boot_isinstance (pa_cons (pv 0) (pa_cons (pe_bltn (v := .ty "bool") (by rfl) mbool (by decide +kernel) rfl) pa_nil))))))))), ?_⟩
    obtain ⟨ds, rfl⟩ : ∃ ds, d = .tuple ds := by
      cases d with
      | tuple ds => exact ⟨ds, rfl⟩
      | _ => exact ok.elim
    refine ⟨v, rfl, v, _, _, _, _, rfl, .ty _, dp_tyx hv, kit_ty (kit_tuple (.tuple ds)), _, rfl, itT rfl ?_⟩
    cases hv with
    | tup hS hA =>
      rename_i a xs
      dsimp only [tRet, tNotT]
      refine .inr ⟨_, rfl, a, rfl, ⟨_, hS⟩, fun D nD => ?_⟩
      refine lc_tup (K := K) (a := a) (xs := xs) (fun i H' => Same H H' ∧ H' D = some (.lst [])) ⟨PB.same_new nD, upd_same⟩ (fun i H' _ h => same_t h.1 hS) ?_ ?_
      · rintro i x H' hi ⟨s1, hD⟩
        obtain ⟨d, ed, hd⟩ := DpAll_at hA hi
        refine ⟨rfl, x, rfl, x, d, rfl, Dp_same s1 hd, ok d (List.mem_of_getElem? ed), fun H3 s3 => ⟨_, rfl, ?_⟩⟩
        exact itF rfl ⟨s1.trans s3, s3 _ _ hD⟩
      · rintro H' ⟨s1, hD⟩
        exact ⟨false, .inl ⟨[], .inl (.inl hD), rfl⟩, q H' s1⟩
abbrev s_law_half_of : Stmt := topS 33
theorem sc_law_half_of : FnScope ["_law_way_here"] ["_law_way_here"] (defScope s_law_half_of) := ⟨rfl, rfl, rfl, by decide +kernel, rfl, by decide +kernel, by decide +kernel⟩
theorem ok_law_half_of (T : Txt K mg "_law_half_of" s_law_half_of)  : DefOk P w K mg base CX0 "_law_half_of" 1 ["_law_way_here"] (spHalf K) := by
  obtain ⟨f, fd, F, gf⟩ := T
  refine ⟨f, fd, gf, F.kp, F.binds (fun _ _ _ _ _ _ us hl => match us, hl with | [_], _ => rfl), F.ok sc_law_half_of (fun vs H Q E h => ?_) (fun cdv A outer s H vs Q E hr h => ?_)⟩
  · obtain ⟨v, d, rfl, _⟩ := h; rfl
  · obtain ⟨v, d, rfl, c, q⟩ := h
    refine ⟨_, (pss_one (ps_ret (pe_ifExp (PW.pt (pw_or (pt_cmpR op_gt (pe_ix ix_it (pv 0) pe_int (fun _ _ => rfl)) pe_int (nomark _)) (pw_or1 (PW.pt (pw_and (pt_cmpR op_eq (pe_ix ix_it (pv 0) pe_int (fun _ _ => rfl)) pe_int (nomark _)) (pw_and1 (pt_cmpR op_gt (pe_ix ix_it (pv 0) pe_int (fun _ _ => rfl)) pe_int (nomark _)))))))) pe_int pe_int))), ?_⟩
    refine ⟨v, rfl, _, _, 1, _, rfl, c, rfl, _, _, rfl, rfl, _, rfl, ?_⟩
    by_cases h1 : 0 < d.2
    · have e : halfOf d = 0 := if_pos (.inl h1)
      rw [e] at q
      exact itT (decide_eq_true h1) (itT rfl q)
    · refine itF (decide_eq_false h1) ⟨v, rfl, _, _, 1, _, rfl, c, rfl, rfl, _, rfl, ?_⟩
      by_cases h2 : d.2 = 0
      · refine itT (decide_eq_true (by rw [h2])) ⟨v, rfl, _, _, 0, _, rfl, c, rfl, _, _, rfl, rfl, _, rfl, ?_⟩
        by_cases h3 : 0 < d.1
        · have e : halfOf d = 0 := if_pos (.inr ⟨h2, h3⟩)
          rw [e] at q
          exact itT (decide_eq_true h3) q
        · have e : halfOf d = 1 := if_neg (by omega)
          rw [e] at q
          exact itF (decide_eq_false h3) q
      · have e : halfOf d = 1 := if_neg (by omega)
        rw [e] at q
        exact itF (decide_eq_false (fun z => h2 (V.int.inj z))) (itF rfl q)
abbrev s_law_before : Stmt := topS 34
theorem sc_law_before : FnScope ["_law_one", "_law_other"] ["_law_one", "_law_other"] (defScope s_law_before) := ⟨rfl, rfl, rfl, by decide +kernel, rfl, by decide +kernel, by decide +kernel⟩
theorem ok_law_before (T : Txt K mg "_law_before" s_law_before) (G_law_half_of : DefOk P w K mg base CX0 "_law_half_of" 1 ["_law_way_here"] (spHalf K)) : DefOk P w K mg base CX0 "_law_before" 2 ["_law_one", "_law_other"] (spBef K) := by
  obtain ⟨f, fd, F, gf⟩ := T
  refine ⟨f, fd, gf, F.kp, F.binds (fun _ _ _ _ _ _ us hl => match us, hl with | [_, _], _ => rfl), F.ok sc_law_before (fun vs H Q E h => ?_) (fun cdv A outer s H vs Q E hr h => ?_)⟩
  · obtain ⟨v, u, d, e, rfl, _⟩ := h; rfl
  · obtain ⟨v, u, d, e, rfl, c1, c2, zd, ze, hb, q⟩ := h
    refine ⟨_, (pss_cons (ps_if (pt_cmpR op_ne (pe_def G_law_half_of (hr.mono (by decide)) (by rfl) (pa_cons (pv 0) pa_nil)) (pe_def G_law_half_of (hr.mono (by decide)) (by rfl) (pa_cons (pv 1) pa_nil)) (nomark _)) (pss_one (ps_ret (pe_cmpR op_lt (pe_def G_law_half_of (hr.mono (by decide)) (by rfl) (pa_cons (pv 0) pa_nil)) (pe_def G_law_half_of (hr.mono (by decide)) (by rfl) (pa_cons (pv 1) pa_nil)) (nomark _)))) pss_nil) (pss_one (ps_ret (pe_cmpR op_gt (pe_op op_sub (pe_op op_mulW (pe_ix ix_it (pv 0) pe_int (fun _ _ => rfl)) (pe_ix ix_it (pv 1) pe_int (fun _ _ => rfl))) (pe_op op_mulW (pe_ix ix_it (pv 0) pe_int (fun _ _ => rfl)) (pe_ix ix_it (pv 1) pe_int (fun _ _ => rfl)))) pe_int (nomark _))))), ?_⟩
    refine ⟨v, rfl, v, d, rfl, c1, u, rfl, u, e, rfl, c2, rfl, _, rfl, ?_⟩
    rcases hb with hb | ⟨hb, hc⟩
    · refine itT ?_ ⟨v, rfl, v, d, rfl, c1, u, rfl, u, e, rfl, c2, _, _, rfl, rfl, ?_⟩
      · have : V.int (halfOf d) ≠ V.int (halfOf e) := fun z => by have := V.int.inj z; omega
        simp [this]
      · show Q (.bl (decide (halfOf d < halfOf e))) H
        rw [decide_eq_true hb]; exact q
    · refine itF ?_ ⟨v, rfl, _, _, 0, _, rfl, c1, rfl, u, rfl, _, _, 1, _, rfl, c2, rfl, _, _, rfl, rfl, wide_mul zd.1 ze.2 (by decide) (by decide) (by decide), v, rfl, _, _, 1, _, rfl, c1, rfl, u, rfl, _, _, 0, _, rfl, c2, rfl, _, _, rfl, rfl, wide_mul zd.2 ze.1 (by decide) (by decide) (by decide), _, _, rfl, rfl, _, _, rfl, rfl, ?_⟩
      · rw [hb]; simp
      · show Q (.bl (decide (0 < d.1 * e.2 - d.2 * e.1))) H
        rw [decide_eq_true hc]; exact q
abbrev s_law_step_refused : Stmt := topS 37
theorem sc_law_step_refused : FnScope ["_law_step"] ["_law_step"] (defScope s_law_step_refused) := ⟨rfl, rfl, rfl, by decide +kernel, rfl, by decide +kernel, by decide +kernel⟩
theorem ok_law_step_refused (T : Txt K mg "_law_step_refused" s_law_step_refused) (Xdirection_of : DefOk P w K mg base (L2.CX P w) "direction_of" 2 ["step"] (spDirX K)) (gBadDirection : mg "BadDirection" = some (.ref (He.ga K "BadDirection"))) (mBadDirection : PySem.W.exmOne K (.ref (He.ga K "BadDirection")) (.ref (He.ga K "BadDirection")) = some true) : DefOk P w K mg base CX0 "_law_step_refused" 3 ["_law_step"] (spStRef K) := by
  obtain ⟨f, fd, F, gf⟩ := T
  refine ⟨f, fd, gf, F.kp, F.binds (fun _ _ _ _ _ _ us hl => match us, hl with | [_], _ => rfl), F.ok sc_law_step_refused (fun vs H Q E h => ?_) (fun cdv A outer s H vs Q E hr h => ?_)⟩
  · obtain ⟨v, p, rfl, _⟩ := h; rfl
  · obtain ⟨v, p, rfl, hv, rp, zp, x0, y0, q⟩ := h
    refine ⟨_, (pss_cons (ps_try_nm (l := [(.ref (He.ga K "BadDirection"), none, fun _ _ _ => tRet (tC (.bl true)))]) rfl rfl takes0 (fun W pn xe tk _ => (pss_one (ps_expr (pe_defS Xdirection_of (hr.mono (by decide)) (by rfl) (pa_cons (pv 0) pa_nil) tk)))) (.plain (names_own (by rfl) gBadDirection) (fun a oe cls d pn _ _ => (pss_one (ps_ret pe_bl))) .nil)) (pss_one (ps_ret pe_bl))), ?_⟩
    refine ⟨v, rfl, v, p, rfl, hv, rp, zp, fun nz => absurd nz (by rw [x0, y0]; simp), fun z => ⟨true, mBadDirection, fun _ a na => q, fun z => nomatch z⟩⟩
abbrev s_law_refused : Stmt := topS 36
theorem sc_law_refused : FnScope ["_law_thing"] ["_law_thing"] (defScope s_law_refused) := ⟨rfl, rfl, rfl, by decide +kernel, rfl, by decide +kernel, by decide +kernel⟩
theorem ok_law_refused (T : Txt K mg "_law_refused" s_law_refused) (Gis_direction : DefOk P w K mg base CX0 "is_direction" 2 ["thing"] (spRow K isDir)) (Xcheck_direction : DefOk P w K mg base (L2.CX P w) "check_direction" 3 ["direction"] (spCkD K)) (gBadDirection : mg "BadDirection" = some (.ref (He.ga K "BadDirection"))) (mBadDirection : PySem.W.exmOne K (.ref (He.ga K "BadDirection")) (.ref (He.ga K "BadDirection")) = some true) : DefOk P w K mg base CX0 "_law_refused" 4 ["_law_thing"] (spRef K isDir) := by
  obtain ⟨f, fd, F, gf⟩ := T
  refine ⟨f, fd, gf, F.kp, F.binds (fun _ _ _ _ _ _ us hl => match us, hl with | [_], _ => rfl), F.ok sc_law_refused (fun vs H Q E h => ?_) (fun cdv A outer s H vs Q E hr h => ?_)⟩
  · obtain ⟨v, d, rfl, _⟩ := h; rfl
  · obtain ⟨v, d, rfl, hv, ok, q⟩ := h
    refine ⟨_, (pss_cons (ps_if (pt_cmpR op_notBl (pe_def Gis_direction (hr.mono (by decide)) (by rfl) (pa_cons (pv 0) pa_nil)) pe_bl (nomark _)) (pss_one (ps_ret pe_bl)) pss_nil) (pss_cons (ps_try_nm (l := [(.ref (He.ga K "BadDirection"), none, fun _ _ _ => tRet (tC (.bl true)))]) rfl rfl takes0 (fun W pn xe tk _ => (pss_one (ps_expr (pe_defS Xcheck_direction (hr.mono (by decide)) (by rfl) (pa_cons (pv 0) pa_nil) tk)))) (.plain (names_own (by rfl) gBadDirection) (fun a oe cls d pn _ _ => (pss_one (ps_ret pe_bl))) .nil)) (pss_one (ps_ret pe_bl)))), ?_⟩
    refine ⟨v, rfl, v, d, rfl, hv, fun H1 s1 => ⟨_, _, rfl, rfl, _, rfl, ?_⟩⟩
    refine itF (by rw [ok]; rfl) ⟨v, rfl, v, d, rfl, Dp_same s1 hv, (fun a b e t => by rw [ok] at t; cases t), fun _ H2 s2 => ⟨true, mBadDirection, fun _ a na => q _ (s1.trans s2), fun z => nomatch z⟩⟩
end
end F3
set_option Elab.async false
set_option linter.all false
set_option maxRecDepth 100000
set_option maxHeartbeats 4000000
set_option exponentiation.threshold 3000
namespace F3
open PySem PySem.Spec PyProof.Rows L2 FX RM PB KD KS
theorem call_tuple_ofK {X : Cx} (K : PySem.W.Frag) (e : X.K = K := by rfl) : CallR X (.type "tuple") (fun xs H Q => ∃ p ys, xs = [.ref p] ∧ ((SqL K H p ys ∧ ∀ l, H l = none → Q (.ref l) (upd H l (.tup ys))) ∨ (SqT K H p ys ∧ Q (.ref p) H))) := e ▸ call_tuple_of
theorem call_list_ofK {X : Cx} (K : PySem.W.Frag) (e : X.K = K := by rfl) : CallR X (.type "list") (fun xs H Q => ∃ p ys, xs = [.ref p] ∧ (SqL K H p ys ∨ SqT K H p ys) ∧ ∀ l, H l = none → Q (.ref l) (upd H l (.lst ys))) := e ▸ call_list_of
theorem op_notInTK {X : Cx} (K : PySem.W.Frag) (hu : X.A.units + 65 < cLine) (e : X.K = K := by rfl) : OpR X (compareOp .NotIn) (rNotInT K) := e ▸ op_notInT hu
theorem op_notInDK {X : Cx} (K : PySem.W.Frag) (hu : X.A.units + 65 < cLine) (e : X.K = K := by rfl) : OpR X (compareOp .NotIn) (rNotInD K) := e ▸ op_notInD hu
section
variable {P : Program} {w : World} {K : PySem.W.Frag} {mg : Str → Option Value} {base : Heap}
abbrev s_law_sum_due : Stmt := topS 38
theorem sc_law_sum_due : FnScope ["_law_one", "_law_other", "_law_found"] ["_law_one", "_law_other"] (defScope s_law_sum_due) := ⟨rfl, rfl, rfl, by decide +kernel, rfl, by decide +kernel, by decide +kernel⟩
theorem ok_law_sum_due (T : Txt K mg "_law_sum_due" s_law_sum_due) (Xbetween_of : DefOk P w K mg base (L2.CX P w) "between_of" 2 ["one", "other"] (spBet K)) (gBadDirection : mg "BadDirection" = some (.ref (He.ga K "BadDirection"))) (mBadDirection : PySem.W.exmOne K (.ref (He.ga K "BadDirection")) (.ref (He.ga K "BadDirection")) = some true) (G_law_direction : DefOk P w K mg base CX0 "_law_direction" 2 ["_law_x", "_law_y"] (spWd K)) (G_law_tuples : DefOk P w K mg base CX0 "_law_tuples" 2 ["_law_thing"] (spTup K 1)) : DefOk P w K mg base CX0 "_law_sum_due" 3 ["_law_one", "_law_other"] (spSum2 K) := by
  obtain ⟨f, fd, F, gf⟩ := T
  refine ⟨f, fd, gf, F.kp, F.binds (fun _ _ _ _ _ _ us hl => match us, hl with | [_, _], _ => rfl), F.ok sc_law_sum_due (fun vs H Q E h => ?_) (fun cdv A outer s H vs Q E hr h => ?_)⟩
  · obtain ⟨v, u, d, e, rfl, _⟩ := h; rfl
  · obtain ⟨v, u, d, e, rfl, hv, hu, zd, ze, q⟩ := h
    refine ⟨_, (pss_cons (ps_try_nm (l := [(.ref (He.ga K "BadDirection"), none, fun _ _ _ => tRet (tOp (rEqD K) (tVar 0) (tTup (tCons (tUn (rU fun i => .int (-i)) (tOp (rIt K) (tVar 1) (tC (.int 0)))) (tCons (tUn (rU fun i => .int (-i)) (tOp (rIt K) (tVar 1) (tC (.int 1)))) tNil)))))]) rfl rfl takes0 (fun W pn xe tk _ => (pss_one (ps_set (i := 2) sc_law_sum_due.nd rfl (.inl rfl) (pe_defS Xbetween_of (hr.mono (by decide)) (by rfl) (pa_cons (pv 0) (pa_cons (pv 1) pa_nil)) tk)))) (.plain (names_own (by rfl) gBadDirection) (fun a oe cls d pn _ _ => (pss_one (ps_ret (pe_cmpR (op_eqD hr.units) (pv 0) (pe_tup (pa_cons (pe_un un_neg (pe_ix ix_it (pv 1) pe_int (fun _ _ => rfl))) (pa_cons (pe_un un_neg (pe_ix ix_it (pv 1) pe_int (fun _ _ => rfl))) pa_nil))) (nomark _))))) .nil)) (pss_cons (ps_if (pt_cmpR (op_eqD hr.units) (pv 0) (pe_tup (pa_cons (pe_un un_neg (pe_ix ix_it (pv 1) pe_int (fun _ _ => rfl))) (pa_cons (pe_un un_neg (pe_ix ix_it (pv 1) pe_int (fun _ _ => rfl))) pa_nil))) (nomark _)) (pss_one (ps_ret pe_bl)) pss_nil) (pss_one (ps_ret (pe_and (pe_cmpR (op_eqD hr.units) (pv 2) (pe_def G_law_direction (hr.mono (by decide)) (by rfl) (pa_cons (pe_op op_add (pe_ix ix_it (pv 0) pe_int (fun _ _ => rfl)) (pe_ix ix_it (pv 1) pe_int (fun _ _ => rfl))) (pa_cons (pe_op op_add (pe_ix ix_it (pv 0) pe_int (fun _ _ => rfl)) (pe_ix ix_it (pv 1) pe_int (fun _ _ => rfl))) pa_nil))) (nomark _)) (pe_one (pe_def G_law_tuples (hr.mono (by decide)) (by rfl) (pa_cons (pv 2) pa_nil)))))))), ?_⟩
    have c1 := dir_t hv
    have c2 := dir_t hu
    refine ⟨v, rfl, u, rfl, v, u, d, e, rfl, c1, c2, szr_mono zd (by decide), szr_mono ze (by decide), fun nz H1 z s1 hz => ?_, fun zz => ⟨true, mBadDirection, fun _ a na => ?_, fun z => nomatch z⟩⟩
    · refine ⟨v, rfl, u, rfl, _, _, 0, _, rfl, (c2.same s1), rfl, _, rfl, u, rfl, _, _, 1, _, rfl, (c2.same s1), rfl, _, rfl, (by show 2 ≤ sizeLine; decide), fun p np => ?_⟩
      have s2 := PB.same_new (o := .tup [.int (-e.1), .int (-e.2)]) np
      refine ⟨rD d, rD (-e.1, -e.2), Dp_same (s1.trans s2) hv, dp_mkr np, (shaped_r _).1, (shaped_r _).1, _, rfl, ?_⟩
      have s12 := s1.trans s2
      have k1 := c1.same s12
      have k2 := c2.same s12
      have hz2 := Dp_same s2 hz
      generalize upd H1 p (.tup [.int (-e.1), .int (-e.2)]) = H2 at s12 k1 k2 hz2 ⊢
      have ne : d ≠ (-e.1, -e.2) := fun z => by
        have a1 := congrArg Prod.fst z
        have a2 := congrArg Prod.snd z
        dsimp only at a1 a2
        omega
      refine itF (by rw [eqv_r]; exact decide_eq_false ne) ?_
      refine ⟨z, rfl, v, rfl, _, _, 0, _, rfl, k1, rfl, u, rfl, _, _, 0, _, rfl, k2, rfl, _, _, rfl, rfl, v, rfl, _, _, 1, _, rfl, k1, rfl, u, rfl, _, _, 1, _, rfl, k2, rfl, _, _, rfl, rfl, _, _, rfl, nz, sz_mono (sz_add zd.1 ze.1) (by decide), sz_mono (sz_add zd.2 ze.2) (by decide), fun H3 z3 s3 h3 => ?_⟩
      refine eq_same (shaped_r _) (Dp_same s3 hz2) h3 ⟨true, rfl, itT rfl ⟨z, rfl, z, _, rfl, Dp_same s3 hz2, tup_r _, fun H4 s4 => ?_⟩⟩
      exact q H4 ((s12.trans s3).trans s4)
    · refine ⟨v, rfl, u, rfl, _, _, 0, _, rfl, c2, rfl, _, rfl, u, rfl, _, _, 1, _, rfl, c2, rfl, _, rfl, (by show 2 ≤ sizeLine; decide), fun p np => ?_⟩
      have s2 := PB.same_new (o := .tup [.int (-e.1), .int (-e.2)]) np
      have ee : d = (-e.1, -e.2) := Prod.ext (by show d.1 = -e.1; omega) (by show d.2 = -e.2; omega)
      refine eq_same (shaped_r d) (Dp_same s2 hv) ?_ (q _ s2)
      rw [ee]
      exact dp_mkr np
abbrev s_law_ordered : Stmt := topS 35
theorem sc_law_ordered : FnScope ["_law_ways", "_law_told", "_law_k", "_law_wanted", "_law_way_here"] ["_law_ways"] (defScope s_law_ordered) := ⟨rfl, rfl, rfl, by decide +kernel, rfl, by decide +kernel, by decide +kernel⟩
theorem ok_law_ordered (T : Txt K mg "_law_ordered" s_law_ordered) (Gorder_round : DefOk P w K mg base CX0 "order_round" 2 ["directions"] (spOrd K)) (G_law_tuples : DefOk P w K mg base CX0 "_law_tuples" 3 ["_law_thing"] (spTup K 2)) (G_law_before : DefOk P w K mg base CX0 "_law_before" 2 ["_law_one", "_law_other"] (spBef K)) (misinstance : mg "isinstance" = none) (mtuple : mg "tuple" = none) (mlen : mg "len" = none) (mrange : mg "range" = none) : DefOk P w K mg base CX0 "_law_ordered" 4 ["_law_ways"] (spOrdd K) := by
  obtain ⟨f, fd, F, gf⟩ := T
  refine ⟨f, fd, gf, F.kp, F.binds (fun _ _ _ _ _ _ us hl => match us, hl with | [_], _ => rfl), F.ok sc_law_ordered (fun vs H Q E h => ?_) (fun cdv A outer s H vs Q E hr h => ?_)⟩
  · obtain ⟨p, xs, ds, rfl, _⟩ := h; rfl
  · obtain ⟨p, xs, ds, rfl, hS, hl, l6, hD, hP, q⟩ := h
    refine ⟨_, (pss_cons (ps_set (i := 1) sc_law_ordered.nd rfl (.inr rfl) (pe_def Gorder_round (hr.mono (by decide)) (by rfl) (pa_cons (pv 0) pa_nil))) (pss_cons (ps_if (PW.pt (pw_or (pt_not (pt_val (pe_callB call_isi (by rfl) misinstance boot_isinstance (pa_cons (pv 1) (pa_cons (pe_bltn (v := .ty "tuple") (by rfl) mtuple (by decide +kernel) rfl) pa_nil))))) (pw_or1 (pt_not (pt_val (pe_def G_law_tuples (hr.mono (by decide)) (by rfl) (pa_cons (pv 1) pa_nil))))))) (pss_one (ps_ret pe_bl)) pss_nil) (pss_cons (ps_for PassesOwn.never rfl (pi_range1 (by rfl) mrange (pa_cons (pe_op op_sub (pe_callB call_len_seq (by rfl) mlen PySem.boot_len (pa_cons (pv 1) pa_nil)) pe_int) pa_nil)) (pg_name (i := 2) sc_law_ordered.nd rfl (.inl rfl)) (pss_one (ps_if (pt_not (pt_val (pe_def G_law_before (hr.mono (by decide)) (by rfl) (pa_cons (pe_ix ix_tup (pv 1) (pv 2) (fun _ _ => rfl)) (pa_cons (pe_ix ix_tup (pv 1) (pe_op op_add (pv 2) pe_int) (fun _ _ => rfl)) pa_nil))))) (pss_one (ps_ret pe_bl)) pss_nil))) (pss_cons (ps_set (i := 3) sc_law_ordered.nd rfl (.inr rfl) (pe_lc (own := [("_law_way_here", 4)]) rfl sc_law_ordered.nd (pi_seq (pv 0)) (blkOk_by (N := ["_law_ways", "_law_told", "_law_k", "_law_wanted", "_law_way_here"]) (sc := defScope s_law_ordered) (by decide +kernel)) (fun _ _ _ _ _ => (pg_name (i := 4) sc_law_ordered.nd rfl (.inl rfl))) (fun _ _ _ _ _ => pts_nil) (fun _ _ _ _ _ => (pe_callTy (call_tuple_ofK K) (by rfl) mtuple (by decide +kernel) (pa_cons (pv 4) pa_nil))))) (pss_one (ps_ret (pe_and (pe_notT (pe_lc (own := [("_law_way_here", 4)]) rfl sc_law_ordered.nd (pi_seq (pv 1)) (blkOk_by (N := ["_law_ways", "_law_told", "_law_k", "_law_wanted", "_law_way_here"]) (sc := defScope s_law_ordered) (by decide +kernel)) (fun _ _ _ _ _ => (pg_name (i := 4) sc_law_ordered.nd rfl (.inl rfl))) (fun _ _ _ _ _ => (pts_one (pt_cmpR (op_notInDK K (Room.u65 hr)) (pv 4) (pv 3) (by with_unfolding_all rfl)))) (fun _ _ _ _ _ => pe_int))) (pe_one (pe_notT (pe_lc (own := [("_law_way_here", 4)]) rfl sc_law_ordered.nd (pi_seq (pv 3)) (blkOk_by (N := ["_law_ways", "_law_told", "_law_k", "_law_wanted", "_law_way_here"]) (sc := defScope s_law_ordered) (by decide +kernel)) (fun _ _ _ _ _ => (pg_name (i := 4) sc_law_ordered.nd rfl (.inl rfl))) (fun _ _ _ _ _ => (pts_one (pt_cmpR (op_notInTK K (Room.u65 hr)) (pv 4) (pv 1) (by with_unfolding_all rfl)))) (fun _ _ _ _ _ => pe_int))))))))))), ?_⟩
    refine ⟨.ref p, rfl, p, xs, ds, rfl, hS, hl, l6, hD, hP, fun H1 z os s1 ob om ol hz => ?_⟩
    refine ⟨z, rfl, z, _, _, _, _, rfl, .ty _, dp_tyx hz, kit_ty (kit_tuple (.tuple (os.map rD))), true, rfl, itF rfl ⟨z, rfl, z, _, rfl, hz, tup_rs os, fun H2 s2 => ⟨true, rfl, itF rfl ?_⟩⟩⟩
    have hz2 := Dp_same s2 hz
    clear hz
    obtain ⟨pt, ts, rfl, hT, hA⟩ : ∃ pt ts, z = .ref pt ∧ SqT K H2 pt ts ∧ DpAll K H2 ts (os.map rD) := by
      cases hz2 with
      | tup h g => exact ⟨_, _, rfl, h, g⟩
    have tl : ts.length = os.length := by rw [DpAll_len hA, List.length_map]
    have s12 := s1.trans s2
    have oP : ∀ d ∈ os, Prim d ∧ SzR 151 d := fun d hd => hP d ((om d).mp hd)
    have at_ : ∀ {i : Nat} {G : Hp} (h : i < os.length), Same H2 G → ∃ x, ts[i]? = some x ∧ Dp K G x (rD os[i]) := fun {i G} h s => by
      obtain ⟨x, ex, hx⟩ := DpAll_at' (i := i) (d := rD os[i]) hA (by rw [List.getElem?_map, List.getElem?_eq_getElem h]; rfl)
      exact ⟨x, ex, Dp_same s hx⟩
    refine ⟨.ref pt, rfl, pt, ts, rfl, .inr hT, _, _, rfl, rfl, _, rfl, by omega, by omega, for_range (n := (((ts.length : Nat) : Int) - 1).toNat) (fun i σ H' => ∃ y : Option V, σ = [some (.ref p), some (.ref pt), y, none, none] ∧ Same H2 H') ⟨none, rfl, fun _ _ e => e⟩ ?_ ?_⟩
    · rintro i σ H' hi ⟨y, rfl, sH⟩
      have i1 : i < os.length := by omega
      have i2 : i + 1 < os.length := by omega
      obtain ⟨x1, e1, h1⟩ := at_ i1 sH
      obtain ⟨x2, e2, h2⟩ := at_ i2 sH
      have a1 := atI_nat e1
      have a2 := atI_nat e2
      have hT' := same_t sH hT
      refine ⟨_, rfl, _, rfl, pt, ts, 0 + (i : Int), x1, rfl, rfl, hT', by rw [Int.zero_add]; exact a1, _, rfl, _, rfl, _, _, rfl, rfl, pt, ts, 0 + (i : Int) + 1, x2, rfl, rfl, hT', by rw [Int.zero_add]; exact a2, ?_⟩
      refine ⟨x1, x2, os[i], os[i + 1], rfl, dir_t h1, dir_t h2, (oP _ (List.getElem_mem i1)).2, (oP _ (List.getElem_mem i2)).2, (List.pairwise_iff_getElem.mp ob) i (i + 1) i1 i2 (by omega), true, rfl, itF rfl ⟨_, rfl, sH⟩⟩
    rintro σ H3 ⟨y, rfl, s3⟩
    have s13 := s12.trans s3
    dsimp only [tSeq, tAsg, gName]
    refine lc_map (K := K) (a := p) (xs := xs) (j := 0) (fun i => rD (ds.getD i (0, 0))) (fun i => noL_r _) (by rfl) (hS.elim (fun h => .inl (s13.seq h)) fun h => .inr (same_t s13 h)) (small1000 (by omega)) (fun i x F R ex sx hR => ?_) fun D4 F4 ws s4 n4 e4 h4 => ?_
    · have il : i < ds.length := by rw [hl]; exact (List.getElem?_eq_some_iff.mp ex).1
      have ed : ds[i]? = some ds[i] := List.getElem?_eq_getElem il
      have e : ds.getD i (0, 0) = ds[i] := by rw [List.getD_eq_getElem?_getD, ed]; rfl
      (try dsimp only at hR)
      rw [e] at hR
      obtain ⟨pc, rfl, hc⟩ := (hD i x ds[i] ex ed).same (s13.trans sx)
      rcases hc with hc | hc
      · exact ⟨rfl, _, rfl, pc, _, rfl, .inr ⟨hc, hR _ _ (fun _ _ z => z) (.tup hc (.cons (.int _) (.cons (.int _) .nil)))⟩⟩
      · exact ⟨rfl, _, rfl, pc, _, rfl, .inl ⟨hc, fun l nl => hR _ _ (PB.same_new nl) (dp_mkr nl)⟩⟩
    have h4' : DpAll K F4 ws (ds.map rD) := by rw [← range_getD ds (0, 0), hl]; exact h4
    have hw : Dp K F4 (.ref D4) (.list (ds.map rD)) := .lst (.inl (.inl e4)) h4'
    have s34 := s3.trans s4
    refine .inr ⟨_, rfl, pt, rfl, ⟨_, same_t s34 hT⟩, fun D5 n5 => ?_⟩
    refine lc_tup (K := K) (a := pt) (xs := ts) (fun i H' => Same F4 H' ∧ H' D5 = some (.lst [])) ⟨PB.same_new n5, upd_same⟩ (fun i H' _ h => same_t (s34.trans h.1) hT) ?_ ?_
    · rintro i x H' hi ⟨sH, eD⟩
      obtain ⟨d, ed, hd⟩ := DpAll_at hA hi
      rw [List.getElem?_map] at ed
      cases eo : os[i]? with
      | none => rw [eo] at ed; cases ed
      | some o =>
        rw [eo] at ed
        cases ed
        refine ⟨rfl, x, rfl, _, rfl, rD o, ds.map rD, Dp_same (s34.trans sH) hd, Dp_same sH hw, (shaped_r o).1, (shaped_t ds).2, _, rfl, ?_⟩
        exact itF (by rw [any_r ((om o).mp (List.mem_of_getElem? eo))]; rfl) ⟨sH, eD⟩
    rintro F6 ⟨s6, e6⟩
    refine ⟨false, .inl ⟨[], .inl (.inl e6), rfl⟩, true, rfl, itT rfl ?_⟩
    have hw6 := Dp_same s6 hw
    have hz6 : Dp K F6 (.ref pt) (.tuple (os.map rD)) := .tup (same_t (s34.trans s6) hT) (DpAll_same (s34.trans s6) hA)
    refine .inl ⟨_, rfl, D4, rfl, ⟨_, .inl (.inl (s6 _ _ e4))⟩, fun D7 n7 => ?_⟩
    refine lc_list (K := K) (a := D4) (xs := ws) (fun i H' => Same F6 H' ∧ H' D7 = some (.lst [])) ⟨PB.same_new n7, upd_same⟩ (fun i H' _ h => .inl (.inl (h.1 _ _ (s6 _ _ e4)))) ?_ ?_
    · rintro i x H' hi ⟨sH, eD⟩
      obtain ⟨d, ed, hd⟩ := DpAll_at h4' hi
      rw [List.getElem?_map] at ed
      cases eo : ds[i]? with
      | none => rw [eo] at ed; cases ed
      | some o =>
        rw [eo] at ed
        cases ed
        refine ⟨rfl, x, rfl, _, rfl, rD o, os.map rD, Dp_same (s6.trans sH) hd, Dp_same sH hz6, (shaped_r o).1, (shaped_t os).1, _, rfl, ?_⟩
        exact itF (by rw [any_r ((om o).mpr (List.mem_of_getElem? eo))]; rfl) ⟨sH, eD⟩
    rintro F8 ⟨s8, e8⟩
    exact ⟨false, .inl ⟨[], .inl (.inl e8), rfl⟩, q F8 (((s13.trans s4).trans s6).trans s8)⟩
end
end F3
set_option Elab.async false
set_option linter.all false
set_option maxRecDepth 100000
set_option maxHeartbeats 4000000
set_option exponentiation.threshold 3000
namespace F3
open PySem PySem.Spec PyProof.Rows L2 FX RM PB KD KS
theorem HandAt.updD {H1 H4 : Hp} {p D : Addr} {o : HO} (h1 : HandAt H1 p) (nD : H1 D = none) (s : SameBut p H1 H4) (h4 : HandAt H4 p) : HandAt (upd H4 D o) p := by
  obtain ⟨c, cs, i, r, t, a, b, q⟩ := h1
  obtain ⟨c', cs', i', r', t', a', b', q'⟩ := h4
  obtain ⟨l', e⟩ := s.2 c _ a
  have np : p ≠ D := ne_of_none a nD
  have nc : c ≠ D := ne_of_none b nD
  have ec : c' = c := by
    rw [e] at a'
    cases a'
    rfl
  subst ec
  exact ⟨c', cs', i', r', t', by rw [upd_ne np]; exact a', by rw [upd_ne nc]; exact b', q'⟩
theorem SameBut.updD {H1 H4 : Hp} {p D : Addr} {o : HO} (s : SameBut p H1 H4) (nD : H1 D = none) : SameBut p H1 (upd H4 D o) :=
  ⟨fun b x nb e => by rw [upd_ne (ne_of_none e nD)]; exact s.1 b x nb e, fun c l e => by
    obtain ⟨l', e'⟩ := s.2 c l e
    exact ⟨l', by rw [upd_ne (ne_of_none e nD)]; exact e'⟩⟩
theorem HandAt.neD {H1 : Hp} {p D : Addr} (h1 : HandAt H1 p) (nD : H1 D = none) : D ≠ p := by
  obtain ⟨c, cs, i, r, t, a, b, q⟩ := h1
  exact (ne_of_none a nD).symm
def LE (K : PySem.W.Frag) (σ : L2.St) (B : Hp → Prop) (te : TE) (d : PyData) : Prop := ∀ H (Q : VK), B H → (∀ H' v, Same H H' → Dp K H' v d → Q v H') → te σ H Q
def LA (K : PySem.W.Frag) (σ : L2.St) (B : Hp → Prop) (t : TA) (ds : List PyData) : Prop := ∀ H (Q : List V → Hp → Prop), B H → (∀ H' vs, Same H H' → DpAll K H' vs ds → Q vs H') → t σ H Q
section
variable {K : PySem.W.Frag} {σ : L2.St} {B : Hp → Prop}
theorem le_int {i : Int} : LE K σ B (tC (.int i)) (.int i) := fun H Q _ q => q H _ (fun _ _ e => e) (.int i)
theorem le_neg {i : Int} : LE K σ B (tUn (rU fun i => .int (-i)) (tC (.int i))) (.int (-i)) := fun H Q _ q => ⟨i, rfl, q H _ (fun _ _ e => e) (.int _)⟩
theorem le_str {i : Str} : LE K σ B (tC (.str i)) (.str i) := fun H Q _ q => q H _ (fun _ _ e => e) (.str i)
theorem le_bl {i : Bool} : LE K σ B (tC (.bl i)) (.bool i) := fun H Q _ q => q H _ (fun _ _ e => e) (.bl i)
theorem le_non : LE K σ B (tC .non) .none := fun H Q _ q => q H _ (fun _ _ e => e) .non
theorem la_nil : LA K σ B tNil [] := fun H Q _ q => q H [] (fun _ _ e => e) .nil
theorem la_cons {te : TE} {t : TA} {d : PyData} {ds : List PyData} (hB : ∀ H H', Same H H' → B H → B H') (h : LE K σ B te d) (k : LA K σ B t ds) : LA K σ B (tCons te t) (d :: ds) :=
  fun H Q b q => h H _ b fun H1 v s1 hv => k H1 _ (hB _ _ s1 b) fun H2 vs s2 hvs => q H2 _ (s1.trans s2) (.cons (Dp_same s2 hv) hvs)
theorem le_tup {t : TA} {ds : List PyData} (h : LA K σ B t ds) (hl : ds.length ≤ 1000) : LE K σ B (tTup t) (.tuple ds) :=
  fun H Q b q => h H _ b fun H1 vs s1 hvs => ⟨Nat.le_of_lt (small1000 (n := vs.length) (by rw [DpAll_len hvs]; exact hl)), fun p np => q _ _ (s1.trans (PB.same_new np)) (.tup (.inl (.inl upd_same)) (DpAll_same (PB.same_new np) hvs))⟩
theorem le_lst {t : TA} {ds : List PyData} (h : LA K σ B t ds) (hl : ds.length ≤ 1000) : LE K σ B (tLst t) (.list ds) :=
  fun H Q b q => h H _ b fun H1 vs s1 hvs => ⟨Nat.le_of_lt (small1000 (n := vs.length) (by rw [DpAll_len hvs]; exact hl)), fun p np => q _ _ (s1.trans (PB.same_new np)) (.lst (.inl (.inl upd_same)) (DpAll_same (PB.same_new np) hvs))⟩
end

theorem noLs_r (ds : List Dn) : noLs (ds.map rD) = true := noLs_all fun d hd => by
  obtain ⟨x, _, rfl⟩ := List.mem_map.mp hd
  exact noL_r x
theorem HandAt.dpl {H H' : Hp} {K : PySem.W.Frag} {p : Addr} {vs : List V} {ds : List Dn} (h : HandAt H p) (s : SameBut p H H') (k : DpAll K H vs (ds.map rD)) : DpAll K H' vs (ds.map rD) := by
  obtain ⟨c, cs, i, r, t, a, _⟩ := h
  exact DpAll_but a s.1 (noLs_r ds) k
/-- the drawn directions in the list at D, H2 the heap before it was made -/
structure Wd (K : PySem.W.Frag) (p D : Addr) (ds : List Dn) (H2 H : Hp) : Prop where
  h : HandAt H p
  s : SameBut p H2 H
  l : ∃ xs, H D = some (.lst xs) ∧ DpAll K H xs (ds.map rD)
  w : ∀ d ∈ ds, Way d
theorem Wd.draw {K : PySem.W.Frag} {p D : Addr} {ds : List Dn} {H2 H H' : Hp} (W : Wd K p D ds H2 H) (ne : D ≠ p) (h : HandAt H' p) (s : SameBut p H H') : Wd K p D ds H2 H' := by
  obtain ⟨xs, e, a⟩ := W.l
  exact ⟨h, W.s.trans s, ⟨xs, s.1 _ _ ne e, W.h.dpl s a⟩, W.w⟩
theorem Wd.new {K : PySem.W.Frag} {p D : Addr} {ds : List Dn} {H2 H H' : Hp} (W : Wd K p D ds H2 H) (ne : D ≠ p) (s : Same H H') : Wd K p D ds H2 H' := W.draw ne (W.h.same s) (Same.but s)
theorem Wd.put {K : PySem.W.Frag} {p D : Addr} {ds : List Dn} {H2 H : Hp} {xs : List V} {v : V} {d : Dn} (W : Wd K p D ds H2 H) (h2 : HandAt H2 p) (nD : H2 D = none) (e : H D = some (.lst xs)) (a : DpAll K H xs (ds.map rD)) (hv : Dp K H v (rD d)) (hd : Way d) :
    Wd K p D (ds ++ [d]) H2 (upd H D (.lst (xs ++ [v]))) := by
  refine ⟨h2.updD nD W.s W.h, W.s.updD nD, ⟨xs ++ [v], upd_same, ?_⟩, fun x hx => ?_⟩
  · rw [List.map_append]
    refine DpAll_but e (fun b o n z => by rw [upd_ne n]; exact z) (noLs_all fun x hx => ?_) (DpAll_snoc hv a)
    rcases List.mem_append.mp hx with hx | hx
    · obtain ⟨y, _, rfl⟩ := List.mem_map.mp hx
      exact noL_r y
    · obtain ⟨y, _, rfl⟩ := List.mem_map.mp hx
      exact noL_r y
  · rcases List.mem_append.mp hx with hx | hx
    · exact W.w x hx
    · rw [List.mem_singleton.mp hx]; exact hd
theorem prim_neg {d : Dn} (h : Prim d) : Prim (-d.1, -d.2) := by
  show g2 (-d.1) (-d.2) = 1
  unfold g2
  rw [Int.natAbs_neg, Int.natAbs_neg]
  exact h
theorem way_neg {d : Dn} (h : Way d) : Way (-d.1, -d.2) := ⟨prim_neg h.1, sz_neg h.2.1, sz_neg h.2.2⟩
theorem norm_self {d : Dn} (h : Prim d) : norm d.1 d.2 = d := by
  unfold norm
  rw [show g2 d.1 d.2 = 1 from h, Int.ediv_one, Int.ediv_one]
/-- the direction of a step along it -/
theorem dir_step {d : Dn} {r : Rt} (h : Prim d) (hr : IsRat r) (r0 : 0 < r.1) : dirOf (rmul r (d.1, 1), rmul r (d.2, 1)) = d := by
  obtain ⟨i1, w1, e1⟩ := rep_mul (rep_self hr) (rep_self (rat_int d.1))
  obtain ⟨i2, w2, e2⟩ := rep_mul (rep_self hr) (rep_self (rat_int d.2))
  refine Eq.trans ?_ (norm_self h)
  show norm ((rmul r (d.1, 1)).1 * (rmul r (d.2, 1)).2) ((rmul r (d.2, 1)).1 * (rmul r (d.1, 1)).2) = norm d.1 d.2
  refine norm_like (c := r.2) (c' := r.1 * (rmul r (d.1, 1)).2 * (rmul r (d.2, 1)).2) hr.1 (Int.mul_pos (Int.mul_pos r0 i1.1) i2.1) ?_ ?_
  · generalize rmul r (d.1, 1) = a at *
    generalize rmul r (d.2, 1) = b at *
    dsimp only at e1
    have e1 : a.1 * r.2 = r.1 * d.1 * a.2 := by rw [Int.mul_one] at e1; exact e1
    calc a.1 * b.2 * r.2 = a.1 * r.2 * b.2 := by grind
      _ = d.1 * (r.1 * a.2 * b.2) := by rw [e1]; grind
  · generalize rmul r (d.1, 1) = a at *
    generalize rmul r (d.2, 1) = b at *
    dsimp only at e2
    have e2 : b.1 * r.2 = r.1 * d.2 * b.2 := by rw [Int.mul_one] at e2; exact e2
    calc b.1 * a.2 * r.2 = b.1 * r.2 * a.2 := by grind
      _ = d.2 * (r.1 * a.2 * b.2) := by rw [e2]; grind
def rlD (d : Dn) : PyData := .list [.int d.1, .int d.2]
theorem isDir_t {d : Dn} (h : Prim d) : isDir (rD d) = true := decide_eq_true h
theorem isDir_l {d : Dn} (h : Prim d) : isDir (rlD d) = true := decide_eq_true h
theorem shaped_ls (ds : List Dn) : SeqAt.shaped (.list (ds.map rlD)) = true := by
  have : ∀ ds : List Dn, PyData.canLayAll0 (ds.map rlD) = true ∧ PyData.depthAll (ds.map rlD) ≤ 1 := fun ds => by
    induction ds with
    | nil => exact ⟨rfl, by simp [PyData.depthAll]⟩
    | cons o os ih =>
      obtain ⟨a, b⟩ := ih
      refine ⟨?_, ?_⟩
      · rw [List.map_cons, PyData.canLayAll0, a]; simp [rlD, PyData.canLay0, PyData.canLayAll0]
      · rw [List.map_cons, PyData.depthAll]
        have : (rlD o).depth ≤ 1 := by simp [rlD, PyData.depth, PyData.depthAll]
        omega
  obtain ⟨a, b⟩ := this ds
  unfold SeqAt.shaped
  rw [PyData.canLay0, a, PyData.depth]
  simp; omega
theorem shaped_nil : SeqAt.shaped (.tuple []) = true ∧ PyData.canLay0 (.tuple []) = true := ⟨by decide +kernel, by decide +kernel⟩

/-- a list of lists of two whole numbers, none of them the outer one -/
def LL (F : Hp) (D : Addr) (ys : List V) (ds : List Dn) : Prop := ys.length = ds.length ∧ ∀ (i : Nat) (d : Dn), ds[i]? = some d → ∃ l, ys[i]? = some (.ref l) ∧ l ≠ D ∧ F l = some (.lst [.int d.1, .int d.2])
theorem LL.same {F G : Hp} {D : Addr} {ys : List V} {ds : List Dn} (h : LL F D ys ds) (s : Same F G) : LL G D ys ds := ⟨h.1, fun i d e => by
  obtain ⟨l, a, b, c⟩ := h.2 i d e
  exact ⟨l, a, b, s _ _ c⟩⟩
theorem LL.dir {K : PySem.W.Frag} {F : Hp} {D : Addr} {ys : List V} {ds : List Dn} (h : LL F D ys ds) : ∀ (i : Nat) (x : V) (d : Dn), ys[i]? = some x → ds[i]? = some d → PB.Dir K F x d := fun i x d ex ed => by
  obtain ⟨l, a, b, c⟩ := h.2 i d ed
  rw [ex] at a
  cases a
  exact ⟨l, rfl, .inr (.inl (.inl c))⟩
theorem dpall_ix {K : PySem.W.Frag} {F : Hp} {g : Dn → PyData} : ∀ {ys : List V} {ds : List Dn}, ys.length = ds.length → (∀ (i : Nat) (x : V) (d : Dn), ys[i]? = some x → ds[i]? = some d → Dp K F x (g d)) → DpAll K F ys (ds.map g)
  | [], [], _, _ => .nil
  | [], _ :: _, e, _ => nomatch e
  | _ :: _, [], e, _ => nomatch e
  | _ :: _, _ :: _, e, h => .cons (h 0 _ _ rfl rfl) (dpall_ix (Nat.succ.inj e) fun i x d ex ed => h (i + 1) x d ex ed)
theorem LL.dps {K : PySem.W.Frag} {F : Hp} {D : Addr} {ys : List V} {ds : List Dn} (h : LL F D ys ds) : DpAll K F ys (ds.map rlD) := dpall_ix h.1 fun i x d ex ed => by
  obtain ⟨l, a, b, c⟩ := h.2 i d ed
  rw [ex] at a
  cases a
  exact .lst (.inl (.inl c)) (.cons (.int _) (.cons (.int _) .nil))
theorem lc_lists {K : PySem.W.Frag} {a : Addr} {xs : List V} {j : Nat} {g : TG} {te : TE} {own : List Nat} {τ : L2.St} {H : Hp} {Q : VK} (ds : List Dn) (hj : τ[j]? = some (some (.ref a))) (h0 : SqL K H a xs) (hl : ds.length = xs.length) (hz : xs.length < sizeLine)
    (hs : ∀ (i : Nat) (x : V) (F : Hp) (R : V → Hp → Prop) (d : Dn), xs[i]? = some x → ds[i]? = some d → Same H F → (∀ l, F l = none → R (.ref l) (upd F l (.lst [.int d.1, .int d.2]))) → g x (wipe τ own) F fun τ2 F2 => wipe τ2 own = wipe τ own ∧ te τ2 F2 R)
    (hd : ∀ (D : Addr) (F : Hp) (ys : List V), Same H F → H D = none → F D = some (.lst ys) → LL F D ys ds → Q (.ref D) F) : tLc (iSeq K (tVar j)) g tYes te own τ H Q := by
  refine .inl ⟨_, hj, a, rfl, ⟨_, h0⟩, fun D nD => ?_⟩
  refine lc_list (K := K) (a := a) (xs := xs) (fun i F => Same H F ∧ ∃ ys, F D = some (.lst ys) ∧ LL F D ys (ds.take i)) ⟨PB.same_new nD, [], upd_same, rfl, fun i d e => by simp at e⟩ (fun i F _ h => h.1.seq h0) ?_ ?_
  · rintro i x F hi ⟨s1, ys, eD, ll⟩
    have il : i < xs.length := (List.getElem?_eq_some_iff.mp hi).1
    have id_ : i < ds.length := by omega
    have tk : (ds.take i).length = i := by rw [List.length_take]; omega
    refine hs i x F _ ds[i] hi (List.getElem?_eq_getElem id_) s1 fun l nl => ?_
    have ne : l ≠ D := (ne_of_none eD nl).symm
    refine ⟨ys, by rw [upd_ne ne.symm]; exact eD, by have := ll.1; omega, ⟨fun b o e => ?_, ys ++ [.ref l], upd_same, ?_, fun k d e => ?_⟩⟩
    · rw [upd_ne (ne_of_none e nD)]
      exact PB.same_new nl _ _ (s1 _ _ e)
    · rw [List.length_append, ll.1, tk, List.length_take]
      show i + 1 = _
      omega
    · by_cases ki : k < i
      · rw [List.getElem?_take_of_lt (by omega)] at e
        obtain ⟨l', a1, a2, a3⟩ := ll.2 k d (by rw [List.getElem?_take_of_lt ki]; exact e)
        refine ⟨l', ?_, a2, ?_⟩
        · rw [List.getElem?_append_left (by have := ll.1; omega)]; exact a1
        · rw [upd_ne a2, upd_ne (ne_of_none a3 nl)]; exact a3
      · have kl : k < (ds.take (i + 1)).length := (List.getElem?_eq_some_iff.mp e).1
        rw [List.length_take] at kl
        obtain rfl : k = i := by omega
        rw [List.getElem?_take_of_lt (by omega), List.getElem?_eq_getElem id_] at e
        cases e
        refine ⟨l, ?_, ne, ?_⟩
        · rw [List.getElem?_append_right (by have := ll.1; omega)]
          have : k - ys.length = 0 := by have := ll.1; omega
          rw [this]; rfl
        · rw [upd_ne ne, upd_same]
  · rintro F ⟨s1, ys, eD, ll⟩
    refine hd D F ys s1 nD eD ?_
    rw [← hl, List.take_length] at ll
    exact ll
theorem if_sgn {t : Int} {σ : L2.St} {H : Hp} {Q : VK} (h4 : σ[4]? = some (some (.int t))) (q : Q (.int (sgn t)) H) : tIf (tTest (tOp (rI0 fun i j => .bl (decide (j < i))) (tVar 4) (tC (.int 0)))) (tC (.int 1))
    (tIf (tTest (tOp (rI0 fun i j => .bl (decide (i < j))) (tVar 4) (tC (.int 0)))) (tUn (rU fun i => .int (-i)) (tC (.int 1))) (tC (.int 0))) σ H Q := by
  refine ⟨_, h4, _, _, rfl, rfl, _, rfl, ?_⟩
  by_cases a : 0 < t
  · have e : sgn t = 1 := by unfold sgn; rw [if_neg (by omega), if_pos a]
    rw [e] at q
    exact itT (decide_eq_true a) q
  · refine itF (decide_eq_false a) ⟨_, h4, _, _, rfl, rfl, _, rfl, ?_⟩
    by_cases b : t < 0
    · have e : sgn t = -1 := if_pos b
      rw [e] at q
      exact itT (decide_eq_true b) ⟨_, rfl, q⟩
    · have e : sgn t = 0 := by unfold sgn; rw [if_neg b, if_neg a]
      rw [e] at q
      exact itF (decide_eq_false b) q
theorem mk_l {K : PySem.W.Frag} {H : Hp} {l : Addr} {x y : V} (nl : H l = none) : Cou K (upd H l (.lst [x, y])) (.ref l) x y := ⟨l, rfl, .inr (.inl (.inl upd_same))⟩
theorem ck_t {K : PySem.W.Frag} {d : Dn} {v : V} {H : Hp} {Q : VK} {E : XK} (hp : Prim d) (hv : Dp K H v (rD d)) (k : ∀ H' z, Same H H' → Dp K H' z (rD d) → Q z H') : spCkD K [v] H Q E := by
  refine ⟨v, rD d, rfl, hv, fun a b e _ H' z s hz => ?_, fun t => ?_⟩
  · rcases e with e | e
    · cases e; exact k H' z s hz
    · cases e
  · rw [isDir_t hp] at t; cases t
theorem ck_l {K : PySem.W.Frag} {d : Dn} {v : V} {H : Hp} {Q : VK} {E : XK} (hp : Prim d) (hv : Dp K H v (rlD d)) (k : ∀ H' z, Same H H' → Dp K H' z (rD d) → Q z H') : spCkD K [v] H Q E := by
  refine ⟨v, rlD d, rfl, hv, fun a b e _ H' z s hz => ?_, fun t => ?_⟩
  · rcases e with e | e
    · cases e
    · cases e; exact k H' z s hz
  · rw [isDir_l hp] at t; cases t
theorem dp_l {K : PySem.W.Frag} {H : Hp} {l : Addr} {d : Dn} : Dp K (upd H l (.lst [.int d.1, .int d.2])) (.ref l) (rlD d) := .lst (.inl (.inl upd_same)) (.cons (.int _) (.cons (.int _) .nil))
theorem stepd_nz {d : Dn} {r : Rt} (h : Prim d) (hr : IsRat r) (r0 : 0 < r.1) : (rmul r (d.1, 1)).1 ≠ 0 ∨ (rmul r (d.2, 1)).1 ≠ 0 := by
  have z : ∀ x : Int, (rmul r (x, 1)).1 = 0 → x = 0 := fun x e => by
    obtain ⟨i1, w1, e1⟩ := rep_mul (rep_self hr) (rep_self (rat_int x))
    have := (rep_zero i1 w1 e1).mpr e
    rcases Int.mul_eq_zero.mp this with k | k
    · omega
    · exact k
  by_cases a : (rmul r (d.1, 1)).1 = 0
  · refine .inr fun b => ?_
    rcases prim_ne h with n | n
    · exact n (z _ a)
    · exact n (z _ b)
  · exact .inl a
theorem norm_top {t b : Int} (ht : 0 < t) (hb : 0 < b) : 0 < (norm t b).1 := by
  obtain ⟨i, _, e⟩ := rep_norm (t := t) hb
  have p : 0 < t * (norm t b).2 := Int.mul_pos ht i.1
  rw [← e] at p
  rcases Int.lt_trichotomy 0 (norm t b).1 with c | c | c
  · exact c
  · rw [← c, Int.zero_mul] at p; omega
  · have := Int.mul_neg_of_neg_of_pos c hb; omega
/-- a loop over a display of what is no direction -/
theorem loop_dir {K : PySem.W.Frag} {te : TE} {ds : List PyData} {σ : L2.St} {B : Hp → Prop} {H : Hp} {D : Ends} (hl : LE K σ B te (.list ds)) (b : B H) (ln : 15 < σ.length) (ho : ∀ d ∈ ds, isDir d = false)
    (q : ∀ y H', Same H H' → D.nx (σ.set 15 y) H') : tFor (iList K te) (gName 15) (tIfS (tNot (tB (tCall (spRef K isDir) [] E0 (tCons (tVar 15) tNil)))) (tRet (tC (.bl false))) tNext) D σ H := by
  refine hl H _ b fun H1 v s1 hv => ?_
  cases hv with
  | lst hS hA =>
    rename_i a xs
    refine ⟨_, rfl, ⟨_, hS⟩, for_list (K := K) (a := a) (xs := xs) (fun i τ H' => ∃ y, τ = σ.set 15 y ∧ Same H1 H') ⟨σ[15], (List.set_getElem_self ln).symm, fun _ _ e => e⟩ (fun i τ H' _ ⟨_, _, s⟩ => s.seq hS) ?_ ?_⟩
    · rintro i x τ H' hi ⟨y, rfl, s2⟩
      obtain ⟨d, ed, hd⟩ := DpAll_at hA hi
      refine ⟨x, ?_, x, d, rfl, Dp_same s2 hd, ho d (List.mem_of_getElem? ed), fun H3 s3 => ⟨_, rfl, itF rfl ⟨some x, ?_, s2.trans s3⟩⟩⟩
      · rw [List.set_set, List.getElem?_set_self ln]
      · rw [List.set_set]
    · rintro τ H' ⟨y, rfl, s2⟩
      exact q y H' (s1.trans s2)
section
variable {K : PySem.W.Frag} {σ : L2.St} {v : V} {d : Dn} {fc : Int}
theorem bm1 : ∀ H H', Same H H' → (fun H => Dp K H v (rD d)) H → (fun H => Dp K H v (rD d)) H' := fun _ _ s h => Dp_same s h
theorem le_i0 (h10 : σ[10]? = some (some v)) : LE K σ (fun H => Dp K H v (rD d)) (tOp (rIt K) (tVar 10) (tC (.int 0))) (.int d.1) := fun H Q b q => ⟨v, h10, _, _, 0, _, rfl, cou_r b, rfl, q H _ (fun _ _ e => e) (.int _)⟩
theorem le_m0 (h10 : σ[10]? = some (some v)) (h14 : σ[14]? = some (some (.int fc))) (z : Sz 151 d.1) (zf : Sz 4 fc) : LE K σ (fun H => Dp K H v (rD d)) (tOp (rI CMulW fun i j => .int (i * j)) (tOp (rIt K) (tVar 10) (tC (.int 0))) (tVar 14)) (.int (d.1 * fc)) :=
  fun H Q b q => ⟨v, h10, _, _, 0, _, rfl, cou_r b, rfl, _, h14, _, _, rfl, rfl, wide_mul z zf (by decide) (by decide) (by decide), q H _ (fun _ _ e => e) (.int _)⟩
theorem le_m1 (h10 : σ[10]? = some (some v)) (h14 : σ[14]? = some (some (.int fc))) (z : Sz 151 d.2) (zf : Sz 4 fc) : LE K σ (fun H => Dp K H v (rD d)) (tOp (rI CMulW fun i j => .int (i * j)) (tOp (rIt K) (tVar 10) (tC (.int 1))) (tVar 14)) (.int (d.2 * fc)) :=
  fun H Q b q => ⟨v, h10, _, _, 1, _, rfl, cou_r b, rfl, _, h14, _, _, rfl, rfl, wide_mul z zf (by decide) (by decide) (by decide), q H _ (fun _ _ e => e) (.int _)⟩
theorem le_cat0 (h10 : σ[10]? = some (some v)) : LE K σ (fun H => Dp K H v (rD d)) (tOp (rCatT K) (tVar 10) (tTup (tCons (tC (.int 0)) tNil))) (.tuple [.int d.1, .int d.2, .int 0]) := fun H Q b q => by
  obtain ⟨a, rfl, hs⟩ := dp_r b
  refine ⟨_, h10, (by show 1 ≤ sizeLine; decide), fun t nt => ?_⟩
  have s1 := PB.same_new (o := .tup [.int 0]) nt
  refine ⟨a, t, [.int d.1, .int d.2], [.int 0], rfl, rfl, same_t s1 hs, .inl (.inl upd_same), List.cons_ne_nil _ _, (by show 3 ≤ sizeLine; decide), (fun e => nomatch e), fun _ u nu => ?_⟩
  have s2 := s1.trans (PB.same_new (o := .tup ([.int d.1, .int d.2] ++ [.int 0])) nu)
  exact q _ _ s2 (.tup (.inl (.inl upd_same)) (.cons (.int _) (.cons (.int _) (.cons (.int _) .nil))))
end
theorem dir_big {d : Dn} {fc : Int} (h : 2 ≤ fc) : isDir (.tuple [.int (d.1 * fc), .int (d.2 * fc)]) = false := by
  refine decide_eq_false fun e => ?_
  have : g2 (d.1 * fc) (d.2 * fc) = ((Nat.gcd d.1.natAbs d.2.natAbs * fc.natAbs : Nat) : Int) := by
    unfold g2
    rw [Int.natAbs_mul, Int.natAbs_mul, Nat.gcd_mul_right]
  rw [this] at e
  have e := Int.ofNat.inj e
  have := Nat.eq_one_of_mul_eq_one_left e
  omega
end F3
set_option Elab.async false
set_option linter.all false
set_option maxRecDepth 100000
set_option maxHeartbeats 8000000
set_option exponentiation.threshold 3000
namespace F3
open PySem PySem.Spec PyProof.Rows L2 FX RM PB KD KS
def spLaw (K : PySem.W.Frag) : Sp := fun vs H Q _ => ∃ (a : Addr) (ns : List Int), vs = [.ref a] ∧ SqL K H a (ns.map V.int) ∧ ns.length ≤ 63 ∧ ∀ H', Q (.bl true) H'
abbrev slaw : Stmt := topS 39
theorem sclaw : FnScope ["_law_script", "_law_hand_here", "_law_many", "_law_ways", "_law_turn", "_law_kind", "_law_last", "_law_x", "_law_y", "_law_handed", "_law_one", "_law_other", "_law_size", "_law_step", "_law_factor", "_law_thing", "_law_way_here"] ["_law_script"] (defScope slaw) := ⟨rfl, rfl, rfl, by decide +kernel, rfl, by decide +kernel, by decide +kernel⟩
section
variable {P : Program} {w : World} {K : PySem.W.Frag} {mg : Str → Option Value} {base : Heap}
theorem law_tail2 (G_law_hand : DefOk P w K mg base CX0 "_law_hand" 1 ["_law_script"] (spHand K)) (G_law_take : DefOk P w K mg base CX0 "_law_take" 2 ["_law_hand_here", "_law_many"] spTake) (G_law_any_way : DefOk P w K mg base CX0 "_law_any_way" 4 ["_law_hand_here"] (spDraw K Way)) (G_law_direction : DefOk P w K mg base CX0 "_law_direction" 2 ["_law_x", "_law_y"] (spWd K)) (G_law_ordered : DefOk P w K mg base CX0 "_law_ordered" 4 ["_law_ways"] (spOrdd K)) (Gorder_round : DefOk P w K mg base CX0 "order_round" 2 ["directions"] (spOrd K)) (Gturn_of : DefOk P w K mg base CX0 "turn_of" 2 ["one", "other"] (spTurn K)) (Gopposite : DefOk P w K mg base CX0 "opposite" 1 ["direction"] (spD1 K (fun d => (-d.1, -d.2)))) (Gacross : DefOk P w K mg base CX0 "across" 1 ["direction"] (spD1 K (fun d => (-d.2, d.1)))) (Gmirror_direction : DefOk P w K mg base CX0 "mirror_direction" 1 ["direction"] (spD1 K (fun d => (-d.1, d.2)))) (G_law_sum_due : DefOk P w K mg base CX0 "_law_sum_due" 3 ["_law_one", "_law_other"] (spSum2 K)) (G_law_ratio : DefOk P w K mg base CX0 "_law_ratio" 2 ["_law_top", "_law_bottom"] (spLow K)) (G_law_times : DefOk P w K mg base CX0 "_law_times" 3 ["_law_one", "_law_other"] (spBin K rmul)) (Xdirection_of : DefOk P w K mg base (L2.CX P w) "direction_of" 2 ["step"] (spDirX K)) (G_law_step_refused : DefOk P w K mg base CX0 "_law_step_refused" 3 ["_law_step"] (spStRef K)) (Xcheck_direction : DefOk P w K mg base (L2.CX P w) "check_direction" 3 ["direction"] (spCkD K)) (Gis_direction : DefOk P w K mg base CX0 "is_direction" 2 ["thing"] (spRow K isDir)) (G_law_refused : DefOk P w K mg base CX0 "_law_refused" 4 ["_law_thing"] (spRef K isDir)) (mlen : mg "len" = none) (mrange : mg "range" = none) (mlist : mg "list" = none) (mtuple : mg "tuple" = none) (misinstance : mg "isinstance" = none) (mbool : mg "bool" = none) {f : Addr} {cdv : Value} {A : Around} {outer : List Env} {s : Shared} {H0 : Hp} {E : XK} (hr : Room 5 (A.deeper (envOfC "law" (defScope slaw) s.heap.objs.size f cdv))) : ∃ t, PSs (cxOf CX0 P w K mg base ["_law_script", "_law_hand_here", "_law_many", "_law_ways", "_law_turn", "_law_kind", "_law_last", "_law_x", "_law_y", "_law_handed", "_law_one", "_law_other", "_law_size", "_law_step", "_law_factor", "_law_thing", "_law_way_here"] "law" (defScope slaw) f cdv A outer s H0 E).nox (List.drop 11 (defBody slaw)) t ∧
    ∀ (p : Addr) (v : V) (d : Dn) (y0 y2 y3 y4 y5 y6 y7 y8 y9 y11 y12 y13 y14 y15 y16 : Option V) (DE : Ends) (H : Hp), HandAt H p → Dp K H v (rD d) → Way d → (∀ H', DE.rt (.bl true) H') → t DE [y0, some (.ref p), y2, y3, y4, y5, y6, y7, y8, y9, some v, y11, y12, y13, y14, y15, y16] H := by
  refine ⟨_, (pss_cons (ps_set (i := 12) sclaw.nd rfl (.inl rfl) (pe_def G_law_ratio (hr.mono (by decide)) (by rfl) (pa_cons (pe_op op_add pe_int (pe_def G_law_take (hr.mono (by decide)) (by rfl) (pa_cons (pv 1) (pa_cons pe_int pa_nil)))) (pa_cons (pe_op op_add pe_int (pe_def G_law_take (hr.mono (by decide)) (by rfl) (pa_cons (pv 1) (pa_cons pe_int pa_nil)))) pa_nil)))) (pss_cons (ps_set (i := 13) sclaw.nd rfl (.inl rfl) (pe_tup (pa_cons (pe_def G_law_times (hr.mono (by decide)) (by rfl) (pa_cons (pv 12) (pa_cons (pe_tup (pa_cons (pe_ix ix_it (pv 10) pe_int (fun _ _ => rfl)) (pa_cons pe_int pa_nil))) pa_nil))) (pa_cons (pe_def G_law_times (hr.mono (by decide)) (by rfl) (pa_cons (pv 12) (pa_cons (pe_tup (pa_cons (pe_ix ix_it (pv 10) pe_int (fun _ _ => rfl)) (pa_cons pe_int pa_nil))) pa_nil))) pa_nil)))) (pss_cons (ps_if (PW.pt (pw_or (pt_cmpR (op_neD hr.units) (pe_def Xdirection_of (hr.mono (by decide)) (by rfl) (pa_cons (pv 13) pa_nil)) (pv 10) (nomark _)) (pw_or (pt_cmpR (op_neD hr.units) (pe_def Xdirection_of (hr.mono (by decide)) (by rfl) (pa_cons (pe_callTy call_list_of (by rfl) mlist (by decide +kernel) (pa_cons (pv 13) pa_nil)) pa_nil)) (pv 10) (nomark _)) (pw_or1 (pt_not (pt_val (pe_def G_law_step_refused (hr.mono (by decide)) (by rfl) (pa_cons (pe_tup (pa_cons (pe_tup (pa_cons pe_int (pa_cons pe_int pa_nil))) (pa_cons (pe_tup (pa_cons pe_int (pa_cons pe_int pa_nil))) pa_nil))) pa_nil)))))))) (pss_one (ps_ret pe_bl)) pss_nil) (pss_cons (ps_if (PW.pt (pw_or (pt_cmpR (op_neD hr.units) (pe_def Xcheck_direction (hr.mono (by decide)) (by rfl) (pa_cons (pv 10) pa_nil)) (pv 10) (nomark _)) (pw_or (pt_cmpR (op_neD hr.units) (pe_def Xcheck_direction (hr.mono (by decide)) (by rfl) (pa_cons (pe_callTy call_list_of (by rfl) mlist (by decide +kernel) (pa_cons (pv 10) pa_nil)) pa_nil)) (pv 10) (nomark _)) (pw_or (pt_not (pt_val (pe_callB call_isi (by rfl) misinstance boot_isinstance (pa_cons (pe_def Xcheck_direction (hr.mono (by decide)) (by rfl) (pa_cons (pe_callTy call_list_of (by rfl) mlist (by decide +kernel) (pa_cons (pv 10) pa_nil)) pa_nil)) (pa_cons (pe_bltn (v := .ty "tuple") (by rfl) mtuple (by decide +kernel) rfl) pa_nil))))) (pw_or1 (pt_cmpR op_notBl (pe_def Gis_direction (hr.mono (by decide)) (by rfl) (pa_cons (pe_callTy call_list_of (by rfl) mlist (by decide +kernel) (pa_cons (pv 10) pa_nil)) pa_nil)) pe_bl (nomark _))))))) (pss_one (ps_ret pe_bl)) pss_nil) (pss_cons (ps_set (i := 14) sclaw.nd rfl (.inl rfl) (pe_op op_add pe_int (pe_def G_law_take (hr.mono (by decide)) (by rfl) (pa_cons (pv 1) (pa_cons pe_int pa_nil))))) (pss_cons (ps_for PassesOwn.never rfl (pi_list (pe_lst (pa_cons (pe_tup (pa_cons pe_int (pa_cons pe_int pa_nil))) (pa_cons (pe_tup (pa_cons (pe_op op_mulW (pe_ix ix_it (pv 10) pe_int (fun _ _ => rfl)) (pv 14)) (pa_cons (pe_op op_mulW (pe_ix ix_it (pv 10) pe_int (fun _ _ => rfl)) (pv 14)) pa_nil))) (pa_cons (pe_op op_catT (pv 10) (pe_tup (pa_cons pe_int pa_nil))) (pa_cons (pe_tup (pa_cons (pe_ix ix_it (pv 10) pe_int (fun _ _ => rfl)) pa_nil)) (pa_cons pe_non (pa_cons pe_int (pa_cons pe_str (pa_cons (pe_tup (pa_cons pe_bl (pa_cons pe_int pa_nil))) (pa_cons (pe_tup (pa_cons (pe_ix ix_it (pv 10) pe_int (fun _ _ => rfl)) (pa_cons pe_non pa_nil))) (pa_cons (pe_tup (pa_cons (pe_tup (pa_cons pe_int (pa_cons pe_int pa_nil))) (pa_cons (pe_tup (pa_cons pe_int (pa_cons pe_int pa_nil))) pa_nil))) (pa_cons (pe_tup (pa_cons pe_int (pa_cons pe_int pa_nil))) (pa_cons (pe_tup (pa_cons pe_int (pa_cons (pe_un un_neg pe_int) pa_nil))) pa_nil)))))))))))))) (pg_name (i := 15) sclaw.nd rfl (.inl rfl)) (pss_one (ps_if (pt_not (pt_val (pe_def G_law_refused (hr.mono (by decide)) (by rfl) (pa_cons (pv 15) pa_nil)))) (pss_one (ps_ret pe_bl)) pss_nil))) (pss_one (ps_ret (pe_and (pe_cmpR op_isBl (pe_def Gis_direction (hr.mono (by decide)) (by rfl) (pa_cons (pe_tup (pa_cons pe_int (pa_cons (pe_un un_neg pe_int) pa_nil))) pa_nil)) pe_bl (nomark _)) (pe_one (pe_cmpR op_isBl (pe_def Gis_direction (hr.mono (by decide)) (by rfl) (pa_cons (pe_tup (pa_cons (pe_un un_neg pe_int) (pa_cons pe_int pa_nil))) pa_nil)) pe_bl (nomark _)))))))))))), ?_⟩
  intro p v d y0 y2 y3 y4 y5 y6 y7 y8 y9 y11 y12 y13 y14 y15 y16 DE H hH hv hd q
  refine ⟨_, rfl, p, 50, rfl, hH, by decide, by decide, fun m1 H1 m0 m9 h1 s1 => ⟨_, _, rfl, rfl, ?_⟩⟩
  refine ⟨_, rfl, p, 9, rfl, h1, by decide, by decide, fun n1 H2 n0 n9 h2 s2 => ⟨_, _, rfl, rfl, ?_⟩⟩
  replace hv := hH.dp (s1.trans s2) (noL_r d) hv
  have z1 : Sz 7 (1 + m1) := by show (1 + m1).natAbs < 2 ^ 7; omega
  have z2 : Sz 7 (1 + n1) := by show (1 + n1).natAbs < 2 ^ 7; omega
  have b0 : 0 < 1 + n1 := by omega
  refine ⟨_, _, rfl, b0, sz_mono z1 (by decide), sz_mono z2 (by decide), fun H3 vz s3 hz => ?_⟩
  have isz := norm_rat (t := 1 + m1) b0
  have zsz := szr_norm b0 z1 z2
  have psz := norm_top (by omega : 0 < 1 + m1) b0
  generalize norm (1 + m1) (1 + n1) = r at hz isz zsz psz
  have h3 := h2.same s3
  replace hv := Dp_same s3 hv
  clear s1 s2 s3 h1 h2 hH z1 z2 b0
  obtain ⟨wd, zd⟩ := hd
  have c1 := cou_r hv
  obtain ⟨pv, rfl, hvs⟩ := dp_r hv
  refine ⟨_, rfl, _, rfl, _, _, 0, _, rfl, c1, rfl, (by show 2 ≤ sizeLine; decide), fun a na => ?_⟩
  have u1 := PB.same_new (o := .tup [.int d.1, .int 1]) na
  refine ⟨_, _, r, (d.1, 1), rfl, Dp_same u1 hz, dp_mkr na, isz, rat_int _, szr_mono zsz (by decide), szr_int (sz_mono zd.1 (by decide)) (by decide), fun H4 w1 s4 k1 => ?_⟩
  have t4 := u1.trans s4
  refine ⟨_, rfl, _, rfl, _, _, 1, _, rfl, (c1.same t4), rfl, (by show 2 ≤ sizeLine; decide), fun b nb => ?_⟩
  have u2 := PB.same_new (o := .tup [.int d.2, .int 1]) nb
  have t5 := t4.trans u2
  refine ⟨_, _, r, (d.2, 1), rfl, Dp_same t5 hz, dp_mkr nb, isz, rat_int _, szr_mono zsz (by decide), szr_int (sz_mono zd.2 (by decide)) (by decide), fun H5 w2 s5 k2 => ⟨(by show 2 ≤ sizeLine; decide), fun c nc => ?_⟩⟩
  have hS : Dp K (upd H5 c (.tup [w1, w2])) (.ref c) (pD (rmul r (d.1, 1), rmul r (d.2, 1))) := dp_mk2 nc (Dp_same (u2.trans s5) k1) k2
  have t6 := (t5.trans s5).trans (PB.same_new (o := .tup [w1, w2]) nc)
  have rS : RatP (rmul r (d.1, 1), rmul r (d.2, 1)) := ⟨rat_mul isz (rat_int _), rat_mul isz (rat_int _)⟩
  have zS : SzP 200 (rmul r (d.1, 1), rmul r (d.2, 1)) := ⟨szr_mono (szr_mul isz (rat_int _) zsz (szr_int zd.1 (by decide))) (by decide), szr_mono (szr_mul isz (rat_int _) zsz (szr_int zd.2 (by decide))) (by decide)⟩
  have zS2 : SzP 2000 (rmul r (d.1, 1), rmul r (d.2, 1)) := ⟨szr_mono zS.1 (by decide), szr_mono zS.2 (by decide)⟩
  have nS := stepd_nz wd isz psz
  have dS := dir_step wd isz psz
  have hv6 := Dp_same t6 hv
  have h6 := h3.same t6
  have hvs6 := same_t t6 hvs
  generalize upd H5 c (.tup [w1, w2]) = H6 at hS hv6 h6 hvs6 ⊢
  clear k1 k2 t4 t5 t6 u1 u2 s4 s5 hz hv h3 na nb nc c1 hvs
  generalize eS : (rmul r (d.1, 1), rmul r (d.2, 1)) = S at hS rS zS zS2 dS
  have nS : S.1.1 ≠ 0 ∨ S.2.1 ≠ 0 := by rw [← eS]; exact nS
  obtain ⟨pc, x, y, ec, hSs, hx, hy⟩ := dp_t2 (a := rD S.1) (b := rD S.2) hS
  cases ec
  refine ⟨_, rfl, _, S, rfl, ⟨x, y, ⟨c, rfl, .inl hSs⟩, hx, hy⟩, rS, zS2, fun _ H7 z7 s7 h7 => ?_, fun zz => absurd nS (by rw [zz.1, zz.2]; simp)⟩
  rw [dS] at h7
  refine ⟨_, rfl, ne_same (shaped_r d) h7 (Dp_same s7 hv6) ⟨_, rfl, itF rfl ?_⟩⟩
  refine ⟨_, rfl, c, _, rfl, .inr (same_t s7 hSs), fun l nl => ?_⟩
  have u8 := PB.same_new (o := .lst [x, y]) nl
  have t8 := s7.trans u8
  refine ⟨_, S, rfl, ⟨x, y, mk_l nl, Dp_same t8 hx, Dp_same t8 hy⟩, rS, zS2, fun _ H9 z9 s9 h9 => ?_, fun zz => absurd nS (by rw [zz.1, zz.2]; simp)⟩
  rw [dS] at h9
  have t9 := t8.trans s9
  refine ⟨_, rfl, ne_same (shaped_r d) h9 (Dp_same t9 hv6) ⟨_, rfl, itF rfl ?_⟩⟩
  refine ⟨(by show 2 ≤ sizeLine; decide), fun a1 na1 => ⟨(by show 2 ≤ sizeLine; decide), fun a2 na2 => ⟨(by show 2 ≤ sizeLine; decide), fun a3 na3 => ?_⟩⟩⟩
  have v1 := PB.same_new (o := .tup [.int 0, .int 1]) na1
  have v2 := PB.same_new (o := .tup [.int 0, .int 1]) na2
  have v3 := PB.same_new (o := .tup [.ref a1, .ref a2]) na3
  have hz0 := dp_mk2 (K := K) (a := rD (0, 1)) (b := rD (0, 1)) na3 (Dp_same v2 (dp_mkr na1)) (dp_mkr na2)
  refine ⟨_, ((0, 1), (0, 1)), rfl, pla_t hz0, ⟨rat_zero, rat_zero⟩, ⟨szr_mono szr_zero (by decide), szr_mono szr_zero (by decide)⟩, rfl, rfl, true, rfl, itF rfl ?_⟩
  have tA := ((t9.trans v1).trans v2).trans v3
  clear hz0 h7 h9 t8 t9 u8 s7 s9 v1 v2 v3 nl na1 na2
  -- checks
  refine ⟨_, rfl, ck_t wd (Dp_same tA hv6) fun HB zB sB hB => ⟨_, rfl, ne_same (shaped_r d) hB (Dp_same (tA.trans sB) hv6) ⟨_, rfl, itF rfl ?_⟩⟩⟩
  have tB := tA.trans sB
  refine ⟨_, rfl, pv, _, rfl, .inr (same_t tB hvs6), fun l1 nl1 => ck_l wd dp_l fun HC zC sC hC => ?_⟩
  have tC := (tB.trans (PB.same_new nl1)).trans sC
  refine ⟨_, rfl, ne_same (shaped_r d) hC (Dp_same tC hv6) ⟨_, rfl, itF rfl ?_⟩⟩
  refine ⟨_, rfl, pv, _, rfl, .inr (same_t tC hvs6), fun l2 nl2 => ck_l wd dp_l fun HD zD sD hD => ?_⟩
  have tD := (tC.trans (PB.same_new nl2)).trans sD
  refine ⟨_, _, _, _, _, rfl, .ty _, dp_tyx hD, kit_ty (kit_tuple (rD d)), true, rfl, itF rfl ?_⟩
  refine ⟨_, rfl, pv, _, rfl, .inr (same_t tD hvs6), fun l3 nl3 => ⟨_, rlD d, rfl, dp_l, fun HE sE => ⟨_, _, rfl, rfl, _, rfl, itF (by rw [isDir_l wd]; rfl) ?_⟩⟩⟩
  have tE := (tD.trans (PB.same_new nl3)).trans sE
  have hE := h6.same tE
  refine ⟨_, rfl, p, 3, rfl, hE, by decide, by decide, fun f3 HF f0 f9 hF sF => ⟨_, _, rfl, rfl, ?_⟩⟩
  have zf : Sz 4 (2 + f3) := by show (2 + f3).natAbs < 2 ^ 4; omega
  have hvF := hE.dp sF (noL_r d) (Dp_same tE hv6)
  refine loop_dir (B := fun H => Dp K H (.ref pv) (rD d)) (ds := [.tuple [.int 0, .int 0], .tuple [.int (d.1 * (2 + f3)), .int (d.2 * (2 + f3))], .tuple [.int d.1, .int d.2, .int 0], .tuple [.int d.1], .none, .int 1, .str "10", .tuple [.bool true, .int 0], .tuple [.int d.1, .none], .tuple [.tuple [.int 1, .int 1], .tuple [.int 0, .int 1]], .tuple [.int 2, .int 0], .tuple [.int 0, .int (-3)]]) (le_lst (la_cons bm1 (le_tup (la_cons bm1 le_int (la_cons bm1 le_int la_nil)) (by show 2 ≤ 1000; decide)) (la_cons bm1 (le_tup (la_cons bm1 (le_m0 rfl rfl zd.1 zf) (la_cons bm1 (le_m1 rfl rfl zd.2 zf) la_nil)) (by show 2 ≤ 1000; decide)) (la_cons bm1 (le_cat0 rfl) (la_cons bm1 (le_tup (la_cons bm1 (le_i0 rfl) la_nil) (by show 1 ≤ 1000; decide)) (la_cons bm1 le_non (la_cons bm1 le_int (la_cons bm1 le_str (la_cons bm1 (le_tup (la_cons bm1 le_bl (la_cons bm1 le_int la_nil)) (by show 2 ≤ 1000; decide)) (la_cons bm1 (le_tup (la_cons bm1 (le_i0 rfl) (la_cons bm1 le_non la_nil)) (by show 2 ≤ 1000; decide)) (la_cons bm1 (le_tup (la_cons bm1 (le_tup (la_cons bm1 le_int (la_cons bm1 le_int la_nil)) (by show 2 ≤ 1000; decide)) (la_cons bm1 (le_tup (la_cons bm1 le_int (la_cons bm1 le_int la_nil)) (by show 2 ≤ 1000; decide)) la_nil)) (by show 2 ≤ 1000; decide)) (la_cons bm1 (le_tup (la_cons bm1 le_int (la_cons bm1 le_int la_nil)) (by show 2 ≤ 1000; decide)) (la_cons bm1 (le_tup (la_cons bm1 le_int (la_cons bm1 le_neg la_nil)) (by show 2 ≤ 1000; decide)) la_nil)))))))))))) (by show 12 ≤ 1000; decide)) hvF (by show 15 < 17; decide) ?_ fun yy HG sG => ?_
  · have big := dir_big (d := d) (fc := 2 + f3) (by omega)
    intro x hx
    simp only [List.mem_cons, List.not_mem_nil, or_false] at hx
    rcases hx with rfl | rfl | rfl | rfl | rfl | rfl | rfl | rfl | rfl | rfl | rfl | rfl
    · decide +kernel
    · exact big
    all_goals first | rfl | decide +kernel
  refine ⟨_, rfl, (by show 2 ≤ sizeLine; decide), fun a5 na5 => ⟨_, rD (0, -1), rfl, dp_mkr na5, fun HI sI => ⟨_, _, rfl, rfl, ?_⟩⟩⟩
  refine ⟨_, rfl, itT (by decide +kernel) ?_⟩
  refine ⟨_, rfl, (by show 2 ≤ sizeLine; decide), fun a6 na6 => ⟨_, rD (-1, 0), rfl, dp_mkr na6, fun HJ sJ => ⟨_, _, rfl, rfl, ?_⟩⟩⟩
  have e : decide (isDir (rD (-1, 0)) = true) = true := by decide +kernel
  show DE.rt (.bl (decide (isDir (rD (-1, 0)) = true))) HJ
  rw [e]
  exact q HJ
end
end F3
set_option Elab.async false
set_option linter.all false
set_option maxRecDepth 100000
set_option maxHeartbeats 8000000
set_option exponentiation.threshold 3000
namespace F3
open PySem PySem.Spec PyProof.Rows L2 FX RM PB KD KS
section
variable {P : Program} {w : World} {K : PySem.W.Frag} {mg : Str → Option Value} {base : Heap}
theorem law_tail1 (G_law_hand : DefOk P w K mg base CX0 "_law_hand" 1 ["_law_script"] (spHand K)) (G_law_take : DefOk P w K mg base CX0 "_law_take" 2 ["_law_hand_here", "_law_many"] spTake) (G_law_any_way : DefOk P w K mg base CX0 "_law_any_way" 4 ["_law_hand_here"] (spDraw K Way)) (G_law_direction : DefOk P w K mg base CX0 "_law_direction" 2 ["_law_x", "_law_y"] (spWd K)) (G_law_ordered : DefOk P w K mg base CX0 "_law_ordered" 4 ["_law_ways"] (spOrdd K)) (Gorder_round : DefOk P w K mg base CX0 "order_round" 2 ["directions"] (spOrd K)) (Gturn_of : DefOk P w K mg base CX0 "turn_of" 2 ["one", "other"] (spTurn K)) (Gopposite : DefOk P w K mg base CX0 "opposite" 1 ["direction"] (spD1 K (fun d => (-d.1, -d.2)))) (Gacross : DefOk P w K mg base CX0 "across" 1 ["direction"] (spD1 K (fun d => (-d.2, d.1)))) (Gmirror_direction : DefOk P w K mg base CX0 "mirror_direction" 1 ["direction"] (spD1 K (fun d => (-d.1, d.2)))) (G_law_sum_due : DefOk P w K mg base CX0 "_law_sum_due" 3 ["_law_one", "_law_other"] (spSum2 K)) (G_law_ratio : DefOk P w K mg base CX0 "_law_ratio" 2 ["_law_top", "_law_bottom"] (spLow K)) (G_law_times : DefOk P w K mg base CX0 "_law_times" 3 ["_law_one", "_law_other"] (spBin K rmul)) (Xdirection_of : DefOk P w K mg base (L2.CX P w) "direction_of" 2 ["step"] (spDirX K)) (G_law_step_refused : DefOk P w K mg base CX0 "_law_step_refused" 3 ["_law_step"] (spStRef K)) (Xcheck_direction : DefOk P w K mg base (L2.CX P w) "check_direction" 3 ["direction"] (spCkD K)) (Gis_direction : DefOk P w K mg base CX0 "is_direction" 2 ["thing"] (spRow K isDir)) (G_law_refused : DefOk P w K mg base CX0 "_law_refused" 4 ["_law_thing"] (spRef K isDir)) (mlen : mg "len" = none) (mrange : mg "range" = none) (mlist : mg "list" = none) (mtuple : mg "tuple" = none) (misinstance : mg "isinstance" = none) (mbool : mg "bool" = none) {f : Addr} {cdv : Value} {A : Around} {outer : List Env} {s : Shared} {H0 : Hp} {E : XK} (hr : Room 5 (A.deeper (envOfC "law" (defScope slaw) s.heap.objs.size f cdv))) : ∃ t, PSs (cxOf CX0 P w K mg base ["_law_script", "_law_hand_here", "_law_many", "_law_ways", "_law_turn", "_law_kind", "_law_last", "_law_x", "_law_y", "_law_handed", "_law_one", "_law_other", "_law_size", "_law_step", "_law_factor", "_law_thing", "_law_way_here"] "law" (defScope slaw) f cdv A outer s H0 E).nox (List.drop 6 (defBody slaw)) t ∧
    ∀ (p : Addr) (y0 y2 y3 y4 y5 y6 y7 y8 y9 y10 y11 y12 y13 y14 y15 y16 : Option V) (DE : Ends) (H : Hp), HandAt H p → (∀ H', DE.rt (.bl true) H') → t DE [y0, some (.ref p), y2, y3, y4, y5, y6, y7, y8, y9, y10, y11, y12, y13, y14, y15, y16] H := by
  obtain ⟨t2, d2, k2⟩ := law_tail2 G_law_hand G_law_take G_law_any_way G_law_direction G_law_ordered Gorder_round Gturn_of Gopposite Gacross Gmirror_direction G_law_sum_due G_law_ratio G_law_times Xdirection_of G_law_step_refused Xcheck_direction Gis_direction G_law_refused mlen mrange mlist mtuple misinstance mbool (outer := outer) (f := f) (cdv := cdv) (s := s) (H0 := H0) (E := E) (A := A) (K := K) (mg := mg) (base := base) (P := P) (w := w) hr
  refine ⟨_, (pss_cons (ps_par (i := 10) (j := 11) rfl sclaw.nd rfl rfl (by decide) rfl rfl (pa_cons (pe_def G_law_any_way (hr.mono (by decide)) (by rfl) (pa_cons (pv 1) pa_nil)) (pa_cons (pe_def G_law_any_way (hr.mono (by decide)) (by rfl) (pa_cons (pv 1) pa_nil)) pa_nil)) rfl) (pss_cons (ps_set (i := 4) sclaw.nd rfl (.inl rfl) (pe_op op_sub (pe_op op_mulW (pe_ix ix_it (pv 10) pe_int (fun _ _ => rfl)) (pe_ix ix_it (pv 11) pe_int (fun _ _ => rfl))) (pe_op op_mulW (pe_ix ix_it (pv 10) pe_int (fun _ _ => rfl)) (pe_ix ix_it (pv 11) pe_int (fun _ _ => rfl))))) (pss_cons (ps_if (PW.pt (pw_or (pt_cmpR op_ne (pe_def Gturn_of (hr.mono (by decide)) (by rfl) (pa_cons (pv 10) (pa_cons (pv 11) pa_nil))) (pe_ifExp (pt_cmpR op_gt (pv 4) pe_int (nomark _)) pe_int (pe_ifExp (pt_cmpR op_lt (pv 4) pe_int (nomark _)) (pe_un un_neg pe_int) pe_int)) (nomark _)) (pw_or (pt_val (pe_callB call_isi (by rfl) misinstance boot_isinstance (pa_cons (pe_def Gturn_of (hr.mono (by decide)) (by rfl) (pa_cons (pv 10) (pa_cons (pv 10) pa_nil))) (pa_cons (pe_bltn (v := .ty "bool") (by rfl) mbool (by decide +kernel) rfl) pa_nil)))) (pw_or1 (pt_cmpR op_ne (pe_def Gturn_of (hr.mono (by decide)) (by rfl) (pa_cons (pv 10) (pa_cons (pe_def Gopposite (hr.mono (by decide)) (by rfl) (pa_cons (pv 10) pa_nil)) pa_nil))) pe_int (nomark _)))))) (pss_one (ps_ret pe_bl)) pss_nil) (pss_cons (ps_if (PW.pt (pw_or (pt_cmpR (op_neD hr.units) (pe_def Gacross (hr.mono (by decide)) (by rfl) (pa_cons (pv 10) pa_nil)) (pe_tup (pa_cons (pe_un un_neg (pe_ix ix_it (pv 10) pe_int (fun _ _ => rfl))) (pa_cons (pe_ix ix_it (pv 10) pe_int (fun _ _ => rfl)) pa_nil))) (nomark _)) (pw_or (pt_cmpR (op_neD hr.units) (pe_def Gopposite (hr.mono (by decide)) (by rfl) (pa_cons (pv 10) pa_nil)) (pe_tup (pa_cons (pe_un un_neg (pe_ix ix_it (pv 10) pe_int (fun _ _ => rfl))) (pa_cons (pe_un un_neg (pe_ix ix_it (pv 10) pe_int (fun _ _ => rfl))) pa_nil))) (nomark _)) (pw_or1 (pt_cmpR (op_neD hr.units) (pe_def Gmirror_direction (hr.mono (by decide)) (by rfl) (pa_cons (pv 10) pa_nil)) (pe_tup (pa_cons (pe_un un_neg (pe_ix ix_it (pv 10) pe_int (fun _ _ => rfl))) (pa_cons (pe_ix ix_it (pv 10) pe_int (fun _ _ => rfl)) pa_nil))) (nomark _)))))) (pss_one (ps_ret pe_bl)) pss_nil) (pss_cons (ps_if (PW.pt (pw_or (pt_not (pt_val (pe_def G_law_sum_due (hr.mono (by decide)) (by rfl) (pa_cons (pv 10) (pa_cons (pv 11) pa_nil))))) (pw_or (pt_not (pt_val (pe_def G_law_sum_due (hr.mono (by decide)) (by rfl) (pa_cons (pv 10) (pa_cons (pe_tup (pa_cons (pe_un un_neg (pe_ix ix_it (pv 10) pe_int (fun _ _ => rfl))) (pa_cons (pe_un un_neg (pe_ix ix_it (pv 10) pe_int (fun _ _ => rfl))) pa_nil))) pa_nil))))) (pw_or1 (pt_not (pt_val (pe_def G_law_sum_due (hr.mono (by decide)) (by rfl) (pa_cons (pv 10) (pa_cons (pv 10) pa_nil))))))))) (pss_one (ps_ret pe_bl)) pss_nil) d2))))), ?_⟩
  intro p y0 y2 y3 y4 y5 y6 y7 y8 y9 y10 y11 y12 y13 y14 y15 y16 DE H hH q
  refine ⟨_, rfl, p, rfl, hH, fun d v1 H1 wd hv1 h1 s1 => ?_⟩
  refine ⟨_, rfl, p, rfl, h1, fun e v2 H2 we hv2 h2 s2 => ⟨_, _, rfl, ?_⟩⟩
  replace hv1 := h1.dp s2 (noL_r d) hv1
  clear s1 s2 h1 hH
  have c1 := cou_r hv1
  have c2 := cou_r hv2
  have zd := wd.2
  have ze := we.2
  have m6 : ∀ {x : Dn}, SzR 151 x → SzR 600 x := fun h => szr_mono h (by decide)
  refine ⟨_, rfl, _, _, 0, _, rfl, c1, rfl, _, rfl, _, _, 1, _, rfl, c2, rfl, _, _, rfl, rfl, wide_mul zd.1 ze.2 (by decide) (by decide) (by decide), _, rfl, _, _, 1, _, rfl, c1, rfl, _, rfl, _, _, 0, _, rfl, c2, rfl, _, _, rfl, rfl, wide_mul zd.2 ze.1 (by decide) (by decide) (by decide), _, _, rfl, rfl, ?_⟩
  refine ⟨_, rfl, _, rfl, v1, v2, d, e, rfl, c1, c2, m6 zd, m6 ze, ?_⟩
  have self : sgn (d.1 * d.2 - d.2 * d.1) = 0 := by
    have : d.1 * d.2 - d.2 * d.1 = 0 := by grind
    rw [this]; rfl
  have back : sgn (d.1 * -d.2 - d.2 * -d.1) = 0 := by
    have : d.1 * -d.2 - d.2 * -d.1 = 0 := by grind
    rw [this]; rfl
  refine if_sgn (t := d.1 * e.2 - d.2 * e.1) rfl ⟨rfl, _, rfl, itF (by rw [decide_eq_true rfl]; rfl) ?_⟩
  refine ⟨_, rfl, _, rfl, v1, v1, d, d, rfl, c1, c1, m6 zd, m6 zd, _, _, _, _, _, rfl, .ty _, .base (.int _), kit_ty (kit_bool (.int (sgn (d.1 * d.2 - d.2 * d.1)))), _, rfl, itF rfl ?_⟩
  have zn : SzR 151 (-d.1, -d.2) := ⟨sz_neg zd.1, sz_neg zd.2⟩
  refine ⟨_, rfl, _, rfl, _, d, rfl, c1, fun H3 z3 s3 h3 => ?_⟩
  refine ⟨_, _, d, (-d.1, -d.2), rfl, c1.same s3, cou_r h3, m6 zd, m6 zn, rfl, _, rfl, itF (by show (!decide (V.int (sgn (d.1 * -d.2 - d.2 * -d.1)) = V.int 0)) = false; rw [back]; rfl) ?_⟩
  clear h3
  refine ⟨_, rfl, _, d, rfl, c1.same s3, fun H4 z4 s4 h4 => ?_⟩
  have t4 := s3.trans s4
  refine ⟨_, rfl, _, _, 1, _, rfl, (c1.same t4), rfl, _, rfl, _, rfl, _, _, 0, _, rfl, (c1.same t4), rfl, (by show 2 ≤ sizeLine; decide), fun a na => ?_⟩
  have u4 := PB.same_new (o := .tup [.int (-d.2), .int d.1]) na
  refine ne_same (shaped_r (-d.2, d.1)) (Dp_same u4 h4) (dp_mkr na) ⟨_, rfl, itF rfl ?_⟩
  have t4 := t4.trans u4
  clear h4
  refine ⟨_, rfl, _, d, rfl, c1.same t4, fun H5 z5 s5 h5 => ?_⟩
  have t5 := t4.trans s5
  refine ⟨_, rfl, _, _, 0, _, rfl, (c1.same t5), rfl, _, rfl, _, rfl, _, _, 1, _, rfl, (c1.same t5), rfl, _, rfl, (by show 2 ≤ sizeLine; decide), fun b nb => ?_⟩
  have u5 := PB.same_new (o := .tup [.int (-d.1), .int (-d.2)]) nb
  refine ne_same (shaped_r (-d.1, -d.2)) (Dp_same u5 h5) (dp_mkr nb) ⟨_, rfl, itF rfl ?_⟩
  have t5 := t5.trans u5
  clear h5
  refine ⟨_, rfl, _, d, rfl, c1.same t5, fun H6 z6 s6 h6 => ?_⟩
  have t6 := t5.trans s6
  refine ⟨_, rfl, _, _, 0, _, rfl, (c1.same t6), rfl, _, rfl, _, rfl, _, _, 1, _, rfl, (c1.same t6), rfl, (by show 2 ≤ sizeLine; decide), fun c nc => ?_⟩
  have u6 := PB.same_new (o := .tup [.int (-d.1), .int d.2]) nc
  refine ne_same (shaped_r (-d.1, d.2)) (Dp_same u6 h6) (dp_mkr nc) ⟨_, rfl, itF rfl ?_⟩
  have t6 := t6.trans u6
  clear h6
  refine ⟨_, rfl, _, rfl, _, _, d, e, rfl, Dp_same t6 hv1, Dp_same t6 hv2, zd, ze, fun H7 s7 => ⟨true, rfl, itF rfl ?_⟩⟩
  have t7 := t6.trans s7
  refine ⟨_, rfl, _, rfl, _, _, 0, _, rfl, (c1.same t7), rfl, _, rfl, _, rfl, _, _, 1, _, rfl, (c1.same t7), rfl, _, rfl, (by show 2 ≤ sizeLine; decide), fun f nf => ?_⟩
  have u7 := PB.same_new (o := .tup [.int (-d.1), .int (-d.2)]) nf
  refine ⟨_, _, d, (-d.1, -d.2), rfl, Dp_same (t7.trans u7) hv1, dp_mkr nf, zd, zn, fun H8 s8 => ⟨true, rfl, itF rfl ?_⟩⟩
  have t8 := (t7.trans u7).trans s8
  refine ⟨_, rfl, _, rfl, _, _, d, d, rfl, Dp_same t8 hv1, Dp_same t8 hv1, zd, zd, fun H9 s9 => ⟨true, rfl, itF rfl ?_⟩⟩
  have t9 := t8.trans s9
  exact k2 p v1 d _ _ _ _ _ _ _ _ _ _ _ _ _ _ _ _ _ (h2.same t9) (Dp_same t9 hv1) wd q
end
end F3
set_option Elab.async false
set_option linter.all false
set_option maxRecDepth 100000
set_option maxHeartbeats 8000000
set_option exponentiation.threshold 3000
namespace F3
open PySem PySem.Spec PyProof.Rows L2 FX RM PB KD KS
section
variable {P : Program} {w : World} {K : PySem.W.Frag} {mg : Str → Option Value} {base : Heap}
theorem ok_law {f : Addr} {fd : FuncData} (F : Fun K "law" "law" slaw f fd) (G_law_hand : DefOk P w K mg base CX0 "_law_hand" 1 ["_law_script"] (spHand K)) (G_law_take : DefOk P w K mg base CX0 "_law_take" 2 ["_law_hand_here", "_law_many"] spTake) (G_law_any_way : DefOk P w K mg base CX0 "_law_any_way" 4 ["_law_hand_here"] (spDraw K Way)) (G_law_direction : DefOk P w K mg base CX0 "_law_direction" 2 ["_law_x", "_law_y"] (spWd K)) (G_law_ordered : DefOk P w K mg base CX0 "_law_ordered" 4 ["_law_ways"] (spOrdd K)) (Gorder_round : DefOk P w K mg base CX0 "order_round" 2 ["directions"] (spOrd K)) (Gturn_of : DefOk P w K mg base CX0 "turn_of" 2 ["one", "other"] (spTurn K)) (Gopposite : DefOk P w K mg base CX0 "opposite" 1 ["direction"] (spD1 K (fun d => (-d.1, -d.2)))) (Gacross : DefOk P w K mg base CX0 "across" 1 ["direction"] (spD1 K (fun d => (-d.2, d.1)))) (Gmirror_direction : DefOk P w K mg base CX0 "mirror_direction" 1 ["direction"] (spD1 K (fun d => (-d.1, d.2)))) (G_law_sum_due : DefOk P w K mg base CX0 "_law_sum_due" 3 ["_law_one", "_law_other"] (spSum2 K)) (G_law_ratio : DefOk P w K mg base CX0 "_law_ratio" 2 ["_law_top", "_law_bottom"] (spLow K)) (G_law_times : DefOk P w K mg base CX0 "_law_times" 3 ["_law_one", "_law_other"] (spBin K rmul)) (Xdirection_of : DefOk P w K mg base (L2.CX P w) "direction_of" 2 ["step"] (spDirX K)) (G_law_step_refused : DefOk P w K mg base CX0 "_law_step_refused" 3 ["_law_step"] (spStRef K)) (Xcheck_direction : DefOk P w K mg base (L2.CX P w) "check_direction" 3 ["direction"] (spCkD K)) (Gis_direction : DefOk P w K mg base CX0 "is_direction" 2 ["thing"] (spRow K isDir)) (G_law_refused : DefOk P w K mg base CX0 "_law_refused" 4 ["_law_thing"] (spRef K isDir)) (mlen : mg "len" = none) (mrange : mg "range" = none) (mlist : mg "list" = none) (mtuple : mg "tuple" = none) (misinstance : mg "isinstance" = none) (mbool : mg "bool" = none) : FnOk P w K mg base CX0 6 f fd ["_law_script"] (spLaw K) := by
  refine F.ok sclaw (fun vs H Q E h => ?_) (fun cdv A outer s H vs Q E hr h => ?_)
  · obtain ⟨a, ns, rfl, _⟩ := h; rfl
  · obtain ⟨sa, ns, rfl, hS, hlen, q⟩ := h
    obtain ⟨t1, d1, k1⟩ := law_tail1 G_law_hand G_law_take G_law_any_way G_law_direction G_law_ordered Gorder_round Gturn_of Gopposite Gacross Gmirror_direction G_law_sum_due G_law_ratio G_law_times Xdirection_of G_law_step_refused Xcheck_direction Gis_direction G_law_refused mlen mrange mlist mtuple misinstance mbool (outer := outer) (f := f) (cdv := cdv) (s := s) (H0 := H) (E := E) (A := A) (K := K) (mg := mg) (base := base) (P := P) (w := w) hr
    refine ⟨_, (pss_cons (ps_set (i := 1) sclaw.nd rfl (.inl rfl) (pe_def G_law_hand (hr.mono (by decide)) (by rfl) (pa_cons (pv 0) pa_nil))) (pss_cons (ps_set (i := 2) sclaw.nd rfl (.inl rfl) (pe_def G_law_take (hr.mono (by decide)) (by rfl) (pa_cons (pv 1) (pa_cons pe_int pa_nil)))) (pss_cons (ps_set (i := 3) sclaw.nd rfl (.inl rfl) (pe_lst pa_nil)) (pss_cons (ps_for PassesOwn.never rfl (pi_range1 (by rfl) mrange (pa_cons (pv 2) pa_nil)) (pg_name (i := 4) sclaw.nd rfl (.inl rfl)) (pss_cons (ps_set (i := 5) sclaw.nd rfl (.inl rfl) (pe_def G_law_take (hr.mono (by decide)) (by rfl) (pa_cons (pv 1) (pa_cons pe_int pa_nil)))) (pss_one (ps_if (PW.pt (pw_and (pt_cmpR op_eq (pv 5) pe_int (nomark _)) (pw_and1 (pt_truth (pv 3) (fun _ => rfl))))) (pss_cons (ps_set (i := 6) sclaw.nd rfl (.inl rfl) (pe_ix ix_list (pv 3) (pe_def G_law_take (hr.mono (by decide)) (by rfl) (pa_cons (pv 1) (pa_cons (pe_callB call_len_seq (by rfl) mlen PySem.boot_len (pa_cons (pv 3) pa_nil)) pa_nil))) (fun _ _ => rfl))) (pss_one (ps_expr (pe_bm PySem.F.plainAttrs_list PySem.F.slot_list_append PySem.F.type_list_append mt_append (pv 3) (pa_cons (pe_tup (pa_cons (pe_un un_neg (pe_ix ix_it (pv 6) pe_int (fun _ _ => rfl))) (pa_cons (pe_un un_neg (pe_ix ix_it (pv 6) pe_int (fun _ _ => rfl))) pa_nil))) pa_nil))))) (pss_one (ps_if (pt_cmpR op_eq (pv 5) pe_int (nomark _)) (pss_one (ps_expr (pe_bm PySem.F.plainAttrs_list PySem.F.slot_list_append PySem.F.type_list_append mt_append (pv 3) (pa_cons (pe_def G_law_any_way (hr.mono (by decide)) (by rfl) (pa_cons (pv 1) pa_nil)) pa_nil)))) (pss_one (ps_if (PW.pt (pw_and (pt_cmpR op_eq (pv 5) pe_int (nomark _)) (pw_and1 (pt_truth (pv 3) (fun _ => rfl))))) (pss_one (ps_expr (pe_bm PySem.F.plainAttrs_list PySem.F.slot_list_append PySem.F.type_list_append mt_append (pv 3) (pa_cons (pe_ix ix_list (pv 3) (pe_def G_law_take (hr.mono (by decide)) (by rfl) (pa_cons (pv 1) (pa_cons (pe_callB call_len_seq (by rfl) mlen PySem.boot_len (pa_cons (pv 3) pa_nil)) pa_nil))) (fun _ _ => rfl)) pa_nil)))) (pss_cons (ps_par (i := 7) (j := 8) rfl sclaw.nd rfl rfl (by decide) rfl rfl (pa_cons (pe_op op_sub (pe_def G_law_take (hr.mono (by decide)) (by rfl) (pa_cons (pv 1) (pa_cons pe_int pa_nil))) pe_int) (pa_cons (pe_op op_sub (pe_def G_law_take (hr.mono (by decide)) (by rfl) (pa_cons (pv 1) (pa_cons pe_int pa_nil))) pe_int) pa_nil)) rfl) (pss_one (ps_expr (pe_bm PySem.F.plainAttrs_list PySem.F.slot_list_append PySem.F.type_list_append mt_append (pv 3) (pa_cons (pe_ifExp (PW.pt (pw_and (pt_cmpR op_eq (pv 7) pe_int (nomark _)) (pw_and1 (pt_cmpR op_eq (pv 8) pe_int (nomark _))))) (pe_tup (pa_cons pe_int (pa_cons pe_int pa_nil))) (pe_def G_law_direction (hr.mono (by decide)) (by rfl) (pa_cons (pv 7) (pa_cons (pv 8) pa_nil)))) pa_nil))))))))))))) (pss_cons (ps_setLc (i := 9) (own := [("_law_way_here", 16)]) rfl sclaw.nd rfl rfl (sw_true rfl rfl rfl (by decide +kernel)) (pi_seq (pv 3)) (blkOk_by (N := ["_law_script", "_law_hand_here", "_law_many", "_law_ways", "_law_turn", "_law_kind", "_law_last", "_law_x", "_law_y", "_law_handed", "_law_one", "_law_other", "_law_size", "_law_step", "_law_factor", "_law_thing", "_law_way_here"]) (sc := defScope slaw) (by decide +kernel)) (fun _ _ _ _ _ => (pg_name (i := 16) sclaw.nd rfl (.inl rfl))) (fun _ _ _ _ _ => pts_nil) (fun _ _ _ _ _ => (pe_callTy (call_list_ofK K) (by rfl) mlist (by decide +kernel) (pa_cons (pv 16) pa_nil)))) (pss_cons (ps_if (PW.pt (pw_or (pt_not (pt_val (pe_def G_law_ordered (hr.mono (by decide)) (by rfl) (pa_cons (pv 3) pa_nil)))) (pw_or (pt_not (pt_val (pe_def G_law_ordered (hr.mono (by decide)) (by rfl) (pa_cons (pe_callTy call_tuple_of (by rfl) mtuple (by decide +kernel) (pa_cons (pv 9) pa_nil)) pa_nil)))) (pw_or (pt_cmpR (op_neD hr.units) (pv 9) (pe_lc (own := [("_law_way_here", 16)]) rfl sclaw.nd (pi_seq (pv 3)) (blkOk_by (N := ["_law_script", "_law_hand_here", "_law_many", "_law_ways", "_law_turn", "_law_kind", "_law_last", "_law_x", "_law_y", "_law_handed", "_law_one", "_law_other", "_law_size", "_law_step", "_law_factor", "_law_thing", "_law_way_here"]) (sc := defScope slaw) (by decide +kernel)) (fun _ _ _ _ _ => (pg_name (i := 16) sclaw.nd rfl (.inl rfl))) (fun _ _ _ _ _ => pts_nil) (fun _ _ _ _ _ => (pe_callTy (call_list_ofK K) (by rfl) mlist (by decide +kernel) (pa_cons (pv 16) pa_nil)))) (nomark _)) (pw_or1 (pt_cmpR (op_neD hr.units) (pe_def Gorder_round (hr.mono (by decide)) (by rfl) (pa_cons (pe_lst pa_nil) pa_nil)) (pe_tup pa_nil) (nomark _))))))) (pss_one (ps_ret pe_bl)) pss_nil) d1)))))), ?_⟩
    refine ⟨.ref sa, rfl, sa, ns, rfl, hS, hlen, fun H1 p s1 np h1 => ?_⟩
    refine ⟨.ref p, rfl, p, 41, rfl, h1, by decide, by decide, fun m H2 m0 m41 h2 s2 => ?_⟩
    refine ⟨(by show 0 ≤ sizeLine; decide), fun D nD => ?_⟩
    have ne : D ≠ p := h2.neD nD
    have way10 : Way (1, 0) := ⟨(by decide +kernel : g2 1 0 = 1), szr_mono (n := 2) ⟨by show (1 : Int).natAbs < 4; decide, by show (0 : Int).natAbs < 4; decide⟩ (by decide)⟩
    refine ⟨_, rfl, _, rfl, by omega, by omega, for_range (n := m.toNat) (fun i σ H' => ∃ (ds : List Dn) (y4 y5 y6 y7 y8 : Option V), σ = [some (.ref sa), some (.ref p), some (.int m), some (.ref D), y4, y5, y6, y7, y8, none, none, none, none, none, none, none, none] ∧ Wd K p D ds H2 H' ∧ ds.length ≤ i)
      ⟨[], none, none, none, none, none, rfl, ⟨h2.same (PB.same_new nD), Same.but (PB.same_new nD), ⟨[], upd_same, .nil⟩, fun _ h => nomatch h⟩, Nat.le_refl _⟩ ?_ ?_⟩
    · rintro i σ Hx hi ⟨ds, y4, y5, y6, y7, y8, rfl, hw, hl⟩
      refine ⟨_, rfl, p, 8, rfl, hw.h, by decide, by decide, fun k Ha k0 k8 ha sa_ => ?_⟩
      replace hw := hw.draw ne ha sa_
      obtain ⟨ys, eD1, aD1⟩ := hw.l
      refine ⟨_, rfl, rfl, _, rfl, ?_⟩
      by_cases kz : k = 0
      · refine itT (decide_eq_true (by rw [kz])) ?_
        refine ⟨_, rfl, _, .inl ⟨ys, .inl (.inl eD1), rfl⟩, ?_⟩
        by_cases ye : ys = []
        · refine itF (by rw [ye]; rfl) ?_
          refine ⟨_, rfl, rfl, _, rfl, ?_⟩
          refine itF (decide_eq_false fun z => by have := V.int.inj z; omega) ?_
          refine ⟨_, rfl, rfl, _, rfl, ?_⟩
          refine itF (decide_eq_false fun z => by have := V.int.inj z; omega) (itF rfl ?_)
          refine ⟨_, rfl, p, 9, rfl, hw.h, by decide, by decide, fun x Hb x0 x9 hb sb => ⟨_, _, rfl, rfl, ?_⟩⟩
          refine ⟨_, rfl, p, 9, rfl, hb, by decide, by decide, fun y Hc y0 y9 hc sc => ⟨_, _, rfl, rfl, _, _, rfl, ?_⟩⟩
          replace hw := hw.draw ne hc (sb.trans sc)
          have zx : Sz 5 (x - 4) := by show (x - 4).natAbs < 2 ^ 5; omega
          have zy : Sz 5 (y - 4) := by show (y - 4).natAbs < 2 ^ 5; omega
          obtain ⟨xs0, eD0, _⟩ := hw.l
          refine ⟨_, rfl, .inl ⟨rfl, _, .inl (.inl eD0)⟩, ?_⟩
          refine ⟨_, rfl, rfl, _, rfl, ?_⟩
          have rest : (x - 4 ≠ 0 ∨ y - 4 ≠ 0) → Way (norm (x - 4) (y - 4)) := fun nz => ⟨norm_prim nz, sz_mono (sz_div nz zx) (by decide), sz_mono (sz_div' nz zy) (by decide)⟩
          by_cases xz : x - 4 = 0
          · refine itT (decide_eq_true (congrArg V.int xz)) ⟨_, rfl, rfl, _, rfl, ?_⟩
            by_cases yz : y - 4 = 0
            · refine itT (decide_eq_true (congrArg V.int yz)) ⟨(by show 2 ≤ sizeLine; decide), fun a na => ?_⟩
              have hw2 := hw.new ne (PB.same_new (o := .tup [.int 1, .int 0]) na)
              obtain ⟨xs, eD, aD⟩ := hw2.l
              exact ⟨D, xs, _, rfl, rfl, eD, small1000 (by rw [DpAll_len aD, List.length_map]; omega), ds ++ [(1, 0)], _, _, _, _, _, rfl, hw2.put h2 nD eD aD (dp_mkr na) way10, by simp; omega⟩
            · refine itF (decide_eq_false fun z => yz (V.int.inj z)) ⟨_, rfl, _, rfl, x - 4, y - 4, rfl, .inr yz, sz_mono zx (by decide), sz_mono zy (by decide), fun Hd z sd hz => ?_⟩
              have hw2 := hw.new ne sd
              obtain ⟨xs, eD, aD⟩ := hw2.l
              exact ⟨D, xs, _, rfl, rfl, eD, small1000 (by rw [DpAll_len aD, List.length_map]; omega), ds ++ [norm (x - 4) (y - 4)], _, _, _, _, _, rfl, hw2.put h2 nD eD aD hz (rest (.inr yz)), by simp; omega⟩
          · refine itF (decide_eq_false fun z => xz (V.int.inj z)) (itF rfl ⟨_, rfl, _, rfl, x - 4, y - 4, rfl, .inl xz, sz_mono zx (by decide), sz_mono zy (by decide), fun Hd z sd hz => ?_⟩)
            have hw2 := hw.new ne sd
            obtain ⟨xs, eD, aD⟩ := hw2.l
            exact ⟨D, xs, _, rfl, rfl, eD, small1000 (by rw [DpAll_len aD, List.length_map]; omega), ds ++ [norm (x - 4) (y - 4)], _, _, _, _, _, rfl, hw2.put h2 nD eD aD hz (rest (.inl xz)), by simp; omega⟩
        · refine itT (by cases ys with | nil => exact absurd rfl ye | cons _ _ => rfl) ?_
          have ln : ys.length ≤ 41 := by rw [DpAll_len aD1, List.length_map]; omega
          have lp : 0 < ys.length := by cases ys with | nil => exact absurd rfl ye | cons _ _ => exact Nat.succ_pos _
          have hw1 := hw
          refine ⟨_, rfl, _, rfl, _, rfl, D, ys, rfl, .inl (.inl (.inl eD1)), p, _, rfl, hw.h, by omega, by omega, fun j Hb j0 jl hb sb => ?_⟩
          replace hw := hw.draw ne hb sb
          have ej : ys[j.toNat]? = some ys[j.toNat] := List.getElem?_eq_getElem (by omega)
          obtain ⟨d', ed, hd1⟩ := DpAll_at aD1 ej
          obtain ⟨d, dm, rfl⟩ : ∃ d, d ∈ ds ∧ d' = rD d := by
            obtain ⟨d, dm, e⟩ := List.mem_map.mp (List.mem_of_getElem? ed)
            exact ⟨d, dm, e.symm⟩
          have hwd := hw.w d dm
          have hd2 := hw1.h.dp sb (noL_r d) hd1
          have ea := atI_nat ej
          rw [Int.toNat_of_nonneg j0] at ea
          have eD2 := sb.1 _ _ ne eD1
          generalize ys[j.toNat] = u at ej hd1 hd2 ea
          refine ⟨D, ys, j, u, rfl, rfl, .inl (.inl eD2), ea, ?_⟩
          have cd := cou_r hd2
          obtain ⟨xs0, eD0, _⟩ := hw.l
          refine ⟨_, rfl, .inl ⟨rfl, _, .inl (.inl eD0)⟩, ?_⟩
          refine ⟨_, rfl, _, _, 0, _, rfl, cd, rfl, _, rfl, _, rfl, _, _, 1, _, rfl, cd, rfl, _, rfl, (by show 2 ≤ sizeLine; decide), fun a na => ?_⟩
          have hw2 := hw.new ne (PB.same_new (o := .tup [.int (-d.1), .int (-d.2)]) na)
          obtain ⟨xs, eD, aD⟩ := hw2.l
          exact ⟨D, xs, _, rfl, rfl, eD, small1000 (by rw [DpAll_len aD, List.length_map]; omega), ds ++ [(-d.1, -d.2)], _, _, _, _, _, rfl, hw2.put h2 nD eD aD (dp_mkr na) (way_neg hwd), by simp; omega⟩
      · refine itF (decide_eq_false fun z => kz (V.int.inj z)) (itF rfl ?_)
        refine ⟨_, rfl, rfl, _, rfl, ?_⟩
        by_cases k1 : k = 1
        · refine itT (decide_eq_true (by rw [k1])) ?_
          obtain ⟨xs0, eD0, _⟩ := hw.l
          refine ⟨_, rfl, .inl ⟨rfl, _, .inl (.inl eD0)⟩, ?_⟩
          refine ⟨_, rfl, p, rfl, hw.h, fun r v Hb o hv hb sb => ?_⟩
          replace hw := hw.draw ne hb sb
          obtain ⟨xs, eD, aD⟩ := hw.l
          exact ⟨D, xs, _, rfl, rfl, eD, small1000 (by rw [DpAll_len aD, List.length_map]; omega), ds ++ [r], _, _, _, _, _, rfl, hw.put h2 nD eD aD hv o, by simp; omega⟩
        · refine itF (decide_eq_false fun z => k1 (V.int.inj z)) ?_
          refine ⟨_, rfl, rfl, _, rfl, ?_⟩
          by_cases k2 : k = 2
          · refine itT (decide_eq_true (by rw [k2])) ?_
            refine ⟨_, rfl, _, .inl ⟨ys, .inl (.inl eD1), rfl⟩, ?_⟩
            by_cases ye : ys = []
            · refine itF (by rw [ye]; rfl) ?_
              refine ⟨_, rfl, p, 9, rfl, hw.h, by decide, by decide, fun x Hb x0 x9 hb sb => ⟨_, _, rfl, rfl, ?_⟩⟩
              refine ⟨_, rfl, p, 9, rfl, hb, by decide, by decide, fun y Hc y0 y9 hc sc => ⟨_, _, rfl, rfl, _, _, rfl, ?_⟩⟩
              replace hw := hw.draw ne hc (sb.trans sc)
              have zx : Sz 5 (x - 4) := by show (x - 4).natAbs < 2 ^ 5; omega
              have zy : Sz 5 (y - 4) := by show (y - 4).natAbs < 2 ^ 5; omega
              obtain ⟨xs0, eD0, _⟩ := hw.l
              refine ⟨_, rfl, .inl ⟨rfl, _, .inl (.inl eD0)⟩, ?_⟩
              refine ⟨_, rfl, rfl, _, rfl, ?_⟩
              have rest : (x - 4 ≠ 0 ∨ y - 4 ≠ 0) → Way (norm (x - 4) (y - 4)) := fun nz => ⟨norm_prim nz, sz_mono (sz_div nz zx) (by decide), sz_mono (sz_div' nz zy) (by decide)⟩
              by_cases xz : x - 4 = 0
              · refine itT (decide_eq_true (congrArg V.int xz)) ⟨_, rfl, rfl, _, rfl, ?_⟩
                by_cases yz : y - 4 = 0
                · refine itT (decide_eq_true (congrArg V.int yz)) ⟨(by show 2 ≤ sizeLine; decide), fun a na => ?_⟩
                  have hw2 := hw.new ne (PB.same_new (o := .tup [.int 1, .int 0]) na)
                  obtain ⟨xs, eD, aD⟩ := hw2.l
                  exact ⟨D, xs, _, rfl, rfl, eD, small1000 (by rw [DpAll_len aD, List.length_map]; omega), ds ++ [(1, 0)], _, _, _, _, _, rfl, hw2.put h2 nD eD aD (dp_mkr na) way10, by simp; omega⟩
                · refine itF (decide_eq_false fun z => yz (V.int.inj z)) ⟨_, rfl, _, rfl, x - 4, y - 4, rfl, .inr yz, sz_mono zx (by decide), sz_mono zy (by decide), fun Hd z sd hz => ?_⟩
                  have hw2 := hw.new ne sd
                  obtain ⟨xs, eD, aD⟩ := hw2.l
                  exact ⟨D, xs, _, rfl, rfl, eD, small1000 (by rw [DpAll_len aD, List.length_map]; omega), ds ++ [norm (x - 4) (y - 4)], _, _, _, _, _, rfl, hw2.put h2 nD eD aD hz (rest (.inr yz)), by simp; omega⟩
              · refine itF (decide_eq_false fun z => xz (V.int.inj z)) (itF rfl ⟨_, rfl, _, rfl, x - 4, y - 4, rfl, .inl xz, sz_mono zx (by decide), sz_mono zy (by decide), fun Hd z sd hz => ?_⟩)
                have hw2 := hw.new ne sd
                obtain ⟨xs, eD, aD⟩ := hw2.l
                exact ⟨D, xs, _, rfl, rfl, eD, small1000 (by rw [DpAll_len aD, List.length_map]; omega), ds ++ [norm (x - 4) (y - 4)], _, _, _, _, _, rfl, hw2.put h2 nD eD aD hz (rest (.inl xz)), by simp; omega⟩
            · refine itT (by cases ys with | nil => exact absurd rfl ye | cons _ _ => rfl) ?_
              have ln : ys.length ≤ 41 := by rw [DpAll_len aD1, List.length_map]; omega
              have lp : 0 < ys.length := by cases ys with | nil => exact absurd rfl ye | cons _ _ => exact Nat.succ_pos _
              have hw1 := hw
              obtain ⟨xs0, eD0, _⟩ := hw.l
              refine ⟨_, rfl, .inl ⟨rfl, _, .inl (.inl eD0)⟩, ?_⟩
              refine ⟨_, rfl, _, rfl, _, rfl, D, ys, rfl, .inl (.inl (.inl eD1)), p, _, rfl, hw.h, by omega, by omega, fun j Hb j0 jl hb sb => ?_⟩
              replace hw := hw.draw ne hb sb
              have ej : ys[j.toNat]? = some ys[j.toNat] := List.getElem?_eq_getElem (by omega)
              obtain ⟨d', ed, hd1⟩ := DpAll_at aD1 ej
              obtain ⟨d, dm, rfl⟩ : ∃ d, d ∈ ds ∧ d' = rD d := by
                obtain ⟨d, dm, e⟩ := List.mem_map.mp (List.mem_of_getElem? ed)
                exact ⟨d, dm, e.symm⟩
              have hwd := hw.w d dm
              have hd2 := hw1.h.dp sb (noL_r d) hd1
              have ea := atI_nat ej
              rw [Int.toNat_of_nonneg j0] at ea
              have eD2 := sb.1 _ _ ne eD1
              generalize ys[j.toNat] = u at ej hd1 hd2 ea
              refine ⟨D, ys, j, u, rfl, rfl, .inl (.inl eD2), ea, ?_⟩
              obtain ⟨xs, eD, aD⟩ := hw.l
              exact ⟨D, xs, _, rfl, rfl, eD, small1000 (by rw [DpAll_len aD, List.length_map]; omega), ds ++ [d], _, _, _, _, _, rfl, hw.put h2 nD eD aD hd2 hwd, by simp; omega⟩
          · refine itF (decide_eq_false fun z => k2 (V.int.inj z)) (itF rfl ?_)
            refine ⟨_, rfl, p, 9, rfl, hw.h, by decide, by decide, fun x Hb x0 x9 hb sb => ⟨_, _, rfl, rfl, ?_⟩⟩
            refine ⟨_, rfl, p, 9, rfl, hb, by decide, by decide, fun y Hc y0 y9 hc sc => ⟨_, _, rfl, rfl, _, _, rfl, ?_⟩⟩
            replace hw := hw.draw ne hc (sb.trans sc)
            have zx : Sz 5 (x - 4) := by show (x - 4).natAbs < 2 ^ 5; omega
            have zy : Sz 5 (y - 4) := by show (y - 4).natAbs < 2 ^ 5; omega
            obtain ⟨xs0, eD0, _⟩ := hw.l
            refine ⟨_, rfl, .inl ⟨rfl, _, .inl (.inl eD0)⟩, ?_⟩
            refine ⟨_, rfl, rfl, _, rfl, ?_⟩
            have rest : (x - 4 ≠ 0 ∨ y - 4 ≠ 0) → Way (norm (x - 4) (y - 4)) := fun nz => ⟨norm_prim nz, sz_mono (sz_div nz zx) (by decide), sz_mono (sz_div' nz zy) (by decide)⟩
            by_cases xz : x - 4 = 0
            · refine itT (decide_eq_true (congrArg V.int xz)) ⟨_, rfl, rfl, _, rfl, ?_⟩
              by_cases yz : y - 4 = 0
              · refine itT (decide_eq_true (congrArg V.int yz)) ⟨(by show 2 ≤ sizeLine; decide), fun a na => ?_⟩
                have hw2 := hw.new ne (PB.same_new (o := .tup [.int 1, .int 0]) na)
                obtain ⟨xs, eD, aD⟩ := hw2.l
                exact ⟨D, xs, _, rfl, rfl, eD, small1000 (by rw [DpAll_len aD, List.length_map]; omega), ds ++ [(1, 0)], _, _, _, _, _, rfl, hw2.put h2 nD eD aD (dp_mkr na) way10, by simp; omega⟩
              · refine itF (decide_eq_false fun z => yz (V.int.inj z)) ⟨_, rfl, _, rfl, x - 4, y - 4, rfl, .inr yz, sz_mono zx (by decide), sz_mono zy (by decide), fun Hd z sd hz => ?_⟩
                have hw2 := hw.new ne sd
                obtain ⟨xs, eD, aD⟩ := hw2.l
                exact ⟨D, xs, _, rfl, rfl, eD, small1000 (by rw [DpAll_len aD, List.length_map]; omega), ds ++ [norm (x - 4) (y - 4)], _, _, _, _, _, rfl, hw2.put h2 nD eD aD hz (rest (.inr yz)), by simp; omega⟩
            · refine itF (decide_eq_false fun z => xz (V.int.inj z)) (itF rfl ⟨_, rfl, _, rfl, x - 4, y - 4, rfl, .inl xz, sz_mono zx (by decide), sz_mono zy (by decide), fun Hd z sd hz => ?_⟩)
              have hw2 := hw.new ne sd
              obtain ⟨xs, eD, aD⟩ := hw2.l
              exact ⟨D, xs, _, rfl, rfl, eD, small1000 (by rw [DpAll_len aD, List.length_map]; omega), ds ++ [norm (x - 4) (y - 4)], _, _, _, _, _, rfl, hw2.put h2 nD eD aD hz (rest (.inl xz)), by simp; omega⟩
    rintro σ H3 ⟨ds, y4, y5, y6, y7, y8, rfl, hw, hl⟩
    obtain ⟨xs, eD, aD⟩ := hw.l
    have xl : ds.length = xs.length := by rw [DpAll_len aD, List.length_map]
    have x60 : ds.length ≤ 60 := by omega
    have xz : xs.length < sizeLine := small1000 (by omega)
    have hL : SqL K H3 D xs := .inl (.inl eD)
    have wz : ∀ d ∈ ds, Prim d ∧ SzR 151 d := hw.w
    have dir : ∀ (i : Nat) (x : V) (d : Dn) (G : Hp), xs[i]? = some x → ds[i]? = some d → Same H3 G → Dp K G x (rD d) := fun i x d G ex ed s => by
      obtain ⟨d', ed', hd⟩ := DpAll_at aD ex
      rw [List.getElem?_map, ed] at ed'
      cases ed'
      exact Dp_same s hd
    dsimp only [tSeq, tAsg, gName]
    refine lc_lists (K := K) (a := D) (xs := xs) (j := 3) ds (by rfl) hL xl xz (fun i x F R d ex ed sF hR => ?_) fun E F4 ys s4 nE eE ll => ?_
    · obtain ⟨pc, rfl, hc⟩ := dp_r (dir i x d F ex ed sF)
      exact ⟨rfl, _, rfl, pc, _, rfl, .inr hc, hR⟩
    refine ⟨_, rfl, D, xs, ds, rfl, .inl (s4.seq hL), xl, x60, fun i x d ex ed => dir_t (dir i x d F4 ex ed s4), wz, fun H5 s5 => ⟨true, rfl, itF rfl ?_⟩⟩
    refine ⟨_, rfl, E, ys, rfl, .inl ⟨.inl (.inl (s5 _ _ eE)), fun l nl => ?_⟩⟩
    have s6 := PB.same_new (o := .tup ys) nl
    have s56 := s5.trans s6
    refine ⟨l, ys, ds, rfl, .inr (.inl (.inl upd_same)), ll.1.symm, x60, (ll.same s56).dir, wz, fun H7 s7 => ⟨true, rfl, itF rfl ?_⟩⟩
    have s57 := s56.trans s7
    have s37 := s4.trans s57
    refine ⟨_, rfl, ?_⟩
    dsimp only
    refine lc_lists (K := K) (a := D) (xs := xs) (j := 3) ds (by rfl) (s37.seq hL) xl xz (fun i x F R d ex ed sF hR => ?_) fun E2 F8 zs s8 nE2 eE2 ll2 => ?_
    · obtain ⟨pc, rfl, hc⟩ := dp_r (dir i x d F ex ed (s37.trans sF))
      exact ⟨rfl, _, rfl, pc, _, rfl, .inr hc, hR⟩
    have s58 := s57.trans s8
    refine ne_same ⟨shaped_ls ds, SeqAt.canLay_of_shaped (shaped_ls ds)⟩ (.lst (.inl (.inl (s58 _ _ eE))) (ll.same s58).dps) (.lst (.inl (.inl eE2)) ll2.dps) ⟨_, rfl, itF rfl ?_⟩
    refine ⟨(by show 0 ≤ sizeLine; decide), fun e ne0 => ?_⟩
    refine ⟨e, [], [], rfl, .inl (.inl (.inl upd_same)), rfl, (by show 0 ≤ 60; decide), (fun i x d ex _ => by simp at ex), (fun d h => nomatch h), fun H9 z os s9 ob om ol hz => ?_⟩
    obtain rfl : os = [] := by
      cases os with
      | nil => rfl
      | cons o os => exact nomatch (om o).mp (List.mem_cons_self ..)
    refine ⟨(by show 0 ≤ sizeLine; decide), fun t nt => ?_⟩
    have sA := PB.same_new (o := .tup []) nt
    refine ne_same shaped_nil (Dp_same sA hz) (.tup (.inl (.inl upd_same)) .nil) ⟨_, rfl, itF rfl ?_⟩
    have sE := PB.same_new (o := .lst []) ne0
    exact k1 p _ _ _ _ _ _ _ _ _ _ _ _ _ _ _ _ _ _ (((((hw.h.same s37).same s8).same sE).same s9).same sA) q
end
end F3
set_option Elab.async false
set_option linter.all false
set_option maxRecDepth 100000
set_option maxHeartbeats 0
namespace F3
open PySem PySem.Spec PyProof.Rows L2 FX RM PB KD KS
def dD (x : Str) (i : Nat) : He.DefD := ⟨(x, none), x, x, defArgs (topS i), defBody (topS i), defScope (topS i), [], []⟩
def dW (x : Str) (i : Nat) : He.DefD := ⟨(x, none), x, x, defArgs (topS i), defBody (topS i), defScope (topS i), [.non, .non], []⟩
def fn : List He.DefD := [dD "is_row" 5, dW "is_whole" 6, dD "sign_of" 7, dD "is_direction" 9, dD "check_direction" 10, dD "whole_direction" 11, dD "direction_of" 12, dD "across" 13, dD "opposite" 14, dD "mirror_direction" 15, dD "between_of" 16, dD "turn_of" 17, dD "quarter_of" 18, dD "scaled_floor" 19, dD "order_round" 20, dD "_law_hand" 22, dD "_law_mixed" 23, dD "_law_take" 24, dD "_law_gcd" 25, dD "_law_ratio" 26, dD "_law_times" 27, dD "_law_direction" 28, dD "_law_way" 29, dD "_law_number" 30, dD "_law_any_way" 31, dD "_law_tuples" 32, dD "_law_half_of" 33, dD "_law_before" 34, dD "_law_ordered" 35, dD "_law_refused" 36, dD "_law_step_refused" 37, dD "_law_sum_due" 38, dD "law" 39]
def fa : List He.Fa := [.glo "is_row", .glo "is_whole", .glo "sign_of", .glo "is_direction", .glo "check_direction", .glo "whole_direction", .glo "direction_of", .glo "across", .glo "opposite", .glo "mirror_direction", .glo "between_of", .glo "turn_of", .glo "quarter_of", .glo "scaled_floor", .glo "order_round", .glo "_law_hand", .glo "_law_mixed", .glo "_law_take", .glo "_law_gcd", .glo "_law_ratio", .glo "_law_times", .glo "_law_direction", .glo "_law_way", .glo "_law_number", .glo "_law_any_way", .glo "_law_tuples", .glo "_law_half_of", .glo "_law_before", .glo "_law_ordered", .glo "_law_refused", .glo "_law_step_refused", .glo "_law_sum_due", .glo "law", .free "len", .free "int", .free "abs", .free "isinstance", .free "tuple", .free "list", .free "bool", .free "range", .free "max", .free "sorted"]
def cl : List Str := ["BadDirection"]
def ck (K : PySem.W.Frag) : Bool := (cl.all fun x => clsB K x [] && (He.Fa.exm x x true).ok K) && (He.eqO (PySem.W.nsIn K mainGlobals "gcd") (some (some (.builtin "math.gcd"))))
def says (K : PySem.W.Frag) : Prop := ck K = true ∧ He.SaysD fa fn K
def obsM (n : Nat) (g : Addr → Option Obj) : Bool × He.AlD := (ck (He.frG g (He.asD g n)), He.obsDG n fa fn g)
def hookM (n : Nat) : PySem.W.Hook where
  α := Bool × He.AlD
  obs := fun s => obsM n s.heap.get?
  val := fun _ => (true, He.valD fn)
  says := fun _ h => ∃ K : PySem.W.Frag, K.In h ∧ says K
  of := fun _ _ e => ⟨_, He.frG_in, congrArg (fun z : Bool × He.AlD => z.1) e, congrArg (fun z : Bool × He.AlD => z.2) e⟩
  keeps := fun _ _ _ ⟨K, hK, c⟩ k => ⟨K, PySem.W.Frag.In.keeps hK k, c⟩
theorem obsM_eq {n : Nat} {g : Addr → Option Obj} {s : Shared} (h : ∀ a, g a = s.heap.get? a) : obsM n g = (hookM n).obs s := by
  have e : g = s.heap.get? := funext h
  rw [e] <;> rfl
abbrev R : PySem.W.OpenRow := PySem.W.OpenLaw.row PySem.Challenge.rw_feltstone_k02_whole_directions_in_round
def ob (s : PySem.W.SharedT) : Bool × He.AlD := obsM 5 (HandSHeadRun.getT s)
theorem ob_eq (s : PySem.W.SharedT) : ob s = (hookM 5).obs s.abs := obsM_eq (HandSHeadRun.getT_eq s)
def n0 : List Str := ["FeltError", "BadDirection", "is_row", "is_whole", "sign_of", "is_direction", "check_direction", "whole_direction", "direction_of", "across", "opposite", "mirror_direction", "between_of", "turn_of", "quarter_of", "scaled_floor", "order_round", "_law_hand", "_law_mixed", "_law_take", "_law_gcd", "_law_ratio", "_law_times", "_law_direction", "_law_way", "_law_number", "_law_any_way", "_law_tuples", "_law_half_of", "_law_before"]
def n1 : List Str := ["_law_ordered", "_law_refused", "_law_step_refused", "_law_sum_due"]
def names : List Str := n0 ++ n1
theorem run (w : World) : HandSHeadRun.RunEqI R (PySem.W.view R.prog [0, 39]) (hookM 5) ob 60000 names w := by
  unfold HandSHeadRun.RunEqI
  kernel_rfl
end F3
set_option Elab.async false
set_option linter.all false
set_option maxRecDepth 100000
set_option maxHeartbeats 0
namespace F3
open PySem PySem.Spec PyProof.Rows L2 FX RM PB KD KS
theorem def_at {K : PySem.W.Frag} (c : He.SaysD fa fn K) {x : Str} {st : Stmt} (i : Nat) {d : He.DefD} (h : fn[i]? = some d) (e : d = ⟨(x, none), x, x, defArgs st, defBody st, defScope st, [], []⟩) : ∃ fd, FunD K x x (defArgs st) (defBody st) (defScope st) [] [] (He.ga K x) fd := by
  obtain ⟨fd, F⟩ := c.def_ i h
  subst e
  exact ⟨fd, F⟩
theorem def_atW {K : PySem.W.Frag} (c : He.SaysD fa fn K) {x : Str} {st : Stmt} (i : Nat) {d : He.DefD} (h : fn[i]? = some d) (e : d = ⟨(x, none), x, x, defArgs st, defBody st, defScope st, [.non, .non], []⟩) : ∃ fd, FunD K x x (defArgs st) (defBody st) (defScope st) [.non, .non] [] (He.ga K x) fd := by
  obtain ⟨fd, F⟩ := c.def_ i h
  subst e
  exact ⟨fd, F⟩
section
variable {P : Program} {w : World} {K : PySem.W.Frag} {mg : Str → Option Value} {base h : Heap}
theorem facts (X : K.In h) (G : h.Ns mainGlobals mg) {f : Addr} (hfa : mg ("law" : Str) = some (.ref f)) (c : says K) :
    ∃ fd : FuncData, (∀ (s : Shared) (v : Value), BindsTo s fd ⟨[v], []⟩ [("_law_script", v)]) ∧ ∀ base : Heap, K.In base → base.Ns mainGlobals mg → FnOk P w K mg base CX0 6 f fd ["_law_script"] (spLaw K) := by
  obtain ⟨c1, c2⟩ := c
  obtain ⟨k1, k2⟩ := He.ba c1
  have mgcd : mg "gcd" = some (.builtin "math.gcd") := PySem.W.mg_of X G (He.eqO_ok k2)
  have cl_ : ∀ x ∈ cl, ClsOk K x [] ∧ PySem.W.exmOne K (.ref (He.ga K x)) (.ref (He.ga K x)) = some true := fun x hx => by
    obtain ⟨a, b⟩ := He.ba (List.all_eq_true.mp k1 x hx)
    exact ⟨clsB_ok a, He.exm_ok b⟩
  have cBadDirection := (cl_ "BadDirection" (by decide)).1
  have mBadDirection := (cl_ "BadDirection" (by decide)).2
  have gBadDirection := He.glo_ok X G cBadDirection.glo
  have mlen := He.free_ok X G (c2.fact 33 (f := .free "len") rfl)
  have mint := He.free_ok X G (c2.fact 34 (f := .free "int") rfl)
  have mabs := He.free_ok X G (c2.fact 35 (f := .free "abs") rfl)
  have misinstance := He.free_ok X G (c2.fact 36 (f := .free "isinstance") rfl)
  have mtuple := He.free_ok X G (c2.fact 37 (f := .free "tuple") rfl)
  have mlist := He.free_ok X G (c2.fact 38 (f := .free "list") rfl)
  have mbool := He.free_ok X G (c2.fact 39 (f := .free "bool") rfl)
  have mrange := He.free_ok X G (c2.fact 40 (f := .free "range") rfl)
  have mmax := He.free_ok X G (c2.fact 41 (f := .free "max") rfl)
  have msorted := He.free_ok X G (c2.fact 42 (f := .free "sorted") rfl)
  obtain ⟨fdis_row, Fis_row⟩ := def_at c2 (x := "is_row") (st := topS 5) 0 rfl rfl
  have gis_row := He.glo_ok X G (c2.fact 0 (f := .glo "is_row") rfl)
  have tis_row : Txt K mg "is_row" (topS 5) := ⟨_, _, fun_of Fis_row, gis_row⟩
  obtain ⟨fdis_whole, Fis_whole⟩ := def_atW c2 (x := "is_whole") (st := topS 6) 1 rfl rfl
  have gis_whole := He.glo_ok X G (c2.fact 1 (f := .glo "is_whole") rfl)
  obtain ⟨fdsign_of, Fsign_of⟩ := def_at c2 (x := "sign_of") (st := topS 7) 2 rfl rfl
  have gsign_of := He.glo_ok X G (c2.fact 2 (f := .glo "sign_of") rfl)
  have tsign_of : Txt K mg "sign_of" (topS 7) := ⟨_, _, fun_of Fsign_of, gsign_of⟩
  obtain ⟨fdis_direction, Fis_direction⟩ := def_at c2 (x := "is_direction") (st := topS 9) 3 rfl rfl
  have gis_direction := He.glo_ok X G (c2.fact 3 (f := .glo "is_direction") rfl)
  have tis_direction : Txt K mg "is_direction" (topS 9) := ⟨_, _, fun_of Fis_direction, gis_direction⟩
  obtain ⟨fdcheck_direction, Fcheck_direction⟩ := def_at c2 (x := "check_direction") (st := topS 10) 4 rfl rfl
  have gcheck_direction := He.glo_ok X G (c2.fact 4 (f := .glo "check_direction") rfl)
  have tcheck_direction : Txt K mg "check_direction" (topS 10) := ⟨_, _, fun_of Fcheck_direction, gcheck_direction⟩
  obtain ⟨fdwhole_direction, Fwhole_direction⟩ := def_at c2 (x := "whole_direction") (st := topS 11) 5 rfl rfl
  have gwhole_direction := He.glo_ok X G (c2.fact 5 (f := .glo "whole_direction") rfl)
  have twhole_direction : Txt K mg "whole_direction" (topS 11) := ⟨_, _, fun_of Fwhole_direction, gwhole_direction⟩
  obtain ⟨fddirection_of, Fdirection_of⟩ := def_at c2 (x := "direction_of") (st := topS 12) 6 rfl rfl
  have gdirection_of := He.glo_ok X G (c2.fact 6 (f := .glo "direction_of") rfl)
  have tdirection_of : Txt K mg "direction_of" (topS 12) := ⟨_, _, fun_of Fdirection_of, gdirection_of⟩
  obtain ⟨fdacross, Facross⟩ := def_at c2 (x := "across") (st := topS 13) 7 rfl rfl
  have gacross := He.glo_ok X G (c2.fact 7 (f := .glo "across") rfl)
  have tacross : Txt K mg "across" (topS 13) := ⟨_, _, fun_of Facross, gacross⟩
  obtain ⟨fdopposite, Fopposite⟩ := def_at c2 (x := "opposite") (st := topS 14) 8 rfl rfl
  have gopposite := He.glo_ok X G (c2.fact 8 (f := .glo "opposite") rfl)
  have topposite : Txt K mg "opposite" (topS 14) := ⟨_, _, fun_of Fopposite, gopposite⟩
  obtain ⟨fdmirror_direction, Fmirror_direction⟩ := def_at c2 (x := "mirror_direction") (st := topS 15) 9 rfl rfl
  have gmirror_direction := He.glo_ok X G (c2.fact 9 (f := .glo "mirror_direction") rfl)
  have tmirror_direction : Txt K mg "mirror_direction" (topS 15) := ⟨_, _, fun_of Fmirror_direction, gmirror_direction⟩
  obtain ⟨fdbetween_of, Fbetween_of⟩ := def_at c2 (x := "between_of") (st := topS 16) 10 rfl rfl
  have gbetween_of := He.glo_ok X G (c2.fact 10 (f := .glo "between_of") rfl)
  have tbetween_of : Txt K mg "between_of" (topS 16) := ⟨_, _, fun_of Fbetween_of, gbetween_of⟩
  obtain ⟨fdturn_of, Fturn_of⟩ := def_at c2 (x := "turn_of") (st := topS 17) 11 rfl rfl
  have gturn_of := He.glo_ok X G (c2.fact 11 (f := .glo "turn_of") rfl)
  have tturn_of : Txt K mg "turn_of" (topS 17) := ⟨_, _, fun_of Fturn_of, gturn_of⟩
  obtain ⟨fdquarter_of, Fquarter_of⟩ := def_at c2 (x := "quarter_of") (st := topS 18) 12 rfl rfl
  have gquarter_of := He.glo_ok X G (c2.fact 12 (f := .glo "quarter_of") rfl)
  have tquarter_of : Txt K mg "quarter_of" (topS 18) := ⟨_, _, fun_of Fquarter_of, gquarter_of⟩
  obtain ⟨fdscaled_floor, Fscaled_floor⟩ := def_at c2 (x := "scaled_floor") (st := topS 19) 13 rfl rfl
  have gscaled_floor := He.glo_ok X G (c2.fact 13 (f := .glo "scaled_floor") rfl)
  have tscaled_floor : Txt K mg "scaled_floor" (topS 19) := ⟨_, _, fun_of Fscaled_floor, gscaled_floor⟩
  obtain ⟨fdorder_round, Forder_round⟩ := def_at c2 (x := "order_round") (st := topS 20) 14 rfl rfl
  have gorder_round := He.glo_ok X G (c2.fact 14 (f := .glo "order_round") rfl)
  have torder_round : Txt K mg "order_round" (topS 20) := ⟨_, _, fun_of Forder_round, gorder_round⟩
  obtain ⟨fd_law_hand, F_law_hand⟩ := def_at c2 (x := "_law_hand") (st := topS 22) 15 rfl rfl
  have g_law_hand := He.glo_ok X G (c2.fact 15 (f := .glo "_law_hand") rfl)
  have t_law_hand : Txt K mg "_law_hand" (topS 22) := ⟨_, _, fun_of F_law_hand, g_law_hand⟩
  obtain ⟨fd_law_mixed, F_law_mixed⟩ := def_at c2 (x := "_law_mixed") (st := topS 23) 16 rfl rfl
  have g_law_mixed := He.glo_ok X G (c2.fact 16 (f := .glo "_law_mixed") rfl)
  have t_law_mixed : Txt K mg "_law_mixed" (topS 23) := ⟨_, _, fun_of F_law_mixed, g_law_mixed⟩
  obtain ⟨fd_law_take, F_law_take⟩ := def_at c2 (x := "_law_take") (st := topS 24) 17 rfl rfl
  have g_law_take := He.glo_ok X G (c2.fact 17 (f := .glo "_law_take") rfl)
  have t_law_take : Txt K mg "_law_take" (topS 24) := ⟨_, _, fun_of F_law_take, g_law_take⟩
  obtain ⟨fd_law_gcd, F_law_gcd⟩ := def_at c2 (x := "_law_gcd") (st := topS 25) 18 rfl rfl
  have g_law_gcd := He.glo_ok X G (c2.fact 18 (f := .glo "_law_gcd") rfl)
  have t_law_gcd : Txt K mg "_law_gcd" (topS 25) := ⟨_, _, fun_of F_law_gcd, g_law_gcd⟩
  obtain ⟨fd_law_ratio, F_law_ratio⟩ := def_at c2 (x := "_law_ratio") (st := topS 26) 19 rfl rfl
  have g_law_ratio := He.glo_ok X G (c2.fact 19 (f := .glo "_law_ratio") rfl)
  have t_law_ratio : Txt K mg "_law_ratio" (topS 26) := ⟨_, _, fun_of F_law_ratio, g_law_ratio⟩
  obtain ⟨fd_law_times, F_law_times⟩ := def_at c2 (x := "_law_times") (st := topS 27) 20 rfl rfl
  have g_law_times := He.glo_ok X G (c2.fact 20 (f := .glo "_law_times") rfl)
  have t_law_times : Txt K mg "_law_times" (topS 27) := ⟨_, _, fun_of F_law_times, g_law_times⟩
  obtain ⟨fd_law_direction, F_law_direction⟩ := def_at c2 (x := "_law_direction") (st := topS 28) 21 rfl rfl
  have g_law_direction := He.glo_ok X G (c2.fact 21 (f := .glo "_law_direction") rfl)
  have t_law_direction : Txt K mg "_law_direction" (topS 28) := ⟨_, _, fun_of F_law_direction, g_law_direction⟩
  obtain ⟨fd_law_way, F_law_way⟩ := def_at c2 (x := "_law_way") (st := topS 29) 22 rfl rfl
  have g_law_way := He.glo_ok X G (c2.fact 22 (f := .glo "_law_way") rfl)
  have t_law_way : Txt K mg "_law_way" (topS 29) := ⟨_, _, fun_of F_law_way, g_law_way⟩
  obtain ⟨fd_law_number, F_law_number⟩ := def_at c2 (x := "_law_number") (st := topS 30) 23 rfl rfl
  have g_law_number := He.glo_ok X G (c2.fact 23 (f := .glo "_law_number") rfl)
  have t_law_number : Txt K mg "_law_number" (topS 30) := ⟨_, _, fun_of F_law_number, g_law_number⟩
  obtain ⟨fd_law_any_way, F_law_any_way⟩ := def_at c2 (x := "_law_any_way") (st := topS 31) 24 rfl rfl
  have g_law_any_way := He.glo_ok X G (c2.fact 24 (f := .glo "_law_any_way") rfl)
  have t_law_any_way : Txt K mg "_law_any_way" (topS 31) := ⟨_, _, fun_of F_law_any_way, g_law_any_way⟩
  obtain ⟨fd_law_tuples, F_law_tuples⟩ := def_at c2 (x := "_law_tuples") (st := topS 32) 25 rfl rfl
  have g_law_tuples := He.glo_ok X G (c2.fact 25 (f := .glo "_law_tuples") rfl)
  have t_law_tuples : Txt K mg "_law_tuples" (topS 32) := ⟨_, _, fun_of F_law_tuples, g_law_tuples⟩
  obtain ⟨fd_law_half_of, F_law_half_of⟩ := def_at c2 (x := "_law_half_of") (st := topS 33) 26 rfl rfl
  have g_law_half_of := He.glo_ok X G (c2.fact 26 (f := .glo "_law_half_of") rfl)
  have t_law_half_of : Txt K mg "_law_half_of" (topS 33) := ⟨_, _, fun_of F_law_half_of, g_law_half_of⟩
  obtain ⟨fd_law_before, F_law_before⟩ := def_at c2 (x := "_law_before") (st := topS 34) 27 rfl rfl
  have g_law_before := He.glo_ok X G (c2.fact 27 (f := .glo "_law_before") rfl)
  have t_law_before : Txt K mg "_law_before" (topS 34) := ⟨_, _, fun_of F_law_before, g_law_before⟩
  obtain ⟨fd_law_ordered, F_law_ordered⟩ := def_at c2 (x := "_law_ordered") (st := topS 35) 28 rfl rfl
  have g_law_ordered := He.glo_ok X G (c2.fact 28 (f := .glo "_law_ordered") rfl)
  have t_law_ordered : Txt K mg "_law_ordered" (topS 35) := ⟨_, _, fun_of F_law_ordered, g_law_ordered⟩
  obtain ⟨fd_law_refused, F_law_refused⟩ := def_at c2 (x := "_law_refused") (st := topS 36) 29 rfl rfl
  have g_law_refused := He.glo_ok X G (c2.fact 29 (f := .glo "_law_refused") rfl)
  have t_law_refused : Txt K mg "_law_refused" (topS 36) := ⟨_, _, fun_of F_law_refused, g_law_refused⟩
  obtain ⟨fd_law_step_refused, F_law_step_refused⟩ := def_at c2 (x := "_law_step_refused") (st := topS 37) 30 rfl rfl
  have g_law_step_refused := He.glo_ok X G (c2.fact 30 (f := .glo "_law_step_refused") rfl)
  have t_law_step_refused : Txt K mg "_law_step_refused" (topS 37) := ⟨_, _, fun_of F_law_step_refused, g_law_step_refused⟩
  obtain ⟨fd_law_sum_due, F_law_sum_due⟩ := def_at c2 (x := "_law_sum_due") (st := topS 38) 31 rfl rfl
  have g_law_sum_due := He.glo_ok X G (c2.fact 31 (f := .glo "_law_sum_due") rfl)
  have t_law_sum_due : Txt K mg "_law_sum_due" (topS 38) := ⟨_, _, fun_of F_law_sum_due, g_law_sum_due⟩
  obtain ⟨fdlaw, Flaw⟩ := def_at c2 (x := "law") (st := topS 39) 32 rfl rfl
  have glaw := He.glo_ok X G (c2.fact 32 (f := .glo "law") rfl)
  have tlaw : Txt K mg "law" (topS 39) := ⟨_, _, fun_of Flaw, glaw⟩
  have e := hfa.symm.trans glaw
  cases e
  have bl := FunD.bindsA (ps := ["_law_script"]) Flaw fun _ _ _ _ _ _ us hl => match us, hl with | [_], _ => rfl
  refine ⟨fdlaw, fun s v => bl s [v] rfl, fun base _ _ => ?_⟩
  have Gw1 := okis_whole1 (P := P) (w := w) (base := base) gis_whole Fis_whole misinstance mint mbool
  have Gw2 := okis_whole2 (P := P) (w := w) (base := base) gis_whole Fis_whole misinstance mint mbool
  have Gwhole_direction := okwhole_direction (P := P) (w := w) (base := base) twhole_direction mgcd
  have Gdirection_of := okdirection_of (P := P) (w := w) (base := base) tdirection_of Gwhole_direction
  have Gis_row := okis_row (P := P) (w := w) (base := base) tis_row misinstance mtuple mlist
  have Xwhole_direction := okXwhole_direction (P := P) (w := w) (base := base) twhole_direction mgcd cBadDirection gBadDirection
  have Xdirection_of := okXdirection_of (P := P) (w := w) (base := base) tdirection_of Xwhole_direction
  have G_law_gcd := ok_law_gcd (P := P) (w := w) (base := base) t_law_gcd mint mabs
  have G_law_ratio := ok_law_ratio (P := P) (w := w) (base := base) t_law_ratio G_law_gcd
  have G_law_times := ok_law_times (P := P) (w := w) (base := base) t_law_times G_law_ratio
  have G_law_direction := ok_law_direction (P := P) (w := w) (base := base) t_law_direction G_law_gcd
  have G_law_hand := dkHand (P := P) (w := w) (base := base) t_law_hand mint mlen
  have G_law_take := dkTake (P := P) (w := w) (base := base) t_law_take t_law_mixed mint mlen
  have G_law_number := ok_law_number (P := P) (w := w) (base := base) t_law_number G_law_take mrange
  have G_law_way := ok_law_way (P := P) (w := w) (base := base) t_law_way G_law_take
  have G_law_any_way := ok_law_any_way (P := P) (w := w) (base := base) t_law_any_way G_law_take G_law_way G_law_number G_law_direction
  have Gsign_of := oksign_of (P := P) (w := w) (base := base) tsign_of
  have Gacross := okacross (P := P) (w := w) (base := base) tacross
  have Gopposite := okopposite (P := P) (w := w) (base := base) topposite
  have Gmirror_direction := okmirror_direction (P := P) (w := w) (base := base) tmirror_direction
  have Gturn_of := okturn_of (P := P) (w := w) (base := base) tturn_of Gsign_of
  have Xbetween_of := okXbetween_of (P := P) (w := w) (base := base) tbetween_of Xwhole_direction
  have Gquarter_of := okquarter_of (P := P) (w := w) (base := base) tquarter_of
  have Gis_direction := okis_direction (P := P) (w := w) (base := base) tis_direction Gis_row Gw1 mlen mgcd
  have Xcheck_direction := okXcheck_direction (P := P) (w := w) (base := base) tcheck_direction Gis_direction cBadDirection gBadDirection
  have Gscaled_floor := okscaled_floor (P := P) (w := w) (base := base) tscaled_floor
  have G_law_way := okP_law_way (P := P) (w := w) (base := base) t_law_way G_law_take
  have G_law_any_way := okP_law_any_way (P := P) (w := w) (base := base) t_law_any_way G_law_take G_law_way G_law_number G_law_direction
  have G_law_tuples0 := ok_law_tuples (P := P) (w := w) (base := base) t_law_tuples misinstance mtuple mint mbool
  have G_law_tuples1 := okL1_law_tuples (P := P) (w := w) (base := base) t_law_tuples G_law_tuples0 misinstance mtuple mint mbool
  have G_law_tuples2 := okL2_law_tuples (P := P) (w := w) (base := base) t_law_tuples G_law_tuples1 misinstance mtuple mint mbool
  have G_law_half_of := ok_law_half_of (P := P) (w := w) (base := base) t_law_half_of
  have G_law_before := ok_law_before (P := P) (w := w) (base := base) t_law_before G_law_half_of
  have G_law_step_refused := ok_law_step_refused (P := P) (w := w) (base := base) t_law_step_refused Xdirection_of gBadDirection mBadDirection
  have G_law_refused := ok_law_refused (P := P) (w := w) (base := base) t_law_refused Gis_direction Xcheck_direction gBadDirection mBadDirection
  have Gorder_round := okorder_round (P := P) (w := w) (base := base) torder_round Gquarter_of Gscaled_floor mlist mtuple mmax msorted
  have G_law_sum_due := ok_law_sum_due (P := P) (w := w) (base := base) t_law_sum_due Xbetween_of gBadDirection mBadDirection G_law_direction G_law_tuples1
  have G_law_ordered := ok_law_ordered (P := P) (w := w) (base := base) t_law_ordered Gorder_round G_law_tuples2 G_law_before misinstance mtuple mlen mrange
  exact ok_law (fun_of Flaw) G_law_hand G_law_take G_law_any_way G_law_direction G_law_ordered Gorder_round Gturn_of Gopposite Gacross Gmirror_direction G_law_sum_due G_law_ratio G_law_times Xdirection_of G_law_step_refused Xcheck_direction Gis_direction G_law_refused mlen mrange mlist mtuple misinstance mbool
end
end F3
open PySem PySem.W PySem.Calls PyProof.Rows
theorem PySem.Challenge.cw_feltstone_k02_whole_directions_in_round_holds : PySem.Challenge.rw_feltstone_k02_whole_directions_in_round.Holds := by
  w_on; o_law
  refine HandSHeadRun.head_imp (r := OpenLaw.row PySem.Challenge.rw_feltstone_k02_whole_directions_in_round) (q := view (OpenLaw.row PySem.Challenge.rw_feltstone_k02_whole_directions_in_round).prog [0, 39]) (H := F3.hookM 5) (ob := F3.ob) (M := 60000) (loose := F3.names)
    (d := HandSHeadRun.topDef (OpenLaw.row PySem.Challenge.rw_feltstone_k02_whole_directions_in_round).prog 39) (kwd := []) F3.ob_eq F3.run
    (by kernel_rfl) (by kernel_rfl) (by kernel_rfl) (by rfl) (by first | assumption | decide +kernel) (by decide +kernel) ⟨rfl, rfl, rfl, rfl, rfl, by decide +kernel⟩ ?hw ?hc
  case hw => w_witness2
  case hc =>
    refine L2.walk_ofE (l := PySem.Challenge.rw_feltstone_k02_whole_directions_in_round) (n := 63) (k := 6) (x := "_law_script") (CX := L2.CX0) rfl (by decide) (by kernel_rfl) ⟨rfl, by decide, by decide⟩ ?F (fun _ _ _ _ z => z)
    intro w mg fa h Y G hmg0
    obtain ⟨K, KX, c⟩ := Y
    have hmg : mg ("law" : PySem.Str) = some (.ref fa) := by
      have e : (HandSHeadRun.topDef (OpenLaw.row PySem.Challenge.rw_feltstone_k02_whole_directions_in_round).prog 39).name = ("law" : PySem.Str) := by kernel_rfl
      rw [← e]
      exact hmg0
    obtain ⟨fd, hb, hF⟩ := F3.facts (P := (PySem.Challenge.rw_feltstone_k02_whole_directions_in_round).prog) (w := w) KX G hmg c
    exact ⟨K, fd, F3.spLaw K, KX, hb, fun H a ns hl _ hS => ⟨a, ns, rfl, hS, hl, fun _ => rfl⟩, hF⟩
