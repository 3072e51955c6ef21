import PyProof.Rows.All
import Wide.All
import OpenK.AllK
import Wide.FinOn
import KE.KStateDown
import KE.KExcIs
import KE.KIsAll
import HandS.Base
import HandS.Call
import HandS.List
import HandS.Comp
import HandS.Ends
import HandS.Exc
import HandS.ExcInit
import HandS.ExcField
import HandS.IsInst
import HandS.Words
import HandS.WordsList
import HandS.WordsExc
import HandS.Defaults
import HandS.Evl
import HandS.Wide
import HandS.Head0
import HandS.Head1
import HandS.Head2
import HandS.HeadEnd
import HandS.HeadHook1
import HandS.HeadHook2
import HandS.ExcValue
import PySem.Challenge.RW_purseahead_k77_errors_side_by_side
set_option Elab.async false
set_option linter.all false
set_option maxRecDepth 100000
set_option maxHeartbeats 4000000
/-! A head's facts as a list of tests of the written part. -/
namespace Ve
open PySem PySem.Spec PyProof.Rows L2
abbrev Fct := PySem.W.Frag → Bool
def obsF (fa : List Fct) (fn : List He.DefD) (K : PySem.W.Frag) : He.AlD := ((fa.all fun f => f K) && fn.all fun d => d.ok K, fn.map fun d => He.fnW K d.at_)
def SaysF (fa : List Fct) (fn : List He.DefD) (K : PySem.W.Frag) : Prop := obsF fa fn K = He.valD fn
section
variable {fa : List Fct} {fn : List He.DefD} {K : PySem.W.Frag}
theorem SaysF.fact (c : SaysF fa fn K) (i : Nat) {f : Fct} (h : fa[i]? = some f := by rfl) : f K = true := by
  have c1 := (He.ba (show ((fa.all fun f => f K) && fn.all fun d => d.ok K) = true from congrArg (fun z : He.AlD => z.1) c)).1
  exact List.all_eq_true.mp c1 f (List.mem_of_getElem? h)
theorem SaysF.def_ (c : SaysF fa fn K) (i : Nat) {d : He.DefD} (h : fn[i]? = some d := by rfl) : ∃ fd, FunD K d.name d.qual d.params d.body d.scope (d.dvs K) (d.kws K) (He.fAd K d.at_) fd := by
  have c2 := (He.ba (show ((fa.all fun f => f K) && fn.all fun d => d.ok K) = true from congrArg (fun z : He.AlD => z.1) c)).2
  have e : fn.map (fun d => He.fnW K d.at_) = fn.map He.DefD.val := congrArg (fun z : He.AlD => z.2) c
  have e2 : (fn.map fun d => He.fnW K d.at_)[i]? = (fn.map He.DefD.val)[i]? := by rw [e]
  rw [List.getElem?_map, List.getElem?_map, h] at e2
  exact He.DefD.funD (Option.some.inj e2) (List.all_eq_true.mp c2 d (List.mem_of_getElem? h))
end

/-! ### an own exception class under ValueError, also by way of own classes -/
def oexB (K : PySem.W.Frag) (C : Addr) : Bool := (match K.lookup C with
  | some ⟨.type "type", _, .cls cd, sl⟩ => (match cd.mro, sl.toList with
    | .ref C' :: bm, [_, _, _, _, some (.builtin n), _] => decide (C' = C) && (decide (n = "ValueError.__new__") && (!cd.hasDel && (cd.hasDict && PySem.HandSPX.refsVE bm)))
    | _, _ => false)
  | _ => false) && (decide (PySem.W.findIn K (.ref C) "__setattr__" = some (some (.builtin "object.__setattr__"))) && (decide (PySem.W.subIn K (.ref C) (.type "BaseException") = some true) &&
  (decide (PySem.W.typeIn K (.ref C) = some (.type "type")) && PySem.W.keepIn K (.ref C))))
theorem oexB_ok {K : PySem.W.Frag} {C : Addr} (h : oexB K C = true) : OexC K C := by
  obtain ⟨q, h⟩ := He.ba h
  obtain ⟨h1, h⟩ := He.ba h
  obtain ⟨h2, h⟩ := He.ba h
  obtain ⟨h3, h4⟩ := He.ba h
  refine ⟨?_, of_decide_eq_true h1, of_decide_eq_true h2, of_decide_eq_true h3, h4⟩
  split at q
  · rename_i dd cd sl ho
    split at q
    · rename_i C' bm k0 k1 k2 k3 n k5 hm hs
      obtain ⟨e1, q⟩ := He.ba q
      obtain ⟨e2, q⟩ := He.ba q
      obtain ⟨e3, q⟩ := He.ba q
      obtain ⟨e4, e5⟩ := He.ba q
      obtain ⟨nm, bs, mro, ns, qn, hd, sn, sub, ab, col, del⟩ := cd
      have e1 := of_decide_eq_true e1
      have e2 := of_decide_eq_true e2
      dsimp only at hm e3 e4
      have e3 : del = false := by simpa using e3
      subst hm e1 e2 e3 e4
      have hsl : sl = #[k0, k1, k2, k3, some (.builtin "ValueError.__new__"), k5] := by
        obtain ⟨l⟩ := sl
        simp only at hs
        rw [hs]
      subst hsl
      exact ⟨nm, qn, ns, bs, bm, sn, sub, ab, col, dd, k0, k1, k2, k3, k5, ho, e5⟩
    · cases q
  · cases q
/-- what isinstance asks of the class of an exception -/
structure IsxC (K : PySem.W.Frag) (C : Addr) : Prop where
  hcl : (PySem.W.clsIn K C).isSome = true
  hga : PySem.W.findIn K (.ref C) "__getattribute__" = some (some (.builtin "BaseException.__getattribute__"))
  hgt : PySem.W.findIn K (.ref C) "__getattr__" = some none
  hsub : PySem.W.subIn K (.ref C) (.type "BaseException") = some true
  ha : PySem.W.findIn K (.ref C) "__class__" = some (some (.builtin "object.__class__"))
  hn : PySem.W.specialIn K (.builtin "object.__class__") "__get__" = some (some (.builtin "getset_descriptor.__get__"))
  htk : PySem.W.takesIn K (.builtin "object.__class__") = some true
  hm : PySem.W.mroIn K C (.type "object") = some true
def isxB (K : PySem.W.Frag) (C : Addr) : Bool := (PySem.W.clsIn K C).isSome && (decide (PySem.W.findIn K (.ref C) "__getattribute__" = some (some (.builtin "BaseException.__getattribute__"))) && (decide (PySem.W.findIn K (.ref C) "__getattr__" = some none) &&
  (decide (PySem.W.subIn K (.ref C) (.type "BaseException") = some true) && (decide (PySem.W.findIn K (.ref C) "__class__" = some (some (.builtin "object.__class__"))) &&
  (decide (PySem.W.specialIn K (.builtin "object.__class__") "__get__" = some (some (.builtin "getset_descriptor.__get__"))) && (decide (PySem.W.takesIn K (.builtin "object.__class__") = some true) && decide (PySem.W.mroIn K C (.type "object") = some true)))))))
theorem isxB_ok {K : PySem.W.Frag} {C : Addr} (h : isxB K C = true) : IsxC K C := by
  obtain ⟨h1, h⟩ := He.ba h
  obtain ⟨h2, h⟩ := He.ba h
  obtain ⟨h3, h⟩ := He.ba h
  obtain ⟨h4, h⟩ := He.ba h
  obtain ⟨h5, h⟩ := He.ba h
  obtain ⟨h6, h⟩ := He.ba h
  obtain ⟨h7, h8⟩ := He.ba h
  exact ⟨h1, of_decide_eq_true h2, of_decide_eq_true h3, of_decide_eq_true h4, of_decide_eq_true h5, of_decide_eq_true h6, of_decide_eq_true h7, of_decide_eq_true h8⟩

/-! ### exceptions as values -/
section
variable {X : Cx} {e : Expr} {es : List Expr} {ta : TA} {te : TE} {p pos : Pos}
/-- C(e, ..), C's own __init__ keeping sp; the exception is a value -/
def tMkV (C : Addr) (sp : Sp) (dvs : List V) (ta : TA) : TE := fun σ H Q => ta σ H fun vs H1 => vs.length ≤ 1000 ∧ ∀ a, H1 a = none → sp (.ref a :: (vs ++ dvs)) (upd H1 a (exo a C none)) (fun v H2 => v = .non ∧ Q (.ref a) H2) (fun _ _ _ => False)
theorem pe_mkx {CX : CXT} {x : Str} {C g : Addr} {k : Nat} {fd : FuncData} {ps : List Str} {sp : Sp} {ds : List Value} {dvs : List V} (T : OexC X.K C) (own : PySem.W.findIn X.K (.ref C) "__init__" = some (some (.ref g))) (fnT : PySem.W.typeIn X.K (.ref g) = some (.type "function"))
    (G : FnOk X.prog X.w X.K X.mg X.base CX k g fd ps sp) (room : Room (k + 1) X.A) (bs : Binds X.K fd ps ds) (dv : Vals dvs ds) (out : Passes CX X (fun _ _ _ => False)) (gl : Gl X x) (at_ : X.mg x = some (.ref C)) (args : PA X (e :: es) ta)
    (hdb : (x == ("__debug__" : Str)) = false := by decide) (he : starEach (e :: es) X.env = (false, eval e X.env) :: starEach es X.env := by rfl) (hpl : (backTo pos (starEach es X.env)).any (·.1) = false := by rfl) :
    PE X (.Call (.Name x p) (e :: es) [] pos) (tMkV C sp dvs ta) := by
  constructor
  intro pins s σ H Q I want
  obtain ⟨_, _, _, _, bm, _, _, _, _, _, _, _, _, _, _, cls, tail⟩ := T.cls
  refine wpAny_Call_Name_kw (ld_glob I gl at_ ?_ hdb)
  refine PySem.W.callWith_K (h₀ := X.base) I.ok.mod.kin T.kC ?_ he hpl
  refine thn (args.run pos pins s σ H _ I want) ?_
  rintro us ⟨hp, gs, dr, tk, os⟩ ⟨vs, H1, J, rel, short, made⟩
  refine ⟨J.kIn, ?_⟩
  show wpAny _ _ (call (.ref C) us) _ _ _
  -- the exception's place is the second new one: its args come first
  let n := hp.objs.size + 1
  let hp2 := (hp.push (PySem.W.kdv_tup us)).push (PySem.HandSPX.excO C hp.objs.size)
  have old : ∀ b o, hp.get? b = some o → hp2.get? b = some o := fun b o q => Heap.get?_push_of_some _ (Heap.get?_push_of_some _ q)
  have here : hp2.get? n = some (PySem.HandSPX.excO C hp.objs.size) := by
    show ((hp.push (PySem.W.kdv_tup us)).push (PySem.HandSPX.excO C hp.objs.size)).get? (hp.objs.size + 1) = _
    heap_get
  have want2 := made n (J.hok.fresh (Nat.le_succ _))
  have J2 : Inv X pins σ (upd H1 n (exo n C none)) ⟨hp2, gs, dr, tk, os⟩ := J.laid (t' := tk) (a := n) (o := exo n C none) (h' := hp2) old (Nat.le_succ _) (exo_ok here)
  have rel2 : Vals (V.ref n :: (vs ++ dvs)) (Value.ref n :: (us ++ ds)) := .cons rfl (rel.append dv)
  have many : ((Value.ref n :: us) ++ ds).length = ps.length := (rel2.length.symm.trans (G.len _ _ _ _ want2) : _)
  have few : us.length ≤ sizeLine := by
    have z := Paired.length rel
    rw [sizeLine_eq]
    omega
  have ran := G.run _ X.stack _ _ ⟨Value.ref n :: us, []⟩ (Value.ref n :: (us ++ ds)) _ _ (fun _ _ _ => False) (room.make C us []) (J2.env0.make C us []) (bs _ (Value.ref n :: us) J2.kIn many) rel2 want2
  refine wpAny_call (PySem.HandSPX.call_own F.excBase_ValueError (fun Y => PySem.HandSPX.refsVE_contains Y bm tail) (J.kIn _ _ cls) (PySem.W.looks_findIn J.kIn own) (fun self => PySem.W.bind_fn J.kIn self fnT) few (codeAny_mono ran ?_))
  rintro (er | fl) s' res
  · exact out pins σ _ _ er s' J2 res
  · match fl, res with
    | .ret u, res =>
      obtain ⟨v, H', J3, rv, ev, q3⟩ := J2.after res
      subst ev
      exact ⟨rv, ⟨V.ref n, H', J3, rfl, q3⟩⟩
    | .next, res => exact False.elim res
    | .brk, res => exact False.elim res
    | .cont, res => exact False.elim res
/-- e.f of an exception that is a value -/
def tXfld (K : PySem.W.Frag) (f : Str) (te : TE) : TE := fun σ H Q => te σ H fun x H1 => ∃ (a C d : Addr) (fs : List (Str × V)) (v : V), x = .ref a ∧ XfC K C ∧ PySem.W.findIn K (.ref C) f = some none ∧ H1 a = some (exo a C (some d)) ∧ H1 d = some (exd d fs) ∧ fs.lookup f = some v ∧ Q v H1
theorem pe_xfld {f : Str} (he : PE X e te) (hb : attributeBase e f X.env (eval e X.env) = eval e X.env := by rfl) : PE X (.Attribute e f pos) (tXfld X.K f te) := by
  refine ⟨fun pins s σ H Q I h => ?_⟩
  refine attr_of hb (thn (he.run pins s σ H _ I h) fun u s1 hh => ?_)
  obtain ⟨x, H1, I1, rx, a, C, d, fs, v, ex, T, hno, ea, ed, l, q⟩ := hh
  subst ex
  obtain rfl : u = Value.ref a := rx
  obtain ⟨t1, ho⟩ := exo_at I1.hok ea
  obtain ⟨mA, hns, hr⟩ := exd_at I1.hok ed
  obtain ⟨od, hod, hl⟩ := lookIn_ns hns
  obtain ⟨u, hu, ru⟩ := RelO.some_of (v := v) (o := mA f) (by rw [← l]; exact hr f)
  have J : PySem.W.InstAt s1.heap a { cls := .ref C, dict := some d, data := .fields #[.ref t1, .none, .none, .none, .bool false, .none] } C (some od) := ⟨ho, rfl, rfl, hod⟩
  exact HandSPX.exc_get I1.kIn J T.ga T.gg T.exC (PySem.W.findObj_own T.hdC hno rfl (by rw [hl, hu])) (handed_of ru) ⟨v, H1, I1.tok _, ru, q⟩
/-- isinstance(e, c) of an exception that is a value -/
def rIsx (K : PySem.W.Frag) : List V → Hp → VK → Prop := fun xs H Q => ∃ (a C : Addr) (c : V) (u : Value) (b : Bool), xs = [.ref a, c] ∧ ClsV c u ∧ IsxC K C ∧ ((H a = some (exo a C none)) ∨ ∃ d fs, H a = some (exo a C (some d)) ∧ H d = some (exd d fs)) ∧ PySem.W.kitOne K (.ref C) u = some b ∧ Q (.bl b) H
theorem call_isx : CallR X (.builtin "isinstance") (rIsx X.K) := by
  intro pins s σ H xs us Q I r h
  obtain ⟨a, C, c, u, b, rfl, k, T, ho, e, q⟩ := h
  obtain ⟨u1, u2, rfl, r1, r2⟩ := vals2 r
  have e2 := k.eq r2
  subst e2
  cases (show u1 = Value.ref a from r1)
  rcases ho with ho | ⟨d, fs, ho, hd⟩
  · obtain ⟨t1, g⟩ := exo_at I.hok ho
    have J : PySem.W.InstAt s.heap a { cls := .ref C, dict := none, data := .fields #[.ref t1, .none, .none, .none, .bool false, .none] } C none := ⟨g, rfl, rfl, trivial⟩
    exact PySem.W.kia_one (PySem.W.kitx_exc T.hcl T.hga T.hgt T.hsub T.ha T.hn T.htk T.hm) I.kIn J e (fun z => nomatch z) fun tk => ⟨.bl b, H, I.tok tk, rfl, q⟩
  · obtain ⟨t1, g⟩ := exo_at I.hok ho
    obtain ⟨mA, ⟨od, _, _, hod, _⟩, _⟩ := exd_at I.hok hd
    have J : PySem.W.InstAt s.heap a { cls := .ref C, dict := some d, data := .fields #[.ref t1, .none, .none, .none, .bool false, .none] } C (some od) := ⟨g, rfl, rfl, hod⟩
    exact PySem.W.kia_one (PySem.W.kitx_exc T.hcl T.hga T.hgt T.hsub T.ha T.hn T.htk T.hm) I.kIn J e (fun z => nomatch z) fun tk => ⟨.bl b, H, I.tok tk, rfl, q⟩
end
end Ve
namespace Ve
open PySem PySem.Spec PyProof.Rows L2
/-! ### the run's equation, from looks of their own; the written part: the objects at written addresses -/
def obsRG (as : List Addr) (fa : List Fct) (fn : List He.DefD) (g : Addr → Option Obj) : He.AlD := obsF fa fn (He.frG g as)
def hookR (as : List Addr) (fa : List Fct) (fn : List He.DefD) : PySem.W.Hook where
  α := He.AlD
  obs := fun s => obsRG as fa fn s.heap.get?
  val := fun _ => He.valD fn
  says := fun _ h => ∃ K : PySem.W.Frag, K.In h ∧ SaysF fa fn K
  of := fun _ _ e => ⟨_, He.frG_in, e⟩
  keeps := fun _ _ _ ⟨K, hK, c⟩ k => ⟨K, PySem.W.Frag.In.keeps hK k, c⟩
theorem obsRG_eq {as : List Addr} {fa : List Fct} {fn : List He.DefD} {g : Addr → Option Obj} {s : Shared} (h : ∀ a, g a = s.heap.get? a) : obsRG as fa fn g = (hookR as fa fn).obs s := by
  have e : g = s.heap.get? := funext h
  rw [e] <;> rfl
def kR (as : List Addr) (s : PySem.W.SharedT) : PySem.W.Frag := He.frG (HandSHeadRun.getT s) as
/-- the top's run -/
noncomputable abbrev topRun (r : PySem.W.OpenRow) (M : Nat) (w : World) (os : OsState) : Option PySem.W.SharedT := HandSHeadRun.endF (HandSHeadRun.stepQ (HandSHeadRun.denQ HandSHeadRun.tabQ) r.prog w) M r.prog w os
theorem run_partsR {r : PySem.W.OpenRow} {q : Program} {fa : List Fct} {fn : List He.DefD} {as : List Addr} {M : Nat} {loose : List Str} {w : World}
    (h1 : ∀ os, (topRun r M w os).map (fun s => HandSHeadRun.looksF r.prog (PySem.W.boot_heap w.params) s.abs) = some true)
    (h2 : ∀ os, (topRun r M w os).map (fun s => HandSHeadRun.seenQ q loose (importedModules r.prog.main.body) (fun s => PySem.W.xlAt q [] s && PySem.W.recOk r.toRowW.records s) s.abs) = some (PySem.W.openGood q loose))
    (h3 : ∀ f ∈ fa, ∀ os, (topRun r M w os).map (fun s => f (kR as s)) = some true)
    (h4 : ∀ os, (topRun r M w os).map (fun s => (fn.all fun d => d.ok (kR as s), fn.map fun d => He.fnW (kR as s) d.at_)) = some (He.valD fn)) :
    HandSHeadRun.RunEq r q (hookR as fa fn) (fun s => obsRG as fa fn (HandSHeadRun.getT s)) M loose w := by
  intro os
  have g1 := h1 os
  have g2 := h2 os
  have g3 := fun f hf => h3 f hf os
  have g4 := h4 os
  cases e : topRun r M w os with
  | none =>
    rw [e] at g1
    cases g1
  | some s =>
    rw [e] at g1 g2 g4
    have a1 := Option.some.inj g1
    have a2 := Option.some.inj g2
    have a4 : (fn.all fun d => d.ok (kR as s), fn.map fun d => He.fnW (kR as s) d.at_) = He.valD fn := Option.some.inj g4
    have a3 : (fa.all fun f => f (kR as s)) = true := List.all_eq_true.mpr fun f hf => by
      have z := g3 f hf
      rw [e] at z
      exact Option.some.inj z
    have a5 : obsRG as fa fn (HandSHeadRun.getT s) = He.valD fn := by
      show ((fa.all fun f => f (kR as s)) && fn.all fun d => d.ok (kR as s), fn.map fun d => He.fnW (kR as s) d.at_) = He.valD fn
      rw [a3, Bool.true_and]
      exact a4
    have e2 : HandSHeadRun.endF (HandSHeadRun.stepQ (HandSHeadRun.denQ HandSHeadRun.tabQ) r.prog w) M r.prog w os = some s := e
    rw [e2]
    exact congrArg some (congr (congrArg Prod.mk a1) (congr (congrArg Prod.mk a2) a5))
end Ve

set_option maxRecDepth 100000
set_option maxHeartbeats 0
namespace LW
open PySem PySem.Spec PyProof.Rows L2 Ve

def top (i : Nat) : Stmt := PySem.Challenge.pw_purseahead_k77_errors_side_by_side.main.body.getD i (.Pass ⟨0, 0, 0, 0⟩)
abbrev s_law_hand : Stmt := top 66
theorem sc_law_hand : FnScope ["_law_script", "_law_total", "_law_cells", "_law_cell"] ["_law_script"] (defScope s_law_hand) := ⟨rfl, rfl, rfl, by decide +kernel, rfl, by decide +kernel, by decide +kernel⟩
abbrev s_law_mixed : Stmt := top 67
theorem sc_law_mixed : FnScope ["_law_number", "_law_turn", "_law_once", "_law_twice"] ["_law_number", "_law_turn"] (defScope s_law_mixed) := ⟨rfl, rfl, rfl, by decide +kernel, rfl, by decide +kernel, by decide +kernel⟩
abbrev s_law_take : Stmt := top 68
theorem sc_law_take : FnScope ["_law_hand_here", "_law_many", "_law_cell", "_law_rest"] ["_law_hand_here", "_law_many"] (defScope s_law_take) := ⟨rfl, rfl, rfl, by decide +kernel, rfl, by decide +kernel, by decide +kernel⟩
abbrev s_law_several : Stmt := top 69
theorem sc_law_several : FnScope ["_law_a", "_law_b", "_law_c", "_law_one", "_law_kept", "_law_two", "_law_three", "_law_more"] ["_law_a", "_law_b", "_law_c"] (defScope s_law_several) := ⟨rfl, rfl, rfl, by decide +kernel, rfl, by decide +kernel, by decide +kernel⟩
abbrev s_law_singles : Stmt := top 70
theorem sc_law_singles : FnScope ["_law_a", "_law_one", "_law_kept", "_law_two", "_law_three", "_law_four", "_law_five"] ["_law_a"] (defScope s_law_singles) := ⟨rfl, rfl, rfl, by decide +kernel, rfl, by decide +kernel, by decide +kernel⟩
abbrev s_law_classes : Stmt := top 71
theorem sc_law_classes : FnScope ["_law_e", "_law_rows"] ["_law_e"] (defScope s_law_classes) := ⟨rfl, rfl, rfl, by decide +kernel, rfl, by decide +kernel, by decide +kernel⟩
abbrev s_law : Stmt := top 72
theorem sc_law : FnScope ["_law_script", "_law_hand_here", "_law_a", "_law_b", "_law_several_here", "_law_singles_here", "_law_found", "_law_at", "_law_other"] ["_law_script"] (defScope s_law) := ⟨rfl, rfl, rfl, by decide +kernel, rfl, by decide +kernel, by decide +kernel⟩
abbrev s_BadChart___init : Stmt := inClass (top 2) 0
theorem sc_BadChart___init : FnScope ["self", "what", "index"] ["self", "what", "index"] (defScope s_BadChart___init) := ⟨rfl, rfl, rfl, by decide +kernel, rfl, by decide +kernel, by decide +kernel⟩
abbrev s_BadPlace___init : Stmt := inClass (top 3) 0
theorem sc_BadPlace___init : FnScope ["self", "place"] ["self", "place"] (defScope s_BadPlace___init) := ⟨rfl, rfl, rfl, by decide +kernel, rfl, by decide +kernel, by decide +kernel⟩
abbrev s_BadArrow___init : Stmt := inClass (top 4) 0
theorem sc_BadArrow___init : FnScope ["self", "arrow"] ["self", "arrow"] (defScope s_BadArrow___init) := ⟨rfl, rfl, rfl, by decide +kernel, rfl, by decide +kernel, by decide +kernel⟩
abbrev s_BadRun___init : Stmt := inClass (top 7) 0
theorem sc_BadRun___init : FnScope ["self", "index"] ["self", "index"] (defScope s_BadRun___init) := ⟨rfl, rfl, rfl, by decide +kernel, rfl, by decide +kernel, by decide +kernel⟩
abbrev s_BadLength___init : Stmt := inClass (top 8) 0
theorem sc_BadLength___init : FnScope ["self", "length"] ["self", "length"] (defScope s_BadLength___init) := ⟨rfl, rfl, rfl, by decide +kernel, rfl, by decide +kernel, by decide +kernel⟩
abbrev s_BadRing___init : Stmt := inClass (top 9) 0
theorem sc_BadRing___init : FnScope ["self", "index"] ["self", "index"] (defScope s_BadRing___init) := ⟨rfl, rfl, rfl, by decide +kernel, rfl, by decide +kernel, by decide +kernel⟩
abbrev s_BadText___init : Stmt := inClass (top 10) 0
theorem sc_BadText___init : FnScope ["self", "word"] ["self", "word"] (defScope s_BadText___init) := ⟨rfl, rfl, rfl, by decide +kernel, rfl, by decide +kernel, by decide +kernel⟩
abbrev s_BadMeter___init : Stmt := inClass (top 11) 0
theorem sc_BadMeter___init : FnScope ["self", "what", "index"] ["self", "what", "index"] (defScope s_BadMeter___init) := ⟨rfl, rfl, rfl, by decide +kernel, rfl, by decide +kernel, by decide +kernel⟩
abbrev s_Unlike___init : Stmt := inClass (top 12) 0
theorem sc_Unlike___init : FnScope ["self", "what"] ["self", "what"] (defScope s_Unlike___init) := ⟨rfl, rfl, rfl, by decide +kernel, rfl, by decide +kernel, by decide +kernel⟩
abbrev s_Drifting___init : Stmt := inClass (top 13) 0
theorem sc_Drifting___init : FnScope ["self", "ring", "by"] ["self", "ring", "by"] (defScope s_Drifting___init) := ⟨rfl, rfl, rfl, by decide +kernel, rfl, by decide +kernel, by decide +kernel⟩
abbrev s_BadDemands___init : Stmt := inClass (top 14) 0
theorem sc_BadDemands___init : FnScope ["self", "what", "index"] ["self", "what", "index"] (defScope s_BadDemands___init) := ⟨rfl, rfl, rfl, by decide +kernel, rfl, by decide +kernel, by decide +kernel⟩
abbrev s_BadHighs___init : Stmt := inClass (top 15) 0
theorem sc_BadHighs___init : FnScope ["self", "index"] ["self", "index"] (defScope s_BadHighs___init) := ⟨rfl, rfl, rfl, by decide +kernel, rfl, by decide +kernel, by decide +kernel⟩
abbrev s_BadLot___init : Stmt := inClass (top 16) 0
theorem sc_BadLot___init : FnScope ["self", "index"] ["self", "index"] (defScope s_BadLot___init) := ⟨rfl, rfl, rfl, by decide +kernel, rfl, by decide +kernel, by decide +kernel⟩
abbrev s_BadLeads___init : Stmt := inClass (top 17) 0
theorem sc_BadLeads___init : FnScope ["self", "index"] ["self", "index"] (defScope s_BadLeads___init) := ⟨rfl, rfl, rfl, by decide +kernel, rfl, by decide +kernel, by decide +kernel⟩
abbrev s_BadLows___init : Stmt := inClass (top 18) 0
theorem sc_BadLows___init : FnScope ["self", "index"] ["self", "index"] (defScope s_BadLows___init) := ⟨rfl, rfl, rfl, by decide +kernel, rfl, by decide +kernel, by decide +kernel⟩
abbrev s_NotEven___init : Stmt := inClass (top 19) 0
theorem sc_NotEven___init : FnScope ["self", "arrow"] ["self", "arrow"] (defScope s_NotEven___init) := ⟨rfl, rfl, rfl, by decide +kernel, rfl, by decide +kernel, by decide +kernel⟩
abbrev s_BadMost___init : Stmt := inClass (top 20) 0
theorem sc_BadMost___init : FnScope ["self", "most"] ["self", "most"] (defScope s_BadMost___init) := ⟨rfl, rfl, rfl, by decide +kernel, rfl, by decide +kernel, by decide +kernel⟩
abbrev s_TooTight___init : Stmt := inClass (top 21) 0
theorem sc_TooTight___init : FnScope ["self", "place"] ["self", "place"] (defScope s_TooTight___init) := ⟨rfl, rfl, rfl, by decide +kernel, rfl, by decide +kernel, by decide +kernel⟩
abbrev s_TooMany___init : Stmt := inClass (top 22) 0
theorem sc_TooMany___init : FnScope ["self", "count"] ["self", "count"] (defScope s_TooMany___init) := ⟨rfl, rfl, rfl, by decide +kernel, rfl, by decide +kernel, by decide +kernel⟩
abbrev s_BadWeights___init : Stmt := inClass (top 23) 0
theorem sc_BadWeights___init : FnScope ["self", "index"] ["self", "index"] (defScope s_BadWeights___init) := ⟨rfl, rfl, rfl, by decide +kernel, rfl, by decide +kernel, by decide +kernel⟩
abbrev s_BadPlaces___init : Stmt := inClass (top 24) 0
theorem sc_BadPlaces___init : FnScope ["self", "index"] ["self", "index"] (defScope s_BadPlaces___init) := ⟨rfl, rfl, rfl, by decide +kernel, rfl, by decide +kernel, by decide +kernel⟩
abbrev s_BadLimit___init : Stmt := inClass (top 25) 0
theorem sc_BadLimit___init : FnScope ["self", "limit"] ["self", "limit"] (defScope s_BadLimit___init) := ⟨rfl, rfl, rfl, by decide +kernel, rfl, by decide +kernel, by decide +kernel⟩
abbrev s_NotMetered___init : Stmt := inClass (top 26) 0
theorem sc_NotMetered___init : FnScope ["self", "what"] ["self", "what"] (defScope s_NotMetered___init) := ⟨rfl, rfl, rfl, by decide +kernel, rfl, by decide +kernel, by decide +kernel⟩
abbrev s_BadGates___init : Stmt := inClass (top 27) 0
theorem sc_BadGates___init : FnScope ["self", "index"] ["self", "index"] (defScope s_BadGates___init) := ⟨rfl, rfl, rfl, by decide +kernel, rfl, by decide +kernel, by decide +kernel⟩
abbrev s_BadStep___init : Stmt := inClass (top 28) 0
theorem sc_BadStep___init : FnScope ["self", "arrow"] ["self", "arrow"] (defScope s_BadStep___init) := ⟨rfl, rfl, rfl, by decide +kernel, rfl, by decide +kernel, by decide +kernel⟩
abbrev s_BadWorks___init : Stmt := inClass (top 29) 0
theorem sc_BadWorks___init : FnScope ["self", "what", "procedure", "place"] ["self", "what", "procedure", "place"] (defScope s_BadWorks___init) := ⟨rfl, rfl, rfl, by decide +kernel, rfl, by decide +kernel, by decide +kernel⟩
abbrev s_BadPoint___init : Stmt := inClass (top 30) 0
theorem sc_BadPoint___init : FnScope ["self", "point"] ["self", "point"] (defScope s_BadPoint___init) := ⟨rfl, rfl, rfl, by decide +kernel, rfl, by decide +kernel, by decide +kernel⟩
abbrev s_BadSteps___init : Stmt := inClass (top 31) 0
theorem sc_BadSteps___init : FnScope ["self", "index"] ["self", "index"] (defScope s_BadSteps___init) := ⟨rfl, rfl, rfl, by decide +kernel, rfl, by decide +kernel, by decide +kernel⟩
abbrev s_BadProcedure___init : Stmt := inClass (top 32) 0
theorem sc_BadProcedure___init : FnScope ["self", "procedure"] ["self", "procedure"] (defScope s_BadProcedure___init) := ⟨rfl, rfl, rfl, by decide +kernel, rfl, by decide +kernel, by decide +kernel⟩
abbrev s_BadWorkMeter___init : Stmt := inClass (top 33) 0
theorem sc_BadWorkMeter___init : FnScope ["self", "what", "procedure", "index"] ["self", "what", "procedure", "index"] (defScope s_BadWorkMeter___init) := ⟨rfl, rfl, rfl, by decide +kernel, rfl, by decide +kernel, by decide +kernel⟩
abbrev s_BadWorkLeads___init : Stmt := inClass (top 34) 0
theorem sc_BadWorkLeads___init : FnScope ["self", "procedure", "place"] ["self", "procedure", "place"] (defScope s_BadWorkLeads___init) := ⟨rfl, rfl, rfl, by decide +kernel, rfl, by decide +kernel, by decide +kernel⟩
abbrev s_NotEvenWorks___init : Stmt := inClass (top 35) 0
theorem sc_NotEvenWorks___init : FnScope ["self", "mark"] ["self", "mark"] (defScope s_NotEvenWorks___init) := ⟨rfl, rfl, rfl, by decide +kernel, rfl, by decide +kernel, by decide +kernel⟩
abbrev s_BadWorkGates___init : Stmt := inClass (top 36) 0
theorem sc_BadWorkGates___init : FnScope ["self", "procedure", "place"] ["self", "procedure", "place"] (defScope s_BadWorkGates___init) := ⟨rfl, rfl, rfl, by decide +kernel, rfl, by decide +kernel, by decide +kernel⟩
abbrev s_BadWorkLot___init : Stmt := inClass (top 37) 0
theorem sc_BadWorkLot___init : FnScope ["self", "index"] ["self", "index"] (defScope s_BadWorkLot___init) := ⟨rfl, rfl, rfl, by decide +kernel, rfl, by decide +kernel, by decide +kernel⟩
abbrev s_RingOfCalls___init : Stmt := inClass (top 38) 0
theorem sc_RingOfCalls___init : FnScope ["self", "points"] ["self", "points"] (defScope s_RingOfCalls___init) := ⟨rfl, rfl, rfl, by decide +kernel, rfl, by decide +kernel, by decide +kernel⟩
abbrev s_BadKinds___init : Stmt := inClass (top 39) 0
theorem sc_BadKinds___init : FnScope ["self", "what", "index"] ["self", "what", "index"] (defScope s_BadKinds___init) := ⟨rfl, rfl, rfl, by decide +kernel, rfl, by decide +kernel, by decide +kernel⟩
abbrev s_NoKind___init : Stmt := inClass (top 40) 0
theorem sc_NoKind___init : FnScope ["self", "kind"] ["self", "kind"] (defScope s_NoKind___init) := ⟨rfl, rfl, rfl, by decide +kernel, rfl, by decide +kernel, by decide +kernel⟩
abbrev s_BadPrices___init : Stmt := inClass (top 41) 0
theorem sc_BadPrices___init : FnScope ["self", "index"] ["self", "index"] (defScope s_BadPrices___init) := ⟨rfl, rfl, rfl, by decide +kernel, rfl, by decide +kernel, by decide +kernel⟩
abbrev s_BadKindMeter___init : Stmt := inClass (top 42) 0
theorem sc_BadKindMeter___init : FnScope ["self", "index"] ["self", "index"] (defScope s_BadKindMeter___init) := ⟨rfl, rfl, rfl, by decide +kernel, rfl, by decide +kernel, by decide +kernel⟩
abbrev s_BadRows___init : Stmt := inClass (top 43) 0
theorem sc_BadRows___init : FnScope ["self", "index"] ["self", "index"] (defScope s_BadRows___init) := ⟨rfl, rfl, rfl, by decide +kernel, rfl, by decide +kernel, by decide +kernel⟩
abbrev s_NotTwo___init : Stmt := inClass (top 44) 0
theorem sc_NotTwo___init : FnScope ["self", "kinds"] ["self", "kinds"] (defScope s_NotTwo___init) := ⟨rfl, rfl, rfl, by decide +kernel, rfl, by decide +kernel, by decide +kernel⟩
abbrev s_CantMove___init : Stmt := inClass (top 46) 0
theorem sc_CantMove___init : FnScope ["self", "arrow"] ["self", "arrow"] (defScope s_CantMove___init) := ⟨rfl, rfl, rfl, by decide +kernel, rfl, by decide +kernel, by decide +kernel⟩
abbrev s_Parted___init : Stmt := inClass (top 47) 0
theorem sc_Parted___init : FnScope ["self", "place"] ["self", "place"] (defScope s_Parted___init) := ⟨rfl, rfl, rfl, by decide +kernel, rfl, by decide +kernel, by decide +kernel⟩
abbrev s_BadCopy___init : Stmt := inClass (top 48) 0
theorem sc_BadCopy___init : FnScope ["self", "what", "index"] ["self", "what", "index"] (defScope s_BadCopy___init) := ⟨rfl, rfl, rfl, by decide +kernel, rfl, by decide +kernel, by decide +kernel⟩
abbrev s_BadLanes___init : Stmt := inClass (top 49) 0
theorem sc_BadLanes___init : FnScope ["self", "what", "index"] ["self", "what", "index"] (defScope s_BadLanes___init) := ⟨rfl, rfl, rfl, by decide +kernel, rfl, by decide +kernel, by decide +kernel⟩
abbrev s_NoLane___init : Stmt := inClass (top 50) 0
theorem sc_NoLane___init : FnScope ["self", "lane"] ["self", "lane"] (defScope s_NoLane___init) := ⟨rfl, rfl, rfl, by decide +kernel, rfl, by decide +kernel, by decide +kernel⟩
abbrev s_NotRunning___init : Stmt := inClass (top 51) 0
theorem sc_NotRunning___init : FnScope ["self", "lane", "stand"] ["self", "lane", "stand"] (defScope s_NotRunning___init) := ⟨rfl, rfl, rfl, by decide +kernel, rfl, by decide +kernel, by decide +kernel⟩
abbrev s_NotHere___init : Stmt := inClass (top 53) 0
theorem sc_NotHere___init : FnScope ["self", "arrow"] ["self", "arrow"] (defScope s_NotHere___init) := ⟨rfl, rfl, rfl, by decide +kernel, rfl, by decide +kernel, by decide +kernel⟩
abbrev s_Refused___init : Stmt := inClass (top 54) 0
theorem sc_Refused___init : FnScope ["self", "lane", "charge", "purse"] ["self", "lane", "charge", "purse"] (defScope s_Refused___init) := ⟨rfl, rfl, rfl, by decide +kernel, rfl, by decide +kernel, by decide +kernel⟩
abbrev s_BadDeeds___init : Stmt := inClass (top 55) 0
theorem sc_BadDeeds___init : FnScope ["self", "index"] ["self", "index"] (defScope s_BadDeeds___init) := ⟨rfl, rfl, rfl, by decide +kernel, rfl, by decide +kernel, by decide +kernel⟩
abbrev s_BadLaneRuns___init : Stmt := inClass (top 56) 0
theorem sc_BadLaneRuns___init : FnScope ["self", "lane"] ["self", "lane"] (defScope s_BadLaneRuns___init) := ⟨rfl, rfl, rfl, by decide +kernel, rfl, by decide +kernel, by decide +kernel⟩
abbrev s_BadLog___init : Stmt := inClass (top 57) 0
theorem sc_BadLog___init : FnScope ["self", "index"] ["self", "index"] (defScope s_BadLog___init) := ⟨rfl, rfl, rfl, by decide +kernel, rfl, by decide +kernel, by decide +kernel⟩
abbrev s_Misfit___init : Stmt := inClass (top 58) 0
theorem sc_Misfit___init : FnScope ["self", "index"] ["self", "index"] (defScope s_Misfit___init) := ⟨rfl, rfl, rfl, by decide +kernel, rfl, by decide +kernel, by decide +kernel⟩
abbrev s_NotThere___init : Stmt := inClass (top 59) 0
theorem sc_NotThere___init : FnScope ["self", "place"] ["self", "place"] (defScope s_NotThere___init) := ⟨rfl, rfl, rfl, by decide +kernel, rfl, by decide +kernel, by decide +kernel⟩
abbrev s_BadEdit___init : Stmt := inClass (top 61) 0
theorem sc_BadEdit___init : FnScope ["self", "index", "what"] ["self", "index", "what"] (defScope s_BadEdit___init) := ⟨rfl, rfl, rfl, by decide +kernel, rfl, by decide +kernel, by decide +kernel⟩
abbrev s_BadPool___init : Stmt := inClass (top 63) 0
theorem sc_BadPool___init : FnScope ["self", "index"] ["self", "index"] (defScope s_BadPool___init) := ⟨rfl, rfl, rfl, by decide +kernel, rfl, by decide +kernel, by decide +kernel⟩

def ord1 : List Str := ["BadChart", "BadMeter", "Drifting", "BadDemands", "BadWorkLeads", "BadWorkGates", "BadKinds", "BadCopy", "BadLanes", "NotRunning", "BadEdit", "BadWorks", "BadWorkMeter", "Refused"]
def ord2 : List Str := ((["BadPlace", "BadArrow", "BadRun", "BadLength", "BadRing", "BadText", "Unlike", "BadHighs", "BadLot", "BadLeads", "BadLows", "NotEven", "BadMost", "TooTight", "TooMany", "BadWeights", "BadPlaces", "BadLimit", "NotMetered", "BadGates", "BadStep", "BadPoint", "BadSteps", "BadProcedure", "NotEvenWorks", "BadWorkLot", "RingOfCalls", "NoKind", "BadPrices", "BadKindMeter"] : List Str) ++ (["BadRows", "NotTwo", "CantMove", "Parted", "NoLane", "NotHere", "BadDeeds", "BadLaneRuns", "BadLog", "Misfit", "NotThere", "BadPool"] : List Str))
def ord3 : List Str := ["BadFactor", "BadMoves", "BadMove", "NoRoom", "NothingSeen", "BadGoal", "NothingDone"]
def ord : List Str := ord1 ++ ord2 ++ ord3
def d_law_hand : He.DefD := ⟨("_law_hand", none), "_law_hand", "_law_hand", defArgs s_law_hand, defBody s_law_hand, defScope s_law_hand, [], []⟩
def d_law_mixed : He.DefD := ⟨("_law_mixed", none), "_law_mixed", "_law_mixed", defArgs s_law_mixed, defBody s_law_mixed, defScope s_law_mixed, [], []⟩
def d_law_take : He.DefD := ⟨("_law_take", none), "_law_take", "_law_take", defArgs s_law_take, defBody s_law_take, defScope s_law_take, [], []⟩
def d_law_several : He.DefD := ⟨("_law_several", none), "_law_several", "_law_several", defArgs s_law_several, defBody s_law_several, defScope s_law_several, [], []⟩
def d_law_singles : He.DefD := ⟨("_law_singles", none), "_law_singles", "_law_singles", defArgs s_law_singles, defBody s_law_singles, defScope s_law_singles, [], []⟩
def d_law_classes : He.DefD := ⟨("_law_classes", none), "_law_classes", "_law_classes", defArgs s_law_classes, defBody s_law_classes, defScope s_law_classes, [], []⟩
def d_law : He.DefD := ⟨("law", none), "law", "law", defArgs s_law, defBody s_law, defScope s_law, [], []⟩
def d_BadChart___init : He.DefD := ⟨("BadChart", some "__init__"), "__init__", "BadChart.__init__", defArgs s_BadChart___init, defBody s_BadChart___init, defScope s_BadChart___init, [], []⟩
def d_BadPlace___init : He.DefD := ⟨("BadPlace", some "__init__"), "__init__", "BadPlace.__init__", defArgs s_BadPlace___init, defBody s_BadPlace___init, defScope s_BadPlace___init, [], []⟩
def d_BadArrow___init : He.DefD := ⟨("BadArrow", some "__init__"), "__init__", "BadArrow.__init__", defArgs s_BadArrow___init, defBody s_BadArrow___init, defScope s_BadArrow___init, [], []⟩
def d_BadRun___init : He.DefD := ⟨("BadRun", some "__init__"), "__init__", "BadRun.__init__", defArgs s_BadRun___init, defBody s_BadRun___init, defScope s_BadRun___init, [], []⟩
def d_BadLength___init : He.DefD := ⟨("BadLength", some "__init__"), "__init__", "BadLength.__init__", defArgs s_BadLength___init, defBody s_BadLength___init, defScope s_BadLength___init, [], []⟩
def d_BadRing___init : He.DefD := ⟨("BadRing", some "__init__"), "__init__", "BadRing.__init__", defArgs s_BadRing___init, defBody s_BadRing___init, defScope s_BadRing___init, [], []⟩
def d_BadText___init : He.DefD := ⟨("BadText", some "__init__"), "__init__", "BadText.__init__", defArgs s_BadText___init, defBody s_BadText___init, defScope s_BadText___init, [], []⟩
def d_BadMeter___init : He.DefD := ⟨("BadMeter", some "__init__"), "__init__", "BadMeter.__init__", defArgs s_BadMeter___init, defBody s_BadMeter___init, defScope s_BadMeter___init, [], []⟩
def d_Unlike___init : He.DefD := ⟨("Unlike", some "__init__"), "__init__", "Unlike.__init__", defArgs s_Unlike___init, defBody s_Unlike___init, defScope s_Unlike___init, [], []⟩
def d_Drifting___init : He.DefD := ⟨("Drifting", some "__init__"), "__init__", "Drifting.__init__", defArgs s_Drifting___init, defBody s_Drifting___init, defScope s_Drifting___init, [], []⟩
def d_BadDemands___init : He.DefD := ⟨("BadDemands", some "__init__"), "__init__", "BadDemands.__init__", defArgs s_BadDemands___init, defBody s_BadDemands___init, defScope s_BadDemands___init, [], []⟩
def d_BadHighs___init : He.DefD := ⟨("BadHighs", some "__init__"), "__init__", "BadHighs.__init__", defArgs s_BadHighs___init, defBody s_BadHighs___init, defScope s_BadHighs___init, [], []⟩
def d_BadLot___init : He.DefD := ⟨("BadLot", some "__init__"), "__init__", "BadLot.__init__", defArgs s_BadLot___init, defBody s_BadLot___init, defScope s_BadLot___init, [], []⟩
def d_BadLeads___init : He.DefD := ⟨("BadLeads", some "__init__"), "__init__", "BadLeads.__init__", defArgs s_BadLeads___init, defBody s_BadLeads___init, defScope s_BadLeads___init, [], []⟩
def d_BadLows___init : He.DefD := ⟨("BadLows", some "__init__"), "__init__", "BadLows.__init__", defArgs s_BadLows___init, defBody s_BadLows___init, defScope s_BadLows___init, [], []⟩
def d_NotEven___init : He.DefD := ⟨("NotEven", some "__init__"), "__init__", "NotEven.__init__", defArgs s_NotEven___init, defBody s_NotEven___init, defScope s_NotEven___init, [], []⟩
def d_BadMost___init : He.DefD := ⟨("BadMost", some "__init__"), "__init__", "BadMost.__init__", defArgs s_BadMost___init, defBody s_BadMost___init, defScope s_BadMost___init, [], []⟩
def d_TooTight___init : He.DefD := ⟨("TooTight", some "__init__"), "__init__", "TooTight.__init__", defArgs s_TooTight___init, defBody s_TooTight___init, defScope s_TooTight___init, [], []⟩
def d_TooMany___init : He.DefD := ⟨("TooMany", some "__init__"), "__init__", "TooMany.__init__", defArgs s_TooMany___init, defBody s_TooMany___init, defScope s_TooMany___init, [], []⟩
def d_BadWeights___init : He.DefD := ⟨("BadWeights", some "__init__"), "__init__", "BadWeights.__init__", defArgs s_BadWeights___init, defBody s_BadWeights___init, defScope s_BadWeights___init, [], []⟩
def d_BadPlaces___init : He.DefD := ⟨("BadPlaces", some "__init__"), "__init__", "BadPlaces.__init__", defArgs s_BadPlaces___init, defBody s_BadPlaces___init, defScope s_BadPlaces___init, [], []⟩
def d_BadLimit___init : He.DefD := ⟨("BadLimit", some "__init__"), "__init__", "BadLimit.__init__", defArgs s_BadLimit___init, defBody s_BadLimit___init, defScope s_BadLimit___init, [], []⟩
def d_NotMetered___init : He.DefD := ⟨("NotMetered", some "__init__"), "__init__", "NotMetered.__init__", defArgs s_NotMetered___init, defBody s_NotMetered___init, defScope s_NotMetered___init, [], []⟩
def d_BadGates___init : He.DefD := ⟨("BadGates", some "__init__"), "__init__", "BadGates.__init__", defArgs s_BadGates___init, defBody s_BadGates___init, defScope s_BadGates___init, [], []⟩
def d_BadStep___init : He.DefD := ⟨("BadStep", some "__init__"), "__init__", "BadStep.__init__", defArgs s_BadStep___init, defBody s_BadStep___init, defScope s_BadStep___init, [], []⟩
def d_BadWorks___init : He.DefD := ⟨("BadWorks", some "__init__"), "__init__", "BadWorks.__init__", defArgs s_BadWorks___init, defBody s_BadWorks___init, defScope s_BadWorks___init, [], []⟩
def d_BadPoint___init : He.DefD := ⟨("BadPoint", some "__init__"), "__init__", "BadPoint.__init__", defArgs s_BadPoint___init, defBody s_BadPoint___init, defScope s_BadPoint___init, [], []⟩
def d_BadSteps___init : He.DefD := ⟨("BadSteps", some "__init__"), "__init__", "BadSteps.__init__", defArgs s_BadSteps___init, defBody s_BadSteps___init, defScope s_BadSteps___init, [], []⟩
def d_BadProcedure___init : He.DefD := ⟨("BadProcedure", some "__init__"), "__init__", "BadProcedure.__init__", defArgs s_BadProcedure___init, defBody s_BadProcedure___init, defScope s_BadProcedure___init, [], []⟩
def d_BadWorkMeter___init : He.DefD := ⟨("BadWorkMeter", some "__init__"), "__init__", "BadWorkMeter.__init__", defArgs s_BadWorkMeter___init, defBody s_BadWorkMeter___init, defScope s_BadWorkMeter___init, [], []⟩
def d_BadWorkLeads___init : He.DefD := ⟨("BadWorkLeads", some "__init__"), "__init__", "BadWorkLeads.__init__", defArgs s_BadWorkLeads___init, defBody s_BadWorkLeads___init, defScope s_BadWorkLeads___init, [], []⟩
def d_NotEvenWorks___init : He.DefD := ⟨("NotEvenWorks", some "__init__"), "__init__", "NotEvenWorks.__init__", defArgs s_NotEvenWorks___init, defBody s_NotEvenWorks___init, defScope s_NotEvenWorks___init, [], []⟩
def d_BadWorkGates___init : He.DefD := ⟨("BadWorkGates", some "__init__"), "__init__", "BadWorkGates.__init__", defArgs s_BadWorkGates___init, defBody s_BadWorkGates___init, defScope s_BadWorkGates___init, [], []⟩
def d_BadWorkLot___init : He.DefD := ⟨("BadWorkLot", some "__init__"), "__init__", "BadWorkLot.__init__", defArgs s_BadWorkLot___init, defBody s_BadWorkLot___init, defScope s_BadWorkLot___init, [], []⟩
def d_RingOfCalls___init : He.DefD := ⟨("RingOfCalls", some "__init__"), "__init__", "RingOfCalls.__init__", defArgs s_RingOfCalls___init, defBody s_RingOfCalls___init, defScope s_RingOfCalls___init, [], []⟩
def d_BadKinds___init : He.DefD := ⟨("BadKinds", some "__init__"), "__init__", "BadKinds.__init__", defArgs s_BadKinds___init, defBody s_BadKinds___init, defScope s_BadKinds___init, [], []⟩
def d_NoKind___init : He.DefD := ⟨("NoKind", some "__init__"), "__init__", "NoKind.__init__", defArgs s_NoKind___init, defBody s_NoKind___init, defScope s_NoKind___init, [], []⟩
def d_BadPrices___init : He.DefD := ⟨("BadPrices", some "__init__"), "__init__", "BadPrices.__init__", defArgs s_BadPrices___init, defBody s_BadPrices___init, defScope s_BadPrices___init, [], []⟩
def d_BadKindMeter___init : He.DefD := ⟨("BadKindMeter", some "__init__"), "__init__", "BadKindMeter.__init__", defArgs s_BadKindMeter___init, defBody s_BadKindMeter___init, defScope s_BadKindMeter___init, [], []⟩
def d_BadRows___init : He.DefD := ⟨("BadRows", some "__init__"), "__init__", "BadRows.__init__", defArgs s_BadRows___init, defBody s_BadRows___init, defScope s_BadRows___init, [], []⟩
def d_NotTwo___init : He.DefD := ⟨("NotTwo", some "__init__"), "__init__", "NotTwo.__init__", defArgs s_NotTwo___init, defBody s_NotTwo___init, defScope s_NotTwo___init, [], []⟩
def d_CantMove___init : He.DefD := ⟨("CantMove", some "__init__"), "__init__", "CantMove.__init__", defArgs s_CantMove___init, defBody s_CantMove___init, defScope s_CantMove___init, [], []⟩
def d_Parted___init : He.DefD := ⟨("Parted", some "__init__"), "__init__", "Parted.__init__", defArgs s_Parted___init, defBody s_Parted___init, defScope s_Parted___init, [], []⟩
def d_BadCopy___init : He.DefD := ⟨("BadCopy", some "__init__"), "__init__", "BadCopy.__init__", defArgs s_BadCopy___init, defBody s_BadCopy___init, defScope s_BadCopy___init, [], []⟩
def d_BadLanes___init : He.DefD := ⟨("BadLanes", some "__init__"), "__init__", "BadLanes.__init__", defArgs s_BadLanes___init, defBody s_BadLanes___init, defScope s_BadLanes___init, [], []⟩
def d_NoLane___init : He.DefD := ⟨("NoLane", some "__init__"), "__init__", "NoLane.__init__", defArgs s_NoLane___init, defBody s_NoLane___init, defScope s_NoLane___init, [], []⟩
def d_NotRunning___init : He.DefD := ⟨("NotRunning", some "__init__"), "__init__", "NotRunning.__init__", defArgs s_NotRunning___init, defBody s_NotRunning___init, defScope s_NotRunning___init, [], []⟩
def d_NotHere___init : He.DefD := ⟨("NotHere", some "__init__"), "__init__", "NotHere.__init__", defArgs s_NotHere___init, defBody s_NotHere___init, defScope s_NotHere___init, [], []⟩
def d_Refused___init : He.DefD := ⟨("Refused", some "__init__"), "__init__", "Refused.__init__", defArgs s_Refused___init, defBody s_Refused___init, defScope s_Refused___init, [], []⟩
def d_BadDeeds___init : He.DefD := ⟨("BadDeeds", some "__init__"), "__init__", "BadDeeds.__init__", defArgs s_BadDeeds___init, defBody s_BadDeeds___init, defScope s_BadDeeds___init, [], []⟩
def d_BadLaneRuns___init : He.DefD := ⟨("BadLaneRuns", some "__init__"), "__init__", "BadLaneRuns.__init__", defArgs s_BadLaneRuns___init, defBody s_BadLaneRuns___init, defScope s_BadLaneRuns___init, [], []⟩
def d_BadLog___init : He.DefD := ⟨("BadLog", some "__init__"), "__init__", "BadLog.__init__", defArgs s_BadLog___init, defBody s_BadLog___init, defScope s_BadLog___init, [], []⟩
def d_Misfit___init : He.DefD := ⟨("Misfit", some "__init__"), "__init__", "Misfit.__init__", defArgs s_Misfit___init, defBody s_Misfit___init, defScope s_Misfit___init, [], []⟩
def d_NotThere___init : He.DefD := ⟨("NotThere", some "__init__"), "__init__", "NotThere.__init__", defArgs s_NotThere___init, defBody s_NotThere___init, defScope s_NotThere___init, [], []⟩
def d_BadEdit___init : He.DefD := ⟨("BadEdit", some "__init__"), "__init__", "BadEdit.__init__", defArgs s_BadEdit___init, defBody s_BadEdit___init, defScope s_BadEdit___init, [], []⟩
def d_BadPool___init : He.DefD := ⟨("BadPool", some "__init__"), "__init__", "BadPool.__init__", defArgs s_BadPool___init, defBody s_BadPool___init, defScope s_BadPool___init, [], []⟩
def fn : List He.DefD := [d_law_hand, d_law_mixed, d_law_take, d_law_several, d_law_singles, d_law_classes, d_law, d_BadChart___init, d_BadPlace___init, d_BadArrow___init, d_BadRun___init, d_BadLength___init, d_BadRing___init, d_BadText___init, d_BadMeter___init, d_Unlike___init, d_Drifting___init, d_BadDemands___init, d_BadHighs___init, d_BadLot___init, d_BadLeads___init, d_BadLows___init, d_NotEven___init, d_BadMost___init, d_TooTight___init, d_TooMany___init, d_BadWeights___init, d_BadPlaces___init, d_BadLimit___init, d_NotMetered___init, d_BadGates___init, d_BadStep___init, d_BadWorks___init, d_BadPoint___init, d_BadSteps___init, d_BadProcedure___init, d_BadWorkMeter___init, d_BadWorkLeads___init, d_NotEvenWorks___init, d_BadWorkGates___init, d_BadWorkLot___init, d_RingOfCalls___init, d_BadKinds___init, d_NoKind___init, d_BadPrices___init, d_BadKindMeter___init, d_BadRows___init, d_NotTwo___init, d_CantMove___init, d_Parted___init, d_BadCopy___init, d_BadLanes___init, d_NoLane___init, d_NotRunning___init, d_NotHere___init, d_Refused___init, d_BadDeeds___init, d_BadLaneRuns___init, d_BadLog___init, d_Misfit___init, d_NotThere___init, d_BadEdit___init, d_BadPool___init]

def frees : List Str := ["len", "int", "abs", "isinstance", "range", "ValueError"]
def globs : List Str := ((["_law_hand", "_law_mixed", "_law_take", "_law_several", "_law_singles", "_law_classes", "law", "MeterError", "BadChart", "BadPlace", "BadArrow", "BadRun", "BadLength", "BadRing", "BadText", "BadMeter", "Unlike", "Drifting", "BadDemands", "BadHighs", "BadLot", "BadLeads", "BadLows", "NotEven", "BadMost", "TooTight", "TooMany", "BadWeights", "BadPlaces", "BadLimit"] : List Str) ++ (["NotMetered", "BadGates", "BadStep", "BadWorks", "BadPoint", "BadSteps", "BadProcedure", "BadWorkMeter", "BadWorkLeads", "NotEvenWorks", "BadWorkGates", "BadWorkLot", "RingOfCalls", "BadKinds", "NoKind", "BadPrices", "BadKindMeter", "BadRows", "NotTwo", "CantMove", "Parted", "BadCopy", "BadLanes", "NoLane", "NotRunning", "NotHere", "Refused", "BadDeeds", "BadLaneRuns", "BadLog"] : List Str) ++ (["Misfit", "NotThere", "BadEdit", "BadPool", "BadFactor", "BadMoves", "BadMove", "NoRoom", "NothingSeen", "BadGoal", "NothingDone"] : List Str))
def cfs : List (Str × List Str) := ([("BadChart", ["what", "index"]), ("BadPlace", ["place"]), ("BadArrow", ["arrow"]), ("BadRun", ["index"]), ("BadLength", ["length"]), ("BadRing", ["index"]), ("BadText", ["word"]), ("BadMeter", ["what", "index"]), ("Unlike", ["what"]), ("Drifting", ["ring", "by"]), ("BadDemands", ["what", "index"]), ("BadHighs", ["index"]), ("BadLot", ["index"]), ("BadLeads", ["index"]), ("BadLows", ["index"]), ("NotEven", ["arrow"]), ("BadMost", ["most"]), ("TooTight", ["place"]), ("TooMany", ["count"]), ("BadWeights", ["index"])] : List (Str × List Str)) ++ ([("BadPlaces", ["index"]), ("BadLimit", ["limit"]), ("NotMetered", ["what"]), ("BadGates", ["index"]), ("BadStep", ["arrow"]), ("BadWorks", ["what", "procedure", "place"]), ("BadPoint", ["point"]), ("BadSteps", ["index"]), ("BadProcedure", ["procedure"]), ("BadWorkMeter", ["what", "procedure", "index"]), ("BadWorkLeads", ["procedure", "place"]), ("NotEvenWorks", ["mark"]), ("BadWorkGates", ["procedure", "place"]), ("BadWorkLot", ["index"]), ("RingOfCalls", ["points"]), ("BadKinds", ["what", "index"]), ("NoKind", ["kind"]), ("BadPrices", ["index"]), ("BadKindMeter", ["index"]), ("BadRows", ["index"])] : List (Str × List Str)) ++ ([("NotTwo", ["kinds"]), ("CantMove", ["arrow"]), ("Parted", ["place"]), ("BadCopy", ["what", "index"]), ("BadLanes", ["what", "index"]), ("NoLane", ["lane"]), ("NotRunning", ["lane", "stand"]), ("NotHere", ["arrow"]), ("Refused", ["lane", "charge", "purse"]), ("BadDeeds", ["index"]), ("BadLaneRuns", ["lane"]), ("BadLog", ["index"]), ("Misfit", ["index"]), ("NotThere", ["place"]), ("BadEdit", ["index", "what"]), ("BadPool", ["index"])] : List (Str × List Str))
def as : List Addr := mainGlobals :: (([24, 44, 63, 82, 94, 106, 125, 144, 163, 182, 201, 220, 239, 258, 277, 296, 315, 334, 353, 372, 391, 410, 429, 448, 467, 486, 505, 524, 543, 562] : List Addr) ++ ([581, 600, 619, 638, 657, 676, 695, 714, 733, 752, 771, 790, 809, 828, 840, 859, 878, 897, 916, 935, 954, 966, 985, 1004, 1023, 1042, 1061, 1080, 1099, 1111] : List Addr) ++ ([1130, 1142, 1161, 1173, 23, 43, 62, 81, 93, 105, 124, 143, 162, 181, 200, 219, 238, 257, 276, 295, 314, 333, 352, 371, 390, 409, 428, 447, 466, 485] : List Addr) ++ ([504, 523, 542, 561, 580, 599, 618, 637, 656, 675, 694, 713, 732, 751, 770, 789, 808, 827, 839, 858, 877, 896, 915, 934, 953, 965, 984, 1003, 1022, 1041] : List Addr) ++ ([1060, 1079, 1098, 1110, 1129, 1141, 1160, 1172, 39, 41, 58, 60, 77, 79, 120, 122, 139, 141, 158, 160, 177, 179, 196, 198, 215, 217, 234, 236, 253, 255] : List Addr) ++ ([272, 274, 291, 293, 310, 312, 329, 331, 348, 350, 367, 369, 386, 388, 405, 407, 424, 426, 443, 445, 462, 464, 481, 483, 500, 502, 519, 521, 538, 540] : List Addr) ++ ([557, 559, 576, 578, 595, 597, 614, 616, 633, 635, 652, 654, 671, 673, 690, 692, 709, 711, 728, 730, 747, 749, 766, 768, 785, 787, 804, 806, 823, 825] : List Addr) ++ ([854, 856, 873, 875, 892, 894, 911, 913, 930, 932, 949, 951, 980, 982, 999, 1001, 1018, 1020, 1037, 1039, 1056, 1058, 1075, 1077, 1094, 1096, 1125, 1127, 1156, 1158] : List Addr) ++ ([1180, 1182, 1187, 1189, 1194, 1196, 1201, 1203, 1208, 1210, 1215, 1217, 1220, 1222, 40, 59, 78, 121, 140, 159, 178, 197, 216, 235, 254, 273, 292, 311, 330, 349] : List Addr) ++ ([368, 387, 406, 425, 444, 463, 482, 501, 520, 539, 558, 577, 596, 615, 634, 653, 672, 691, 710, 729, 748, 767, 786, 805, 824, 855, 874, 893, 912, 931] : List Addr) ++ ([950, 981, 1000, 1019, 1038, 1057, 1076, 1095, 1126, 1157, 1181, 1188, 1195, 1202, 1209, 1216, 1221] : List Addr))
def loose : List Str := (["_law_hand", "_law_mixed", "_law_take", "_law_several", "_law_singles", "_law_classes"] : List Str) ++ globs.drop 7
def xB (K : PySem.W.Frag) (q : Str × List Str) : Bool := oexB K (He.ga K q.1) && (xfB K (He.ga K q.1) && (isxB K (He.ga K q.1) && (decide (PySem.W.findIn K (.ref (He.ga K q.1)) "__init__" = some (some (.ref (He.ma K (He.ga K q.1) "__init__")))) &&
  (decide (PySem.W.typeIn K (.ref (He.ma K (He.ga K q.1) "__init__")) = some (.type "function")) && q.2.all fun f => decide (PySem.W.findIn K (.ref (He.ga K q.1)) f = some none)))))
def zB (K : PySem.W.Frag) (x : Str) : Bool := PySem.W.excIn K (He.ga K x) He.veBase "ValueError.__new__" && (PySem.W.keepIn K (.ref (He.ga K x)) && isxB K (He.ga K x))
def f0 : Fct := fun K => (frees.all fun x => (He.Fa.free x).ok K) && (globs.all fun x => (He.Fa.glo x).ok K)
def f1 : Fct := fun K => cfs.all (xB K)
def f2 : Fct := fun K => ord3.all (zB K)
def kitB (K : PySem.W.Frag) (x : Str) : Bool := (ord.all fun y => decide (PySem.W.kitOne K (.ref (He.ga K x)) (.ref (He.ga K y)) = some (decide (x = y)))) && (decide (PySem.W.kitOne K (.ref (He.ga K x)) (.ref (He.ga K "MeterError")) = some true) && decide (PySem.W.kitOne K (.ref (He.ga K x)) (.type "ValueError") = some true))
def f3 : Fct := fun K => (ord1 ++ ord3).all (kitB K)
def f4 : Fct := fun K => ord2.all (kitB K)
def fa : List Fct := [f0, f1, f2, f3, f4]
def fn1 : List He.DefD := fn.take 30
def fn2 : List He.DefD := fn.drop 30
abbrev R : PySem.W.OpenRow := PySem.W.OpenLaw.row PySem.Challenge.rw_purseahead_k77_errors_side_by_side
theorem run1 (w : World) (os : OsState) : (topRun R 16000 w os).map (fun s => HandSHeadRun.looksF R.prog (PySem.W.boot_heap w.params) s.abs) = some true := by kernel_rfl
theorem run2 (w : World) (os : OsState) : (topRun R 16000 w os).map (fun s => HandSHeadRun.seenQ (PySem.W.view R.prog [72]) loose (importedModules R.prog.main.body) (fun s => PySem.W.xlAt (PySem.W.view R.prog [72]) [] s && PySem.W.recOk R.toRowW.records s) s.abs) = some (PySem.W.openGood (PySem.W.view R.prog [72]) loose) := by kernel_rfl
theorem runA (w : World) (os : OsState) : (topRun R 16000 w os).map (fun s => f0 (kR as s) && f1 (kR as s)) = some true := by kernel_rfl
theorem runB (w : World) (os : OsState) : (topRun R 16000 w os).map (fun s => f2 (kR as s) && f3 (kR as s)) = some true := by kernel_rfl
theorem runC (w : World) (os : OsState) : (topRun R 16000 w os).map (fun s => f4 (kR as s)) = some true := by kernel_rfl
theorem run4 (w : World) (os : OsState) : (topRun R 16000 w os).map (fun s => (fn1.all fun d => d.ok (kR as s), fn1.map fun d => He.fnW (kR as s) d.at_)) = some (He.valD fn1) := by kernel_rfl
theorem run5 (w : World) (os : OsState) : (topRun R 16000 w os).map (fun s => (fn2.all fun d => d.ok (kR as s), fn2.map fun d => He.fnW (kR as s) d.at_)) = some (He.valD fn2) := by kernel_rfl
theorem optV {α : Type} {o : Option α} {K : α → PySem.W.Frag} (h1 : o.map (fun s => (fn1.all fun d => d.ok (K s), fn1.map fun d => He.fnW (K s) d.at_)) = some (He.valD fn1)) (h2 : o.map (fun s => (fn2.all fun d => d.ok (K s), fn2.map fun d => He.fnW (K s) d.at_)) = some (He.valD fn2)) :
    o.map (fun s => (fn.all fun d => d.ok (K s), fn.map fun d => He.fnW (K s) d.at_)) = some (He.valD fn) := by
  cases o with
  | none => cases h1
  | some s =>
    have z1 : (_, _) = He.valD fn1 := Option.some.inj h1
    have z2 : (_, _) = He.valD fn2 := Option.some.inj h2
    have e : fn = fn1 ++ fn2 := (List.take_append_drop 30 fn).symm
    have a1 := congrArg Prod.fst z1
    have a2 := congrArg Prod.fst z2
    have b1 := congrArg Prod.snd z1
    have b2 := congrArg Prod.snd z2
    refine congrArg some ?_
    show (fn.all fun d => d.ok (K s), fn.map fun d => He.fnW (K s) d.at_) = (true, fn.map He.DefD.val)
    rw [e, List.all_append, List.map_append, List.map_append]
    exact congr (congrArg Prod.mk (Bool.and_eq_true_iff.mpr ⟨a1, a2⟩)) (congr (congrArg HAppend.hAppend b1) b2)
theorem optB {α : Type} {o : Option α} {f g : α → Bool} (h : o.map (fun s => f s && g s) = some true) : o.map f = some true ∧ o.map g = some true := by
  cases o with
  | none => cases h
  | some s =>
    obtain ⟨h1, h2⟩ := Bool.and_eq_true_iff.mp (Option.some.inj h)
    exact ⟨congrArg some h1, congrArg some h2⟩
theorem run (w : World) : HandSHeadRun.RunEq R (PySem.W.view R.prog [72]) (hookR as fa fn) (fun s => obsRG as fa fn (HandSHeadRun.getT s)) 16000 loose w :=
  run_partsR (fun os => run1 w os) (fun os => run2 w os) (fun f hf os => by
    rcases List.mem_cons.mp hf with rfl | hf
    · exact (optB (runA w os)).1
    rcases List.mem_cons.mp hf with rfl | hf
    · exact (optB (runA w os)).2
    rcases List.mem_cons.mp hf with rfl | hf
    · exact (optB (runB w os)).1
    rcases List.mem_cons.mp hf with rfl | hf
    · exact (optB (runB w os)).2
    rcases List.mem_cons.mp hf with rfl | hf
    · exact runC w os
    · cases hf) (fun os => optV (run4 w os) (run5 w os))

end LW

set_option maxRecDepth 100000
set_option maxHeartbeats 4000000
namespace Ve
open PySem PySem.Spec PyProof.Rows L2
/-! ### defs that may be called by their names -/
abbrev FnP (K : PySem.W.Frag) (x q : Str) (st : Stmt) (f : Addr) (fd : FuncData) : Prop := FunD K x q (defArgs st) (defBody st) (defScope st) [] [] f fd
structure Cl (P : Program) (w : World) (K : PySem.W.Frag) (mg : Str → Option Value) (base : Heap) (CX : CXT) (k : Nat) (x : Str) (ps : List Str) (sp : Sp) : Prop where
  ex : ∃ (f : Addr) (fd : FuncData), FnOk P w K mg base CX k f fd ps sp ∧ mg x = some (.ref f) ∧ PySem.W.keepIn K (.ref f) = true ∧ Binds K fd ps []
section
variable {X : Cx} {CX : CXT} {k j : Nat} {x : Str} {ps : List Str} {sp : Sp} {E : XK} {p pos : Pos} {e : Expr} {es : List Expr} {t : TA}
theorem pe_clE (hx : Passes CX X E) (c : Cl X.prog X.w X.K X.mg X.base CX k x ps sp) (hr : Room j X.A) (hk : k ≤ j) (hg : Gl X x) (ha : PA X (e :: es) t) (hdb : (x == ("__debug__" : Str)) = false := by decide)
    (he : starEach (e :: es) X.env = (false, eval e X.env) :: starEach es X.env := by rfl) (hpl : (backTo pos (starEach es X.env)).any (·.1) = false := by rfl) : PE X (.Call (.Name x p) (e :: es) [] pos) (tCall sp [] E t) := by
  obtain ⟨f, fd, F, hm, kp, b⟩ := c.ex
  exact pe_call F (hr.mono hk) hg hm kp b .nil hx ha hdb he hpl
theorem pe_cl (c : Cl X.prog X.w X.K X.mg X.base CX0 k x ps sp) (hr : Room j X.A) (hk : k ≤ j) (hg : Gl X x) (ha : PA X (e :: es) t) (hdb : (x == ("__debug__" : Str)) = false := by decide)
    (he : starEach (e :: es) X.env = (false, eval e X.env) :: starEach es X.env := by rfl) (hpl : (backTo pos (starEach es X.env)).any (·.1) = false := by rfl) : PE X (.Call (.Name x p) (e :: es) [] pos) (tCall sp [] E0 t) :=
  pe_clE pass0 c hr hk hg ha hdb he hpl
theorem call_intI : CallR X (.type "int") (fun xs H Q => ∃ i, xs = [.int i] ∧ Q (.int i) H) := by
  intro pins s σ H xs us Q I r h
  obtain ⟨i, rfl, q⟩ := h
  exact call_int1 pins s σ H _ us Q I r (.inl ⟨i, rfl, q⟩)
theorem call_lenL : CallR X (.builtin "len") (fun xs H Q => ∃ p ys, xs = [.ref p] ∧ SqL X.K H p ys ∧ Q (.int ys.length) H) := by
  intro pins s σ H xs us Q I r h
  obtain ⟨p, ys, rfl, hl, q⟩ := h
  exact call_len_seq pins s σ H _ us Q I r ⟨p, ys, rfl, .inl hl, q⟩
theorem call_lenT : CallR X (.builtin "len") (fun xs H Q => ∃ p ys, xs = [.ref p] ∧ SqT X.K H p ys ∧ Q (.int ys.length) H) := by
  intro pins s σ H xs us Q I r h
  obtain ⟨p, ys, rfl, hl, q⟩ := h
  exact call_len_seq pins s σ H _ us Q I r ⟨p, ys, rfl, .inr hl, q⟩
end

/-! ### the hand of draws -/
/-- all but the object at p is as it was -/
def Bt (p : Addr) (H H' : Hp) : Prop := ∀ a o, a ≠ p → H a = some o → H' a = some o
theorem Bt.refl (p : Addr) (H : Hp) : Bt p H H := fun _ _ _ h => h
theorem Bt.trans {p : Addr} {H H1 H2 : Hp} (a : Bt p H H1) (b : Bt p H1 H2) : Bt p H H2 := fun x o n h => b x o n (a x o n h)
theorem Bt.of {p : Addr} {H H' : Hp} (e : Evl.Ex H H') : Bt p H H' := fun x o _ h => e x o h
theorem Bt.upd (p : Addr) (H : Hp) (o : HO) : Bt p H (L2.upd H p o) := fun x u n h => by rw [upd_ne n]; exact h
theorem Bt.rd {p a : Addr} {u : HO} {H H' : Hp} (b : Bt p H H') (n : a ≠ p) (h : Rd H a u) : Rd H' a u := by
  rcases h with h | ⟨o, h⟩
  · exact Or.inl (b a _ n h)
  · exact Or.inr ⟨o, b a _ n h⟩
/-- the hand: the cells (at c), the place, the rest, the total -/
structure HandAt (H : Hp) (p c : Addr) (ms : List Int) (i r t : Int) : Prop where
  hp : H p = some (.lst [.ref c, .int i, .int r, .int t])
  hc : H c = some (.lst (ms.map V.int))
  ne : c ≠ p
  pos : ∀ m ∈ ms, 0 ≤ m
  i0 : 0 ≤ i
  r0 : 0 ≤ r
  t0 : 0 ≤ t
def Hand (H : Hp) (p : Addr) : Prop := ∃ c ms i r t, HandAt H p c ms i r t
theorem Hand.ex {H H' : Hp} {p : Addr} (h : Hand H p) (e : Evl.Ex H H') : Hand H' p := by
  obtain ⟨c, ms, i, r, t, h⟩ := h
  exact ⟨c, ms, i, r, t, e _ _ h.hp, e _ _ h.hc, h.ne, h.pos, h.i0, h.r0, h.t0⟩
theorem HandAt.put {H : Hp} {p c : Addr} {ms : List Int} {i r t i' r' t' : Int} (h : HandAt H p c ms i r t) (hi : 0 ≤ i') (hr : 0 ≤ r') (ht : 0 ≤ t') : HandAt (upd H p (.lst [.ref c, .int i', .int r', .int t'])) p c ms i' r' t' :=
  ⟨upd_same, by rw [upd_ne h.ne]; exact h.hc, h.ne, h.pos, hi, hr, ht⟩
def spHand (K : PySem.W.Frag) : Sp := fun vs H Q _ => ∃ (a : Addr) (ns : List Int), vs = [.ref a] ∧ SqL K H a (ns.map V.int) ∧ ns.length ≤ 63 ∧ ∀ p H', H p = none → Evl.Ex H H' → Hand H' p → Q (.ref p) H'
def spMixed : Sp := fun vs H Q _ => ∃ n t : Int, vs = [.int n, .int t] ∧ 0 ≤ n ∧ 0 ≤ t ∧ ∀ r : Int, 0 ≤ r → Q (.int r) H
def spTake : Sp := fun vs H Q _ => ∃ (p : Addr) (m : Int), vs = [.ref p, .int m] ∧ 0 < m ∧ m < 2 ^ 64 ∧ Hand H p ∧ ∀ (r : Int) (H' : Hp), 0 ≤ r → r < m → Hand H' p → Bt p H H' → Q (.int r) H'

theorem abs_pos (z : Int) : 0 ≤ (if z < 0 then -z else z) := by
  split <;> omega
end Ve

set_option maxRecDepth 100000
set_option maxHeartbeats 4000000
namespace Ve
open PySem PySem.Spec PyProof.Rows L2 Evl
/-! ### what is known of a value: it stays known when the heap grows -/
structure Kn where
  P : Hp → V → Prop
  mono : ∀ {H H' : Hp} {v : V}, Ex H H' → P H v → P H' v
def AllK (H : Hp) : List Kn → List V → Prop
  | [], [] => True
  | κ :: κs, v :: vs => κ.P H v ∧ AllK H κs vs
  | _, _ => False
theorem AllK.mono {H H' : Hp} (e : Ex H H') : ∀ {κs : List Kn} {vs : List V}, AllK H κs vs → AllK H' κs vs
  | [], [], _ => trivial
  | κ :: κs, v :: vs, ⟨h1, h2⟩ => ⟨κ.mono e h1, AllK.mono e h2⟩
  | [], _ :: _, h => h.elim
  | _ :: _, [], h => h.elim
theorem AllK.len {H : Hp} : ∀ {κs : List Kn} {vs : List V}, AllK H κs vs → vs.length = κs.length
  | [], [], _ => rfl
  | κ :: κs, v :: vs, ⟨_, h2⟩ => congrArg Nat.succ (AllK.len h2)
  | [], _ :: _, h => h.elim
  | _ :: _, [], h => h.elim
theorem AllK.get {H : Hp} : ∀ {κs : List Kn} {vs : List V} {j : Nat} {κ : Kn}, AllK H κs vs → κs[j]? = some κ → ∃ v, vs[j]? = some v ∧ κ.P H v
  | κ' :: κs, v :: vs, 0, κ, ⟨h1, _⟩, e => ⟨v, rfl, by
      have e' : some κ' = some κ := e
      cases e'
      exact h1⟩
  | κ' :: κs, v :: vs, j + 1, κ, ⟨_, h2⟩, e => AllK.get (κs := κs) (vs := vs) (j := j) h2 (by simpa using e)
  | [], [], _, _, _, e => by simp at e
  | [], _ :: _, _, _, h, _ => h.elim
  | _ :: _, [], _, _, h, _ => h.elim
theorem AllK.append {H : Hp} : ∀ {κs ls : List Kn} {vs ws : List V}, AllK H κs vs → AllK H ls ws → AllK H (κs ++ ls) (vs ++ ws)
  | [], _, [], _, _, h => h
  | κ :: κs, _, v :: vs, _, ⟨h1, h2⟩, h => ⟨h1, AllK.append h2 h⟩
  | [], _, _ :: _, _, h, _ => h.elim
  | _ :: _, _, [], _, h, _ => h.elim
theorem AllK.rep {H : Hp} {κ : Kn} {v : V} (h : κ.P H v) : ∀ n, AllK H (List.replicate n κ) (List.replicate n v)
  | 0 => trivial
  | n + 1 => ⟨h, AllK.rep h n⟩
theorem Dp.ex {K : PySem.W.Frag} {H H' : Hp} (e : Ex H H') : ∀ (d : PyData) (v : V), Dp K H v d → Dp K H' v d := by
  intro d v h
  exact Dp.rec (motive_1 := fun v d _ => Dp K H' v d) (motive_2 := fun vs ds _ => DpAll K H' vs ds) .non .bl .int .str (fun hs _ ih => .lst (ex_l e hs) ih) (fun hs _ ih => .tup (ex_t e hs) ih) .nil (fun _ _ h1 h2 => .cons h1 h2) h
theorem flat_rep {α : Type} (x : α) : ∀ n, (List.replicate n [x]).flatten = List.replicate n x
  | 0 => rfl
  | n + 1 => by rw [List.replicate_succ, List.flatten_cons, flat_rep x n, List.replicate_succ]; rfl
def kV (v : V) : Kn := ⟨fun _ x => x = v, fun _ h => h⟩
def kD (K : PySem.W.Frag) (d : PyData) : Kn := ⟨fun H x => Dp K H x d, fun e h => Dp.ex e _ _ h⟩
def kX (C : Addr) (fs : List (Str × V)) : Kn := ⟨fun H x => ∃ a d, x = .ref a ∧ H a = some (exo a C (some d)) ∧ H d = some (exd d fs), fun e ⟨a, d, h1, h2, h3⟩ => ⟨a, d, h1, e _ _ h2, e _ _ h3⟩⟩
def kX0 (C : Addr) : Kn := ⟨fun H x => ∃ a, x = .ref a ∧ H a = some (exo a C none), fun e ⟨a, h1, h2⟩ => ⟨a, h1, e _ _ h2⟩⟩
def kT (κs : List Kn) : Kn := ⟨fun H x => ∃ p xs, x = .ref p ∧ H p = some (.tup xs) ∧ AllK H κs xs, fun e ⟨p, xs, h1, h2, h3⟩ => ⟨p, xs, h1, e _ _ h2, h3.mono e⟩⟩
def kL (κs : List Kn) : Kn := ⟨fun H x => ∃ p xs, x = .ref p ∧ H p = some (.lst xs) ∧ AllK H κs xs, fun e ⟨p, xs, h1, h2, h3⟩ => ⟨p, xs, h1, e _ _ h2, h3.mono e⟩⟩
theorem dpAll_of {K : PySem.W.Frag} {H : Hp} : ∀ {ds : List PyData} {vs : List V}, AllK H (ds.map (kD K)) vs → DpAll K H vs ds
  | [], [], _ => .nil
  | d :: ds, v :: vs, ⟨h1, h2⟩ => .cons h1 (dpAll_of h2)
  | [], _ :: _, h => h.elim
  | _ :: _, [], h => h.elim
theorem kL_data {K : PySem.W.Frag} {H : Hp} {v : V} {ds : List PyData} (h : (kL (ds.map (kD K))).P H v) : (kD K (.list ds)).P H v := by
  obtain ⟨p, xs, rfl, h1, h2⟩ := h
  exact .lst (sq_of h1) (dpAll_of h2)
theorem kT_data {K : PySem.W.Frag} {H : Hp} {v : V} {ds : List PyData} (h : (kT (ds.map (kD K))).P H v) : (kD K (.tuple ds)).P H v := by
  obtain ⟨p, xs, rfl, h1, h2⟩ := h
  exact .tup (st_of h1) (dpAll_of h2)

/-! ### evaluation to a known value -/
def EvP (te : TE) (σ : L2.St) (H : Hp) (κ : Kn) : Prop := ∀ H1, Ex H H1 → ∀ Q : VK, (∀ v H2, Ex H1 H2 → κ.P H2 v → Q v H2) → te σ H1 Q
def EvAP (ta : TA) (σ : L2.St) (H : Hp) (κs : List Kn) : Prop := ∀ H1, Ex H H1 → ∀ Q : List V → Hp → Prop, (∀ vs H2, Ex H1 H2 → AllK H2 κs vs → Q vs H2) → ta σ H1 Q
section
variable {K : PySem.W.Frag} {σ : L2.St} {H H' : Hp} {ta tb te tx : TE} {x y z v : V} {κ μ : Kn} {κs μs : List Kn}
theorem EvP.mono (e : Ex H H') (h : EvP te σ H κ) : EvP te σ H' κ := fun H1 a Q q => h H1 (e.trans a) Q q
theorem EvAP.mono {ta : TA} (e : Ex H H') (h : EvAP ta σ H κs) : EvAP ta σ H' κs := fun H1 a Q q => h H1 (e.trans a) Q q
theorem EvP.is (h : EvP te σ H κ) (f : ∀ H v, κ.P H v → μ.P H v) : EvP te σ H μ := fun H1 e Q q => h H1 e Q fun v H2 e2 p => q v H2 e2 (f H2 v p)
theorem ep_of (h : Ev te σ H v) : EvP te σ H (kV v) := fun H1 e Q q => h H1 e Q fun H2 e2 => q v H2 e2 rfl
theorem ev_of (h : EvP te σ H (kV v)) : Ev te σ H v := fun H1 e Q q => h H1 e Q fun w H2 e2 p => by
  cases (show w = v from p)
  exact q H2 e2
theorem ep_var {i : Nat} (h : σ[i]? = some (some v)) (k : κ.P H v) : EvP (tVar i) σ H κ := fun H1 e _ q => ⟨v, h, q v H1 (Ex.refl H1) (κ.mono e k)⟩
theorem eap_nil : EvAP tNil σ H [] := fun H1 _ _ q => q [] H1 (Ex.refl H1) trivial
theorem eap_cons {tr : TA} (h : EvP te σ H κ) (hr : EvAP tr σ H κs) : EvAP (tCons te tr) σ H (κ :: κs) := fun H1 e _ q =>
  h H1 e _ fun v H2 e2 p => hr H2 (e.trans e2) _ fun vs H3 e3 ps => q (v :: vs) H3 (e2.trans e3) ⟨κ.mono e3 p, ps⟩
theorem eap_ev {ta : TA} : ∀ {vs : List V}, EvAP ta σ H (vs.map kV) → EvA ta σ H vs := fun {vs} h H1 e Q q => h H1 e Q fun ws H2 e2 p => by
  have z : ws = vs := by
    have key : ∀ {vs ws : List V}, AllK H2 (vs.map kV) ws → ws = vs := by
      intro vs
      induction vs with
      | nil =>
        intro ws h
        cases ws with
        | nil => rfl
        | cons _ _ => exact h.elim
      | cons v vs ih =>
        intro ws h
        cases ws with
        | nil => exact h.elim
        | cons w ws =>
          obtain ⟨h1, h2⟩ := h
          rw [show w = v from h1, ih h2]
    exact key p
  rw [z]
  exact q H2 e2
theorem ep_tup {ta : TA} (h : EvAP ta σ H κs) (hl : κs.length ≤ 100000) : EvP (tTup ta) σ H (kT κs) := fun H1 e _ q =>
  h H1 e _ fun vs H2 e2 ps => ⟨sz_of (by rw [ps.len]; exact hl), fun p hp => q _ _ (e2.trans (Ex.new hp)) ⟨p, vs, rfl, upd_same, ps.mono (Ex.new hp)⟩⟩
theorem ep_lst {ta : TA} (h : EvAP ta σ H κs) (hl : κs.length ≤ 100000) : EvP (tLst ta) σ H (kL κs) := fun H1 e _ q =>
  h H1 e _ fun vs H2 e2 ps => ⟨sz_of (by rw [ps.len]; exact hl), fun p hp => q _ _ (e2.trans (Ex.new hp)) ⟨p, vs, rfl, upd_same, ps.mono (Ex.new hp)⟩⟩
theorem ep_ixL {j : Nat} (h : EvP ta σ H (kL κs)) (hi : Ev tb σ H (.int (j : Int))) (hk : κs[j]? = some κ) : EvP (tOp (rIxL K) ta tb) σ H κ := fun H1 e _ q =>
  h H1 e _ fun v H2 e2 hv => hi H2 (e.trans e2) _ fun H3 e3 => by
    obtain ⟨p, xs, rfl, h1, h2⟩ := hv
    obtain ⟨w, hw, pw⟩ := h2.get hk
    exact ⟨p, xs, _, w, rfl, rfl, sq_of (e3 _ _ h1), atI_nat hw, q w H3 (e2.trans e3) (κ.mono e3 pw)⟩
theorem ep_ixT {j : Nat} (h : EvP ta σ H (kT κs)) (hi : Ev tb σ H (.int (j : Int))) (hk : κs[j]? = some κ) : EvP (tOp (rIxT K) ta tb) σ H κ := fun H1 e _ q =>
  h H1 e _ fun v H2 e2 hv => hi H2 (e.trans e2) _ fun H3 e3 => by
    obtain ⟨p, xs, rfl, h1, h2⟩ := hv
    obtain ⟨w, hw, pw⟩ := h2.get hk
    exact ⟨p, xs, _, w, rfl, rfl, st_of (e3 _ _ h1), atI_nat hw, q w H3 (e2.trans e3) (κ.mono e3 pw)⟩
theorem ep_cat (h1 : EvP ta σ H (kL κs)) (h2 : EvP tb σ H (kL μs)) (hl : κs.length + μs.length ≤ 100000) : EvP (tOp rCat ta tb) σ H (kL (κs ++ μs)) := fun H1 e _ q =>
  h1 H1 e _ fun v H2 e2 hv => h2 H2 (e.trans e2) _ fun w H3 e3 hw => by
    obtain ⟨p, xs, rfl, a1, a2⟩ := hv
    obtain ⟨r, ys, rfl, b1, b2⟩ := hw
    refine ⟨p, r, xs, ys, rfl, rfl, e3 _ _ a1, b1, sz_of (by rw [a2.len, b2.len]; exact hl), fun t ht => ?_⟩
    exact q _ _ ((e2.trans e3).trans (Ex.new ht)) ⟨t, _, rfl, upd_same, ((a2.mono e3).append b2).mono (Ex.new ht)⟩
theorem ep_rep1 {n : Nat} (h1 : EvP ta σ H (kL [κ])) (h2 : Ev tb σ H (.int (n : Int))) (hl : n ≤ 1000) : EvP (tOp rRep ta tb) σ H (kL (List.replicate n κ)) := fun H1 e _ q =>
  h1 H1 e _ fun v H2 e2 hv => h2 H2 (e.trans e2) _ fun H3 e3 => by
    obtain ⟨p, xs, rfl, a1, a2⟩ := hv
    have hx := a2.len
    match xs, hx, a1, a2 with
    | [x], _, a1, a2 =>
      refine ⟨p, _, [x], rfl, rfl, e3 _ _ a1, by omega, by omega, sz_of (by simp; omega), fun t ht => ?_⟩
      refine q _ _ ((e2.trans e3).trans (Ex.new ht)) ⟨t, _, rfl, upd_same, ?_⟩
      have ef : (List.replicate ((n : Int)).toNat [x]).flatten = List.replicate n x := by rw [Int.toNat_natCast]; exact flat_rep x n
      rw [ef]
      exact AllK.rep (κ.mono ((e3).trans (Ex.new ht)) a2.1) n
theorem ev_eqD {d e : PyData} (h1 : EvP ta σ H (kD K d)) (h2 : EvP tb σ H (kD K e)) (s1 : SeqAt.shaped d = true) (s2 : SeqAt.shaped e = true) : Ev (tOp (rEqD K) ta tb) σ H (.bl (PyData.eqv d e)) := fun H1 x _ q =>
  h1 H1 x _ fun v H2 e2 hv => h2 H2 (x.trans e2) _ fun w H3 e3 hw => ⟨d, e, (kD K d).mono e3 hv, hw, s1, s2, q H3 (e2.trans e3)⟩
theorem ev_neD {d e : PyData} (h1 : EvP ta σ H (kD K d)) (h2 : EvP tb σ H (kD K e)) (s1 : SeqAt.shaped d = true) (s2 : SeqAt.shaped e = true) : Ev (tOp (rNeD K) ta tb) σ H (.bl (!PyData.eqv d e)) := fun H1 x _ q =>
  h1 H1 x _ fun v H2 e2 hv => h2 H2 (x.trans e2) _ fun w H3 e3 hw => ⟨d, e, (kD K d).mono e3 hv, hw, s1, s2, q H3 (e2.trans e3)⟩
/-- e.f of an exception -/
theorem ev_xfld {C : Addr} {fs : List (Str × V)} {f : Str} (h : EvP te σ H (kX C fs)) (T : XfC K C) (hno : PySem.W.findIn K (.ref C) f = some none) (hl : fs.lookup f = some v) : Ev (tXfld K f te) σ H v := fun H1 e _ q =>
  h H1 e _ fun x H2 e2 ⟨a, d, ex, h1, h2⟩ => ⟨a, C, d, fs, v, ex, T, hno, h1, h2, hl, q H2 e2⟩
/-- C(e, ..) -/
def spX (C : Addr) (fs : List Str) : Sp := fun vs H Q _ => ∃ (a : Addr) (ws : List V), vs = .ref a :: ws ∧ ws.length = fs.length ∧ H a = some (exo a C none) ∧
  ∀ d H', H d = none → d ≠ a → H' a = some (exo a C (some d)) → H' d = some (exd d (fs.zip ws).reverse) → (∀ b o, b ≠ a → H b = some o → H' b = some o) → Q .non H'
theorem ep_mkx {C : Addr} {fs : List Str} {ws : List V} {ta : TA} (h : EvA ta σ H ws) (hl : ws.length = fs.length) (hz : fs.length ≤ 1000) : EvP (tMkV C (spX C fs) [] ta) σ H (kX C (fs.zip ws).reverse) := fun H1 e _ q =>
  h H1 e _ fun H2 e2 => ⟨by omega, fun a ha => by
    rw [List.append_nil]
    refine ⟨a, ws, rfl, hl, upd_same, fun d H' hd hda h1 h2 keep => ⟨rfl, q _ H' (fun b o hb => ?_) ⟨a, d, rfl, h1, h2⟩⟩⟩
    have hb2 := e2 b o hb
    have hba : b ≠ a := ne_of_none hb2 ha
    exact keep b o hba (by rw [upd_ne hba]; exact hb2)⟩
/-! statements -/
variable {D : Ends} {tz : TS}
theorem q_asgP {i : Nat} (h : EvP te σ H κ) (k : ∀ v H1, Ex H H1 → κ.P H1 v → tz D (σ.set i (some v)) H1) : tSeq (tAsg te (gName i)) tz D σ H := h H (Ex.refl H) _ fun v H1 e p => k v H1 e p
theorem q_asgQ {i : Nat} (σf : V → L2.St) (hσ : ∀ v, σ.set i (some v) = σf v) (h : EvP te σ H κ) (k : ∀ v H1, Ex H H1 → κ.P H1 v → tz D (σf v) H1) : tSeq (tAsg te (gName i)) tz D σ H := h H (Ex.refl H) _ fun v H1 e p => by
  show tz D (σ.set i (some v)) H1
  rw [hσ v]
  exact k v H1 e p
theorem s_retP (h : EvP te σ H κ) (k : ∀ v H1, Ex H H1 → κ.P H1 v → D.rt v H1) : tRet te D σ H := h H (Ex.refl H) _ fun v H1 e p => k v H1 e p
end
end Ve

set_option maxRecDepth 100000
set_option maxHeartbeats 4000000
namespace Ve
open PySem PySem.Spec PyProof.Rows L2 Evl
/-! ### exception classes that are made as values -/
structure Exk (P : Program) (w : World) (K : PySem.W.Frag) (mg : Str → Option Value) (base : Heap) (x : Str) (fs : List Str) : Prop where
  oex : OexC K (He.ga K x)
  xf : XfC K (He.ga K x)
  isx : IsxC K (He.ga K x)
  no : ∀ f ∈ fs, PySem.W.findIn K (.ref (He.ga K x)) f = some none
  glo : mg x = some (.ref (He.ga K x))
  ini : ∃ fI fd ps, PySem.W.findIn K (.ref (He.ga K x)) "__init__" = some (some (.ref fI)) ∧ PySem.W.typeIn K (.ref fI) = some (.type "function") ∧ FnOk P w K mg base CX0 1 fI fd ps (spX (He.ga K x) fs) ∧ Binds K fd ps []
structure Exz (K : PySem.W.Frag) (mg : Str → Option Value) (x : Str) : Prop where
  exc : PySem.W.excIn K (He.ga K x) He.veBase "ValueError.__new__" = true
  keep : PySem.W.keepIn K (.ref (He.ga K x)) = true
  isx : IsxC K (He.ga K x)
  glo : mg x = some (.ref (He.ga K x))
section
variable {X : Cx} {x : Str} {fs : List Str} {e : Expr} {es : List Expr} {ta : TA} {p pos : Pos} {j : Nat}
theorem pe_exk (E : Exk X.prog X.w X.K X.mg X.base x fs) (hr : Room j X.A) (hj : 2 ≤ j) (hg : Gl X x) (ha : PA X (e :: es) ta)
    (hdb : (x == ("__debug__" : Str)) = false := by decide) (he : starEach (e :: es) X.env = (false, eval e X.env) :: starEach es X.env := by rfl) (hpl : (backTo pos (starEach es X.env)).any (·.1) = false := by rfl) :
    PE X (.Call (.Name x p) (e :: es) [] pos) (tMkV (He.ga X.K x) (spX (He.ga X.K x) fs) [] ta) := by
  obtain ⟨fI, fd, ps, i1, i2, F, b⟩ := E.ini
  exact pe_mkx E.oex i1 i2 F (hr.mono hj) b .nil pass0 hg E.glo ha hdb he hpl
/-- C(), C without an __init__ of its own -/
theorem pe_exz (E : Exz X.K X.mg x) (hg : Gl X x) (hdb : (x == ("__debug__" : Str)) = false := by decide) :
    PE X (.Call (.Name x p) [] [] pos) (fun _ H Q => ∀ a, H a = none → Q (.ref a) (upd H a (exo a (He.ga X.K x) none))) := by
  refine ⟨fun pins s σ H Q I h => ?_⟩
  refine wpAny_Call_Name_kw (ld_glob I hg E.glo ?_ hdb)
  refine PySem.W.callWith_K0 I.kIn E.keep ?_
  show wpAny _ _ (call (.ref (He.ga X.K x)) []) _ _ _
  obtain ⟨bm, N, nm, qn, bs, hdct, sn, sub, ab, col, dd, k0, k1, k2, k3, k5, mN, hC, hN, hni, T⟩ := exc_obj I.kIn E.exc
  refine wpAny_call_exc_subT F.excBase_ValueError T hC hN hni (fun h' a hm => ?_) (by show 0 ≤ sizeLine; decide)
  have hn : H a = none := I.hok.gone hm.new
  obtain ⟨t, ht, _, _⟩ := hm.there
  exact ⟨.ref a, upd H a (exo a (He.ga X.K x) none), I.laidN hm.keeps hm.new hn (exo_ok ht), rfl, h a hn⟩
end
/-- an exception of the class at C -/
def kE (C : Addr) : Kn := ⟨fun H x => ∃ a, x = .ref a ∧ (H a = some (exo a C none) ∨ ∃ d fs, H a = some (exo a C (some d)) ∧ H d = some (exd d fs)), fun e ⟨a, h1, h2⟩ => ⟨a, h1, h2.elim (fun h => .inl (e _ _ h)) fun ⟨d, fs, h2, h3⟩ => .inr ⟨d, fs, e _ _ h2, e _ _ h3⟩⟩⟩
theorem kE_X {C : Addr} {fs : List (Str × V)} (H : Hp) (v : V) (h : (kX C fs).P H v) : (kE C).P H v := by
  obtain ⟨a, d, h1, h2, h3⟩ := h
  exact ⟨a, h1, .inr ⟨d, fs, h2, h3⟩⟩
theorem kL_map {κs μs : List Kn} (h : ∀ H vs, AllK H κs vs → AllK H μs vs) (H : Hp) (v : V) (p : (kL κs).P H v) : (kL μs).P H v := by
  obtain ⟨a, xs, h1, h2, h3⟩ := p
  exact ⟨a, xs, h1, h2, h H xs h3⟩
theorem allK_cons {κ μ : Kn} {κs μs : List Kn} (h1 : ∀ H v, κ.P H v → μ.P H v) (h2 : ∀ H vs, AllK H κs vs → AllK H μs vs) : ∀ H vs, AllK H (κ :: κs) vs → AllK H (μ :: μs) vs := fun H vs h => match vs, h with
  | v :: vs, ⟨a, b⟩ => ⟨h1 H v a, h2 H vs b⟩
theorem allK_nil : ∀ (H : Hp) (vs : List V), AllK H [] vs → AllK H [] vs := fun _ _ h => h
section
variable {K : PySem.W.Frag} {σ : L2.St} {H H' : Hp} {ta tb te tx : TE} {x y z v : V} {κ μ : Kn} {κs μs : List Kn}
theorem ep_int {i : Int} (h : Ev te σ H (.int i)) : EvP te σ H (kD K (.int i)) := fun H1 e Q q => h H1 e Q fun H2 e2 => q _ H2 e2 (.int i)
theorem ep_bl {b : Bool} (h : Ev te σ H (.bl b)) : EvP te σ H (kD K (.bool b)) := fun H1 e Q q => h H1 e Q fun H2 e2 => q _ H2 e2 (.bl b)
theorem ep_tupD {ta : TA} {ds : List PyData} (h : EvAP ta σ H (ds.map (kD K))) (hl : ds.length ≤ 100000) : EvP (tTup ta) σ H (kD K (.tuple ds)) := (ep_tup h (by rw [List.length_map]; exact hl)).is fun H v p => kT_data p
theorem ep_lstD {ds : List PyData} (h : EvP te σ H (kL (ds.map (kD K)))) : EvP te σ H (kD K (.list ds)) := h.is fun H v p => kL_data p
theorem kX_E {C : Addr} {fs : List (Str × V)} (h : EvP te σ H (kX C fs)) : EvP te σ H (kE C) := h.is kE_X
theorem ep_exz {C : Addr} : EvP (fun _ H Q => ∀ a, H a = none → Q (.ref a) (upd H a (exo a C none))) σ H (kE C) := fun H1 e Q q a ha => q _ _ (Ex.new ha) ⟨a, rfl, .inl upd_same⟩
theorem ev_isx {C : Addr} {c : V} {u : Value} {b : Bool} (h : EvP te σ H (kE C)) (hc : Ev tb σ H c) (k : ClsV c u) (T : IsxC K C) (e : PySem.W.kitOne K (.ref C) u = some b) : Ev (tCB (rIsx K) (tCons te (tCons tb tNil))) σ H (.bl b) := fun H1 x Q q =>
  h H1 x _ fun v H2 e2 hv => hc H2 (x.trans e2) _ fun H3 e3 => by
    obtain ⟨a, rfl, ho⟩ := (kE C).mono e3 hv
    exact ⟨a, C, c, u, b, rfl, k, T, ho, e, q H3 (e2.trans e3)⟩
theorem ev_lenL (h : EvP te σ H (kL κs)) : Ev (tCB (fun xs H Q => ∃ p ys, xs = [.ref p] ∧ SqL K H p ys ∧ Q (.int ys.length) H) (tCons te tNil)) σ H (.int (κs.length : Int)) := fun H1 x Q q =>
  h H1 x _ fun v H2 e2 hv => by
    obtain ⟨p, xs, rfl, h1, h2⟩ := hv
    refine ⟨p, xs, rfl, sq_of h1, ?_⟩
    rw [h2.len]
    exact q H2 e2
theorem ep_ofL {xs : List V} (h : EvL te σ H xs) : EvP te σ H (kL (xs.map kV)) := fun H1 e Q q => h H1 e Q fun p H2 hp e2 h2 => q _ H2 e2 ⟨p, xs, rfl, h2, by
  induction xs with
  | nil => trivial
  | cons x xs ih =>
    have key : ∀ zs : List V, AllK H2 (zs.map kV) zs := fun zs => by
      induction zs with
      | nil => trivial
      | cons z zs ih => exact ⟨rfl, ih⟩
    exact key _⟩
theorem lk1 {f : Str} {v : V} : (([(f, v)] : List (Str × V))).lookup f = some v := by
  rw [lookup_put, if_pos rfl]
theorem lkS {f g : Str} {v w : V} {l : List (Str × V)} (n : f ≠ g) (h : l.lookup f = some v) : ((g, w) :: l).lookup f = some v := by
  rw [lookup_put, if_neg n]
  exact h
theorem lk0 {f : Str} {v : V} {l : List (Str × V)} : ((f, v) :: l).lookup f = some v := by
  rw [lookup_put, if_pos rfl]
end
theorem shp_all {n : Nat} : ∀ {ds : List PyData}, (∀ d ∈ ds, d.canLay0 = true ∧ d.depth ≤ n) → PyData.canLayAll0 ds = true ∧ PyData.depthAll ds ≤ n
  | [], _ => ⟨rfl, Nat.zero_le _⟩
  | d :: ds, h => by
    obtain ⟨h1, h2⟩ := h d List.mem_cons_self
    obtain ⟨h3, h4⟩ := shp_all (ds := ds) (n := n) fun x hx => h x (List.mem_cons_of_mem _ hx)
    refine ⟨?_, ?_⟩
    · show (d.canLay0 && PyData.canLayAll0 ds) = true
      rw [h1, h3]
      rfl
    · show max d.depth (PyData.depthAll ds) ≤ n
      omega
theorem shp_list {ds : List PyData} {n : Nat} (h : ∀ d ∈ ds, d.canLay0 = true ∧ d.depth ≤ n) (hn : n < 64) : SeqAt.shaped (.list ds) = true := by
  obtain ⟨h1, h2⟩ := shp_all h
  show (PyData.canLayAll0 ds && decide (PyData.depthAll ds + 1 ≤ 64)) = true
  rw [h1, decide_eq_true (by omega)]
  rfl
theorem shp_tuple {ds : List PyData} {n : Nat} (h : ∀ d ∈ ds, d.canLay0 = true ∧ d.depth ≤ n) (hn : n < 64) : SeqAt.shaped (.tuple ds) = true := shp_list h hn
theorem shp_int (i : Int) : (PyData.int i).canLay0 = true ∧ (PyData.int i).depth ≤ 0 := ⟨rfl, Nat.le_refl 0⟩
theorem shp_bool (b : Bool) : (PyData.bool b).canLay0 = true ∧ (PyData.bool b).depth ≤ 0 := ⟨rfl, Nat.le_refl 0⟩
theorem shp_tup {ds : List PyData} {n : Nat} (h : ∀ d ∈ ds, d.canLay0 = true ∧ d.depth ≤ n) : (PyData.tuple ds).canLay0 = true ∧ (PyData.tuple ds).depth ≤ n + 1 := by
  obtain ⟨h1, h2⟩ := shp_all h
  exact ⟨h1, Nat.succ_le_succ h2⟩
theorem shp_rep {d : PyData} {n m : Nat} (h : d.canLay0 = true ∧ d.depth ≤ n) : ∀ x ∈ List.replicate m d, x.canLay0 = true ∧ x.depth ≤ n := fun x hx => by
  rw [(List.mem_replicate.mp hx).2]
  exact h
section
variable {K : PySem.W.Frag} {σ : L2.St} {H : Hp} {ta tb : TE}
theorem ev_sameD {d : PyData} (h1 : EvP ta σ H (kD K d)) (h2 : EvP tb σ H (kD K d)) (s : SeqAt.shaped d = true) : Ev (tOp (rEqD K) ta tb) σ H (.bl true) := by
  have h := ev_eqD h1 h2 s s
  rw [PySem.SeqAt.eqv_refl d (SeqAt.canLay_of_shaped s)] at h
  exact h
theorem ev_nsameD {d e : PyData} (h1 : EvP ta σ H (kD K d)) (h2 : EvP tb σ H (kD K e)) (q : d = e) (s : SeqAt.shaped d = true) : Ev (tOp (rNeD K) ta tb) σ H (.bl false) := by
  subst q
  have h := ev_neD h1 h2 s s
  rw [PySem.SeqAt.eqv_refl d (SeqAt.canLay_of_shaped s)] at h
  exact h
theorem ep_call {sp : Sp} {E : XK} {t : TA} {κs : List Kn} {κ : Kn} (h : EvAP t σ H κs) (hs : ∀ vs H1, AllK H1 κs vs → ∀ (Q : VK), (∀ v H2, Ex H1 H2 → κ.P H2 v → Q v H2) → sp vs H1 Q E) : EvP (tCall sp [] E t) σ H κ := fun H1 e Q q =>
  h H1 e _ fun vs H2 e2 p => by
    show sp (vs ++ []) H2 Q E
    rw [List.append_nil]
    exact hs vs H2 p Q fun v H3 e3 hv => q v H3 (e2.trans e3) hv
end
theorem kV_bools {K : PySem.W.Frag} : ∀ {bs : List Bool} (H : Hp) (vs : List V), AllK H ((bs.map V.bl).map kV) vs → AllK H ((bs.map PyData.bool).map (kD K)) vs
  | [], _, _, h => h
  | b :: bs, H, v :: vs, ⟨h1, h2⟩ => ⟨by
      rw [show v = V.bl b from h1]
      exact .bl b, kV_bools H vs h2⟩
end Ve

set_option maxRecDepth 100000
set_option maxHeartbeats 4000000
namespace LW
open PySem PySem.Spec PyProof.Rows L2 Ve
structure Txt0 (K : PySem.W.Frag) (mg : Str → Option Value) : Prop where
  b_len : mg "len" = none
  b_int : mg "int" = none
  b_abs : mg "abs" = none
section
variable {P : Program} {w : World} {K : PySem.W.Frag} {mg : Str → Option Value} {base : Heap} {f : Addr} {fd : FuncData}
theorem ok_hand (F : FnP K "_law_hand" "_law_hand" s_law_hand f fd) (T : Txt0 K mg) : FnOk P w K mg base CX0 1 f fd ["_law_script"] (spHand K) := by
  refine F.ok sc_law_hand (fun vs H Q E h => ?_) (fun cdv A outer s H vs Q E hr h => ?_)
  · obtain ⟨a, ns, rfl, _⟩ := h
    rfl
  · obtain ⟨a, ns, rfl, hS, hlen, k⟩ := h
    refine ⟨_, PSs.nox (pss_cons (ps_set (i := 1) sc_law_hand.nd rfl (Or.inl rfl) (pe_op op_add (pe_callB call_lenL (by rfl) T.b_len (by decide +kernel) (pa_cons (pv 0) pa_nil)) pe_int))
  (pss_cons (ps_set (i := 2) sc_law_hand.nd rfl (Or.inl rfl) (pe_lst pa_nil))
  (pss_cons (ps_for PassesOwn.never rfl (pi_list (pv 0)) (pg_name (i := 3) sc_law_hand.nd rfl (Or.inl rfl))
  (pss_cons (ps_set (i := 1) sc_law_hand.nd rfl (Or.inl rfl) (pe_op op_mod (pe_callTy call_intI (by rfl) T.b_int (by decide +kernel) (pa_cons (pe_op op_add (pe_op op_mul (pv 1) pe_int) (pe_callTy call_intI (by rfl) T.b_int (by decide +kernel) (pa_cons (pv 3) pa_nil))) pa_nil)) pe_int))
  (pss_one (ps_expr (pe_bm PySem.F.plainAttrs_list PySem.F.slot_list_append PySem.F.type_list_append mt_append (pv 2) (pa_cons (pe_callB call_abs (by rfl) T.b_abs (by decide +kernel) (pa_cons (pe_callTy call_intI (by rfl) T.b_int (by decide +kernel) (pa_cons (pv 3) pa_nil)) pa_nil)) pa_nil))))))
  (pss_one (ps_ret (pe_lst (pa_cons (pv 2) (pa_cons pe_int (pa_cons pe_int (pa_cons (pv 1) pa_nil)))))))))), ?_⟩
    refine ⟨_, rfl, a, _, rfl, hS, _, _, rfl, rfl, (by show 0 ≤ sizeLine; decide), fun c hc => ?_⟩
    have e0 : Evl.Ex H (upd H c (.lst [])) := Evl.Ex.new hc
    refine ⟨_, rfl, a, rfl, ⟨_, Evl.ex_l e0 hS⟩, for_list (K := K) (a := a) (xs := ns.map V.int) (fun i σ H2 => ∃ (t : Int) (ms : List Int) (v : Option V), σ = [some (.ref a), some (.int t), some (.ref c), v] ∧ Evl.Ex H H2 ∧ H2 c = some (.lst (ms.map V.int)) ∧ ms.length = i ∧ (∀ m ∈ ms, 0 ≤ m) ∧ 0 ≤ t)
      ⟨_, [], none, rfl, e0, upd_same, rfl, (fun m hm => nomatch hm), by simp only [List.length_map]; omega⟩ (fun i σ H2 _ ⟨_, _, _, _, e2, _⟩ => Evl.ex_l e2 hS) ?_ ?_⟩
    · rintro i y σ H2 hi ⟨t, ms, v, rfl, e2, h2, hm, hpos, ht⟩
      rw [List.getElem?_map] at hi
      obtain ⟨z, hz, rfl⟩ := Option.map_eq_some_iff.mp hi
      have hil : i < ns.length := (List.getElem?_eq_some_iff.mp hz).1
      refine ⟨_, rfl, _, _, rfl, rfl, .inr ⟨by decide, by decide⟩, _, rfl, _, rfl, _, _, rfl, rfl, _, rfl, _, _, rfl, rfl, (by show (0 : Int) < 2147483549; decide), ?_⟩
      refine ⟨_, rfl, .inl ⟨rfl, _, Evl.sq_of h2⟩, _, rfl, _, rfl, _, rfl, c, _, _, rfl, rfl, h2, Evl.sz_lt (by rw [List.length_map]; omega), ?_⟩
      refine ⟨_, ms ++ [if z < 0 then -z else z], _, rfl, Evl.Ex.mut e2 hc, ?_, by rw [List.length_append, hm]; rfl, ?_, Int.emod_nonneg _ (by decide)⟩
      · rw [upd_same, List.map_append]
        rfl
      · intro m hm'
        rcases List.mem_append.mp hm' with q | q
        · exact hpos m q
        · rw [List.mem_singleton.mp q]
          exact abs_pos z
    · rintro σ H2 ⟨t, ms, v, rfl, e2, h2, hm, hpos, ht⟩
      refine ⟨_, rfl, _, rfl, (by show 4 ≤ sizeLine; decide), fun p hp => ?_⟩
      exact k p _ (Evl.fresh_back e2 hp) (e2.trans (Evl.Ex.new hp)) ⟨c, ms, 0, 0, t, upd_same, by rw [upd_ne (ne_of_none h2 hp)]; exact h2, ne_of_none h2 hp, hpos, by decide, by decide, ht⟩
theorem ok_mixed (F : FnP K "_law_mixed" "_law_mixed" s_law_mixed f fd) (T : Txt0 K mg) : FnOk P w K mg base CX0 1 f fd ["_law_number", "_law_turn"] spMixed := by
  refine F.ok sc_law_mixed (fun vs H Q E h => ?_) (fun cdv A outer s H vs Q E hr h => ?_)
  · obtain ⟨n, t, rfl, _⟩ := h
    rfl
  · obtain ⟨n, t, rfl, hn, ht, k⟩ := h
    refine ⟨_, PSs.nox (pss_cons (ps_set (i := 2) sc_law_mixed.nd rfl (Or.inl rfl) (pe_op op_mod (pe_callTy call_intI (by rfl) T.b_int (by decide +kernel) (pa_cons (pe_op op_add (pe_op op_add (pe_op op_mul (pv 0) pe_int) (pe_op op_mul (pv 1) pe_int)) pe_int) pa_nil)) pe_int))
  (pss_cons (ps_set (i := 3) sc_law_mixed.nd rfl (Or.inl rfl) (pe_op op_mod (pe_callTy call_intI (by rfl) T.b_int (by decide +kernel) (pa_cons (pe_op op_add (pe_op op_add (pe_op op_mul (pv 2) (pv 2)) (pe_op op_mul (pv 1) pe_int)) (pe_op op_fdiv (pv 2) pe_int)) pa_nil)) pe_int))
  (pss_one (ps_ret (pe_op op_fdiv (pe_callTy call_intI (by rfl) T.b_int (by decide +kernel) (pa_cons (pe_op op_mod (pe_callTy call_intI (by rfl) T.b_int (by decide +kernel) (pa_cons (pe_op op_add (pe_op op_mul (pv 3) pe_int) (pe_op op_fdiv (pv 2) pe_int)) pa_nil)) pe_int) pa_nil)) pe_int))))), ?_⟩
    refine ⟨_, rfl, _, _, rfl, rfl, .inr ⟨by decide, by decide⟩, _, rfl, _, _, rfl, rfl, .inr ⟨by decide, by decide⟩, _, _, rfl, rfl, _, _, rfl, rfl, _, rfl, _, _, rfl, rfl, (by show (0 : Int) < 2147483399; decide), ?_⟩
    refine ⟨_, rfl, _, rfl, _, _, rfl, rfl, .inl ⟨by omega, by omega⟩, _, rfl, _, _, rfl, rfl, .inr ⟨by decide, by decide⟩, _, _, rfl, rfl, _, rfl, _, _, rfl, rfl, ⟨by decide, by decide⟩, _, _, rfl, rfl, _, rfl, _, _, rfl, rfl, (by show (0 : Int) < 2147483629; decide), ?_⟩
    refine ⟨_, rfl, _, _, rfl, rfl, .inr ⟨by decide, by decide⟩, _, rfl, _, _, rfl, rfl, ⟨by decide, by decide⟩, _, _, rfl, rfl, _, rfl, _, _, rfl, rfl, (by show (0 : Int) < 2147483587; decide), _, rfl, _, _, rfl, rfl, ⟨by decide, by decide⟩, ?_⟩
    exact k _ (Int.ediv_nonneg (Int.emod_nonneg _ (by decide)) (by decide))
theorem ok_take (F : FnP K "_law_take" "_law_take" s_law_take f fd) (T : Txt0 K mg) (c_law_mixed : Cl P w K mg base CX0 1 "_law_mixed" ["_law_number", "_law_turn"] spMixed) : FnOk P w K mg base CX0 2 f fd ["_law_hand_here", "_law_many"] spTake := by
  refine F.ok sc_law_take (fun vs H Q E h => ?_) (fun cdv A outer s H vs Q E hr h => ?_)
  · obtain ⟨p, m, rfl, _⟩ := h
    rfl
  · obtain ⟨p, m, rfl, hm, hm2, ⟨c, ms, i, r, t, hh⟩, k⟩ := h
    refine ⟨_, PSs.nox (Evl.pss_cut (ps_if (PW.pt (pw_and (pt_cmpR op_eq (pe_ix ix_list (pv 0) pe_int (fun _ _ => rfl)) pe_int (nomark _)) (pw_and1 (pt_cmpR op_lt (pe_ix ix_list (pv 0) pe_int (fun _ _ => rfl)) (pe_callB call_lenL (by rfl) T.b_len (by decide +kernel) (pa_cons (pe_ix ix_list (pv 0) pe_int (fun _ _ => rfl)) pa_nil)) (nomark _))))) (pss_cons (ps_set (i := 2) sc_law_take.nd rfl (Or.inl rfl) (pe_ix ix_list (pe_ix ix_list (pv 0) pe_int (fun _ _ => rfl)) (pe_ix ix_list (pv 0) pe_int (fun _ _ => rfl)) (fun _ _ => rfl)))
  (pss_cons (ps_asg (pe_op op_add (pe_ix ix_list (pv 0) pe_int (fun _ _ => rfl)) pe_int) (pg_sub (pv 0) pe_int set_list))
  (pss_cons (ps_if (pt_cmpR op_lt (pv 2) (pe_op op_pow pe_int pe_int) (nomark _)) (pss_one (ps_ret (pe_op op_mod (pe_callTy call_intI (by rfl) T.b_int (by decide +kernel) (pa_cons (pe_cl c_law_mixed hr (by decide) (by rfl) (pa_cons (pe_op op_mod (pe_callTy call_intI (by rfl) T.b_int (by decide +kernel) (pa_cons (pv 2) pa_nil)) pe_int) (pa_cons (pe_ix ix_list (pv 0) pe_int (fun _ _ => rfl)) pa_nil))) pa_nil)) (pv 1)))) pss_nil)
  (pss_one (ps_asg (pv 2) (pg_sub (pv 0) pe_int set_list)))))) pss_nil)
  (pss_cons (ps_if (pt_cmpR op_gt (pe_ix ix_list (pv 0) pe_int (fun _ _ => rfl)) pe_int (nomark _)) (pss_cons (ps_set (i := 3) sc_law_take.nd rfl (Or.inl rfl) (pe_ix ix_list (pv 0) pe_int (fun _ _ => rfl)))
  (pss_cons (ps_asg (pe_op op_fdivW (pe_callTy call_intI (by rfl) T.b_int (by decide +kernel) (pa_cons (pv 3) pa_nil)) (pv 1)) (pg_sub (pv 0) pe_int set_list))
  (pss_one (ps_ret (pe_op op_mod (pe_callTy call_intI (by rfl) T.b_int (by decide +kernel) (pa_cons (pv 3) pa_nil)) (pv 1)))))) pss_nil)
  (pss_cons (ps_asg (pe_op op_mod (pe_callTy call_intI (by rfl) T.b_int (by decide +kernel) (pa_cons (pe_op op_add (pe_ix ix_list (pv 0) pe_int (fun _ _ => rfl)) pe_int) pa_nil)) pe_int) (pg_sub (pv 0) pe_int set_list))
  (pss_one (ps_ret (pe_op op_mod (pe_callTy call_intI (by rfl) T.b_int (by decide +kernel) (pa_cons (pe_cl c_law_mixed hr (by decide) (by rfl) (pa_cons (pe_ix ix_list (pv 0) pe_int (fun _ _ => rfl)) (pa_cons (pe_ix ix_list (pv 0) pe_int (fun _ _ => rfl)) pa_nil))) pa_nil)) (pv 1))))))), ?_⟩
    have w2 : m.natAbs < 2 ^ 64 := by omega
    have wide : CDivW 0 m := wide_div (i := 0) (b := 64) hm w2 (by decide) (by decide)
    refine ⟨fun σ' H' => ∃ (v : Option V) (i' r' t' : Int), σ' = [some (.ref p), some (.int m), v, none] ∧ HandAt H' p c ms i' r' t' ∧ Bt p H H', ?_, ?_⟩
    · -- the first if
      have out0 : (∃ (v : Option V) (i' r' t' : Int), ([some (.ref p), some (.int m), none, none] : L2.St) = [some (.ref p), some (.int m), v, none] ∧ HandAt H p c ms i' r' t' ∧ Bt p H H) := ⟨none, i, r, t, rfl, hh, Bt.refl p H⟩
      refine ⟨_, rfl, p, _, _, _, rfl, rfl, Evl.sq_of hh.hp, rfl, rfl, _, rfl, ?_⟩
      cases hd : decide (V.int r = V.int 0) with
      | false => exact iteF out0
      | true =>
        refine iteT ?_
        refine ⟨_, rfl, p, _, _, _, rfl, rfl, Evl.sq_of hh.hp, rfl, _, rfl, p, _, _, _, rfl, rfl, Evl.sq_of hh.hp, rfl, _, _, rfl, Evl.sq_of hh.hc, _, _, rfl, rfl, _, rfl, ?_⟩
        rw [List.length_map]
        cases hd2 : decide (i < (ms.length : Int)) with
        | false => exact iteF out0
        | true =>
          have hi := of_decide_eq_true hd2
          obtain ⟨z, hat, hcell⟩ : ∃ z, atI (ms.map V.int) i = some (V.int z) ∧ 0 ≤ z := by
            obtain ⟨j, ej⟩ := Int.eq_ofNat_of_zero_le hh.i0
            have hj : j < ms.length := by omega
            refine ⟨ms[j], ?_, hh.pos _ (List.getElem_mem hj)⟩
            rw [ej]
            exact atI_nat (by rw [List.getElem?_map, List.getElem?_eq_getElem hj]; rfl)
          refine iteT ?_
          have h1 := hh.put (i' := i + 1) (r' := r) (t' := t) (by have := hh.i0; omega) hh.r0 hh.t0
          refine ⟨_, rfl, p, _, _, _, rfl, rfl, Evl.sq_of hh.hp, rfl, _, rfl, p, _, _, _, rfl, rfl, Evl.sq_of hh.hp, rfl, c, _, _, _, rfl, rfl, Evl.sq_of hh.hc, hat, ?_⟩
          refine ⟨_, rfl, p, _, _, _, rfl, rfl, Evl.sq_of hh.hp, rfl, _, _, rfl, rfl, _, rfl, p, _, _, 1, rfl, rfl, hh.hp, rfl, ?_⟩
          refine ⟨_, rfl, _, _, rfl, rfl, ⟨by decide, by decide, by decide⟩, _, _, rfl, rfl, _, rfl, ?_⟩
          refine ite2 (fun h18 => ?_) (fun h18 => ?_)
          · refine ⟨_, rfl, _, rfl, _, _, rfl, rfl, (by show (0 : Int) < 2147483399; decide), _, rfl, p, _, _, _, rfl, rfl, Evl.sq_of h1.hp, rfl, ?_⟩
            refine ⟨_, _, rfl, Int.emod_nonneg _ (by decide), h1.i0, fun r1 hr1 => ?_⟩
            refine ⟨_, rfl, _, rfl, _, _, rfl, rfl, hm, ?_⟩
            exact k _ _ (Int.emod_nonneg _ (by omega)) (Int.emod_lt_of_pos _ hm) ⟨c, ms, _, _, _, h1⟩ (Bt.upd p H _)
          · refine ⟨_, rfl, _, rfl, p, _, _, 2, rfl, rfl, h1.hp, rfl, ?_⟩
            exact ⟨_, i + 1, _, t, rfl, h1.put h1.i0 hcell h1.t0, (Bt.upd p H _).trans (Bt.upd p _ _)⟩
    · -- the rest
      rintro σ' H' ⟨v, i', r', t', rfl, h', b'⟩
      refine ⟨_, rfl, p, _, _, _, rfl, rfl, Evl.sq_of h'.hp, rfl, _, _, rfl, rfl, _, rfl, ?_⟩
      refine ite2 (fun h2 => ?_) (fun h2 => ?_)
      · refine ⟨_, rfl, p, _, _, _, rfl, rfl, Evl.sq_of h'.hp, rfl, _, rfl, _, rfl, _, rfl, _, _, rfl, rfl, wide, _, rfl, p, _, _, 2, rfl, rfl, h'.hp, rfl, ?_⟩
        refine ⟨_, rfl, _, rfl, _, rfl, _, _, rfl, rfl, hm, ?_⟩
        exact k _ _ (Int.emod_nonneg _ (by omega)) (Int.emod_lt_of_pos _ hm) ⟨c, ms, _, _, _, h'.put h'.i0 (Int.ediv_nonneg h'.r0 (by omega)) h'.t0⟩ (b'.trans (Bt.upd p _ _))
      · have h1 := h'.put (i' := i') (r' := r') (t' := (t' + 1) % 2147483549) h'.i0 h'.r0 (Int.emod_nonneg _ (by decide))
        refine ⟨_, rfl, p, _, _, _, rfl, rfl, Evl.sq_of h'.hp, rfl, _, _, rfl, rfl, _, rfl, _, _, rfl, rfl, (by show (0 : Int) < 2147483549; decide), _, rfl, p, _, _, 3, rfl, rfl, h'.hp, rfl, ?_⟩
        refine ⟨_, rfl, p, _, _, _, rfl, rfl, Evl.sq_of h1.hp, rfl, _, rfl, p, _, _, _, rfl, rfl, Evl.sq_of h1.hp, rfl, ?_⟩
        refine ⟨_, _, rfl, Int.emod_nonneg _ (by decide), h1.i0, fun r1 hr1 => ?_⟩
        refine ⟨_, rfl, _, rfl, _, _, rfl, rfl, hm, ?_⟩
        exact k _ _ (Int.emod_nonneg _ (by omega)) (Int.emod_lt_of_pos _ hm) ⟨c, ms, _, _, _, h1⟩ (b'.trans (Bt.upd p _ _))
end
end LW

set_option maxRecDepth 100000
set_option maxHeartbeats 4000000
namespace LW
open PySem PySem.Spec PyProof.Rows L2 Ve Evl

section
variable {P : Program} {w : World} {K : PySem.W.Frag} {mg : Str → Option Value} {base : Heap} {f C : Addr} {fd : FuncData}
theorem ok_i_BadChart (F : FnP K "__init__" "BadChart.__init__" s_BadChart___init f fd) (O : OexC K C) (no : ∀ x ∈ (["what", "index"] : List Str), PySem.W.findIn K (.ref C) x = some none) : FnOk P w K mg base CX0 1 f fd ["self", "what", "index"] (spX C ["what", "index"]) := by
  refine F.ok sc_BadChart___init (fun vs H Q E h => ?_) (fun cdv A outer s H vs Q E hr h => ?_)
  · obtain ⟨a, ws, rfl, hl, _⟩ := h
    exact congrArg Nat.succ hl
  · obtain ⟨a, ws, rfl, hl, ha, k⟩ := h
    match ws, hl, k with
    | [w0, w1], _, k =>
      refine ⟨_, PSs.nox (pss_cons (ps_ost (pv 0) (pv 1)) (pss_one (ps_ost (pv 0) (pv 2)))), ?_⟩
      refine ⟨_, rfl, _, rfl, a, C, rfl, O, no _ List.mem_cons_self, .inl ⟨ha, fun d hd hda => ?_⟩⟩
      refine ⟨_, rfl, _, rfl, a, C, rfl, O, no _ (List.mem_cons_of_mem _ List.mem_cons_self), .inr ⟨d, _, upd_same, (by rw [upd_ne hda]; exact upd_same), (Nat.le_of_ble_eq_true rfl), ?_⟩⟩
      exact k d _ hd hda (by rw [upd_ne (Ne.symm hda)]; exact upd_same) upd_same fun b o hb e => by rw [upd_ne (ne_of_none e hd), upd_ne hb, upd_ne (ne_of_none e hd)]; exact e
theorem ok_i_BadPlace (F : FnP K "__init__" "BadPlace.__init__" s_BadPlace___init f fd) (O : OexC K C) (no : ∀ x ∈ (["place"] : List Str), PySem.W.findIn K (.ref C) x = some none) : FnOk P w K mg base CX0 1 f fd ["self", "place"] (spX C ["place"]) := by
  refine F.ok sc_BadPlace___init (fun vs H Q E h => ?_) (fun cdv A outer s H vs Q E hr h => ?_)
  · obtain ⟨a, ws, rfl, hl, _⟩ := h
    exact congrArg Nat.succ hl
  · obtain ⟨a, ws, rfl, hl, ha, k⟩ := h
    match ws, hl, k with
    | [w0], _, k =>
      refine ⟨_, PSs.nox (pss_one (ps_ost (pv 0) (pv 1))), ?_⟩
      refine ⟨_, rfl, _, rfl, a, C, rfl, O, no _ List.mem_cons_self, .inl ⟨ha, fun d hd hda => ?_⟩⟩
      exact k d _ hd hda upd_same (by rw [upd_ne hda]; exact upd_same) fun b o hb e => by rw [upd_ne hb, upd_ne (ne_of_none e hd)]; exact e
theorem ok_i_BadArrow (F : FnP K "__init__" "BadArrow.__init__" s_BadArrow___init f fd) (O : OexC K C) (no : ∀ x ∈ (["arrow"] : List Str), PySem.W.findIn K (.ref C) x = some none) : FnOk P w K mg base CX0 1 f fd ["self", "arrow"] (spX C ["arrow"]) := by
  refine F.ok sc_BadArrow___init (fun vs H Q E h => ?_) (fun cdv A outer s H vs Q E hr h => ?_)
  · obtain ⟨a, ws, rfl, hl, _⟩ := h
    exact congrArg Nat.succ hl
  · obtain ⟨a, ws, rfl, hl, ha, k⟩ := h
    match ws, hl, k with
    | [w0], _, k =>
      refine ⟨_, PSs.nox (pss_one (ps_ost (pv 0) (pv 1))), ?_⟩
      refine ⟨_, rfl, _, rfl, a, C, rfl, O, no _ List.mem_cons_self, .inl ⟨ha, fun d hd hda => ?_⟩⟩
      exact k d _ hd hda upd_same (by rw [upd_ne hda]; exact upd_same) fun b o hb e => by rw [upd_ne hb, upd_ne (ne_of_none e hd)]; exact e
theorem ok_i_BadRun (F : FnP K "__init__" "BadRun.__init__" s_BadRun___init f fd) (O : OexC K C) (no : ∀ x ∈ (["index"] : List Str), PySem.W.findIn K (.ref C) x = some none) : FnOk P w K mg base CX0 1 f fd ["self", "index"] (spX C ["index"]) := by
  refine F.ok sc_BadRun___init (fun vs H Q E h => ?_) (fun cdv A outer s H vs Q E hr h => ?_)
  · obtain ⟨a, ws, rfl, hl, _⟩ := h
    exact congrArg Nat.succ hl
  · obtain ⟨a, ws, rfl, hl, ha, k⟩ := h
    match ws, hl, k with
    | [w0], _, k =>
      refine ⟨_, PSs.nox (pss_one (ps_ost (pv 0) (pv 1))), ?_⟩
      refine ⟨_, rfl, _, rfl, a, C, rfl, O, no _ List.mem_cons_self, .inl ⟨ha, fun d hd hda => ?_⟩⟩
      exact k d _ hd hda upd_same (by rw [upd_ne hda]; exact upd_same) fun b o hb e => by rw [upd_ne hb, upd_ne (ne_of_none e hd)]; exact e
theorem ok_i_BadLength (F : FnP K "__init__" "BadLength.__init__" s_BadLength___init f fd) (O : OexC K C) (no : ∀ x ∈ (["length"] : List Str), PySem.W.findIn K (.ref C) x = some none) : FnOk P w K mg base CX0 1 f fd ["self", "length"] (spX C ["length"]) := by
  refine F.ok sc_BadLength___init (fun vs H Q E h => ?_) (fun cdv A outer s H vs Q E hr h => ?_)
  · obtain ⟨a, ws, rfl, hl, _⟩ := h
    exact congrArg Nat.succ hl
  · obtain ⟨a, ws, rfl, hl, ha, k⟩ := h
    match ws, hl, k with
    | [w0], _, k =>
      refine ⟨_, PSs.nox (pss_one (ps_ost (pv 0) (pv 1))), ?_⟩
      refine ⟨_, rfl, _, rfl, a, C, rfl, O, no _ List.mem_cons_self, .inl ⟨ha, fun d hd hda => ?_⟩⟩
      exact k d _ hd hda upd_same (by rw [upd_ne hda]; exact upd_same) fun b o hb e => by rw [upd_ne hb, upd_ne (ne_of_none e hd)]; exact e
theorem ok_i_BadRing (F : FnP K "__init__" "BadRing.__init__" s_BadRing___init f fd) (O : OexC K C) (no : ∀ x ∈ (["index"] : List Str), PySem.W.findIn K (.ref C) x = some none) : FnOk P w K mg base CX0 1 f fd ["self", "index"] (spX C ["index"]) := by
  refine F.ok sc_BadRing___init (fun vs H Q E h => ?_) (fun cdv A outer s H vs Q E hr h => ?_)
  · obtain ⟨a, ws, rfl, hl, _⟩ := h
    exact congrArg Nat.succ hl
  · obtain ⟨a, ws, rfl, hl, ha, k⟩ := h
    match ws, hl, k with
    | [w0], _, k =>
      refine ⟨_, PSs.nox (pss_one (ps_ost (pv 0) (pv 1))), ?_⟩
      refine ⟨_, rfl, _, rfl, a, C, rfl, O, no _ List.mem_cons_self, .inl ⟨ha, fun d hd hda => ?_⟩⟩
      exact k d _ hd hda upd_same (by rw [upd_ne hda]; exact upd_same) fun b o hb e => by rw [upd_ne hb, upd_ne (ne_of_none e hd)]; exact e
theorem ok_i_BadText (F : FnP K "__init__" "BadText.__init__" s_BadText___init f fd) (O : OexC K C) (no : ∀ x ∈ (["word"] : List Str), PySem.W.findIn K (.ref C) x = some none) : FnOk P w K mg base CX0 1 f fd ["self", "word"] (spX C ["word"]) := by
  refine F.ok sc_BadText___init (fun vs H Q E h => ?_) (fun cdv A outer s H vs Q E hr h => ?_)
  · obtain ⟨a, ws, rfl, hl, _⟩ := h
    exact congrArg Nat.succ hl
  · obtain ⟨a, ws, rfl, hl, ha, k⟩ := h
    match ws, hl, k with
    | [w0], _, k =>
      refine ⟨_, PSs.nox (pss_one (ps_ost (pv 0) (pv 1))), ?_⟩
      refine ⟨_, rfl, _, rfl, a, C, rfl, O, no _ List.mem_cons_self, .inl ⟨ha, fun d hd hda => ?_⟩⟩
      exact k d _ hd hda upd_same (by rw [upd_ne hda]; exact upd_same) fun b o hb e => by rw [upd_ne hb, upd_ne (ne_of_none e hd)]; exact e
theorem ok_i_BadMeter (F : FnP K "__init__" "BadMeter.__init__" s_BadMeter___init f fd) (O : OexC K C) (no : ∀ x ∈ (["what", "index"] : List Str), PySem.W.findIn K (.ref C) x = some none) : FnOk P w K mg base CX0 1 f fd ["self", "what", "index"] (spX C ["what", "index"]) := by
  refine F.ok sc_BadMeter___init (fun vs H Q E h => ?_) (fun cdv A outer s H vs Q E hr h => ?_)
  · obtain ⟨a, ws, rfl, hl, _⟩ := h
    exact congrArg Nat.succ hl
  · obtain ⟨a, ws, rfl, hl, ha, k⟩ := h
    match ws, hl, k with
    | [w0, w1], _, k =>
      refine ⟨_, PSs.nox (pss_cons (ps_ost (pv 0) (pv 1)) (pss_one (ps_ost (pv 0) (pv 2)))), ?_⟩
      refine ⟨_, rfl, _, rfl, a, C, rfl, O, no _ List.mem_cons_self, .inl ⟨ha, fun d hd hda => ?_⟩⟩
      refine ⟨_, rfl, _, rfl, a, C, rfl, O, no _ (List.mem_cons_of_mem _ List.mem_cons_self), .inr ⟨d, _, upd_same, (by rw [upd_ne hda]; exact upd_same), (Nat.le_of_ble_eq_true rfl), ?_⟩⟩
      exact k d _ hd hda (by rw [upd_ne (Ne.symm hda)]; exact upd_same) upd_same fun b o hb e => by rw [upd_ne (ne_of_none e hd), upd_ne hb, upd_ne (ne_of_none e hd)]; exact e
theorem ok_i_Unlike (F : FnP K "__init__" "Unlike.__init__" s_Unlike___init f fd) (O : OexC K C) (no : ∀ x ∈ (["what"] : List Str), PySem.W.findIn K (.ref C) x = some none) : FnOk P w K mg base CX0 1 f fd ["self", "what"] (spX C ["what"]) := by
  refine F.ok sc_Unlike___init (fun vs H Q E h => ?_) (fun cdv A outer s H vs Q E hr h => ?_)
  · obtain ⟨a, ws, rfl, hl, _⟩ := h
    exact congrArg Nat.succ hl
  · obtain ⟨a, ws, rfl, hl, ha, k⟩ := h
    match ws, hl, k with
    | [w0], _, k =>
      refine ⟨_, PSs.nox (pss_one (ps_ost (pv 0) (pv 1))), ?_⟩
      refine ⟨_, rfl, _, rfl, a, C, rfl, O, no _ List.mem_cons_self, .inl ⟨ha, fun d hd hda => ?_⟩⟩
      exact k d _ hd hda upd_same (by rw [upd_ne hda]; exact upd_same) fun b o hb e => by rw [upd_ne hb, upd_ne (ne_of_none e hd)]; exact e
theorem ok_i_Drifting (F : FnP K "__init__" "Drifting.__init__" s_Drifting___init f fd) (O : OexC K C) (no : ∀ x ∈ (["ring", "by"] : List Str), PySem.W.findIn K (.ref C) x = some none) : FnOk P w K mg base CX0 1 f fd ["self", "ring", "by"] (spX C ["ring", "by"]) := by
  refine F.ok sc_Drifting___init (fun vs H Q E h => ?_) (fun cdv A outer s H vs Q E hr h => ?_)
  · obtain ⟨a, ws, rfl, hl, _⟩ := h
    exact congrArg Nat.succ hl
  · obtain ⟨a, ws, rfl, hl, ha, k⟩ := h
    match ws, hl, k with
    | [w0, w1], _, k =>
      refine ⟨_, PSs.nox (pss_cons (ps_ost (pv 0) (pv 1)) (pss_one (ps_ost (pv 0) (pv 2)))), ?_⟩
      refine ⟨_, rfl, _, rfl, a, C, rfl, O, no _ List.mem_cons_self, .inl ⟨ha, fun d hd hda => ?_⟩⟩
      refine ⟨_, rfl, _, rfl, a, C, rfl, O, no _ (List.mem_cons_of_mem _ List.mem_cons_self), .inr ⟨d, _, upd_same, (by rw [upd_ne hda]; exact upd_same), (Nat.le_of_ble_eq_true rfl), ?_⟩⟩
      exact k d _ hd hda (by rw [upd_ne (Ne.symm hda)]; exact upd_same) upd_same fun b o hb e => by rw [upd_ne (ne_of_none e hd), upd_ne hb, upd_ne (ne_of_none e hd)]; exact e
theorem ok_i_BadDemands (F : FnP K "__init__" "BadDemands.__init__" s_BadDemands___init f fd) (O : OexC K C) (no : ∀ x ∈ (["what", "index"] : List Str), PySem.W.findIn K (.ref C) x = some none) : FnOk P w K mg base CX0 1 f fd ["self", "what", "index"] (spX C ["what", "index"]) := by
  refine F.ok sc_BadDemands___init (fun vs H Q E h => ?_) (fun cdv A outer s H vs Q E hr h => ?_)
  · obtain ⟨a, ws, rfl, hl, _⟩ := h
    exact congrArg Nat.succ hl
  · obtain ⟨a, ws, rfl, hl, ha, k⟩ := h
    match ws, hl, k with
    | [w0, w1], _, k =>
      refine ⟨_, PSs.nox (pss_cons (ps_ost (pv 0) (pv 1)) (pss_one (ps_ost (pv 0) (pv 2)))), ?_⟩
      refine ⟨_, rfl, _, rfl, a, C, rfl, O, no _ List.mem_cons_self, .inl ⟨ha, fun d hd hda => ?_⟩⟩
      refine ⟨_, rfl, _, rfl, a, C, rfl, O, no _ (List.mem_cons_of_mem _ List.mem_cons_self), .inr ⟨d, _, upd_same, (by rw [upd_ne hda]; exact upd_same), (Nat.le_of_ble_eq_true rfl), ?_⟩⟩
      exact k d _ hd hda (by rw [upd_ne (Ne.symm hda)]; exact upd_same) upd_same fun b o hb e => by rw [upd_ne (ne_of_none e hd), upd_ne hb, upd_ne (ne_of_none e hd)]; exact e
theorem ok_i_BadHighs (F : FnP K "__init__" "BadHighs.__init__" s_BadHighs___init f fd) (O : OexC K C) (no : ∀ x ∈ (["index"] : List Str), PySem.W.findIn K (.ref C) x = some none) : FnOk P w K mg base CX0 1 f fd ["self", "index"] (spX C ["index"]) := by
  refine F.ok sc_BadHighs___init (fun vs H Q E h => ?_) (fun cdv A outer s H vs Q E hr h => ?_)
  · obtain ⟨a, ws, rfl, hl, _⟩ := h
    exact congrArg Nat.succ hl
  · obtain ⟨a, ws, rfl, hl, ha, k⟩ := h
    match ws, hl, k with
    | [w0], _, k =>
      refine ⟨_, PSs.nox (pss_one (ps_ost (pv 0) (pv 1))), ?_⟩
      refine ⟨_, rfl, _, rfl, a, C, rfl, O, no _ List.mem_cons_self, .inl ⟨ha, fun d hd hda => ?_⟩⟩
      exact k d _ hd hda upd_same (by rw [upd_ne hda]; exact upd_same) fun b o hb e => by rw [upd_ne hb, upd_ne (ne_of_none e hd)]; exact e
theorem ok_i_BadLot (F : FnP K "__init__" "BadLot.__init__" s_BadLot___init f fd) (O : OexC K C) (no : ∀ x ∈ (["index"] : List Str), PySem.W.findIn K (.ref C) x = some none) : FnOk P w K mg base CX0 1 f fd ["self", "index"] (spX C ["index"]) := by
  refine F.ok sc_BadLot___init (fun vs H Q E h => ?_) (fun cdv A outer s H vs Q E hr h => ?_)
  · obtain ⟨a, ws, rfl, hl, _⟩ := h
    exact congrArg Nat.succ hl
  · obtain ⟨a, ws, rfl, hl, ha, k⟩ := h
    match ws, hl, k with
    | [w0], _, k =>
      refine ⟨_, PSs.nox (pss_one (ps_ost (pv 0) (pv 1))), ?_⟩
      refine ⟨_, rfl, _, rfl, a, C, rfl, O, no _ List.mem_cons_self, .inl ⟨ha, fun d hd hda => ?_⟩⟩
      exact k d _ hd hda upd_same (by rw [upd_ne hda]; exact upd_same) fun b o hb e => by rw [upd_ne hb, upd_ne (ne_of_none e hd)]; exact e
theorem ok_i_BadLeads (F : FnP K "__init__" "BadLeads.__init__" s_BadLeads___init f fd) (O : OexC K C) (no : ∀ x ∈ (["index"] : List Str), PySem.W.findIn K (.ref C) x = some none) : FnOk P w K mg base CX0 1 f fd ["self", "index"] (spX C ["index"]) := by
  refine F.ok sc_BadLeads___init (fun vs H Q E h => ?_) (fun cdv A outer s H vs Q E hr h => ?_)
  · obtain ⟨a, ws, rfl, hl, _⟩ := h
    exact congrArg Nat.succ hl
  · obtain ⟨a, ws, rfl, hl, ha, k⟩ := h
    match ws, hl, k with
    | [w0], _, k =>
      refine ⟨_, PSs.nox (pss_one (ps_ost (pv 0) (pv 1))), ?_⟩
      refine ⟨_, rfl, _, rfl, a, C, rfl, O, no _ List.mem_cons_self, .inl ⟨ha, fun d hd hda => ?_⟩⟩
      exact k d _ hd hda upd_same (by rw [upd_ne hda]; exact upd_same) fun b o hb e => by rw [upd_ne hb, upd_ne (ne_of_none e hd)]; exact e
theorem ok_i_BadLows (F : FnP K "__init__" "BadLows.__init__" s_BadLows___init f fd) (O : OexC K C) (no : ∀ x ∈ (["index"] : List Str), PySem.W.findIn K (.ref C) x = some none) : FnOk P w K mg base CX0 1 f fd ["self", "index"] (spX C ["index"]) := by
  refine F.ok sc_BadLows___init (fun vs H Q E h => ?_) (fun cdv A outer s H vs Q E hr h => ?_)
  · obtain ⟨a, ws, rfl, hl, _⟩ := h
    exact congrArg Nat.succ hl
  · obtain ⟨a, ws, rfl, hl, ha, k⟩ := h
    match ws, hl, k with
    | [w0], _, k =>
      refine ⟨_, PSs.nox (pss_one (ps_ost (pv 0) (pv 1))), ?_⟩
      refine ⟨_, rfl, _, rfl, a, C, rfl, O, no _ List.mem_cons_self, .inl ⟨ha, fun d hd hda => ?_⟩⟩
      exact k d _ hd hda upd_same (by rw [upd_ne hda]; exact upd_same) fun b o hb e => by rw [upd_ne hb, upd_ne (ne_of_none e hd)]; exact e
theorem ok_i_NotEven (F : FnP K "__init__" "NotEven.__init__" s_NotEven___init f fd) (O : OexC K C) (no : ∀ x ∈ (["arrow"] : List Str), PySem.W.findIn K (.ref C) x = some none) : FnOk P w K mg base CX0 1 f fd ["self", "arrow"] (spX C ["arrow"]) := by
  refine F.ok sc_NotEven___init (fun vs H Q E h => ?_) (fun cdv A outer s H vs Q E hr h => ?_)
  · obtain ⟨a, ws, rfl, hl, _⟩ := h
    exact congrArg Nat.succ hl
  · obtain ⟨a, ws, rfl, hl, ha, k⟩ := h
    match ws, hl, k with
    | [w0], _, k =>
      refine ⟨_, PSs.nox (pss_one (ps_ost (pv 0) (pv 1))), ?_⟩
      refine ⟨_, rfl, _, rfl, a, C, rfl, O, no _ List.mem_cons_self, .inl ⟨ha, fun d hd hda => ?_⟩⟩
      exact k d _ hd hda upd_same (by rw [upd_ne hda]; exact upd_same) fun b o hb e => by rw [upd_ne hb, upd_ne (ne_of_none e hd)]; exact e
theorem ok_i_BadMost (F : FnP K "__init__" "BadMost.__init__" s_BadMost___init f fd) (O : OexC K C) (no : ∀ x ∈ (["most"] : List Str), PySem.W.findIn K (.ref C) x = some none) : FnOk P w K mg base CX0 1 f fd ["self", "most"] (spX C ["most"]) := by
  refine F.ok sc_BadMost___init (fun vs H Q E h => ?_) (fun cdv A outer s H vs Q E hr h => ?_)
  · obtain ⟨a, ws, rfl, hl, _⟩ := h
    exact congrArg Nat.succ hl
  · obtain ⟨a, ws, rfl, hl, ha, k⟩ := h
    match ws, hl, k with
    | [w0], _, k =>
      refine ⟨_, PSs.nox (pss_one (ps_ost (pv 0) (pv 1))), ?_⟩
      refine ⟨_, rfl, _, rfl, a, C, rfl, O, no _ List.mem_cons_self, .inl ⟨ha, fun d hd hda => ?_⟩⟩
      exact k d _ hd hda upd_same (by rw [upd_ne hda]; exact upd_same) fun b o hb e => by rw [upd_ne hb, upd_ne (ne_of_none e hd)]; exact e
theorem ok_i_TooTight (F : FnP K "__init__" "TooTight.__init__" s_TooTight___init f fd) (O : OexC K C) (no : ∀ x ∈ (["place"] : List Str), PySem.W.findIn K (.ref C) x = some none) : FnOk P w K mg base CX0 1 f fd ["self", "place"] (spX C ["place"]) := by
  refine F.ok sc_TooTight___init (fun vs H Q E h => ?_) (fun cdv A outer s H vs Q E hr h => ?_)
  · obtain ⟨a, ws, rfl, hl, _⟩ := h
    exact congrArg Nat.succ hl
  · obtain ⟨a, ws, rfl, hl, ha, k⟩ := h
    match ws, hl, k with
    | [w0], _, k =>
      refine ⟨_, PSs.nox (pss_one (ps_ost (pv 0) (pv 1))), ?_⟩
      refine ⟨_, rfl, _, rfl, a, C, rfl, O, no _ List.mem_cons_self, .inl ⟨ha, fun d hd hda => ?_⟩⟩
      exact k d _ hd hda upd_same (by rw [upd_ne hda]; exact upd_same) fun b o hb e => by rw [upd_ne hb, upd_ne (ne_of_none e hd)]; exact e
theorem ok_i_TooMany (F : FnP K "__init__" "TooMany.__init__" s_TooMany___init f fd) (O : OexC K C) (no : ∀ x ∈ (["count"] : List Str), PySem.W.findIn K (.ref C) x = some none) : FnOk P w K mg base CX0 1 f fd ["self", "count"] (spX C ["count"]) := by
  refine F.ok sc_TooMany___init (fun vs H Q E h => ?_) (fun cdv A outer s H vs Q E hr h => ?_)
  · obtain ⟨a, ws, rfl, hl, _⟩ := h
    exact congrArg Nat.succ hl
  · obtain ⟨a, ws, rfl, hl, ha, k⟩ := h
    match ws, hl, k with
    | [w0], _, k =>
      refine ⟨_, PSs.nox (pss_one (ps_ost (pv 0) (pv 1))), ?_⟩
      refine ⟨_, rfl, _, rfl, a, C, rfl, O, no _ List.mem_cons_self, .inl ⟨ha, fun d hd hda => ?_⟩⟩
      exact k d _ hd hda upd_same (by rw [upd_ne hda]; exact upd_same) fun b o hb e => by rw [upd_ne hb, upd_ne (ne_of_none e hd)]; exact e
theorem ok_i_BadWeights (F : FnP K "__init__" "BadWeights.__init__" s_BadWeights___init f fd) (O : OexC K C) (no : ∀ x ∈ (["index"] : List Str), PySem.W.findIn K (.ref C) x = some none) : FnOk P w K mg base CX0 1 f fd ["self", "index"] (spX C ["index"]) := by
  refine F.ok sc_BadWeights___init (fun vs H Q E h => ?_) (fun cdv A outer s H vs Q E hr h => ?_)
  · obtain ⟨a, ws, rfl, hl, _⟩ := h
    exact congrArg Nat.succ hl
  · obtain ⟨a, ws, rfl, hl, ha, k⟩ := h
    match ws, hl, k with
    | [w0], _, k =>
      refine ⟨_, PSs.nox (pss_one (ps_ost (pv 0) (pv 1))), ?_⟩
      refine ⟨_, rfl, _, rfl, a, C, rfl, O, no _ List.mem_cons_self, .inl ⟨ha, fun d hd hda => ?_⟩⟩
      exact k d _ hd hda upd_same (by rw [upd_ne hda]; exact upd_same) fun b o hb e => by rw [upd_ne hb, upd_ne (ne_of_none e hd)]; exact e
theorem ok_i_BadPlaces (F : FnP K "__init__" "BadPlaces.__init__" s_BadPlaces___init f fd) (O : OexC K C) (no : ∀ x ∈ (["index"] : List Str), PySem.W.findIn K (.ref C) x = some none) : FnOk P w K mg base CX0 1 f fd ["self", "index"] (spX C ["index"]) := by
  refine F.ok sc_BadPlaces___init (fun vs H Q E h => ?_) (fun cdv A outer s H vs Q E hr h => ?_)
  · obtain ⟨a, ws, rfl, hl, _⟩ := h
    exact congrArg Nat.succ hl
  · obtain ⟨a, ws, rfl, hl, ha, k⟩ := h
    match ws, hl, k with
    | [w0], _, k =>
      refine ⟨_, PSs.nox (pss_one (ps_ost (pv 0) (pv 1))), ?_⟩
      refine ⟨_, rfl, _, rfl, a, C, rfl, O, no _ List.mem_cons_self, .inl ⟨ha, fun d hd hda => ?_⟩⟩
      exact k d _ hd hda upd_same (by rw [upd_ne hda]; exact upd_same) fun b o hb e => by rw [upd_ne hb, upd_ne (ne_of_none e hd)]; exact e
theorem ok_i_BadLimit (F : FnP K "__init__" "BadLimit.__init__" s_BadLimit___init f fd) (O : OexC K C) (no : ∀ x ∈ (["limit"] : List Str), PySem.W.findIn K (.ref C) x = some none) : FnOk P w K mg base CX0 1 f fd ["self", "limit"] (spX C ["limit"]) := by
  refine F.ok sc_BadLimit___init (fun vs H Q E h => ?_) (fun cdv A outer s H vs Q E hr h => ?_)
  · obtain ⟨a, ws, rfl, hl, _⟩ := h
    exact congrArg Nat.succ hl
  · obtain ⟨a, ws, rfl, hl, ha, k⟩ := h
    match ws, hl, k with
    | [w0], _, k =>
      refine ⟨_, PSs.nox (pss_one (ps_ost (pv 0) (pv 1))), ?_⟩
      refine ⟨_, rfl, _, rfl, a, C, rfl, O, no _ List.mem_cons_self, .inl ⟨ha, fun d hd hda => ?_⟩⟩
      exact k d _ hd hda upd_same (by rw [upd_ne hda]; exact upd_same) fun b o hb e => by rw [upd_ne hb, upd_ne (ne_of_none e hd)]; exact e
theorem ok_i_NotMetered (F : FnP K "__init__" "NotMetered.__init__" s_NotMetered___init f fd) (O : OexC K C) (no : ∀ x ∈ (["what"] : List Str), PySem.W.findIn K (.ref C) x = some none) : FnOk P w K mg base CX0 1 f fd ["self", "what"] (spX C ["what"]) := by
  refine F.ok sc_NotMetered___init (fun vs H Q E h => ?_) (fun cdv A outer s H vs Q E hr h => ?_)
  · obtain ⟨a, ws, rfl, hl, _⟩ := h
    exact congrArg Nat.succ hl
  · obtain ⟨a, ws, rfl, hl, ha, k⟩ := h
    match ws, hl, k with
    | [w0], _, k =>
      refine ⟨_, PSs.nox (pss_one (ps_ost (pv 0) (pv 1))), ?_⟩
      refine ⟨_, rfl, _, rfl, a, C, rfl, O, no _ List.mem_cons_self, .inl ⟨ha, fun d hd hda => ?_⟩⟩
      exact k d _ hd hda upd_same (by rw [upd_ne hda]; exact upd_same) fun b o hb e => by rw [upd_ne hb, upd_ne (ne_of_none e hd)]; exact e
theorem ok_i_BadGates (F : FnP K "__init__" "BadGates.__init__" s_BadGates___init f fd) (O : OexC K C) (no : ∀ x ∈ (["index"] : List Str), PySem.W.findIn K (.ref C) x = some none) : FnOk P w K mg base CX0 1 f fd ["self", "index"] (spX C ["index"]) := by
  refine F.ok sc_BadGates___init (fun vs H Q E h => ?_) (fun cdv A outer s H vs Q E hr h => ?_)
  · obtain ⟨a, ws, rfl, hl, _⟩ := h
    exact congrArg Nat.succ hl
  · obtain ⟨a, ws, rfl, hl, ha, k⟩ := h
    match ws, hl, k with
    | [w0], _, k =>
      refine ⟨_, PSs.nox (pss_one (ps_ost (pv 0) (pv 1))), ?_⟩
      refine ⟨_, rfl, _, rfl, a, C, rfl, O, no _ List.mem_cons_self, .inl ⟨ha, fun d hd hda => ?_⟩⟩
      exact k d _ hd hda upd_same (by rw [upd_ne hda]; exact upd_same) fun b o hb e => by rw [upd_ne hb, upd_ne (ne_of_none e hd)]; exact e
theorem ok_i_BadStep (F : FnP K "__init__" "BadStep.__init__" s_BadStep___init f fd) (O : OexC K C) (no : ∀ x ∈ (["arrow"] : List Str), PySem.W.findIn K (.ref C) x = some none) : FnOk P w K mg base CX0 1 f fd ["self", "arrow"] (spX C ["arrow"]) := by
  refine F.ok sc_BadStep___init (fun vs H Q E h => ?_) (fun cdv A outer s H vs Q E hr h => ?_)
  · obtain ⟨a, ws, rfl, hl, _⟩ := h
    exact congrArg Nat.succ hl
  · obtain ⟨a, ws, rfl, hl, ha, k⟩ := h
    match ws, hl, k with
    | [w0], _, k =>
      refine ⟨_, PSs.nox (pss_one (ps_ost (pv 0) (pv 1))), ?_⟩
      refine ⟨_, rfl, _, rfl, a, C, rfl, O, no _ List.mem_cons_self, .inl ⟨ha, fun d hd hda => ?_⟩⟩
      exact k d _ hd hda upd_same (by rw [upd_ne hda]; exact upd_same) fun b o hb e => by rw [upd_ne hb, upd_ne (ne_of_none e hd)]; exact e
theorem ok_i_BadWorks (F : FnP K "__init__" "BadWorks.__init__" s_BadWorks___init f fd) (O : OexC K C) (no : ∀ x ∈ (["what", "procedure", "place"] : List Str), PySem.W.findIn K (.ref C) x = some none) : FnOk P w K mg base CX0 1 f fd ["self", "what", "procedure", "place"] (spX C ["what", "procedure", "place"]) := by
  refine F.ok sc_BadWorks___init (fun vs H Q E h => ?_) (fun cdv A outer s H vs Q E hr h => ?_)
  · obtain ⟨a, ws, rfl, hl, _⟩ := h
    exact congrArg Nat.succ hl
  · obtain ⟨a, ws, rfl, hl, ha, k⟩ := h
    match ws, hl, k with
    | [w0, w1, w2], _, k =>
      refine ⟨_, PSs.nox (pss_cons (ps_ost (pv 0) (pv 1)) (pss_cons (ps_ost (pv 0) (pv 2)) (pss_one (ps_ost (pv 0) (pv 3))))), ?_⟩
      refine ⟨_, rfl, _, rfl, a, C, rfl, O, no _ List.mem_cons_self, .inl ⟨ha, fun d hd hda => ?_⟩⟩
      refine ⟨_, rfl, _, rfl, a, C, rfl, O, no _ (List.mem_cons_of_mem _ List.mem_cons_self), .inr ⟨d, _, upd_same, (by rw [upd_ne hda]; exact upd_same), (Nat.le_of_ble_eq_true rfl), ?_⟩⟩
      refine ⟨_, rfl, _, rfl, a, C, rfl, O, no _ (List.mem_cons_of_mem _ (List.mem_cons_of_mem _ List.mem_cons_self)), .inr ⟨d, _, (by rw [upd_ne (Ne.symm hda)]; exact upd_same), upd_same, (Nat.le_of_ble_eq_true rfl), ?_⟩⟩
      exact k d _ hd hda (by rw [upd_ne (Ne.symm hda), upd_ne (Ne.symm hda)]; exact upd_same) upd_same fun b o hb e => by rw [upd_ne (ne_of_none e hd), upd_ne (ne_of_none e hd), upd_ne hb, upd_ne (ne_of_none e hd)]; exact e
theorem ok_i_BadPoint (F : FnP K "__init__" "BadPoint.__init__" s_BadPoint___init f fd) (O : OexC K C) (no : ∀ x ∈ (["point"] : List Str), PySem.W.findIn K (.ref C) x = some none) : FnOk P w K mg base CX0 1 f fd ["self", "point"] (spX C ["point"]) := by
  refine F.ok sc_BadPoint___init (fun vs H Q E h => ?_) (fun cdv A outer s H vs Q E hr h => ?_)
  · obtain ⟨a, ws, rfl, hl, _⟩ := h
    exact congrArg Nat.succ hl
  · obtain ⟨a, ws, rfl, hl, ha, k⟩ := h
    match ws, hl, k with
    | [w0], _, k =>
      refine ⟨_, PSs.nox (pss_one (ps_ost (pv 0) (pv 1))), ?_⟩
      refine ⟨_, rfl, _, rfl, a, C, rfl, O, no _ List.mem_cons_self, .inl ⟨ha, fun d hd hda => ?_⟩⟩
      exact k d _ hd hda upd_same (by rw [upd_ne hda]; exact upd_same) fun b o hb e => by rw [upd_ne hb, upd_ne (ne_of_none e hd)]; exact e
theorem ok_i_BadSteps (F : FnP K "__init__" "BadSteps.__init__" s_BadSteps___init f fd) (O : OexC K C) (no : ∀ x ∈ (["index"] : List Str), PySem.W.findIn K (.ref C) x = some none) : FnOk P w K mg base CX0 1 f fd ["self", "index"] (spX C ["index"]) := by
  refine F.ok sc_BadSteps___init (fun vs H Q E h => ?_) (fun cdv A outer s H vs Q E hr h => ?_)
  · obtain ⟨a, ws, rfl, hl, _⟩ := h
    exact congrArg Nat.succ hl
  · obtain ⟨a, ws, rfl, hl, ha, k⟩ := h
    match ws, hl, k with
    | [w0], _, k =>
      refine ⟨_, PSs.nox (pss_one (ps_ost (pv 0) (pv 1))), ?_⟩
      refine ⟨_, rfl, _, rfl, a, C, rfl, O, no _ List.mem_cons_self, .inl ⟨ha, fun d hd hda => ?_⟩⟩
      exact k d _ hd hda upd_same (by rw [upd_ne hda]; exact upd_same) fun b o hb e => by rw [upd_ne hb, upd_ne (ne_of_none e hd)]; exact e
theorem ok_i_BadProcedure (F : FnP K "__init__" "BadProcedure.__init__" s_BadProcedure___init f fd) (O : OexC K C) (no : ∀ x ∈ (["procedure"] : List Str), PySem.W.findIn K (.ref C) x = some none) : FnOk P w K mg base CX0 1 f fd ["self", "procedure"] (spX C ["procedure"]) := by
  refine F.ok sc_BadProcedure___init (fun vs H Q E h => ?_) (fun cdv A outer s H vs Q E hr h => ?_)
  · obtain ⟨a, ws, rfl, hl, _⟩ := h
    exact congrArg Nat.succ hl
  · obtain ⟨a, ws, rfl, hl, ha, k⟩ := h
    match ws, hl, k with
    | [w0], _, k =>
      refine ⟨_, PSs.nox (pss_one (ps_ost (pv 0) (pv 1))), ?_⟩
      refine ⟨_, rfl, _, rfl, a, C, rfl, O, no _ List.mem_cons_self, .inl ⟨ha, fun d hd hda => ?_⟩⟩
      exact k d _ hd hda upd_same (by rw [upd_ne hda]; exact upd_same) fun b o hb e => by rw [upd_ne hb, upd_ne (ne_of_none e hd)]; exact e
theorem ok_i_BadWorkMeter (F : FnP K "__init__" "BadWorkMeter.__init__" s_BadWorkMeter___init f fd) (O : OexC K C) (no : ∀ x ∈ (["what", "procedure", "index"] : List Str), PySem.W.findIn K (.ref C) x = some none) : FnOk P w K mg base CX0 1 f fd ["self", "what", "procedure", "index"] (spX C ["what", "procedure", "index"]) := by
  refine F.ok sc_BadWorkMeter___init (fun vs H Q E h => ?_) (fun cdv A outer s H vs Q E hr h => ?_)
  · obtain ⟨a, ws, rfl, hl, _⟩ := h
    exact congrArg Nat.succ hl
  · obtain ⟨a, ws, rfl, hl, ha, k⟩ := h
    match ws, hl, k with
    | [w0, w1, w2], _, k =>
      refine ⟨_, PSs.nox (pss_cons (ps_ost (pv 0) (pv 1)) (pss_cons (ps_ost (pv 0) (pv 2)) (pss_one (ps_ost (pv 0) (pv 3))))), ?_⟩
      refine ⟨_, rfl, _, rfl, a, C, rfl, O, no _ List.mem_cons_self, .inl ⟨ha, fun d hd hda => ?_⟩⟩
      refine ⟨_, rfl, _, rfl, a, C, rfl, O, no _ (List.mem_cons_of_mem _ List.mem_cons_self), .inr ⟨d, _, upd_same, (by rw [upd_ne hda]; exact upd_same), (Nat.le_of_ble_eq_true rfl), ?_⟩⟩
      refine ⟨_, rfl, _, rfl, a, C, rfl, O, no _ (List.mem_cons_of_mem _ (List.mem_cons_of_mem _ List.mem_cons_self)), .inr ⟨d, _, (by rw [upd_ne (Ne.symm hda)]; exact upd_same), upd_same, (Nat.le_of_ble_eq_true rfl), ?_⟩⟩
      exact k d _ hd hda (by rw [upd_ne (Ne.symm hda), upd_ne (Ne.symm hda)]; exact upd_same) upd_same fun b o hb e => by rw [upd_ne (ne_of_none e hd), upd_ne (ne_of_none e hd), upd_ne hb, upd_ne (ne_of_none e hd)]; exact e
theorem ok_i_BadWorkLeads (F : FnP K "__init__" "BadWorkLeads.__init__" s_BadWorkLeads___init f fd) (O : OexC K C) (no : ∀ x ∈ (["procedure", "place"] : List Str), PySem.W.findIn K (.ref C) x = some none) : FnOk P w K mg base CX0 1 f fd ["self", "procedure", "place"] (spX C ["procedure", "place"]) := by
  refine F.ok sc_BadWorkLeads___init (fun vs H Q E h => ?_) (fun cdv A outer s H vs Q E hr h => ?_)
  · obtain ⟨a, ws, rfl, hl, _⟩ := h
    exact congrArg Nat.succ hl
  · obtain ⟨a, ws, rfl, hl, ha, k⟩ := h
    match ws, hl, k with
    | [w0, w1], _, k =>
      refine ⟨_, PSs.nox (pss_cons (ps_ost (pv 0) (pv 1)) (pss_one (ps_ost (pv 0) (pv 2)))), ?_⟩
      refine ⟨_, rfl, _, rfl, a, C, rfl, O, no _ List.mem_cons_self, .inl ⟨ha, fun d hd hda => ?_⟩⟩
      refine ⟨_, rfl, _, rfl, a, C, rfl, O, no _ (List.mem_cons_of_mem _ List.mem_cons_self), .inr ⟨d, _, upd_same, (by rw [upd_ne hda]; exact upd_same), (Nat.le_of_ble_eq_true rfl), ?_⟩⟩
      exact k d _ hd hda (by rw [upd_ne (Ne.symm hda)]; exact upd_same) upd_same fun b o hb e => by rw [upd_ne (ne_of_none e hd), upd_ne hb, upd_ne (ne_of_none e hd)]; exact e
theorem ok_i_NotEvenWorks (F : FnP K "__init__" "NotEvenWorks.__init__" s_NotEvenWorks___init f fd) (O : OexC K C) (no : ∀ x ∈ (["mark"] : List Str), PySem.W.findIn K (.ref C) x = some none) : FnOk P w K mg base CX0 1 f fd ["self", "mark"] (spX C ["mark"]) := by
  refine F.ok sc_NotEvenWorks___init (fun vs H Q E h => ?_) (fun cdv A outer s H vs Q E hr h => ?_)
  · obtain ⟨a, ws, rfl, hl, _⟩ := h
    exact congrArg Nat.succ hl
  · obtain ⟨a, ws, rfl, hl, ha, k⟩ := h
    match ws, hl, k with
    | [w0], _, k =>
      refine ⟨_, PSs.nox (pss_one (ps_ost (pv 0) (pv 1))), ?_⟩
      refine ⟨_, rfl, _, rfl, a, C, rfl, O, no _ List.mem_cons_self, .inl ⟨ha, fun d hd hda => ?_⟩⟩
      exact k d _ hd hda upd_same (by rw [upd_ne hda]; exact upd_same) fun b o hb e => by rw [upd_ne hb, upd_ne (ne_of_none e hd)]; exact e
theorem ok_i_BadWorkGates (F : FnP K "__init__" "BadWorkGates.__init__" s_BadWorkGates___init f fd) (O : OexC K C) (no : ∀ x ∈ (["procedure", "place"] : List Str), PySem.W.findIn K (.ref C) x = some none) : FnOk P w K mg base CX0 1 f fd ["self", "procedure", "place"] (spX C ["procedure", "place"]) := by
  refine F.ok sc_BadWorkGates___init (fun vs H Q E h => ?_) (fun cdv A outer s H vs Q E hr h => ?_)
  · obtain ⟨a, ws, rfl, hl, _⟩ := h
    exact congrArg Nat.succ hl
  · obtain ⟨a, ws, rfl, hl, ha, k⟩ := h
    match ws, hl, k with
    | [w0, w1], _, k =>
      refine ⟨_, PSs.nox (pss_cons (ps_ost (pv 0) (pv 1)) (pss_one (ps_ost (pv 0) (pv 2)))), ?_⟩
      refine ⟨_, rfl, _, rfl, a, C, rfl, O, no _ List.mem_cons_self, .inl ⟨ha, fun d hd hda => ?_⟩⟩
      refine ⟨_, rfl, _, rfl, a, C, rfl, O, no _ (List.mem_cons_of_mem _ List.mem_cons_self), .inr ⟨d, _, upd_same, (by rw [upd_ne hda]; exact upd_same), (Nat.le_of_ble_eq_true rfl), ?_⟩⟩
      exact k d _ hd hda (by rw [upd_ne (Ne.symm hda)]; exact upd_same) upd_same fun b o hb e => by rw [upd_ne (ne_of_none e hd), upd_ne hb, upd_ne (ne_of_none e hd)]; exact e
theorem ok_i_BadWorkLot (F : FnP K "__init__" "BadWorkLot.__init__" s_BadWorkLot___init f fd) (O : OexC K C) (no : ∀ x ∈ (["index"] : List Str), PySem.W.findIn K (.ref C) x = some none) : FnOk P w K mg base CX0 1 f fd ["self", "index"] (spX C ["index"]) := by
  refine F.ok sc_BadWorkLot___init (fun vs H Q E h => ?_) (fun cdv A outer s H vs Q E hr h => ?_)
  · obtain ⟨a, ws, rfl, hl, _⟩ := h
    exact congrArg Nat.succ hl
  · obtain ⟨a, ws, rfl, hl, ha, k⟩ := h
    match ws, hl, k with
    | [w0], _, k =>
      refine ⟨_, PSs.nox (pss_one (ps_ost (pv 0) (pv 1))), ?_⟩
      refine ⟨_, rfl, _, rfl, a, C, rfl, O, no _ List.mem_cons_self, .inl ⟨ha, fun d hd hda => ?_⟩⟩
      exact k d _ hd hda upd_same (by rw [upd_ne hda]; exact upd_same) fun b o hb e => by rw [upd_ne hb, upd_ne (ne_of_none e hd)]; exact e
theorem ok_i_RingOfCalls (F : FnP K "__init__" "RingOfCalls.__init__" s_RingOfCalls___init f fd) (O : OexC K C) (no : ∀ x ∈ (["points"] : List Str), PySem.W.findIn K (.ref C) x = some none) : FnOk P w K mg base CX0 1 f fd ["self", "points"] (spX C ["points"]) := by
  refine F.ok sc_RingOfCalls___init (fun vs H Q E h => ?_) (fun cdv A outer s H vs Q E hr h => ?_)
  · obtain ⟨a, ws, rfl, hl, _⟩ := h
    exact congrArg Nat.succ hl
  · obtain ⟨a, ws, rfl, hl, ha, k⟩ := h
    match ws, hl, k with
    | [w0], _, k =>
      refine ⟨_, PSs.nox (pss_one (ps_ost (pv 0) (pv 1))), ?_⟩
      refine ⟨_, rfl, _, rfl, a, C, rfl, O, no _ List.mem_cons_self, .inl ⟨ha, fun d hd hda => ?_⟩⟩
      exact k d _ hd hda upd_same (by rw [upd_ne hda]; exact upd_same) fun b o hb e => by rw [upd_ne hb, upd_ne (ne_of_none e hd)]; exact e
theorem ok_i_BadKinds (F : FnP K "__init__" "BadKinds.__init__" s_BadKinds___init f fd) (O : OexC K C) (no : ∀ x ∈ (["what", "index"] : List Str), PySem.W.findIn K (.ref C) x = some none) : FnOk P w K mg base CX0 1 f fd ["self", "what", "index"] (spX C ["what", "index"]) := by
  refine F.ok sc_BadKinds___init (fun vs H Q E h => ?_) (fun cdv A outer s H vs Q E hr h => ?_)
  · obtain ⟨a, ws, rfl, hl, _⟩ := h
    exact congrArg Nat.succ hl
  · obtain ⟨a, ws, rfl, hl, ha, k⟩ := h
    match ws, hl, k with
    | [w0, w1], _, k =>
      refine ⟨_, PSs.nox (pss_cons (ps_ost (pv 0) (pv 1)) (pss_one (ps_ost (pv 0) (pv 2)))), ?_⟩
      refine ⟨_, rfl, _, rfl, a, C, rfl, O, no _ List.mem_cons_self, .inl ⟨ha, fun d hd hda => ?_⟩⟩
      refine ⟨_, rfl, _, rfl, a, C, rfl, O, no _ (List.mem_cons_of_mem _ List.mem_cons_self), .inr ⟨d, _, upd_same, (by rw [upd_ne hda]; exact upd_same), (Nat.le_of_ble_eq_true rfl), ?_⟩⟩
      exact k d _ hd hda (by rw [upd_ne (Ne.symm hda)]; exact upd_same) upd_same fun b o hb e => by rw [upd_ne (ne_of_none e hd), upd_ne hb, upd_ne (ne_of_none e hd)]; exact e
theorem ok_i_NoKind (F : FnP K "__init__" "NoKind.__init__" s_NoKind___init f fd) (O : OexC K C) (no : ∀ x ∈ (["kind"] : List Str), PySem.W.findIn K (.ref C) x = some none) : FnOk P w K mg base CX0 1 f fd ["self", "kind"] (spX C ["kind"]) := by
  refine F.ok sc_NoKind___init (fun vs H Q E h => ?_) (fun cdv A outer s H vs Q E hr h => ?_)
  · obtain ⟨a, ws, rfl, hl, _⟩ := h
    exact congrArg Nat.succ hl
  · obtain ⟨a, ws, rfl, hl, ha, k⟩ := h
    match ws, hl, k with
    | [w0], _, k =>
      refine ⟨_, PSs.nox (pss_one (ps_ost (pv 0) (pv 1))), ?_⟩
      refine ⟨_, rfl, _, rfl, a, C, rfl, O, no _ List.mem_cons_self, .inl ⟨ha, fun d hd hda => ?_⟩⟩
      exact k d _ hd hda upd_same (by rw [upd_ne hda]; exact upd_same) fun b o hb e => by rw [upd_ne hb, upd_ne (ne_of_none e hd)]; exact e
theorem ok_i_BadPrices (F : FnP K "__init__" "BadPrices.__init__" s_BadPrices___init f fd) (O : OexC K C) (no : ∀ x ∈ (["index"] : List Str), PySem.W.findIn K (.ref C) x = some none) : FnOk P w K mg base CX0 1 f fd ["self", "index"] (spX C ["index"]) := by
  refine F.ok sc_BadPrices___init (fun vs H Q E h => ?_) (fun cdv A outer s H vs Q E hr h => ?_)
  · obtain ⟨a, ws, rfl, hl, _⟩ := h
    exact congrArg Nat.succ hl
  · obtain ⟨a, ws, rfl, hl, ha, k⟩ := h
    match ws, hl, k with
    | [w0], _, k =>
      refine ⟨_, PSs.nox (pss_one (ps_ost (pv 0) (pv 1))), ?_⟩
      refine ⟨_, rfl, _, rfl, a, C, rfl, O, no _ List.mem_cons_self, .inl ⟨ha, fun d hd hda => ?_⟩⟩
      exact k d _ hd hda upd_same (by rw [upd_ne hda]; exact upd_same) fun b o hb e => by rw [upd_ne hb, upd_ne (ne_of_none e hd)]; exact e
theorem ok_i_BadKindMeter (F : FnP K "__init__" "BadKindMeter.__init__" s_BadKindMeter___init f fd) (O : OexC K C) (no : ∀ x ∈ (["index"] : List Str), PySem.W.findIn K (.ref C) x = some none) : FnOk P w K mg base CX0 1 f fd ["self", "index"] (spX C ["index"]) := by
  refine F.ok sc_BadKindMeter___init (fun vs H Q E h => ?_) (fun cdv A outer s H vs Q E hr h => ?_)
  · obtain ⟨a, ws, rfl, hl, _⟩ := h
    exact congrArg Nat.succ hl
  · obtain ⟨a, ws, rfl, hl, ha, k⟩ := h
    match ws, hl, k with
    | [w0], _, k =>
      refine ⟨_, PSs.nox (pss_one (ps_ost (pv 0) (pv 1))), ?_⟩
      refine ⟨_, rfl, _, rfl, a, C, rfl, O, no _ List.mem_cons_self, .inl ⟨ha, fun d hd hda => ?_⟩⟩
      exact k d _ hd hda upd_same (by rw [upd_ne hda]; exact upd_same) fun b o hb e => by rw [upd_ne hb, upd_ne (ne_of_none e hd)]; exact e
theorem ok_i_BadRows (F : FnP K "__init__" "BadRows.__init__" s_BadRows___init f fd) (O : OexC K C) (no : ∀ x ∈ (["index"] : List Str), PySem.W.findIn K (.ref C) x = some none) : FnOk P w K mg base CX0 1 f fd ["self", "index"] (spX C ["index"]) := by
  refine F.ok sc_BadRows___init (fun vs H Q E h => ?_) (fun cdv A outer s H vs Q E hr h => ?_)
  · obtain ⟨a, ws, rfl, hl, _⟩ := h
    exact congrArg Nat.succ hl
  · obtain ⟨a, ws, rfl, hl, ha, k⟩ := h
    match ws, hl, k with
    | [w0], _, k =>
      refine ⟨_, PSs.nox (pss_one (ps_ost (pv 0) (pv 1))), ?_⟩
      refine ⟨_, rfl, _, rfl, a, C, rfl, O, no _ List.mem_cons_self, .inl ⟨ha, fun d hd hda => ?_⟩⟩
      exact k d _ hd hda upd_same (by rw [upd_ne hda]; exact upd_same) fun b o hb e => by rw [upd_ne hb, upd_ne (ne_of_none e hd)]; exact e
theorem ok_i_NotTwo (F : FnP K "__init__" "NotTwo.__init__" s_NotTwo___init f fd) (O : OexC K C) (no : ∀ x ∈ (["kinds"] : List Str), PySem.W.findIn K (.ref C) x = some none) : FnOk P w K mg base CX0 1 f fd ["self", "kinds"] (spX C ["kinds"]) := by
  refine F.ok sc_NotTwo___init (fun vs H Q E h => ?_) (fun cdv A outer s H vs Q E hr h => ?_)
  · obtain ⟨a, ws, rfl, hl, _⟩ := h
    exact congrArg Nat.succ hl
  · obtain ⟨a, ws, rfl, hl, ha, k⟩ := h
    match ws, hl, k with
    | [w0], _, k =>
      refine ⟨_, PSs.nox (pss_one (ps_ost (pv 0) (pv 1))), ?_⟩
      refine ⟨_, rfl, _, rfl, a, C, rfl, O, no _ List.mem_cons_self, .inl ⟨ha, fun d hd hda => ?_⟩⟩
      exact k d _ hd hda upd_same (by rw [upd_ne hda]; exact upd_same) fun b o hb e => by rw [upd_ne hb, upd_ne (ne_of_none e hd)]; exact e
theorem ok_i_CantMove (F : FnP K "__init__" "CantMove.__init__" s_CantMove___init f fd) (O : OexC K C) (no : ∀ x ∈ (["arrow"] : List Str), PySem.W.findIn K (.ref C) x = some none) : FnOk P w K mg base CX0 1 f fd ["self", "arrow"] (spX C ["arrow"]) := by
  refine F.ok sc_CantMove___init (fun vs H Q E h => ?_) (fun cdv A outer s H vs Q E hr h => ?_)
  · obtain ⟨a, ws, rfl, hl, _⟩ := h
    exact congrArg Nat.succ hl
  · obtain ⟨a, ws, rfl, hl, ha, k⟩ := h
    match ws, hl, k with
    | [w0], _, k =>
      refine ⟨_, PSs.nox (pss_one (ps_ost (pv 0) (pv 1))), ?_⟩
      refine ⟨_, rfl, _, rfl, a, C, rfl, O, no _ List.mem_cons_self, .inl ⟨ha, fun d hd hda => ?_⟩⟩
      exact k d _ hd hda upd_same (by rw [upd_ne hda]; exact upd_same) fun b o hb e => by rw [upd_ne hb, upd_ne (ne_of_none e hd)]; exact e
theorem ok_i_Parted (F : FnP K "__init__" "Parted.__init__" s_Parted___init f fd) (O : OexC K C) (no : ∀ x ∈ (["place"] : List Str), PySem.W.findIn K (.ref C) x = some none) : FnOk P w K mg base CX0 1 f fd ["self", "place"] (spX C ["place"]) := by
  refine F.ok sc_Parted___init (fun vs H Q E h => ?_) (fun cdv A outer s H vs Q E hr h => ?_)
  · obtain ⟨a, ws, rfl, hl, _⟩ := h
    exact congrArg Nat.succ hl
  · obtain ⟨a, ws, rfl, hl, ha, k⟩ := h
    match ws, hl, k with
    | [w0], _, k =>
      refine ⟨_, PSs.nox (pss_one (ps_ost (pv 0) (pv 1))), ?_⟩
      refine ⟨_, rfl, _, rfl, a, C, rfl, O, no _ List.mem_cons_self, .inl ⟨ha, fun d hd hda => ?_⟩⟩
      exact k d _ hd hda upd_same (by rw [upd_ne hda]; exact upd_same) fun b o hb e => by rw [upd_ne hb, upd_ne (ne_of_none e hd)]; exact e
theorem ok_i_BadCopy (F : FnP K "__init__" "BadCopy.__init__" s_BadCopy___init f fd) (O : OexC K C) (no : ∀ x ∈ (["what", "index"] : List Str), PySem.W.findIn K (.ref C) x = some none) : FnOk P w K mg base CX0 1 f fd ["self", "what", "index"] (spX C ["what", "index"]) := by
  refine F.ok sc_BadCopy___init (fun vs H Q E h => ?_) (fun cdv A outer s H vs Q E hr h => ?_)
  · obtain ⟨a, ws, rfl, hl, _⟩ := h
    exact congrArg Nat.succ hl
  · obtain ⟨a, ws, rfl, hl, ha, k⟩ := h
    match ws, hl, k with
    | [w0, w1], _, k =>
      refine ⟨_, PSs.nox (pss_cons (ps_ost (pv 0) (pv 1)) (pss_one (ps_ost (pv 0) (pv 2)))), ?_⟩
      refine ⟨_, rfl, _, rfl, a, C, rfl, O, no _ List.mem_cons_self, .inl ⟨ha, fun d hd hda => ?_⟩⟩
      refine ⟨_, rfl, _, rfl, a, C, rfl, O, no _ (List.mem_cons_of_mem _ List.mem_cons_self), .inr ⟨d, _, upd_same, (by rw [upd_ne hda]; exact upd_same), (Nat.le_of_ble_eq_true rfl), ?_⟩⟩
      exact k d _ hd hda (by rw [upd_ne (Ne.symm hda)]; exact upd_same) upd_same fun b o hb e => by rw [upd_ne (ne_of_none e hd), upd_ne hb, upd_ne (ne_of_none e hd)]; exact e
theorem ok_i_BadLanes (F : FnP K "__init__" "BadLanes.__init__" s_BadLanes___init f fd) (O : OexC K C) (no : ∀ x ∈ (["what", "index"] : List Str), PySem.W.findIn K (.ref C) x = some none) : FnOk P w K mg base CX0 1 f fd ["self", "what", "index"] (spX C ["what", "index"]) := by
  refine F.ok sc_BadLanes___init (fun vs H Q E h => ?_) (fun cdv A outer s H vs Q E hr h => ?_)
  · obtain ⟨a, ws, rfl, hl, _⟩ := h
    exact congrArg Nat.succ hl
  · obtain ⟨a, ws, rfl, hl, ha, k⟩ := h
    match ws, hl, k with
    | [w0, w1], _, k =>
      refine ⟨_, PSs.nox (pss_cons (ps_ost (pv 0) (pv 1)) (pss_one (ps_ost (pv 0) (pv 2)))), ?_⟩
      refine ⟨_, rfl, _, rfl, a, C, rfl, O, no _ List.mem_cons_self, .inl ⟨ha, fun d hd hda => ?_⟩⟩
      refine ⟨_, rfl, _, rfl, a, C, rfl, O, no _ (List.mem_cons_of_mem _ List.mem_cons_self), .inr ⟨d, _, upd_same, (by rw [upd_ne hda]; exact upd_same), (Nat.le_of_ble_eq_true rfl), ?_⟩⟩
      exact k d _ hd hda (by rw [upd_ne (Ne.symm hda)]; exact upd_same) upd_same fun b o hb e => by rw [upd_ne (ne_of_none e hd), upd_ne hb, upd_ne (ne_of_none e hd)]; exact e
theorem ok_i_NoLane (F : FnP K "__init__" "NoLane.__init__" s_NoLane___init f fd) (O : OexC K C) (no : ∀ x ∈ (["lane"] : List Str), PySem.W.findIn K (.ref C) x = some none) : FnOk P w K mg base CX0 1 f fd ["self", "lane"] (spX C ["lane"]) := by
  refine F.ok sc_NoLane___init (fun vs H Q E h => ?_) (fun cdv A outer s H vs Q E hr h => ?_)
  · obtain ⟨a, ws, rfl, hl, _⟩ := h
    exact congrArg Nat.succ hl
  · obtain ⟨a, ws, rfl, hl, ha, k⟩ := h
    match ws, hl, k with
    | [w0], _, k =>
      refine ⟨_, PSs.nox (pss_one (ps_ost (pv 0) (pv 1))), ?_⟩
      refine ⟨_, rfl, _, rfl, a, C, rfl, O, no _ List.mem_cons_self, .inl ⟨ha, fun d hd hda => ?_⟩⟩
      exact k d _ hd hda upd_same (by rw [upd_ne hda]; exact upd_same) fun b o hb e => by rw [upd_ne hb, upd_ne (ne_of_none e hd)]; exact e
theorem ok_i_NotRunning (F : FnP K "__init__" "NotRunning.__init__" s_NotRunning___init f fd) (O : OexC K C) (no : ∀ x ∈ (["lane", "stand"] : List Str), PySem.W.findIn K (.ref C) x = some none) : FnOk P w K mg base CX0 1 f fd ["self", "lane", "stand"] (spX C ["lane", "stand"]) := by
  refine F.ok sc_NotRunning___init (fun vs H Q E h => ?_) (fun cdv A outer s H vs Q E hr h => ?_)
  · obtain ⟨a, ws, rfl, hl, _⟩ := h
    exact congrArg Nat.succ hl
  · obtain ⟨a, ws, rfl, hl, ha, k⟩ := h
    match ws, hl, k with
    | [w0, w1], _, k =>
      refine ⟨_, PSs.nox (pss_cons (ps_ost (pv 0) (pv 1)) (pss_one (ps_ost (pv 0) (pv 2)))), ?_⟩
      refine ⟨_, rfl, _, rfl, a, C, rfl, O, no _ List.mem_cons_self, .inl ⟨ha, fun d hd hda => ?_⟩⟩
      refine ⟨_, rfl, _, rfl, a, C, rfl, O, no _ (List.mem_cons_of_mem _ List.mem_cons_self), .inr ⟨d, _, upd_same, (by rw [upd_ne hda]; exact upd_same), (Nat.le_of_ble_eq_true rfl), ?_⟩⟩
      exact k d _ hd hda (by rw [upd_ne (Ne.symm hda)]; exact upd_same) upd_same fun b o hb e => by rw [upd_ne (ne_of_none e hd), upd_ne hb, upd_ne (ne_of_none e hd)]; exact e
theorem ok_i_NotHere (F : FnP K "__init__" "NotHere.__init__" s_NotHere___init f fd) (O : OexC K C) (no : ∀ x ∈ (["arrow"] : List Str), PySem.W.findIn K (.ref C) x = some none) : FnOk P w K mg base CX0 1 f fd ["self", "arrow"] (spX C ["arrow"]) := by
  refine F.ok sc_NotHere___init (fun vs H Q E h => ?_) (fun cdv A outer s H vs Q E hr h => ?_)
  · obtain ⟨a, ws, rfl, hl, _⟩ := h
    exact congrArg Nat.succ hl
  · obtain ⟨a, ws, rfl, hl, ha, k⟩ := h
    match ws, hl, k with
    | [w0], _, k =>
      refine ⟨_, PSs.nox (pss_one (ps_ost (pv 0) (pv 1))), ?_⟩
      refine ⟨_, rfl, _, rfl, a, C, rfl, O, no _ List.mem_cons_self, .inl ⟨ha, fun d hd hda => ?_⟩⟩
      exact k d _ hd hda upd_same (by rw [upd_ne hda]; exact upd_same) fun b o hb e => by rw [upd_ne hb, upd_ne (ne_of_none e hd)]; exact e
theorem ok_i_Refused (F : FnP K "__init__" "Refused.__init__" s_Refused___init f fd) (O : OexC K C) (no : ∀ x ∈ (["lane", "charge", "purse"] : List Str), PySem.W.findIn K (.ref C) x = some none) : FnOk P w K mg base CX0 1 f fd ["self", "lane", "charge", "purse"] (spX C ["lane", "charge", "purse"]) := by
  refine F.ok sc_Refused___init (fun vs H Q E h => ?_) (fun cdv A outer s H vs Q E hr h => ?_)
  · obtain ⟨a, ws, rfl, hl, _⟩ := h
    exact congrArg Nat.succ hl
  · obtain ⟨a, ws, rfl, hl, ha, k⟩ := h
    match ws, hl, k with
    | [w0, w1, w2], _, k =>
      refine ⟨_, PSs.nox (pss_cons (ps_ost (pv 0) (pv 1)) (pss_cons (ps_ost (pv 0) (pv 2)) (pss_one (ps_ost (pv 0) (pv 3))))), ?_⟩
      refine ⟨_, rfl, _, rfl, a, C, rfl, O, no _ List.mem_cons_self, .inl ⟨ha, fun d hd hda => ?_⟩⟩
      refine ⟨_, rfl, _, rfl, a, C, rfl, O, no _ (List.mem_cons_of_mem _ List.mem_cons_self), .inr ⟨d, _, upd_same, (by rw [upd_ne hda]; exact upd_same), (Nat.le_of_ble_eq_true rfl), ?_⟩⟩
      refine ⟨_, rfl, _, rfl, a, C, rfl, O, no _ (List.mem_cons_of_mem _ (List.mem_cons_of_mem _ List.mem_cons_self)), .inr ⟨d, _, (by rw [upd_ne (Ne.symm hda)]; exact upd_same), upd_same, (Nat.le_of_ble_eq_true rfl), ?_⟩⟩
      exact k d _ hd hda (by rw [upd_ne (Ne.symm hda), upd_ne (Ne.symm hda)]; exact upd_same) upd_same fun b o hb e => by rw [upd_ne (ne_of_none e hd), upd_ne (ne_of_none e hd), upd_ne hb, upd_ne (ne_of_none e hd)]; exact e
theorem ok_i_BadDeeds (F : FnP K "__init__" "BadDeeds.__init__" s_BadDeeds___init f fd) (O : OexC K C) (no : ∀ x ∈ (["index"] : List Str), PySem.W.findIn K (.ref C) x = some none) : FnOk P w K mg base CX0 1 f fd ["self", "index"] (spX C ["index"]) := by
  refine F.ok sc_BadDeeds___init (fun vs H Q E h => ?_) (fun cdv A outer s H vs Q E hr h => ?_)
  · obtain ⟨a, ws, rfl, hl, _⟩ := h
    exact congrArg Nat.succ hl
  · obtain ⟨a, ws, rfl, hl, ha, k⟩ := h
    match ws, hl, k with
    | [w0], _, k =>
      refine ⟨_, PSs.nox (pss_one (ps_ost (pv 0) (pv 1))), ?_⟩
      refine ⟨_, rfl, _, rfl, a, C, rfl, O, no _ List.mem_cons_self, .inl ⟨ha, fun d hd hda => ?_⟩⟩
      exact k d _ hd hda upd_same (by rw [upd_ne hda]; exact upd_same) fun b o hb e => by rw [upd_ne hb, upd_ne (ne_of_none e hd)]; exact e
theorem ok_i_BadLaneRuns (F : FnP K "__init__" "BadLaneRuns.__init__" s_BadLaneRuns___init f fd) (O : OexC K C) (no : ∀ x ∈ (["lane"] : List Str), PySem.W.findIn K (.ref C) x = some none) : FnOk P w K mg base CX0 1 f fd ["self", "lane"] (spX C ["lane"]) := by
  refine F.ok sc_BadLaneRuns___init (fun vs H Q E h => ?_) (fun cdv A outer s H vs Q E hr h => ?_)
  · obtain ⟨a, ws, rfl, hl, _⟩ := h
    exact congrArg Nat.succ hl
  · obtain ⟨a, ws, rfl, hl, ha, k⟩ := h
    match ws, hl, k with
    | [w0], _, k =>
      refine ⟨_, PSs.nox (pss_one (ps_ost (pv 0) (pv 1))), ?_⟩
      refine ⟨_, rfl, _, rfl, a, C, rfl, O, no _ List.mem_cons_self, .inl ⟨ha, fun d hd hda => ?_⟩⟩
      exact k d _ hd hda upd_same (by rw [upd_ne hda]; exact upd_same) fun b o hb e => by rw [upd_ne hb, upd_ne (ne_of_none e hd)]; exact e
theorem ok_i_BadLog (F : FnP K "__init__" "BadLog.__init__" s_BadLog___init f fd) (O : OexC K C) (no : ∀ x ∈ (["index"] : List Str), PySem.W.findIn K (.ref C) x = some none) : FnOk P w K mg base CX0 1 f fd ["self", "index"] (spX C ["index"]) := by
  refine F.ok sc_BadLog___init (fun vs H Q E h => ?_) (fun cdv A outer s H vs Q E hr h => ?_)
  · obtain ⟨a, ws, rfl, hl, _⟩ := h
    exact congrArg Nat.succ hl
  · obtain ⟨a, ws, rfl, hl, ha, k⟩ := h
    match ws, hl, k with
    | [w0], _, k =>
      refine ⟨_, PSs.nox (pss_one (ps_ost (pv 0) (pv 1))), ?_⟩
      refine ⟨_, rfl, _, rfl, a, C, rfl, O, no _ List.mem_cons_self, .inl ⟨ha, fun d hd hda => ?_⟩⟩
      exact k d _ hd hda upd_same (by rw [upd_ne hda]; exact upd_same) fun b o hb e => by rw [upd_ne hb, upd_ne (ne_of_none e hd)]; exact e
theorem ok_i_Misfit (F : FnP K "__init__" "Misfit.__init__" s_Misfit___init f fd) (O : OexC K C) (no : ∀ x ∈ (["index"] : List Str), PySem.W.findIn K (.ref C) x = some none) : FnOk P w K mg base CX0 1 f fd ["self", "index"] (spX C ["index"]) := by
  refine F.ok sc_Misfit___init (fun vs H Q E h => ?_) (fun cdv A outer s H vs Q E hr h => ?_)
  · obtain ⟨a, ws, rfl, hl, _⟩ := h
    exact congrArg Nat.succ hl
  · obtain ⟨a, ws, rfl, hl, ha, k⟩ := h
    match ws, hl, k with
    | [w0], _, k =>
      refine ⟨_, PSs.nox (pss_one (ps_ost (pv 0) (pv 1))), ?_⟩
      refine ⟨_, rfl, _, rfl, a, C, rfl, O, no _ List.mem_cons_self, .inl ⟨ha, fun d hd hda => ?_⟩⟩
      exact k d _ hd hda upd_same (by rw [upd_ne hda]; exact upd_same) fun b o hb e => by rw [upd_ne hb, upd_ne (ne_of_none e hd)]; exact e
theorem ok_i_NotThere (F : FnP K "__init__" "NotThere.__init__" s_NotThere___init f fd) (O : OexC K C) (no : ∀ x ∈ (["place"] : List Str), PySem.W.findIn K (.ref C) x = some none) : FnOk P w K mg base CX0 1 f fd ["self", "place"] (spX C ["place"]) := by
  refine F.ok sc_NotThere___init (fun vs H Q E h => ?_) (fun cdv A outer s H vs Q E hr h => ?_)
  · obtain ⟨a, ws, rfl, hl, _⟩ := h
    exact congrArg Nat.succ hl
  · obtain ⟨a, ws, rfl, hl, ha, k⟩ := h
    match ws, hl, k with
    | [w0], _, k =>
      refine ⟨_, PSs.nox (pss_one (ps_ost (pv 0) (pv 1))), ?_⟩
      refine ⟨_, rfl, _, rfl, a, C, rfl, O, no _ List.mem_cons_self, .inl ⟨ha, fun d hd hda => ?_⟩⟩
      exact k d _ hd hda upd_same (by rw [upd_ne hda]; exact upd_same) fun b o hb e => by rw [upd_ne hb, upd_ne (ne_of_none e hd)]; exact e
theorem ok_i_BadEdit (F : FnP K "__init__" "BadEdit.__init__" s_BadEdit___init f fd) (O : OexC K C) (no : ∀ x ∈ (["index", "what"] : List Str), PySem.W.findIn K (.ref C) x = some none) : FnOk P w K mg base CX0 1 f fd ["self", "index", "what"] (spX C ["index", "what"]) := by
  refine F.ok sc_BadEdit___init (fun vs H Q E h => ?_) (fun cdv A outer s H vs Q E hr h => ?_)
  · obtain ⟨a, ws, rfl, hl, _⟩ := h
    exact congrArg Nat.succ hl
  · obtain ⟨a, ws, rfl, hl, ha, k⟩ := h
    match ws, hl, k with
    | [w0, w1], _, k =>
      refine ⟨_, PSs.nox (pss_cons (ps_ost (pv 0) (pv 1)) (pss_one (ps_ost (pv 0) (pv 2)))), ?_⟩
      refine ⟨_, rfl, _, rfl, a, C, rfl, O, no _ List.mem_cons_self, .inl ⟨ha, fun d hd hda => ?_⟩⟩
      refine ⟨_, rfl, _, rfl, a, C, rfl, O, no _ (List.mem_cons_of_mem _ List.mem_cons_self), .inr ⟨d, _, upd_same, (by rw [upd_ne hda]; exact upd_same), (Nat.le_of_ble_eq_true rfl), ?_⟩⟩
      exact k d _ hd hda (by rw [upd_ne (Ne.symm hda)]; exact upd_same) upd_same fun b o hb e => by rw [upd_ne (ne_of_none e hd), upd_ne hb, upd_ne (ne_of_none e hd)]; exact e
theorem ok_i_BadPool (F : FnP K "__init__" "BadPool.__init__" s_BadPool___init f fd) (O : OexC K C) (no : ∀ x ∈ (["index"] : List Str), PySem.W.findIn K (.ref C) x = some none) : FnOk P w K mg base CX0 1 f fd ["self", "index"] (spX C ["index"]) := by
  refine F.ok sc_BadPool___init (fun vs H Q E h => ?_) (fun cdv A outer s H vs Q E hr h => ?_)
  · obtain ⟨a, ws, rfl, hl, _⟩ := h
    exact congrArg Nat.succ hl
  · obtain ⟨a, ws, rfl, hl, ha, k⟩ := h
    match ws, hl, k with
    | [w0], _, k =>
      refine ⟨_, PSs.nox (pss_one (ps_ost (pv 0) (pv 1))), ?_⟩
      refine ⟨_, rfl, _, rfl, a, C, rfl, O, no _ List.mem_cons_self, .inl ⟨ha, fun d hd hda => ?_⟩⟩
      exact k d _ hd hda upd_same (by rw [upd_ne hda]; exact upd_same) fun b o hb e => by rw [upd_ne hb, upd_ne (ne_of_none e hd)]; exact e
end
structure XAll (P : Program) (w : World) (K : PySem.W.Frag) (mg : Str → Option Value) (base : Heap) : Prop where
  x_BadChart : Exk P w K mg base "BadChart" ["what", "index"]
  x_BadPlace : Exk P w K mg base "BadPlace" ["place"]
  x_BadArrow : Exk P w K mg base "BadArrow" ["arrow"]
  x_BadRun : Exk P w K mg base "BadRun" ["index"]
  x_BadLength : Exk P w K mg base "BadLength" ["length"]
  x_BadRing : Exk P w K mg base "BadRing" ["index"]
  x_BadText : Exk P w K mg base "BadText" ["word"]
  x_BadMeter : Exk P w K mg base "BadMeter" ["what", "index"]
  x_Unlike : Exk P w K mg base "Unlike" ["what"]
  x_Drifting : Exk P w K mg base "Drifting" ["ring", "by"]
  x_BadDemands : Exk P w K mg base "BadDemands" ["what", "index"]
  x_BadHighs : Exk P w K mg base "BadHighs" ["index"]
  x_BadLot : Exk P w K mg base "BadLot" ["index"]
  x_BadLeads : Exk P w K mg base "BadLeads" ["index"]
  x_BadLows : Exk P w K mg base "BadLows" ["index"]
  x_NotEven : Exk P w K mg base "NotEven" ["arrow"]
  x_BadMost : Exk P w K mg base "BadMost" ["most"]
  x_TooTight : Exk P w K mg base "TooTight" ["place"]
  x_TooMany : Exk P w K mg base "TooMany" ["count"]
  x_BadWeights : Exk P w K mg base "BadWeights" ["index"]
  x_BadPlaces : Exk P w K mg base "BadPlaces" ["index"]
  x_BadLimit : Exk P w K mg base "BadLimit" ["limit"]
  x_NotMetered : Exk P w K mg base "NotMetered" ["what"]
  x_BadGates : Exk P w K mg base "BadGates" ["index"]
  x_BadStep : Exk P w K mg base "BadStep" ["arrow"]
  x_BadWorks : Exk P w K mg base "BadWorks" ["what", "procedure", "place"]
  x_BadPoint : Exk P w K mg base "BadPoint" ["point"]
  x_BadSteps : Exk P w K mg base "BadSteps" ["index"]
  x_BadProcedure : Exk P w K mg base "BadProcedure" ["procedure"]
  x_BadWorkMeter : Exk P w K mg base "BadWorkMeter" ["what", "procedure", "index"]
  x_BadWorkLeads : Exk P w K mg base "BadWorkLeads" ["procedure", "place"]
  x_NotEvenWorks : Exk P w K mg base "NotEvenWorks" ["mark"]
  x_BadWorkGates : Exk P w K mg base "BadWorkGates" ["procedure", "place"]
  x_BadWorkLot : Exk P w K mg base "BadWorkLot" ["index"]
  x_RingOfCalls : Exk P w K mg base "RingOfCalls" ["points"]
  x_BadKinds : Exk P w K mg base "BadKinds" ["what", "index"]
  x_NoKind : Exk P w K mg base "NoKind" ["kind"]
  x_BadPrices : Exk P w K mg base "BadPrices" ["index"]
  x_BadKindMeter : Exk P w K mg base "BadKindMeter" ["index"]
  x_BadRows : Exk P w K mg base "BadRows" ["index"]
  x_NotTwo : Exk P w K mg base "NotTwo" ["kinds"]
  x_CantMove : Exk P w K mg base "CantMove" ["arrow"]
  x_Parted : Exk P w K mg base "Parted" ["place"]
  x_BadCopy : Exk P w K mg base "BadCopy" ["what", "index"]
  x_BadLanes : Exk P w K mg base "BadLanes" ["what", "index"]
  x_NoLane : Exk P w K mg base "NoLane" ["lane"]
  x_NotRunning : Exk P w K mg base "NotRunning" ["lane", "stand"]
  x_NotHere : Exk P w K mg base "NotHere" ["arrow"]
  x_Refused : Exk P w K mg base "Refused" ["lane", "charge", "purse"]
  x_BadDeeds : Exk P w K mg base "BadDeeds" ["index"]
  x_BadLaneRuns : Exk P w K mg base "BadLaneRuns" ["lane"]
  x_BadLog : Exk P w K mg base "BadLog" ["index"]
  x_Misfit : Exk P w K mg base "Misfit" ["index"]
  x_NotThere : Exk P w K mg base "NotThere" ["place"]
  x_BadEdit : Exk P w K mg base "BadEdit" ["index", "what"]
  x_BadPool : Exk P w K mg base "BadPool" ["index"]
  z_BadFactor : Exz K mg "BadFactor"
  z_BadMoves : Exz K mg "BadMoves"
  z_BadMove : Exz K mg "BadMove"
  z_NoRoom : Exz K mg "NoRoom"
  z_NothingSeen : Exz K mg "NothingSeen"
  z_BadGoal : Exz K mg "BadGoal"
  z_NothingDone : Exz K mg "NothingDone"
structure Txt1 (K : PySem.W.Frag) (mg : Str → Option Value) : Prop extends Txt0 K mg where
  b_isinstance : mg "isinstance" = none
  b_range : mg "range" = none
  b_ValueError : mg "ValueError" = none
  g_MeterError : mg "MeterError" = some (.ref (He.ga K "MeterError"))
end LW

set_option maxRecDepth 100000
set_option maxHeartbeats 4000000
namespace LW
open PySem PySem.Spec PyProof.Rows L2 Ve Evl

def spSeveral (K : PySem.W.Frag) : Sp := fun vs H Q _ => ∃ a b c : Int, vs = [.int a, .int b, .int c] ∧ ∀ v H', Ex H H' → (kL [kL (ord1.map fun x => kE (He.ga K x)), kV (.bl true)]).P H' v → Q v H'
def spSingles (K : PySem.W.Frag) : Sp := fun vs H Q _ => ∃ a : Int, vs = [.int a] ∧ ∀ v H', Ex H H' → (kL [kL (ord2.map fun x => kE (He.ga K x)), kV (.bl true)]).P H' v → Q v H'
def spClasses (K : PySem.W.Frag) : Sp := fun vs H Q _ => ∃ (v : V) (x : Str), vs = [v] ∧ x ∈ ord ∧ (kE (He.ga K x)).P H v ∧ ∀ u H', Ex H H' → Dp K H' u (.list (ord.map fun y => .bool (decide (x = y)))) → Q u H'
section
variable {P : Program} {w : World} {K : PySem.W.Frag} {mg : Str → Option Value} {base : Heap} {f : Addr} {fd : FuncData}
theorem ok_several (F : FnP K "_law_several" "_law_several" s_law_several f fd) (XA : XAll P w K mg base) : FnOk P w K mg base CX0 3 f fd ["_law_a", "_law_b", "_law_c"] (spSeveral K) := by
  refine F.ok sc_law_several (fun vs H Q E h => ?_) (fun cdv A outer s H vs Q E hr h => ?_)
  · obtain ⟨a, b, c, rfl, _⟩ := h
    rfl
  · obtain ⟨a, b, c, rfl, k⟩ := h
    refine ⟨_, PSs.nox (pss_cons (ps_set (i := 3) sc_law_several.nd rfl (Or.inl rfl) (pe_lst (pa_cons (pe_exk XA.x_BadChart hr (by decide) (by rfl) (pa_cons (pv 0) (pa_cons (pv 1) pa_nil))) (pa_cons (pe_exk XA.x_BadMeter hr (by decide) (by rfl) (pa_cons (pv 0) (pa_cons (pv 1) pa_nil))) (pa_cons (pe_exk XA.x_Drifting hr (by decide) (by rfl) (pa_cons (pv 0) (pa_cons (pv 1) pa_nil))) (pa_cons (pe_exk XA.x_BadDemands hr (by decide) (by rfl) (pa_cons (pv 0) (pa_cons (pv 1) pa_nil))) (pa_cons (pe_exk XA.x_BadWorkLeads hr (by decide) (by rfl) (pa_cons (pv 0) (pa_cons (pv 1) pa_nil))) (pa_cons (pe_exk XA.x_BadWorkGates hr (by decide) (by rfl) (pa_cons (pv 0) (pa_cons (pv 1) pa_nil))) (pa_cons (pe_exk XA.x_BadKinds hr (by decide) (by rfl) (pa_cons (pv 0) (pa_cons (pv 1) pa_nil))) pa_nil)))))))))
  (pss_cons (ps_set (i := 4) sc_law_several.nd rfl (Or.inl rfl) (pe_lst (pa_cons (pe_tup (pa_cons (pe_xfld (pe_ix ix_list (pv 3) pe_int (fun _ _ => rfl))) (pa_cons (pe_xfld (pe_ix ix_list (pv 3) pe_int (fun _ _ => rfl))) pa_nil))) (pa_cons (pe_tup (pa_cons (pe_xfld (pe_ix ix_list (pv 3) pe_int (fun _ _ => rfl))) (pa_cons (pe_xfld (pe_ix ix_list (pv 3) pe_int (fun _ _ => rfl))) pa_nil))) (pa_cons (pe_tup (pa_cons (pe_xfld (pe_ix ix_list (pv 3) pe_int (fun _ _ => rfl))) (pa_cons (pe_xfld (pe_ix ix_list (pv 3) pe_int (fun _ _ => rfl))) pa_nil))) (pa_cons (pe_tup (pa_cons (pe_xfld (pe_ix ix_list (pv 3) pe_int (fun _ _ => rfl))) (pa_cons (pe_xfld (pe_ix ix_list (pv 3) pe_int (fun _ _ => rfl))) pa_nil))) pa_nil))))))
  (pss_cons (ps_set (i := 4) sc_law_several.nd rfl (Or.inl rfl) (pe_op op_cat (pv 4) (pe_lst (pa_cons (pe_tup (pa_cons (pe_xfld (pe_ix ix_list (pv 3) pe_int (fun _ _ => rfl))) (pa_cons (pe_xfld (pe_ix ix_list (pv 3) pe_int (fun _ _ => rfl))) pa_nil))) (pa_cons (pe_tup (pa_cons (pe_xfld (pe_ix ix_list (pv 3) pe_int (fun _ _ => rfl))) (pa_cons (pe_xfld (pe_ix ix_list (pv 3) pe_int (fun _ _ => rfl))) pa_nil))) (pa_cons (pe_tup (pa_cons (pe_xfld (pe_ix ix_list (pv 3) pe_int (fun _ _ => rfl))) (pa_cons (pe_xfld (pe_ix ix_list (pv 3) pe_int (fun _ _ => rfl))) pa_nil))) pa_nil))))))
  (pss_cons (ps_set (i := 5) sc_law_several.nd rfl (Or.inl rfl) (pe_lst (pa_cons (pe_exk XA.x_BadCopy hr (by decide) (by rfl) (pa_cons (pv 0) (pa_cons (pv 1) pa_nil))) (pa_cons (pe_exk XA.x_BadLanes hr (by decide) (by rfl) (pa_cons (pv 0) (pa_cons (pv 1) pa_nil))) (pa_cons (pe_exk XA.x_NotRunning hr (by decide) (by rfl) (pa_cons (pv 0) (pa_cons (pv 1) pa_nil))) (pa_cons (pe_exk XA.x_BadEdit hr (by decide) (by rfl) (pa_cons (pv 0) (pa_cons (pv 1) pa_nil))) pa_nil))))))
  (pss_cons (ps_set (i := 4) sc_law_several.nd rfl (Or.inl rfl) (pe_op op_cat (pv 4) (pe_lst (pa_cons (pe_tup (pa_cons (pe_xfld (pe_ix ix_list (pv 5) pe_int (fun _ _ => rfl))) (pa_cons (pe_xfld (pe_ix ix_list (pv 5) pe_int (fun _ _ => rfl))) pa_nil))) (pa_cons (pe_tup (pa_cons (pe_xfld (pe_ix ix_list (pv 5) pe_int (fun _ _ => rfl))) (pa_cons (pe_xfld (pe_ix ix_list (pv 5) pe_int (fun _ _ => rfl))) pa_nil))) (pa_cons (pe_tup (pa_cons (pe_xfld (pe_ix ix_list (pv 5) pe_int (fun _ _ => rfl))) (pa_cons (pe_xfld (pe_ix ix_list (pv 5) pe_int (fun _ _ => rfl))) pa_nil))) (pa_cons (pe_tup (pa_cons (pe_xfld (pe_ix ix_list (pv 5) pe_int (fun _ _ => rfl))) (pa_cons (pe_xfld (pe_ix ix_list (pv 5) pe_int (fun _ _ => rfl))) pa_nil))) pa_nil)))))))
  (pss_cons (ps_set (i := 6) sc_law_several.nd rfl (Or.inl rfl) (pe_lst (pa_cons (pe_exk XA.x_BadWorks hr (by decide) (by rfl) (pa_cons (pv 0) (pa_cons (pv 1) (pa_cons (pv 2) pa_nil)))) (pa_cons (pe_exk XA.x_BadWorkMeter hr (by decide) (by rfl) (pa_cons (pv 0) (pa_cons (pv 1) (pa_cons (pv 2) pa_nil)))) (pa_cons (pe_exk XA.x_Refused hr (by decide) (by rfl) (pa_cons (pv 0) (pa_cons (pv 1) (pa_cons (pv 2) pa_nil)))) pa_nil)))))
  (pss_cons (ps_set (i := 7) sc_law_several.nd rfl (Or.inl rfl) (pe_lst (pa_cons (pe_tup (pa_cons (pe_xfld (pe_ix ix_list (pv 6) pe_int (fun _ _ => rfl))) (pa_cons (pe_xfld (pe_ix ix_list (pv 6) pe_int (fun _ _ => rfl))) (pa_cons (pe_xfld (pe_ix ix_list (pv 6) pe_int (fun _ _ => rfl))) pa_nil)))) (pa_cons (pe_tup (pa_cons (pe_xfld (pe_ix ix_list (pv 6) pe_int (fun _ _ => rfl))) (pa_cons (pe_xfld (pe_ix ix_list (pv 6) pe_int (fun _ _ => rfl))) (pa_cons (pe_xfld (pe_ix ix_list (pv 6) pe_int (fun _ _ => rfl))) pa_nil)))) pa_nil))))
  (pss_cons (ps_set (i := 7) sc_law_several.nd rfl (Or.inl rfl) (pe_op op_cat (pv 7) (pe_lst (pa_cons (pe_tup (pa_cons (pe_xfld (pe_ix ix_list (pv 6) pe_int (fun _ _ => rfl))) (pa_cons (pe_xfld (pe_ix ix_list (pv 6) pe_int (fun _ _ => rfl))) (pa_cons (pe_xfld (pe_ix ix_list (pv 6) pe_int (fun _ _ => rfl))) pa_nil)))) pa_nil))))
  (pss_one (ps_ret (pe_lst (pa_cons (pe_op op_cat (pe_op op_cat (pv 3) (pv 5)) (pv 6)) (pa_cons (pe_and (pe_cmpR (op_eqD hr.units) (pv 4) (pe_op op_rep (pe_lst (pa_cons (pe_tup (pa_cons (pv 0) (pa_cons (pv 1) pa_nil))) pa_nil)) pe_int) (nomark _)) (pe_one (pe_cmpR (op_eqD hr.units) (pv 7) (pe_op op_rep (pe_lst (pa_cons (pe_tup (pa_cons (pv 0) (pa_cons (pv 1) (pa_cons (pv 2) pa_nil)))) pa_nil)) pe_int) (nomark _)))) pa_nil))))))))))))), ?_⟩
    refine q_asgQ (fun u => [some (.int a), some (.int b), some (.int c), some u, none, none, none, none]) (fun _ => rfl) (ep_lst (eap_cons (ep_mkx (ea_cons (ev_var rfl) (ea_cons (ev_var rfl) ea_nil)) rfl (Nat.le_of_ble_eq_true rfl)) (eap_cons (ep_mkx (ea_cons (ev_var rfl) (ea_cons (ev_var rfl) ea_nil)) rfl (Nat.le_of_ble_eq_true rfl)) (eap_cons (ep_mkx (ea_cons (ev_var rfl) (ea_cons (ev_var rfl) ea_nil)) rfl (Nat.le_of_ble_eq_true rfl)) (eap_cons (ep_mkx (ea_cons (ev_var rfl) (ea_cons (ev_var rfl) ea_nil)) rfl (Nat.le_of_ble_eq_true rfl)) (eap_cons (ep_mkx (ea_cons (ev_var rfl) (ea_cons (ev_var rfl) ea_nil)) rfl (Nat.le_of_ble_eq_true rfl)) (eap_cons (ep_mkx (ea_cons (ev_var rfl) (ea_cons (ev_var rfl) ea_nil)) rfl (Nat.le_of_ble_eq_true rfl)) (eap_cons (ep_mkx (ea_cons (ev_var rfl) (ea_cons (ev_var rfl) ea_nil)) rfl (Nat.le_of_ble_eq_true rfl)) eap_nil))))))) (Nat.le_of_ble_eq_true rfl)) (fun v1 H1 e1 w1 => ?_)
    have h_law_one := w1
    refine q_asgQ (fun u => [some (.int a), some (.int b), some (.int c), some v1, some u, none, none, none]) (fun _ => rfl) (ep_lst (eap_cons (ep_tupD (K := K) (ds := [.int a, .int b]) (eap_cons (ep_int (K := K) (ev_xfld (ep_ixL (j := 0) (ep_var rfl h_law_one) ev_c rfl) XA.x_BadChart.xf (XA.x_BadChart.no "what" List.mem_cons_self) (lkS (by decide +kernel) lk0))) (eap_cons (ep_int (K := K) (ev_xfld (ep_ixL (j := 0) (ep_var rfl h_law_one) ev_c rfl) XA.x_BadChart.xf (XA.x_BadChart.no "index" (List.mem_cons_of_mem _ List.mem_cons_self)) lk0)) eap_nil)) (Nat.le_of_ble_eq_true rfl)) (eap_cons (ep_tupD (K := K) (ds := [.int a, .int b]) (eap_cons (ep_int (K := K) (ev_xfld (ep_ixL (j := 1) (ep_var rfl h_law_one) ev_c rfl) XA.x_BadMeter.xf (XA.x_BadMeter.no "what" List.mem_cons_self) (lkS (by decide +kernel) lk0))) (eap_cons (ep_int (K := K) (ev_xfld (ep_ixL (j := 1) (ep_var rfl h_law_one) ev_c rfl) XA.x_BadMeter.xf (XA.x_BadMeter.no "index" (List.mem_cons_of_mem _ List.mem_cons_self)) lk0)) eap_nil)) (Nat.le_of_ble_eq_true rfl)) (eap_cons (ep_tupD (K := K) (ds := [.int a, .int b]) (eap_cons (ep_int (K := K) (ev_xfld (ep_ixL (j := 2) (ep_var rfl h_law_one) ev_c rfl) XA.x_Drifting.xf (XA.x_Drifting.no "ring" List.mem_cons_self) (lkS (by decide +kernel) lk0))) (eap_cons (ep_int (K := K) (ev_xfld (ep_ixL (j := 2) (ep_var rfl h_law_one) ev_c rfl) XA.x_Drifting.xf (XA.x_Drifting.no "by" (List.mem_cons_of_mem _ List.mem_cons_self)) lk0)) eap_nil)) (Nat.le_of_ble_eq_true rfl)) (eap_cons (ep_tupD (K := K) (ds := [.int a, .int b]) (eap_cons (ep_int (K := K) (ev_xfld (ep_ixL (j := 3) (ep_var rfl h_law_one) ev_c rfl) XA.x_BadDemands.xf (XA.x_BadDemands.no "what" List.mem_cons_self) (lkS (by decide +kernel) lk0))) (eap_cons (ep_int (K := K) (ev_xfld (ep_ixL (j := 3) (ep_var rfl h_law_one) ev_c rfl) XA.x_BadDemands.xf (XA.x_BadDemands.no "index" (List.mem_cons_of_mem _ List.mem_cons_self)) lk0)) eap_nil)) (Nat.le_of_ble_eq_true rfl)) eap_nil)))) (Nat.le_of_ble_eq_true rfl)) (fun v2 H2 e2 w2 => ?_)
    have h_law_one := (kL _).mono e2 h_law_one
    have h_law_kept := w2
    refine q_asgQ (fun u => [some (.int a), some (.int b), some (.int c), some v1, some u, none, none, none]) (fun _ => rfl) (ep_cat (ep_var rfl h_law_kept) (ep_lst (eap_cons (ep_tupD (K := K) (ds := [.int a, .int b]) (eap_cons (ep_int (K := K) (ev_xfld (ep_ixL (j := 4) (ep_var rfl h_law_one) ev_c rfl) XA.x_BadWorkLeads.xf (XA.x_BadWorkLeads.no "procedure" List.mem_cons_self) (lkS (by decide +kernel) lk0))) (eap_cons (ep_int (K := K) (ev_xfld (ep_ixL (j := 4) (ep_var rfl h_law_one) ev_c rfl) XA.x_BadWorkLeads.xf (XA.x_BadWorkLeads.no "place" (List.mem_cons_of_mem _ List.mem_cons_self)) lk0)) eap_nil)) (Nat.le_of_ble_eq_true rfl)) (eap_cons (ep_tupD (K := K) (ds := [.int a, .int b]) (eap_cons (ep_int (K := K) (ev_xfld (ep_ixL (j := 5) (ep_var rfl h_law_one) ev_c rfl) XA.x_BadWorkGates.xf (XA.x_BadWorkGates.no "procedure" List.mem_cons_self) (lkS (by decide +kernel) lk0))) (eap_cons (ep_int (K := K) (ev_xfld (ep_ixL (j := 5) (ep_var rfl h_law_one) ev_c rfl) XA.x_BadWorkGates.xf (XA.x_BadWorkGates.no "place" (List.mem_cons_of_mem _ List.mem_cons_self)) lk0)) eap_nil)) (Nat.le_of_ble_eq_true rfl)) (eap_cons (ep_tupD (K := K) (ds := [.int a, .int b]) (eap_cons (ep_int (K := K) (ev_xfld (ep_ixL (j := 6) (ep_var rfl h_law_one) ev_c rfl) XA.x_BadKinds.xf (XA.x_BadKinds.no "what" List.mem_cons_self) (lkS (by decide +kernel) lk0))) (eap_cons (ep_int (K := K) (ev_xfld (ep_ixL (j := 6) (ep_var rfl h_law_one) ev_c rfl) XA.x_BadKinds.xf (XA.x_BadKinds.no "index" (List.mem_cons_of_mem _ List.mem_cons_self)) lk0)) eap_nil)) (Nat.le_of_ble_eq_true rfl)) eap_nil))) (Nat.le_of_ble_eq_true rfl)) (Nat.le_of_ble_eq_true rfl)) (fun v3 H3 e3 w3 => ?_)
    have h_law_one := (kL _).mono e3 h_law_one
    have h_law_kept := w3
    refine q_asgQ (fun u => [some (.int a), some (.int b), some (.int c), some v1, some v3, some u, none, none]) (fun _ => rfl) (ep_lst (eap_cons (ep_mkx (ea_cons (ev_var rfl) (ea_cons (ev_var rfl) ea_nil)) rfl (Nat.le_of_ble_eq_true rfl)) (eap_cons (ep_mkx (ea_cons (ev_var rfl) (ea_cons (ev_var rfl) ea_nil)) rfl (Nat.le_of_ble_eq_true rfl)) (eap_cons (ep_mkx (ea_cons (ev_var rfl) (ea_cons (ev_var rfl) ea_nil)) rfl (Nat.le_of_ble_eq_true rfl)) (eap_cons (ep_mkx (ea_cons (ev_var rfl) (ea_cons (ev_var rfl) ea_nil)) rfl (Nat.le_of_ble_eq_true rfl)) eap_nil)))) (Nat.le_of_ble_eq_true rfl)) (fun v4 H4 e4 w4 => ?_)
    have h_law_one := (kL _).mono e4 h_law_one
    have h_law_kept := (kL _).mono e4 h_law_kept
    have h_law_two := w4
    refine q_asgQ (fun u => [some (.int a), some (.int b), some (.int c), some v1, some u, some v4, none, none]) (fun _ => rfl) (ep_cat (ep_var rfl h_law_kept) (ep_lst (eap_cons (ep_tupD (K := K) (ds := [.int a, .int b]) (eap_cons (ep_int (K := K) (ev_xfld (ep_ixL (j := 0) (ep_var rfl h_law_two) ev_c rfl) XA.x_BadCopy.xf (XA.x_BadCopy.no "what" List.mem_cons_self) (lkS (by decide +kernel) lk0))) (eap_cons (ep_int (K := K) (ev_xfld (ep_ixL (j := 0) (ep_var rfl h_law_two) ev_c rfl) XA.x_BadCopy.xf (XA.x_BadCopy.no "index" (List.mem_cons_of_mem _ List.mem_cons_self)) lk0)) eap_nil)) (Nat.le_of_ble_eq_true rfl)) (eap_cons (ep_tupD (K := K) (ds := [.int a, .int b]) (eap_cons (ep_int (K := K) (ev_xfld (ep_ixL (j := 1) (ep_var rfl h_law_two) ev_c rfl) XA.x_BadLanes.xf (XA.x_BadLanes.no "what" List.mem_cons_self) (lkS (by decide +kernel) lk0))) (eap_cons (ep_int (K := K) (ev_xfld (ep_ixL (j := 1) (ep_var rfl h_law_two) ev_c rfl) XA.x_BadLanes.xf (XA.x_BadLanes.no "index" (List.mem_cons_of_mem _ List.mem_cons_self)) lk0)) eap_nil)) (Nat.le_of_ble_eq_true rfl)) (eap_cons (ep_tupD (K := K) (ds := [.int a, .int b]) (eap_cons (ep_int (K := K) (ev_xfld (ep_ixL (j := 2) (ep_var rfl h_law_two) ev_c rfl) XA.x_NotRunning.xf (XA.x_NotRunning.no "lane" List.mem_cons_self) (lkS (by decide +kernel) lk0))) (eap_cons (ep_int (K := K) (ev_xfld (ep_ixL (j := 2) (ep_var rfl h_law_two) ev_c rfl) XA.x_NotRunning.xf (XA.x_NotRunning.no "stand" (List.mem_cons_of_mem _ List.mem_cons_self)) lk0)) eap_nil)) (Nat.le_of_ble_eq_true rfl)) (eap_cons (ep_tupD (K := K) (ds := [.int a, .int b]) (eap_cons (ep_int (K := K) (ev_xfld (ep_ixL (j := 3) (ep_var rfl h_law_two) ev_c rfl) XA.x_BadEdit.xf (XA.x_BadEdit.no "index" List.mem_cons_self) (lkS (by decide +kernel) lk0))) (eap_cons (ep_int (K := K) (ev_xfld (ep_ixL (j := 3) (ep_var rfl h_law_two) ev_c rfl) XA.x_BadEdit.xf (XA.x_BadEdit.no "what" (List.mem_cons_of_mem _ List.mem_cons_self)) lk0)) eap_nil)) (Nat.le_of_ble_eq_true rfl)) eap_nil)))) (Nat.le_of_ble_eq_true rfl)) (Nat.le_of_ble_eq_true rfl)) (fun v5 H5 e5 w5 => ?_)
    have h_law_one := (kL _).mono e5 h_law_one
    have h_law_two := (kL _).mono e5 h_law_two
    have h_law_kept := w5
    refine q_asgQ (fun u => [some (.int a), some (.int b), some (.int c), some v1, some v5, some v4, some u, none]) (fun _ => rfl) (ep_lst (eap_cons (ep_mkx (ea_cons (ev_var rfl) (ea_cons (ev_var rfl) (ea_cons (ev_var rfl) ea_nil))) rfl (Nat.le_of_ble_eq_true rfl)) (eap_cons (ep_mkx (ea_cons (ev_var rfl) (ea_cons (ev_var rfl) (ea_cons (ev_var rfl) ea_nil))) rfl (Nat.le_of_ble_eq_true rfl)) (eap_cons (ep_mkx (ea_cons (ev_var rfl) (ea_cons (ev_var rfl) (ea_cons (ev_var rfl) ea_nil))) rfl (Nat.le_of_ble_eq_true rfl)) eap_nil))) (Nat.le_of_ble_eq_true rfl)) (fun v6 H6 e6 w6 => ?_)
    have h_law_one := (kL _).mono e6 h_law_one
    have h_law_kept := (kL _).mono e6 h_law_kept
    have h_law_two := (kL _).mono e6 h_law_two
    have h_law_three := w6
    refine q_asgQ (fun u => [some (.int a), some (.int b), some (.int c), some v1, some v5, some v4, some v6, some u]) (fun _ => rfl) (ep_lst (eap_cons (ep_tupD (K := K) (ds := [.int a, .int b, .int c]) (eap_cons (ep_int (K := K) (ev_xfld (ep_ixL (j := 0) (ep_var rfl h_law_three) ev_c rfl) XA.x_BadWorks.xf (XA.x_BadWorks.no "what" List.mem_cons_self) (lkS (by decide +kernel) (lkS (by decide +kernel) lk0)))) (eap_cons (ep_int (K := K) (ev_xfld (ep_ixL (j := 0) (ep_var rfl h_law_three) ev_c rfl) XA.x_BadWorks.xf (XA.x_BadWorks.no "procedure" (List.mem_cons_of_mem _ List.mem_cons_self)) (lkS (by decide +kernel) lk0))) (eap_cons (ep_int (K := K) (ev_xfld (ep_ixL (j := 0) (ep_var rfl h_law_three) ev_c rfl) XA.x_BadWorks.xf (XA.x_BadWorks.no "place" (List.mem_cons_of_mem _ (List.mem_cons_of_mem _ List.mem_cons_self))) lk0)) eap_nil))) (Nat.le_of_ble_eq_true rfl)) (eap_cons (ep_tupD (K := K) (ds := [.int a, .int b, .int c]) (eap_cons (ep_int (K := K) (ev_xfld (ep_ixL (j := 1) (ep_var rfl h_law_three) ev_c rfl) XA.x_BadWorkMeter.xf (XA.x_BadWorkMeter.no "what" List.mem_cons_self) (lkS (by decide +kernel) (lkS (by decide +kernel) lk0)))) (eap_cons (ep_int (K := K) (ev_xfld (ep_ixL (j := 1) (ep_var rfl h_law_three) ev_c rfl) XA.x_BadWorkMeter.xf (XA.x_BadWorkMeter.no "procedure" (List.mem_cons_of_mem _ List.mem_cons_self)) (lkS (by decide +kernel) lk0))) (eap_cons (ep_int (K := K) (ev_xfld (ep_ixL (j := 1) (ep_var rfl h_law_three) ev_c rfl) XA.x_BadWorkMeter.xf (XA.x_BadWorkMeter.no "index" (List.mem_cons_of_mem _ (List.mem_cons_of_mem _ List.mem_cons_self))) lk0)) eap_nil))) (Nat.le_of_ble_eq_true rfl)) eap_nil)) (Nat.le_of_ble_eq_true rfl)) (fun v7 H7 e7 w7 => ?_)
    have h_law_one := (kL _).mono e7 h_law_one
    have h_law_kept := (kL _).mono e7 h_law_kept
    have h_law_two := (kL _).mono e7 h_law_two
    have h_law_three := (kL _).mono e7 h_law_three
    have h_law_more := w7
    refine q_asgQ (fun u => [some (.int a), some (.int b), some (.int c), some v1, some v5, some v4, some v6, some u]) (fun _ => rfl) (ep_cat (ep_var rfl h_law_more) (ep_lst (eap_cons (ep_tupD (K := K) (ds := [.int a, .int b, .int c]) (eap_cons (ep_int (K := K) (ev_xfld (ep_ixL (j := 2) (ep_var rfl h_law_three) ev_c rfl) XA.x_Refused.xf (XA.x_Refused.no "lane" List.mem_cons_self) (lkS (by decide +kernel) (lkS (by decide +kernel) lk0)))) (eap_cons (ep_int (K := K) (ev_xfld (ep_ixL (j := 2) (ep_var rfl h_law_three) ev_c rfl) XA.x_Refused.xf (XA.x_Refused.no "charge" (List.mem_cons_of_mem _ List.mem_cons_self)) (lkS (by decide +kernel) lk0))) (eap_cons (ep_int (K := K) (ev_xfld (ep_ixL (j := 2) (ep_var rfl h_law_three) ev_c rfl) XA.x_Refused.xf (XA.x_Refused.no "purse" (List.mem_cons_of_mem _ (List.mem_cons_of_mem _ List.mem_cons_self))) lk0)) eap_nil))) (Nat.le_of_ble_eq_true rfl)) eap_nil) (Nat.le_of_ble_eq_true rfl)) (Nat.le_of_ble_eq_true rfl)) (fun v8 H8 e8 w8 => ?_)
    have h_law_one := (kL _).mono e8 h_law_one
    have h_law_kept := (kL _).mono e8 h_law_kept
    have h_law_two := (kL _).mono e8 h_law_two
    have h_law_three := (kL _).mono e8 h_law_three
    have h_law_more := w8
    refine s_retP (ep_lst (eap_cons (ep_cat (ep_cat (ep_var rfl h_law_one) (ep_var rfl h_law_two) (Nat.le_of_ble_eq_true rfl)) (ep_var rfl h_law_three) (Nat.le_of_ble_eq_true rfl)) (eap_cons (ep_of (ev_is (ev_andV (ev_sameD (d := .list (List.replicate 11 (.tuple [.int a, .int b]))) (ep_lstD (K := K) (ds := List.replicate 11 (.tuple [.int a, .int b])) (ep_var rfl h_law_kept)) (ep_lstD (K := K) (ds := List.replicate 11 (.tuple [.int a, .int b])) (ep_rep1 (n := 11) (ep_lst (eap_cons (ep_tupD (K := K) (ds := [.int a, .int b]) (eap_cons (ep_int (K := K) (ev_var rfl)) (eap_cons (ep_int (K := K) (ev_var rfl)) eap_nil)) (Nat.le_of_ble_eq_true rfl)) eap_nil) (Nat.le_of_ble_eq_true rfl)) ev_c (Nat.le_of_ble_eq_true rfl))) (shp_list (n := 1) (shp_rep (shp_tup (n := 0) (fun d hd => by simp at hd; rcases hd with rfl | rfl <;> exact shp_int _))) (by decide))) (fun _ => ev_sameD (d := .list (List.replicate 3 (.tuple [.int a, .int b, .int c]))) (ep_lstD (K := K) (ds := List.replicate 3 (.tuple [.int a, .int b, .int c])) (ep_var rfl h_law_more)) (ep_lstD (K := K) (ds := List.replicate 3 (.tuple [.int a, .int b, .int c])) (ep_rep1 (n := 3) (ep_lst (eap_cons (ep_tupD (K := K) (ds := [.int a, .int b, .int c]) (eap_cons (ep_int (K := K) (ev_var rfl)) (eap_cons (ep_int (K := K) (ev_var rfl)) (eap_cons (ep_int (K := K) (ev_var rfl)) eap_nil))) (Nat.le_of_ble_eq_true rfl)) eap_nil) (Nat.le_of_ble_eq_true rfl)) ev_c (Nat.le_of_ble_eq_true rfl))) (shp_list (n := 1) (shp_rep (shp_tup (n := 0) (fun d hd => by simp at hd; rcases hd with rfl | rfl | rfl <;> exact shp_int _))) (by decide)))) rfl)) eap_nil)) (Nat.le_of_ble_eq_true rfl)) (fun v H9 e9 h9 => k v H9 ((((((((e1.trans e2).trans e3).trans e4).trans e5).trans e6).trans e7).trans e8).trans e9) (kL_map (allK_cons (kL_map (allK_cons kE_X (allK_cons kE_X (allK_cons kE_X (allK_cons kE_X (allK_cons kE_X (allK_cons kE_X (allK_cons kE_X (allK_cons kE_X (allK_cons kE_X (allK_cons kE_X (allK_cons kE_X (allK_cons kE_X (allK_cons kE_X (allK_cons kE_X allK_nil))))))))))))))) (allK_cons (fun _ _ h => h) allK_nil)) _ _ h9))
end
end LW

set_option maxRecDepth 100000
set_option maxHeartbeats 4000000
namespace LW
open PySem PySem.Spec PyProof.Rows L2 Ve Evl

section
variable {P : Program} {w : World} {K : PySem.W.Frag} {mg : Str → Option Value} {base : Heap} {f : Addr} {fd : FuncData}
theorem ok_singles (F : FnP K "_law_singles" "_law_singles" s_law_singles f fd) (XA : XAll P w K mg base) : FnOk P w K mg base CX0 3 f fd ["_law_a"] (spSingles K) := by
  refine F.ok sc_law_singles (fun vs H Q E h => ?_) (fun cdv A outer s H vs Q E hr h => ?_)
  · obtain ⟨a, rfl, _⟩ := h
    rfl
  · obtain ⟨a, rfl, k⟩ := h
    refine ⟨_, PSs.nox (pss_cons (ps_set (i := 1) sc_law_singles.nd rfl (Or.inl rfl) (pe_lst (pa_cons (pe_exk XA.x_BadPlace hr (by decide) (by rfl) (pa_cons (pv 0) pa_nil)) (pa_cons (pe_exk XA.x_BadArrow hr (by decide) (by rfl) (pa_cons (pv 0) pa_nil)) (pa_cons (pe_exk XA.x_BadRun hr (by decide) (by rfl) (pa_cons (pv 0) pa_nil)) (pa_cons (pe_exk XA.x_BadLength hr (by decide) (by rfl) (pa_cons (pv 0) pa_nil)) (pa_cons (pe_exk XA.x_BadRing hr (by decide) (by rfl) (pa_cons (pv 0) pa_nil)) (pa_cons (pe_exk XA.x_BadText hr (by decide) (by rfl) (pa_cons (pv 0) pa_nil)) (pa_cons (pe_exk XA.x_Unlike hr (by decide) (by rfl) (pa_cons (pv 0) pa_nil)) (pa_cons (pe_exk XA.x_BadHighs hr (by decide) (by rfl) (pa_cons (pv 0) pa_nil)) (pa_cons (pe_exk XA.x_BadLot hr (by decide) (by rfl) (pa_cons (pv 0) pa_nil)) (pa_cons (pe_exk XA.x_BadLeads hr (by decide) (by rfl) (pa_cons (pv 0) pa_nil)) pa_nil))))))))))))
  (pss_cons (ps_set (i := 2) sc_law_singles.nd rfl (Or.inl rfl) (pe_lst (pa_cons (pe_xfld (pe_ix ix_list (pv 1) pe_int (fun _ _ => rfl))) (pa_cons (pe_xfld (pe_ix ix_list (pv 1) pe_int (fun _ _ => rfl))) (pa_cons (pe_xfld (pe_ix ix_list (pv 1) pe_int (fun _ _ => rfl))) (pa_cons (pe_xfld (pe_ix ix_list (pv 1) pe_int (fun _ _ => rfl))) (pa_cons (pe_xfld (pe_ix ix_list (pv 1) pe_int (fun _ _ => rfl))) (pa_cons (pe_xfld (pe_ix ix_list (pv 1) pe_int (fun _ _ => rfl))) (pa_cons (pe_xfld (pe_ix ix_list (pv 1) pe_int (fun _ _ => rfl))) (pa_cons (pe_xfld (pe_ix ix_list (pv 1) pe_int (fun _ _ => rfl))) pa_nil))))))))))
  (pss_cons (ps_set (i := 2) sc_law_singles.nd rfl (Or.inl rfl) (pe_op op_cat (pv 2) (pe_lst (pa_cons (pe_xfld (pe_ix ix_list (pv 1) pe_int (fun _ _ => rfl))) (pa_cons (pe_xfld (pe_ix ix_list (pv 1) pe_int (fun _ _ => rfl))) pa_nil)))))
  (pss_cons (ps_set (i := 3) sc_law_singles.nd rfl (Or.inl rfl) (pe_lst (pa_cons (pe_exk XA.x_BadLows hr (by decide) (by rfl) (pa_cons (pv 0) pa_nil)) (pa_cons (pe_exk XA.x_NotEven hr (by decide) (by rfl) (pa_cons (pv 0) pa_nil)) (pa_cons (pe_exk XA.x_BadMost hr (by decide) (by rfl) (pa_cons (pv 0) pa_nil)) (pa_cons (pe_exk XA.x_TooTight hr (by decide) (by rfl) (pa_cons (pv 0) pa_nil)) (pa_cons (pe_exk XA.x_TooMany hr (by decide) (by rfl) (pa_cons (pv 0) pa_nil)) (pa_cons (pe_exk XA.x_BadWeights hr (by decide) (by rfl) (pa_cons (pv 0) pa_nil)) (pa_cons (pe_exk XA.x_BadPlaces hr (by decide) (by rfl) (pa_cons (pv 0) pa_nil)) (pa_cons (pe_exk XA.x_BadLimit hr (by decide) (by rfl) (pa_cons (pv 0) pa_nil)) (pa_cons (pe_exk XA.x_NotMetered hr (by decide) (by rfl) (pa_cons (pv 0) pa_nil)) pa_nil)))))))))))
  (pss_cons (ps_set (i := 2) sc_law_singles.nd rfl (Or.inl rfl) (pe_op op_cat (pv 2) (pe_lst (pa_cons (pe_xfld (pe_ix ix_list (pv 3) pe_int (fun _ _ => rfl))) (pa_cons (pe_xfld (pe_ix ix_list (pv 3) pe_int (fun _ _ => rfl))) (pa_cons (pe_xfld (pe_ix ix_list (pv 3) pe_int (fun _ _ => rfl))) (pa_cons (pe_xfld (pe_ix ix_list (pv 3) pe_int (fun _ _ => rfl))) (pa_cons (pe_xfld (pe_ix ix_list (pv 3) pe_int (fun _ _ => rfl))) (pa_cons (pe_xfld (pe_ix ix_list (pv 3) pe_int (fun _ _ => rfl))) (pa_cons (pe_xfld (pe_ix ix_list (pv 3) pe_int (fun _ _ => rfl))) (pa_cons (pe_xfld (pe_ix ix_list (pv 3) pe_int (fun _ _ => rfl))) pa_nil)))))))))))
  (pss_cons (ps_set (i := 4) sc_law_singles.nd rfl (Or.inl rfl) (pe_lst (pa_cons (pe_exk XA.x_BadGates hr (by decide) (by rfl) (pa_cons (pv 0) pa_nil)) (pa_cons (pe_exk XA.x_BadStep hr (by decide) (by rfl) (pa_cons (pv 0) pa_nil)) (pa_cons (pe_exk XA.x_BadPoint hr (by decide) (by rfl) (pa_cons (pv 0) pa_nil)) (pa_cons (pe_exk XA.x_BadSteps hr (by decide) (by rfl) (pa_cons (pv 0) pa_nil)) (pa_cons (pe_exk XA.x_BadProcedure hr (by decide) (by rfl) (pa_cons (pv 0) pa_nil)) (pa_cons (pe_exk XA.x_NotEvenWorks hr (by decide) (by rfl) (pa_cons (pv 0) pa_nil)) (pa_cons (pe_exk XA.x_BadWorkLot hr (by decide) (by rfl) (pa_cons (pv 0) pa_nil)) (pa_cons (pe_exk XA.x_RingOfCalls hr (by decide) (by rfl) (pa_cons (pv 0) pa_nil)) pa_nil))))))))))
  (pss_cons (ps_set (i := 2) sc_law_singles.nd rfl (Or.inl rfl) (pe_op op_cat (pv 2) (pe_lst (pa_cons (pe_xfld (pe_ix ix_list (pv 3) pe_int (fun _ _ => rfl))) (pa_cons (pe_xfld (pe_ix ix_list (pv 4) pe_int (fun _ _ => rfl))) (pa_cons (pe_xfld (pe_ix ix_list (pv 4) pe_int (fun _ _ => rfl))) (pa_cons (pe_xfld (pe_ix ix_list (pv 4) pe_int (fun _ _ => rfl))) (pa_cons (pe_xfld (pe_ix ix_list (pv 4) pe_int (fun _ _ => rfl))) (pa_cons (pe_xfld (pe_ix ix_list (pv 4) pe_int (fun _ _ => rfl))) (pa_cons (pe_xfld (pe_ix ix_list (pv 4) pe_int (fun _ _ => rfl))) pa_nil))))))))))
  (pss_cons (ps_set (i := 5) sc_law_singles.nd rfl (Or.inl rfl) (pe_lst (pa_cons (pe_exk XA.x_NoKind hr (by decide) (by rfl) (pa_cons (pv 0) pa_nil)) (pa_cons (pe_exk XA.x_BadPrices hr (by decide) (by rfl) (pa_cons (pv 0) pa_nil)) (pa_cons (pe_exk XA.x_BadKindMeter hr (by decide) (by rfl) (pa_cons (pv 0) pa_nil)) (pa_cons (pe_exk XA.x_BadRows hr (by decide) (by rfl) (pa_cons (pv 0) pa_nil)) (pa_cons (pe_exk XA.x_NotTwo hr (by decide) (by rfl) (pa_cons (pv 0) pa_nil)) (pa_cons (pe_exk XA.x_CantMove hr (by decide) (by rfl) (pa_cons (pv 0) pa_nil)) (pa_cons (pe_exk XA.x_Parted hr (by decide) (by rfl) (pa_cons (pv 0) pa_nil)) (pa_cons (pe_exk XA.x_NoLane hr (by decide) (by rfl) (pa_cons (pv 0) pa_nil)) (pa_cons (pe_exk XA.x_NotHere hr (by decide) (by rfl) (pa_cons (pv 0) pa_nil)) pa_nil)))))))))))
  (pss_cons (ps_set (i := 2) sc_law_singles.nd rfl (Or.inl rfl) (pe_op op_cat (pv 2) (pe_lst (pa_cons (pe_xfld (pe_ix ix_list (pv 4) pe_int (fun _ _ => rfl))) (pa_cons (pe_xfld (pe_ix ix_list (pv 4) pe_int (fun _ _ => rfl))) (pa_cons (pe_xfld (pe_ix ix_list (pv 5) pe_int (fun _ _ => rfl))) (pa_cons (pe_xfld (pe_ix ix_list (pv 5) pe_int (fun _ _ => rfl))) (pa_cons (pe_xfld (pe_ix ix_list (pv 5) pe_int (fun _ _ => rfl))) (pa_cons (pe_xfld (pe_ix ix_list (pv 5) pe_int (fun _ _ => rfl))) (pa_cons (pe_xfld (pe_ix ix_list (pv 5) pe_int (fun _ _ => rfl))) pa_nil))))))))))
  (pss_cons (ps_set (i := 6) sc_law_singles.nd rfl (Or.inl rfl) (pe_lst (pa_cons (pe_exk XA.x_BadDeeds hr (by decide) (by rfl) (pa_cons (pv 0) pa_nil)) (pa_cons (pe_exk XA.x_BadLaneRuns hr (by decide) (by rfl) (pa_cons (pv 0) pa_nil)) (pa_cons (pe_exk XA.x_BadLog hr (by decide) (by rfl) (pa_cons (pv 0) pa_nil)) (pa_cons (pe_exk XA.x_Misfit hr (by decide) (by rfl) (pa_cons (pv 0) pa_nil)) (pa_cons (pe_exk XA.x_NotThere hr (by decide) (by rfl) (pa_cons (pv 0) pa_nil)) (pa_cons (pe_exk XA.x_BadPool hr (by decide) (by rfl) (pa_cons (pv 0) pa_nil)) pa_nil))))))))
  (pss_cons (ps_set (i := 2) sc_law_singles.nd rfl (Or.inl rfl) (pe_op op_cat (pv 2) (pe_lst (pa_cons (pe_xfld (pe_ix ix_list (pv 5) pe_int (fun _ _ => rfl))) (pa_cons (pe_xfld (pe_ix ix_list (pv 5) pe_int (fun _ _ => rfl))) (pa_cons (pe_xfld (pe_ix ix_list (pv 5) pe_int (fun _ _ => rfl))) (pa_cons (pe_xfld (pe_ix ix_list (pv 5) pe_int (fun _ _ => rfl))) (pa_cons (pe_xfld (pe_ix ix_list (pv 6) pe_int (fun _ _ => rfl))) (pa_cons (pe_xfld (pe_ix ix_list (pv 6) pe_int (fun _ _ => rfl))) (pa_cons (pe_xfld (pe_ix ix_list (pv 6) pe_int (fun _ _ => rfl))) pa_nil))))))))))
  (pss_cons (ps_set (i := 2) sc_law_singles.nd rfl (Or.inl rfl) (pe_op op_cat (pv 2) (pe_lst (pa_cons (pe_xfld (pe_ix ix_list (pv 6) pe_int (fun _ _ => rfl))) (pa_cons (pe_xfld (pe_ix ix_list (pv 6) pe_int (fun _ _ => rfl))) (pa_cons (pe_xfld (pe_ix ix_list (pv 6) pe_int (fun _ _ => rfl))) pa_nil))))))
  (pss_one (ps_ret (pe_lst (pa_cons (pe_op op_cat (pe_op op_cat (pe_op op_cat (pe_op op_cat (pv 1) (pv 3)) (pv 4)) (pv 5)) (pv 6)) (pa_cons (pe_cmpR (op_eqD hr.units) (pv 2) (pe_op op_rep (pe_lst (pa_cons (pv 0) pa_nil)) pe_int) (nomark _)) pa_nil))))))))))))))))), ?_⟩
    refine q_asgQ (fun u => [some (.int a), some u, none, none, none, none, none]) (fun _ => rfl) (ep_lst (eap_cons (ep_mkx (ea_cons (ev_var rfl) ea_nil) rfl (Nat.le_of_ble_eq_true rfl)) (eap_cons (ep_mkx (ea_cons (ev_var rfl) ea_nil) rfl (Nat.le_of_ble_eq_true rfl)) (eap_cons (ep_mkx (ea_cons (ev_var rfl) ea_nil) rfl (Nat.le_of_ble_eq_true rfl)) (eap_cons (ep_mkx (ea_cons (ev_var rfl) ea_nil) rfl (Nat.le_of_ble_eq_true rfl)) (eap_cons (ep_mkx (ea_cons (ev_var rfl) ea_nil) rfl (Nat.le_of_ble_eq_true rfl)) (eap_cons (ep_mkx (ea_cons (ev_var rfl) ea_nil) rfl (Nat.le_of_ble_eq_true rfl)) (eap_cons (ep_mkx (ea_cons (ev_var rfl) ea_nil) rfl (Nat.le_of_ble_eq_true rfl)) (eap_cons (ep_mkx (ea_cons (ev_var rfl) ea_nil) rfl (Nat.le_of_ble_eq_true rfl)) (eap_cons (ep_mkx (ea_cons (ev_var rfl) ea_nil) rfl (Nat.le_of_ble_eq_true rfl)) (eap_cons (ep_mkx (ea_cons (ev_var rfl) ea_nil) rfl (Nat.le_of_ble_eq_true rfl)) eap_nil)))))))))) (Nat.le_of_ble_eq_true rfl)) (fun v1 H1 e1 w1 => ?_)
    have h_law_one := w1
    refine q_asgQ (fun u => [some (.int a), some v1, some u, none, none, none, none]) (fun _ => rfl) (ep_lst (eap_cons (ep_int (K := K) (ev_xfld (ep_ixL (j := 0) (ep_var rfl h_law_one) ev_c rfl) XA.x_BadPlace.xf (XA.x_BadPlace.no "place" List.mem_cons_self) lk0)) (eap_cons (ep_int (K := K) (ev_xfld (ep_ixL (j := 1) (ep_var rfl h_law_one) ev_c rfl) XA.x_BadArrow.xf (XA.x_BadArrow.no "arrow" List.mem_cons_self) lk0)) (eap_cons (ep_int (K := K) (ev_xfld (ep_ixL (j := 2) (ep_var rfl h_law_one) ev_c rfl) XA.x_BadRun.xf (XA.x_BadRun.no "index" List.mem_cons_self) lk0)) (eap_cons (ep_int (K := K) (ev_xfld (ep_ixL (j := 3) (ep_var rfl h_law_one) ev_c rfl) XA.x_BadLength.xf (XA.x_BadLength.no "length" List.mem_cons_self) lk0)) (eap_cons (ep_int (K := K) (ev_xfld (ep_ixL (j := 4) (ep_var rfl h_law_one) ev_c rfl) XA.x_BadRing.xf (XA.x_BadRing.no "index" List.mem_cons_self) lk0)) (eap_cons (ep_int (K := K) (ev_xfld (ep_ixL (j := 5) (ep_var rfl h_law_one) ev_c rfl) XA.x_BadText.xf (XA.x_BadText.no "word" List.mem_cons_self) lk0)) (eap_cons (ep_int (K := K) (ev_xfld (ep_ixL (j := 6) (ep_var rfl h_law_one) ev_c rfl) XA.x_Unlike.xf (XA.x_Unlike.no "what" List.mem_cons_self) lk0)) (eap_cons (ep_int (K := K) (ev_xfld (ep_ixL (j := 7) (ep_var rfl h_law_one) ev_c rfl) XA.x_BadHighs.xf (XA.x_BadHighs.no "index" List.mem_cons_self) lk0)) eap_nil)))))))) (Nat.le_of_ble_eq_true rfl)) (fun v2 H2 e2 w2 => ?_)
    have h_law_one := (kL _).mono e2 h_law_one
    have h_law_kept := w2
    refine q_asgQ (fun u => [some (.int a), some v1, some u, none, none, none, none]) (fun _ => rfl) (ep_cat (ep_var rfl h_law_kept) (ep_lst (eap_cons (ep_int (K := K) (ev_xfld (ep_ixL (j := 8) (ep_var rfl h_law_one) ev_c rfl) XA.x_BadLot.xf (XA.x_BadLot.no "index" List.mem_cons_self) lk0)) (eap_cons (ep_int (K := K) (ev_xfld (ep_ixL (j := 9) (ep_var rfl h_law_one) ev_c rfl) XA.x_BadLeads.xf (XA.x_BadLeads.no "index" List.mem_cons_self) lk0)) eap_nil)) (Nat.le_of_ble_eq_true rfl)) (Nat.le_of_ble_eq_true rfl)) (fun v3 H3 e3 w3 => ?_)
    have h_law_one := (kL _).mono e3 h_law_one
    have h_law_kept := w3
    refine q_asgQ (fun u => [some (.int a), some v1, some v3, some u, none, none, none]) (fun _ => rfl) (ep_lst (eap_cons (ep_mkx (ea_cons (ev_var rfl) ea_nil) rfl (Nat.le_of_ble_eq_true rfl)) (eap_cons (ep_mkx (ea_cons (ev_var rfl) ea_nil) rfl (Nat.le_of_ble_eq_true rfl)) (eap_cons (ep_mkx (ea_cons (ev_var rfl) ea_nil) rfl (Nat.le_of_ble_eq_true rfl)) (eap_cons (ep_mkx (ea_cons (ev_var rfl) ea_nil) rfl (Nat.le_of_ble_eq_true rfl)) (eap_cons (ep_mkx (ea_cons (ev_var rfl) ea_nil) rfl (Nat.le_of_ble_eq_true rfl)) (eap_cons (ep_mkx (ea_cons (ev_var rfl) ea_nil) rfl (Nat.le_of_ble_eq_true rfl)) (eap_cons (ep_mkx (ea_cons (ev_var rfl) ea_nil) rfl (Nat.le_of_ble_eq_true rfl)) (eap_cons (ep_mkx (ea_cons (ev_var rfl) ea_nil) rfl (Nat.le_of_ble_eq_true rfl)) (eap_cons (ep_mkx (ea_cons (ev_var rfl) ea_nil) rfl (Nat.le_of_ble_eq_true rfl)) eap_nil))))))))) (Nat.le_of_ble_eq_true rfl)) (fun v4 H4 e4 w4 => ?_)
    have h_law_one := (kL _).mono e4 h_law_one
    have h_law_kept := (kL _).mono e4 h_law_kept
    have h_law_two := w4
    refine q_asgQ (fun u => [some (.int a), some v1, some u, some v4, none, none, none]) (fun _ => rfl) (ep_cat (ep_var rfl h_law_kept) (ep_lst (eap_cons (ep_int (K := K) (ev_xfld (ep_ixL (j := 0) (ep_var rfl h_law_two) ev_c rfl) XA.x_BadLows.xf (XA.x_BadLows.no "index" List.mem_cons_self) lk0)) (eap_cons (ep_int (K := K) (ev_xfld (ep_ixL (j := 1) (ep_var rfl h_law_two) ev_c rfl) XA.x_NotEven.xf (XA.x_NotEven.no "arrow" List.mem_cons_self) lk0)) (eap_cons (ep_int (K := K) (ev_xfld (ep_ixL (j := 2) (ep_var rfl h_law_two) ev_c rfl) XA.x_BadMost.xf (XA.x_BadMost.no "most" List.mem_cons_self) lk0)) (eap_cons (ep_int (K := K) (ev_xfld (ep_ixL (j := 3) (ep_var rfl h_law_two) ev_c rfl) XA.x_TooTight.xf (XA.x_TooTight.no "place" List.mem_cons_self) lk0)) (eap_cons (ep_int (K := K) (ev_xfld (ep_ixL (j := 4) (ep_var rfl h_law_two) ev_c rfl) XA.x_TooMany.xf (XA.x_TooMany.no "count" List.mem_cons_self) lk0)) (eap_cons (ep_int (K := K) (ev_xfld (ep_ixL (j := 5) (ep_var rfl h_law_two) ev_c rfl) XA.x_BadWeights.xf (XA.x_BadWeights.no "index" List.mem_cons_self) lk0)) (eap_cons (ep_int (K := K) (ev_xfld (ep_ixL (j := 6) (ep_var rfl h_law_two) ev_c rfl) XA.x_BadPlaces.xf (XA.x_BadPlaces.no "index" List.mem_cons_self) lk0)) (eap_cons (ep_int (K := K) (ev_xfld (ep_ixL (j := 7) (ep_var rfl h_law_two) ev_c rfl) XA.x_BadLimit.xf (XA.x_BadLimit.no "limit" List.mem_cons_self) lk0)) eap_nil)))))))) (Nat.le_of_ble_eq_true rfl)) (Nat.le_of_ble_eq_true rfl)) (fun v5 H5 e5 w5 => ?_)
    have h_law_one := (kL _).mono e5 h_law_one
    have h_law_two := (kL _).mono e5 h_law_two
    have h_law_kept := w5
    refine q_asgQ (fun u => [some (.int a), some v1, some v5, some v4, some u, none, none]) (fun _ => rfl) (ep_lst (eap_cons (ep_mkx (ea_cons (ev_var rfl) ea_nil) rfl (Nat.le_of_ble_eq_true rfl)) (eap_cons (ep_mkx (ea_cons (ev_var rfl) ea_nil) rfl (Nat.le_of_ble_eq_true rfl)) (eap_cons (ep_mkx (ea_cons (ev_var rfl) ea_nil) rfl (Nat.le_of_ble_eq_true rfl)) (eap_cons (ep_mkx (ea_cons (ev_var rfl) ea_nil) rfl (Nat.le_of_ble_eq_true rfl)) (eap_cons (ep_mkx (ea_cons (ev_var rfl) ea_nil) rfl (Nat.le_of_ble_eq_true rfl)) (eap_cons (ep_mkx (ea_cons (ev_var rfl) ea_nil) rfl (Nat.le_of_ble_eq_true rfl)) (eap_cons (ep_mkx (ea_cons (ev_var rfl) ea_nil) rfl (Nat.le_of_ble_eq_true rfl)) (eap_cons (ep_mkx (ea_cons (ev_var rfl) ea_nil) rfl (Nat.le_of_ble_eq_true rfl)) eap_nil)))))))) (Nat.le_of_ble_eq_true rfl)) (fun v6 H6 e6 w6 => ?_)
    have h_law_one := (kL _).mono e6 h_law_one
    have h_law_kept := (kL _).mono e6 h_law_kept
    have h_law_two := (kL _).mono e6 h_law_two
    have h_law_three := w6
    refine q_asgQ (fun u => [some (.int a), some v1, some u, some v4, some v6, none, none]) (fun _ => rfl) (ep_cat (ep_var rfl h_law_kept) (ep_lst (eap_cons (ep_int (K := K) (ev_xfld (ep_ixL (j := 8) (ep_var rfl h_law_two) ev_c rfl) XA.x_NotMetered.xf (XA.x_NotMetered.no "what" List.mem_cons_self) lk0)) (eap_cons (ep_int (K := K) (ev_xfld (ep_ixL (j := 0) (ep_var rfl h_law_three) ev_c rfl) XA.x_BadGates.xf (XA.x_BadGates.no "index" List.mem_cons_self) lk0)) (eap_cons (ep_int (K := K) (ev_xfld (ep_ixL (j := 1) (ep_var rfl h_law_three) ev_c rfl) XA.x_BadStep.xf (XA.x_BadStep.no "arrow" List.mem_cons_self) lk0)) (eap_cons (ep_int (K := K) (ev_xfld (ep_ixL (j := 2) (ep_var rfl h_law_three) ev_c rfl) XA.x_BadPoint.xf (XA.x_BadPoint.no "point" List.mem_cons_self) lk0)) (eap_cons (ep_int (K := K) (ev_xfld (ep_ixL (j := 3) (ep_var rfl h_law_three) ev_c rfl) XA.x_BadSteps.xf (XA.x_BadSteps.no "index" List.mem_cons_self) lk0)) (eap_cons (ep_int (K := K) (ev_xfld (ep_ixL (j := 4) (ep_var rfl h_law_three) ev_c rfl) XA.x_BadProcedure.xf (XA.x_BadProcedure.no "procedure" List.mem_cons_self) lk0)) (eap_cons (ep_int (K := K) (ev_xfld (ep_ixL (j := 5) (ep_var rfl h_law_three) ev_c rfl) XA.x_NotEvenWorks.xf (XA.x_NotEvenWorks.no "mark" List.mem_cons_self) lk0)) eap_nil))))))) (Nat.le_of_ble_eq_true rfl)) (Nat.le_of_ble_eq_true rfl)) (fun v7 H7 e7 w7 => ?_)
    have h_law_one := (kL _).mono e7 h_law_one
    have h_law_two := (kL _).mono e7 h_law_two
    have h_law_three := (kL _).mono e7 h_law_three
    have h_law_kept := w7
    refine q_asgQ (fun u => [some (.int a), some v1, some v7, some v4, some v6, some u, none]) (fun _ => rfl) (ep_lst (eap_cons (ep_mkx (ea_cons (ev_var rfl) ea_nil) rfl (Nat.le_of_ble_eq_true rfl)) (eap_cons (ep_mkx (ea_cons (ev_var rfl) ea_nil) rfl (Nat.le_of_ble_eq_true rfl)) (eap_cons (ep_mkx (ea_cons (ev_var rfl) ea_nil) rfl (Nat.le_of_ble_eq_true rfl)) (eap_cons (ep_mkx (ea_cons (ev_var rfl) ea_nil) rfl (Nat.le_of_ble_eq_true rfl)) (eap_cons (ep_mkx (ea_cons (ev_var rfl) ea_nil) rfl (Nat.le_of_ble_eq_true rfl)) (eap_cons (ep_mkx (ea_cons (ev_var rfl) ea_nil) rfl (Nat.le_of_ble_eq_true rfl)) (eap_cons (ep_mkx (ea_cons (ev_var rfl) ea_nil) rfl (Nat.le_of_ble_eq_true rfl)) (eap_cons (ep_mkx (ea_cons (ev_var rfl) ea_nil) rfl (Nat.le_of_ble_eq_true rfl)) (eap_cons (ep_mkx (ea_cons (ev_var rfl) ea_nil) rfl (Nat.le_of_ble_eq_true rfl)) eap_nil))))))))) (Nat.le_of_ble_eq_true rfl)) (fun v8 H8 e8 w8 => ?_)
    have h_law_one := (kL _).mono e8 h_law_one
    have h_law_kept := (kL _).mono e8 h_law_kept
    have h_law_two := (kL _).mono e8 h_law_two
    have h_law_three := (kL _).mono e8 h_law_three
    have h_law_four := w8
    refine q_asgQ (fun u => [some (.int a), some v1, some u, some v4, some v6, some v8, none]) (fun _ => rfl) (ep_cat (ep_var rfl h_law_kept) (ep_lst (eap_cons (ep_int (K := K) (ev_xfld (ep_ixL (j := 6) (ep_var rfl h_law_three) ev_c rfl) XA.x_BadWorkLot.xf (XA.x_BadWorkLot.no "index" List.mem_cons_self) lk0)) (eap_cons (ep_int (K := K) (ev_xfld (ep_ixL (j := 7) (ep_var rfl h_law_three) ev_c rfl) XA.x_RingOfCalls.xf (XA.x_RingOfCalls.no "points" List.mem_cons_self) lk0)) (eap_cons (ep_int (K := K) (ev_xfld (ep_ixL (j := 0) (ep_var rfl h_law_four) ev_c rfl) XA.x_NoKind.xf (XA.x_NoKind.no "kind" List.mem_cons_self) lk0)) (eap_cons (ep_int (K := K) (ev_xfld (ep_ixL (j := 1) (ep_var rfl h_law_four) ev_c rfl) XA.x_BadPrices.xf (XA.x_BadPrices.no "index" List.mem_cons_self) lk0)) (eap_cons (ep_int (K := K) (ev_xfld (ep_ixL (j := 2) (ep_var rfl h_law_four) ev_c rfl) XA.x_BadKindMeter.xf (XA.x_BadKindMeter.no "index" List.mem_cons_self) lk0)) (eap_cons (ep_int (K := K) (ev_xfld (ep_ixL (j := 3) (ep_var rfl h_law_four) ev_c rfl) XA.x_BadRows.xf (XA.x_BadRows.no "index" List.mem_cons_self) lk0)) (eap_cons (ep_int (K := K) (ev_xfld (ep_ixL (j := 4) (ep_var rfl h_law_four) ev_c rfl) XA.x_NotTwo.xf (XA.x_NotTwo.no "kinds" List.mem_cons_self) lk0)) eap_nil))))))) (Nat.le_of_ble_eq_true rfl)) (Nat.le_of_ble_eq_true rfl)) (fun v9 H9 e9 w9 => ?_)
    have h_law_one := (kL _).mono e9 h_law_one
    have h_law_two := (kL _).mono e9 h_law_two
    have h_law_three := (kL _).mono e9 h_law_three
    have h_law_four := (kL _).mono e9 h_law_four
    have h_law_kept := w9
    refine q_asgQ (fun u => [some (.int a), some v1, some v9, some v4, some v6, some v8, some u]) (fun _ => rfl) (ep_lst (eap_cons (ep_mkx (ea_cons (ev_var rfl) ea_nil) rfl (Nat.le_of_ble_eq_true rfl)) (eap_cons (ep_mkx (ea_cons (ev_var rfl) ea_nil) rfl (Nat.le_of_ble_eq_true rfl)) (eap_cons (ep_mkx (ea_cons (ev_var rfl) ea_nil) rfl (Nat.le_of_ble_eq_true rfl)) (eap_cons (ep_mkx (ea_cons (ev_var rfl) ea_nil) rfl (Nat.le_of_ble_eq_true rfl)) (eap_cons (ep_mkx (ea_cons (ev_var rfl) ea_nil) rfl (Nat.le_of_ble_eq_true rfl)) (eap_cons (ep_mkx (ea_cons (ev_var rfl) ea_nil) rfl (Nat.le_of_ble_eq_true rfl)) eap_nil)))))) (Nat.le_of_ble_eq_true rfl)) (fun v10 H10 e10 w10 => ?_)
    have h_law_one := (kL _).mono e10 h_law_one
    have h_law_kept := (kL _).mono e10 h_law_kept
    have h_law_two := (kL _).mono e10 h_law_two
    have h_law_three := (kL _).mono e10 h_law_three
    have h_law_four := (kL _).mono e10 h_law_four
    have h_law_five := w10
    refine q_asgQ (fun u => [some (.int a), some v1, some u, some v4, some v6, some v8, some v10]) (fun _ => rfl) (ep_cat (ep_var rfl h_law_kept) (ep_lst (eap_cons (ep_int (K := K) (ev_xfld (ep_ixL (j := 5) (ep_var rfl h_law_four) ev_c rfl) XA.x_CantMove.xf (XA.x_CantMove.no "arrow" List.mem_cons_self) lk0)) (eap_cons (ep_int (K := K) (ev_xfld (ep_ixL (j := 6) (ep_var rfl h_law_four) ev_c rfl) XA.x_Parted.xf (XA.x_Parted.no "place" List.mem_cons_self) lk0)) (eap_cons (ep_int (K := K) (ev_xfld (ep_ixL (j := 7) (ep_var rfl h_law_four) ev_c rfl) XA.x_NoLane.xf (XA.x_NoLane.no "lane" List.mem_cons_self) lk0)) (eap_cons (ep_int (K := K) (ev_xfld (ep_ixL (j := 8) (ep_var rfl h_law_four) ev_c rfl) XA.x_NotHere.xf (XA.x_NotHere.no "arrow" List.mem_cons_self) lk0)) (eap_cons (ep_int (K := K) (ev_xfld (ep_ixL (j := 0) (ep_var rfl h_law_five) ev_c rfl) XA.x_BadDeeds.xf (XA.x_BadDeeds.no "index" List.mem_cons_self) lk0)) (eap_cons (ep_int (K := K) (ev_xfld (ep_ixL (j := 1) (ep_var rfl h_law_five) ev_c rfl) XA.x_BadLaneRuns.xf (XA.x_BadLaneRuns.no "lane" List.mem_cons_self) lk0)) (eap_cons (ep_int (K := K) (ev_xfld (ep_ixL (j := 2) (ep_var rfl h_law_five) ev_c rfl) XA.x_BadLog.xf (XA.x_BadLog.no "index" List.mem_cons_self) lk0)) eap_nil))))))) (Nat.le_of_ble_eq_true rfl)) (Nat.le_of_ble_eq_true rfl)) (fun v11 H11 e11 w11 => ?_)
    have h_law_one := (kL _).mono e11 h_law_one
    have h_law_two := (kL _).mono e11 h_law_two
    have h_law_three := (kL _).mono e11 h_law_three
    have h_law_four := (kL _).mono e11 h_law_four
    have h_law_five := (kL _).mono e11 h_law_five
    have h_law_kept := w11
    refine q_asgQ (fun u => [some (.int a), some v1, some u, some v4, some v6, some v8, some v10]) (fun _ => rfl) (ep_cat (ep_var rfl h_law_kept) (ep_lst (eap_cons (ep_int (K := K) (ev_xfld (ep_ixL (j := 3) (ep_var rfl h_law_five) ev_c rfl) XA.x_Misfit.xf (XA.x_Misfit.no "index" List.mem_cons_self) lk0)) (eap_cons (ep_int (K := K) (ev_xfld (ep_ixL (j := 4) (ep_var rfl h_law_five) ev_c rfl) XA.x_NotThere.xf (XA.x_NotThere.no "place" List.mem_cons_self) lk0)) (eap_cons (ep_int (K := K) (ev_xfld (ep_ixL (j := 5) (ep_var rfl h_law_five) ev_c rfl) XA.x_BadPool.xf (XA.x_BadPool.no "index" List.mem_cons_self) lk0)) eap_nil))) (Nat.le_of_ble_eq_true rfl)) (Nat.le_of_ble_eq_true rfl)) (fun v12 H12 e12 w12 => ?_)
    have h_law_one := (kL _).mono e12 h_law_one
    have h_law_two := (kL _).mono e12 h_law_two
    have h_law_three := (kL _).mono e12 h_law_three
    have h_law_four := (kL _).mono e12 h_law_four
    have h_law_five := (kL _).mono e12 h_law_five
    have h_law_kept := w12
    refine s_retP (ep_lst (eap_cons (ep_cat (ep_cat (ep_cat (ep_cat (ep_var rfl h_law_one) (ep_var rfl h_law_two) (Nat.le_of_ble_eq_true rfl)) (ep_var rfl h_law_three) (Nat.le_of_ble_eq_true rfl)) (ep_var rfl h_law_four) (Nat.le_of_ble_eq_true rfl)) (ep_var rfl h_law_five) (Nat.le_of_ble_eq_true rfl)) (eap_cons (ep_of (ev_sameD (d := .list (List.replicate 42 (.int a))) (ep_lstD (K := K) (ds := List.replicate 42 (.int a)) (ep_var rfl h_law_kept)) (ep_lstD (K := K) (ds := List.replicate 42 (.int a)) (ep_rep1 (n := 42) (ep_lst (eap_cons (ep_int (K := K) (ev_var rfl)) eap_nil) (Nat.le_of_ble_eq_true rfl)) ev_c (Nat.le_of_ble_eq_true rfl))) (shp_list (n := 0) (shp_rep (shp_int a)) (by decide)))) eap_nil)) (Nat.le_of_ble_eq_true rfl)) (fun v H99 e99 h99 => k v H99 ((((((((((((e1.trans e2).trans e3).trans e4).trans e5).trans e6).trans e7).trans e8).trans e9).trans e10).trans e11).trans e12).trans e99) (kL_map (allK_cons (kL_map (allK_cons kE_X (allK_cons kE_X (allK_cons kE_X (allK_cons kE_X (allK_cons kE_X (allK_cons kE_X (allK_cons kE_X (allK_cons kE_X (allK_cons kE_X (allK_cons kE_X (allK_cons kE_X (allK_cons kE_X (allK_cons kE_X (allK_cons kE_X (allK_cons kE_X (allK_cons kE_X (allK_cons kE_X (allK_cons kE_X (allK_cons kE_X (allK_cons kE_X (allK_cons kE_X (allK_cons kE_X (allK_cons kE_X (allK_cons kE_X (allK_cons kE_X (allK_cons kE_X (allK_cons kE_X (allK_cons kE_X (allK_cons kE_X (allK_cons kE_X (allK_cons kE_X (allK_cons kE_X (allK_cons kE_X (allK_cons kE_X (allK_cons kE_X (allK_cons kE_X (allK_cons kE_X (allK_cons kE_X (allK_cons kE_X (allK_cons kE_X (allK_cons kE_X (allK_cons kE_X allK_nil))))))))))))))))))))))))))))))))))))))))))) (allK_cons (fun _ _ h => h) allK_nil)) _ _ h99))
theorem ok_classes (F : FnP K "_law_classes" "_law_classes" s_law_classes f fd) (T : Txt1 K mg) (XA : XAll P w K mg base) (hisx : ∀ x ∈ ord, IsxC K (He.ga K x)) (hkit : ∀ x ∈ ord, ∀ (i : Nat) (y : Str), ord[i]? = some y → PySem.W.kitOne K (.ref (He.ga K x)) (.ref (He.ga K y)) = some (decide (x = y))) : FnOk P w K mg base CX0 1 f fd ["_law_e"] (spClasses K) := by
  refine F.ok sc_law_classes (fun vs H Q E h => ?_) (fun cdv A outer s H vs Q E hr h => ?_)
  · obtain ⟨v, x, rfl, _⟩ := h
    rfl
  · obtain ⟨v, x, rfl, hx, he, k⟩ := h
    refine ⟨_, PSs.nox (pss_cons (ps_set (i := 1) sc_law_classes.nd rfl (Or.inl rfl) (pe_lst (pa_cons (pe_callB call_isx (by rfl) T.b_isinstance (by decide +kernel) (pa_cons (pv 0) (pa_cons (pe_glob (v := V.ref (He.ga K "BadChart")) (by rfl) XA.x_BadChart.glo rfl) pa_nil))) (pa_cons (pe_callB call_isx (by rfl) T.b_isinstance (by decide +kernel) (pa_cons (pv 0) (pa_cons (pe_glob (v := V.ref (He.ga K "BadMeter")) (by rfl) XA.x_BadMeter.glo rfl) pa_nil))) (pa_cons (pe_callB call_isx (by rfl) T.b_isinstance (by decide +kernel) (pa_cons (pv 0) (pa_cons (pe_glob (v := V.ref (He.ga K "Drifting")) (by rfl) XA.x_Drifting.glo rfl) pa_nil))) (pa_cons (pe_callB call_isx (by rfl) T.b_isinstance (by decide +kernel) (pa_cons (pv 0) (pa_cons (pe_glob (v := V.ref (He.ga K "BadDemands")) (by rfl) XA.x_BadDemands.glo rfl) pa_nil))) pa_nil))))))
  (pss_cons (ps_set (i := 1) sc_law_classes.nd rfl (Or.inl rfl) (pe_op op_cat (pv 1) (pe_lst (pa_cons (pe_callB call_isx (by rfl) T.b_isinstance (by decide +kernel) (pa_cons (pv 0) (pa_cons (pe_glob (v := V.ref (He.ga K "BadWorkLeads")) (by rfl) XA.x_BadWorkLeads.glo rfl) pa_nil))) (pa_cons (pe_callB call_isx (by rfl) T.b_isinstance (by decide +kernel) (pa_cons (pv 0) (pa_cons (pe_glob (v := V.ref (He.ga K "BadWorkGates")) (by rfl) XA.x_BadWorkGates.glo rfl) pa_nil))) (pa_cons (pe_callB call_isx (by rfl) T.b_isinstance (by decide +kernel) (pa_cons (pv 0) (pa_cons (pe_glob (v := V.ref (He.ga K "BadKinds")) (by rfl) XA.x_BadKinds.glo rfl) pa_nil))) (pa_cons (pe_callB call_isx (by rfl) T.b_isinstance (by decide +kernel) (pa_cons (pv 0) (pa_cons (pe_glob (v := V.ref (He.ga K "BadCopy")) (by rfl) XA.x_BadCopy.glo rfl) pa_nil))) pa_nil)))))))
  (pss_cons (ps_set (i := 1) sc_law_classes.nd rfl (Or.inl rfl) (pe_op op_cat (pv 1) (pe_lst (pa_cons (pe_callB call_isx (by rfl) T.b_isinstance (by decide +kernel) (pa_cons (pv 0) (pa_cons (pe_glob (v := V.ref (He.ga K "BadLanes")) (by rfl) XA.x_BadLanes.glo rfl) pa_nil))) (pa_cons (pe_callB call_isx (by rfl) T.b_isinstance (by decide +kernel) (pa_cons (pv 0) (pa_cons (pe_glob (v := V.ref (He.ga K "NotRunning")) (by rfl) XA.x_NotRunning.glo rfl) pa_nil))) (pa_cons (pe_callB call_isx (by rfl) T.b_isinstance (by decide +kernel) (pa_cons (pv 0) (pa_cons (pe_glob (v := V.ref (He.ga K "BadEdit")) (by rfl) XA.x_BadEdit.glo rfl) pa_nil))) (pa_cons (pe_callB call_isx (by rfl) T.b_isinstance (by decide +kernel) (pa_cons (pv 0) (pa_cons (pe_glob (v := V.ref (He.ga K "BadWorks")) (by rfl) XA.x_BadWorks.glo rfl) pa_nil))) pa_nil)))))))
  (pss_cons (ps_set (i := 1) sc_law_classes.nd rfl (Or.inl rfl) (pe_op op_cat (pv 1) (pe_lst (pa_cons (pe_callB call_isx (by rfl) T.b_isinstance (by decide +kernel) (pa_cons (pv 0) (pa_cons (pe_glob (v := V.ref (He.ga K "BadWorkMeter")) (by rfl) XA.x_BadWorkMeter.glo rfl) pa_nil))) (pa_cons (pe_callB call_isx (by rfl) T.b_isinstance (by decide +kernel) (pa_cons (pv 0) (pa_cons (pe_glob (v := V.ref (He.ga K "Refused")) (by rfl) XA.x_Refused.glo rfl) pa_nil))) (pa_cons (pe_callB call_isx (by rfl) T.b_isinstance (by decide +kernel) (pa_cons (pv 0) (pa_cons (pe_glob (v := V.ref (He.ga K "BadPlace")) (by rfl) XA.x_BadPlace.glo rfl) pa_nil))) (pa_cons (pe_callB call_isx (by rfl) T.b_isinstance (by decide +kernel) (pa_cons (pv 0) (pa_cons (pe_glob (v := V.ref (He.ga K "BadArrow")) (by rfl) XA.x_BadArrow.glo rfl) pa_nil))) pa_nil)))))))
  (pss_cons (ps_set (i := 1) sc_law_classes.nd rfl (Or.inl rfl) (pe_op op_cat (pv 1) (pe_lst (pa_cons (pe_callB call_isx (by rfl) T.b_isinstance (by decide +kernel) (pa_cons (pv 0) (pa_cons (pe_glob (v := V.ref (He.ga K "BadRun")) (by rfl) XA.x_BadRun.glo rfl) pa_nil))) (pa_cons (pe_callB call_isx (by rfl) T.b_isinstance (by decide +kernel) (pa_cons (pv 0) (pa_cons (pe_glob (v := V.ref (He.ga K "BadLength")) (by rfl) XA.x_BadLength.glo rfl) pa_nil))) (pa_cons (pe_callB call_isx (by rfl) T.b_isinstance (by decide +kernel) (pa_cons (pv 0) (pa_cons (pe_glob (v := V.ref (He.ga K "BadRing")) (by rfl) XA.x_BadRing.glo rfl) pa_nil))) (pa_cons (pe_callB call_isx (by rfl) T.b_isinstance (by decide +kernel) (pa_cons (pv 0) (pa_cons (pe_glob (v := V.ref (He.ga K "BadText")) (by rfl) XA.x_BadText.glo rfl) pa_nil))) pa_nil)))))))
  (pss_cons (ps_set (i := 1) sc_law_classes.nd rfl (Or.inl rfl) (pe_op op_cat (pv 1) (pe_lst (pa_cons (pe_callB call_isx (by rfl) T.b_isinstance (by decide +kernel) (pa_cons (pv 0) (pa_cons (pe_glob (v := V.ref (He.ga K "Unlike")) (by rfl) XA.x_Unlike.glo rfl) pa_nil))) (pa_cons (pe_callB call_isx (by rfl) T.b_isinstance (by decide +kernel) (pa_cons (pv 0) (pa_cons (pe_glob (v := V.ref (He.ga K "BadHighs")) (by rfl) XA.x_BadHighs.glo rfl) pa_nil))) (pa_cons (pe_callB call_isx (by rfl) T.b_isinstance (by decide +kernel) (pa_cons (pv 0) (pa_cons (pe_glob (v := V.ref (He.ga K "BadLot")) (by rfl) XA.x_BadLot.glo rfl) pa_nil))) (pa_cons (pe_callB call_isx (by rfl) T.b_isinstance (by decide +kernel) (pa_cons (pv 0) (pa_cons (pe_glob (v := V.ref (He.ga K "BadLeads")) (by rfl) XA.x_BadLeads.glo rfl) pa_nil))) pa_nil)))))))
  (pss_cons (ps_set (i := 1) sc_law_classes.nd rfl (Or.inl rfl) (pe_op op_cat (pv 1) (pe_lst (pa_cons (pe_callB call_isx (by rfl) T.b_isinstance (by decide +kernel) (pa_cons (pv 0) (pa_cons (pe_glob (v := V.ref (He.ga K "BadLows")) (by rfl) XA.x_BadLows.glo rfl) pa_nil))) (pa_cons (pe_callB call_isx (by rfl) T.b_isinstance (by decide +kernel) (pa_cons (pv 0) (pa_cons (pe_glob (v := V.ref (He.ga K "NotEven")) (by rfl) XA.x_NotEven.glo rfl) pa_nil))) (pa_cons (pe_callB call_isx (by rfl) T.b_isinstance (by decide +kernel) (pa_cons (pv 0) (pa_cons (pe_glob (v := V.ref (He.ga K "BadMost")) (by rfl) XA.x_BadMost.glo rfl) pa_nil))) (pa_cons (pe_callB call_isx (by rfl) T.b_isinstance (by decide +kernel) (pa_cons (pv 0) (pa_cons (pe_glob (v := V.ref (He.ga K "TooTight")) (by rfl) XA.x_TooTight.glo rfl) pa_nil))) pa_nil)))))))
  (pss_cons (ps_set (i := 1) sc_law_classes.nd rfl (Or.inl rfl) (pe_op op_cat (pv 1) (pe_lst (pa_cons (pe_callB call_isx (by rfl) T.b_isinstance (by decide +kernel) (pa_cons (pv 0) (pa_cons (pe_glob (v := V.ref (He.ga K "TooMany")) (by rfl) XA.x_TooMany.glo rfl) pa_nil))) (pa_cons (pe_callB call_isx (by rfl) T.b_isinstance (by decide +kernel) (pa_cons (pv 0) (pa_cons (pe_glob (v := V.ref (He.ga K "BadWeights")) (by rfl) XA.x_BadWeights.glo rfl) pa_nil))) (pa_cons (pe_callB call_isx (by rfl) T.b_isinstance (by decide +kernel) (pa_cons (pv 0) (pa_cons (pe_glob (v := V.ref (He.ga K "BadPlaces")) (by rfl) XA.x_BadPlaces.glo rfl) pa_nil))) (pa_cons (pe_callB call_isx (by rfl) T.b_isinstance (by decide +kernel) (pa_cons (pv 0) (pa_cons (pe_glob (v := V.ref (He.ga K "BadLimit")) (by rfl) XA.x_BadLimit.glo rfl) pa_nil))) pa_nil)))))))
  (pss_cons (ps_set (i := 1) sc_law_classes.nd rfl (Or.inl rfl) (pe_op op_cat (pv 1) (pe_lst (pa_cons (pe_callB call_isx (by rfl) T.b_isinstance (by decide +kernel) (pa_cons (pv 0) (pa_cons (pe_glob (v := V.ref (He.ga K "NotMetered")) (by rfl) XA.x_NotMetered.glo rfl) pa_nil))) (pa_cons (pe_callB call_isx (by rfl) T.b_isinstance (by decide +kernel) (pa_cons (pv 0) (pa_cons (pe_glob (v := V.ref (He.ga K "BadGates")) (by rfl) XA.x_BadGates.glo rfl) pa_nil))) (pa_cons (pe_callB call_isx (by rfl) T.b_isinstance (by decide +kernel) (pa_cons (pv 0) (pa_cons (pe_glob (v := V.ref (He.ga K "BadStep")) (by rfl) XA.x_BadStep.glo rfl) pa_nil))) (pa_cons (pe_callB call_isx (by rfl) T.b_isinstance (by decide +kernel) (pa_cons (pv 0) (pa_cons (pe_glob (v := V.ref (He.ga K "BadPoint")) (by rfl) XA.x_BadPoint.glo rfl) pa_nil))) pa_nil)))))))
  (pss_cons (ps_set (i := 1) sc_law_classes.nd rfl (Or.inl rfl) (pe_op op_cat (pv 1) (pe_lst (pa_cons (pe_callB call_isx (by rfl) T.b_isinstance (by decide +kernel) (pa_cons (pv 0) (pa_cons (pe_glob (v := V.ref (He.ga K "BadSteps")) (by rfl) XA.x_BadSteps.glo rfl) pa_nil))) (pa_cons (pe_callB call_isx (by rfl) T.b_isinstance (by decide +kernel) (pa_cons (pv 0) (pa_cons (pe_glob (v := V.ref (He.ga K "BadProcedure")) (by rfl) XA.x_BadProcedure.glo rfl) pa_nil))) (pa_cons (pe_callB call_isx (by rfl) T.b_isinstance (by decide +kernel) (pa_cons (pv 0) (pa_cons (pe_glob (v := V.ref (He.ga K "NotEvenWorks")) (by rfl) XA.x_NotEvenWorks.glo rfl) pa_nil))) (pa_cons (pe_callB call_isx (by rfl) T.b_isinstance (by decide +kernel) (pa_cons (pv 0) (pa_cons (pe_glob (v := V.ref (He.ga K "BadWorkLot")) (by rfl) XA.x_BadWorkLot.glo rfl) pa_nil))) pa_nil)))))))
  (pss_cons (ps_set (i := 1) sc_law_classes.nd rfl (Or.inl rfl) (pe_op op_cat (pv 1) (pe_lst (pa_cons (pe_callB call_isx (by rfl) T.b_isinstance (by decide +kernel) (pa_cons (pv 0) (pa_cons (pe_glob (v := V.ref (He.ga K "RingOfCalls")) (by rfl) XA.x_RingOfCalls.glo rfl) pa_nil))) (pa_cons (pe_callB call_isx (by rfl) T.b_isinstance (by decide +kernel) (pa_cons (pv 0) (pa_cons (pe_glob (v := V.ref (He.ga K "NoKind")) (by rfl) XA.x_NoKind.glo rfl) pa_nil))) (pa_cons (pe_callB call_isx (by rfl) T.b_isinstance (by decide +kernel) (pa_cons (pv 0) (pa_cons (pe_glob (v := V.ref (He.ga K "BadPrices")) (by rfl) XA.x_BadPrices.glo rfl) pa_nil))) (pa_cons (pe_callB call_isx (by rfl) T.b_isinstance (by decide +kernel) (pa_cons (pv 0) (pa_cons (pe_glob (v := V.ref (He.ga K "BadKindMeter")) (by rfl) XA.x_BadKindMeter.glo rfl) pa_nil))) pa_nil)))))))
  (pss_cons (ps_set (i := 1) sc_law_classes.nd rfl (Or.inl rfl) (pe_op op_cat (pv 1) (pe_lst (pa_cons (pe_callB call_isx (by rfl) T.b_isinstance (by decide +kernel) (pa_cons (pv 0) (pa_cons (pe_glob (v := V.ref (He.ga K "BadRows")) (by rfl) XA.x_BadRows.glo rfl) pa_nil))) (pa_cons (pe_callB call_isx (by rfl) T.b_isinstance (by decide +kernel) (pa_cons (pv 0) (pa_cons (pe_glob (v := V.ref (He.ga K "NotTwo")) (by rfl) XA.x_NotTwo.glo rfl) pa_nil))) (pa_cons (pe_callB call_isx (by rfl) T.b_isinstance (by decide +kernel) (pa_cons (pv 0) (pa_cons (pe_glob (v := V.ref (He.ga K "CantMove")) (by rfl) XA.x_CantMove.glo rfl) pa_nil))) (pa_cons (pe_callB call_isx (by rfl) T.b_isinstance (by decide +kernel) (pa_cons (pv 0) (pa_cons (pe_glob (v := V.ref (He.ga K "Parted")) (by rfl) XA.x_Parted.glo rfl) pa_nil))) pa_nil)))))))
  (pss_cons (ps_set (i := 1) sc_law_classes.nd rfl (Or.inl rfl) (pe_op op_cat (pv 1) (pe_lst (pa_cons (pe_callB call_isx (by rfl) T.b_isinstance (by decide +kernel) (pa_cons (pv 0) (pa_cons (pe_glob (v := V.ref (He.ga K "NoLane")) (by rfl) XA.x_NoLane.glo rfl) pa_nil))) (pa_cons (pe_callB call_isx (by rfl) T.b_isinstance (by decide +kernel) (pa_cons (pv 0) (pa_cons (pe_glob (v := V.ref (He.ga K "NotHere")) (by rfl) XA.x_NotHere.glo rfl) pa_nil))) (pa_cons (pe_callB call_isx (by rfl) T.b_isinstance (by decide +kernel) (pa_cons (pv 0) (pa_cons (pe_glob (v := V.ref (He.ga K "BadDeeds")) (by rfl) XA.x_BadDeeds.glo rfl) pa_nil))) (pa_cons (pe_callB call_isx (by rfl) T.b_isinstance (by decide +kernel) (pa_cons (pv 0) (pa_cons (pe_glob (v := V.ref (He.ga K "BadLaneRuns")) (by rfl) XA.x_BadLaneRuns.glo rfl) pa_nil))) pa_nil)))))))
  (pss_cons (ps_set (i := 1) sc_law_classes.nd rfl (Or.inl rfl) (pe_op op_cat (pv 1) (pe_lst (pa_cons (pe_callB call_isx (by rfl) T.b_isinstance (by decide +kernel) (pa_cons (pv 0) (pa_cons (pe_glob (v := V.ref (He.ga K "BadLog")) (by rfl) XA.x_BadLog.glo rfl) pa_nil))) (pa_cons (pe_callB call_isx (by rfl) T.b_isinstance (by decide +kernel) (pa_cons (pv 0) (pa_cons (pe_glob (v := V.ref (He.ga K "Misfit")) (by rfl) XA.x_Misfit.glo rfl) pa_nil))) (pa_cons (pe_callB call_isx (by rfl) T.b_isinstance (by decide +kernel) (pa_cons (pv 0) (pa_cons (pe_glob (v := V.ref (He.ga K "NotThere")) (by rfl) XA.x_NotThere.glo rfl) pa_nil))) (pa_cons (pe_callB call_isx (by rfl) T.b_isinstance (by decide +kernel) (pa_cons (pv 0) (pa_cons (pe_glob (v := V.ref (He.ga K "BadPool")) (by rfl) XA.x_BadPool.glo rfl) pa_nil))) pa_nil)))))))
  (pss_cons (ps_set (i := 1) sc_law_classes.nd rfl (Or.inl rfl) (pe_op op_cat (pv 1) (pe_lst (pa_cons (pe_callB call_isx (by rfl) T.b_isinstance (by decide +kernel) (pa_cons (pv 0) (pa_cons (pe_glob (v := V.ref (He.ga K "BadFactor")) (by rfl) XA.z_BadFactor.glo rfl) pa_nil))) (pa_cons (pe_callB call_isx (by rfl) T.b_isinstance (by decide +kernel) (pa_cons (pv 0) (pa_cons (pe_glob (v := V.ref (He.ga K "BadMoves")) (by rfl) XA.z_BadMoves.glo rfl) pa_nil))) (pa_cons (pe_callB call_isx (by rfl) T.b_isinstance (by decide +kernel) (pa_cons (pv 0) (pa_cons (pe_glob (v := V.ref (He.ga K "BadMove")) (by rfl) XA.z_BadMove.glo rfl) pa_nil))) (pa_cons (pe_callB call_isx (by rfl) T.b_isinstance (by decide +kernel) (pa_cons (pv 0) (pa_cons (pe_glob (v := V.ref (He.ga K "NoRoom")) (by rfl) XA.z_NoRoom.glo rfl) pa_nil))) pa_nil)))))))
  (pss_one (ps_ret (pe_op op_cat (pv 1) (pe_lst (pa_cons (pe_callB call_isx (by rfl) T.b_isinstance (by decide +kernel) (pa_cons (pv 0) (pa_cons (pe_glob (v := V.ref (He.ga K "NothingSeen")) (by rfl) XA.z_NothingSeen.glo rfl) pa_nil))) (pa_cons (pe_callB call_isx (by rfl) T.b_isinstance (by decide +kernel) (pa_cons (pv 0) (pa_cons (pe_glob (v := V.ref (He.ga K "BadGoal")) (by rfl) XA.z_BadGoal.glo rfl) pa_nil))) (pa_cons (pe_callB call_isx (by rfl) T.b_isinstance (by decide +kernel) (pa_cons (pv 0) (pa_cons (pe_glob (v := V.ref (He.ga K "NothingDone")) (by rfl) XA.z_NothingDone.glo rfl) pa_nil))) pa_nil)))))))))))))))))))))), ?_⟩
    refine q_asgQ (fun u => [some v, some u]) (fun _ => rfl) (ep_lst (eap_cons (ep_bl (K := K) (ev_isx (ep_var rfl he) ev_c (.own _) (hisx x hx) (hkit x hx 0 _ rfl))) (eap_cons (ep_bl (K := K) (ev_isx (ep_var rfl he) ev_c (.own _) (hisx x hx) (hkit x hx 1 _ rfl))) (eap_cons (ep_bl (K := K) (ev_isx (ep_var rfl he) ev_c (.own _) (hisx x hx) (hkit x hx 2 _ rfl))) (eap_cons (ep_bl (K := K) (ev_isx (ep_var rfl he) ev_c (.own _) (hisx x hx) (hkit x hx 3 _ rfl))) eap_nil)))) (Nat.le_of_ble_eq_true rfl)) (fun v1 H1 e1 w1 => ?_)
    have he := (kE _).mono e1 he
    have h_rows := w1
    refine q_asgQ (fun u => [some v, some u]) (fun _ => rfl) (ep_cat (ep_var rfl h_rows) (ep_lst (eap_cons (ep_bl (K := K) (ev_isx (ep_var rfl he) ev_c (.own _) (hisx x hx) (hkit x hx 4 _ rfl))) (eap_cons (ep_bl (K := K) (ev_isx (ep_var rfl he) ev_c (.own _) (hisx x hx) (hkit x hx 5 _ rfl))) (eap_cons (ep_bl (K := K) (ev_isx (ep_var rfl he) ev_c (.own _) (hisx x hx) (hkit x hx 6 _ rfl))) (eap_cons (ep_bl (K := K) (ev_isx (ep_var rfl he) ev_c (.own _) (hisx x hx) (hkit x hx 7 _ rfl))) eap_nil)))) (Nat.le_of_ble_eq_true rfl)) (Nat.le_of_ble_eq_true rfl)) (fun v2 H2 e2 w2 => ?_)
    have he := (kE _).mono e2 he
    have h_rows := w2
    refine q_asgQ (fun u => [some v, some u]) (fun _ => rfl) (ep_cat (ep_var rfl h_rows) (ep_lst (eap_cons (ep_bl (K := K) (ev_isx (ep_var rfl he) ev_c (.own _) (hisx x hx) (hkit x hx 8 _ rfl))) (eap_cons (ep_bl (K := K) (ev_isx (ep_var rfl he) ev_c (.own _) (hisx x hx) (hkit x hx 9 _ rfl))) (eap_cons (ep_bl (K := K) (ev_isx (ep_var rfl he) ev_c (.own _) (hisx x hx) (hkit x hx 10 _ rfl))) (eap_cons (ep_bl (K := K) (ev_isx (ep_var rfl he) ev_c (.own _) (hisx x hx) (hkit x hx 11 _ rfl))) eap_nil)))) (Nat.le_of_ble_eq_true rfl)) (Nat.le_of_ble_eq_true rfl)) (fun v3 H3 e3 w3 => ?_)
    have he := (kE _).mono e3 he
    have h_rows := w3
    refine q_asgQ (fun u => [some v, some u]) (fun _ => rfl) (ep_cat (ep_var rfl h_rows) (ep_lst (eap_cons (ep_bl (K := K) (ev_isx (ep_var rfl he) ev_c (.own _) (hisx x hx) (hkit x hx 12 _ rfl))) (eap_cons (ep_bl (K := K) (ev_isx (ep_var rfl he) ev_c (.own _) (hisx x hx) (hkit x hx 13 _ rfl))) (eap_cons (ep_bl (K := K) (ev_isx (ep_var rfl he) ev_c (.own _) (hisx x hx) (hkit x hx 14 _ rfl))) (eap_cons (ep_bl (K := K) (ev_isx (ep_var rfl he) ev_c (.own _) (hisx x hx) (hkit x hx 15 _ rfl))) eap_nil)))) (Nat.le_of_ble_eq_true rfl)) (Nat.le_of_ble_eq_true rfl)) (fun v4 H4 e4 w4 => ?_)
    have he := (kE _).mono e4 he
    have h_rows := w4
    refine q_asgQ (fun u => [some v, some u]) (fun _ => rfl) (ep_cat (ep_var rfl h_rows) (ep_lst (eap_cons (ep_bl (K := K) (ev_isx (ep_var rfl he) ev_c (.own _) (hisx x hx) (hkit x hx 16 _ rfl))) (eap_cons (ep_bl (K := K) (ev_isx (ep_var rfl he) ev_c (.own _) (hisx x hx) (hkit x hx 17 _ rfl))) (eap_cons (ep_bl (K := K) (ev_isx (ep_var rfl he) ev_c (.own _) (hisx x hx) (hkit x hx 18 _ rfl))) (eap_cons (ep_bl (K := K) (ev_isx (ep_var rfl he) ev_c (.own _) (hisx x hx) (hkit x hx 19 _ rfl))) eap_nil)))) (Nat.le_of_ble_eq_true rfl)) (Nat.le_of_ble_eq_true rfl)) (fun v5 H5 e5 w5 => ?_)
    have he := (kE _).mono e5 he
    have h_rows := w5
    refine q_asgQ (fun u => [some v, some u]) (fun _ => rfl) (ep_cat (ep_var rfl h_rows) (ep_lst (eap_cons (ep_bl (K := K) (ev_isx (ep_var rfl he) ev_c (.own _) (hisx x hx) (hkit x hx 20 _ rfl))) (eap_cons (ep_bl (K := K) (ev_isx (ep_var rfl he) ev_c (.own _) (hisx x hx) (hkit x hx 21 _ rfl))) (eap_cons (ep_bl (K := K) (ev_isx (ep_var rfl he) ev_c (.own _) (hisx x hx) (hkit x hx 22 _ rfl))) (eap_cons (ep_bl (K := K) (ev_isx (ep_var rfl he) ev_c (.own _) (hisx x hx) (hkit x hx 23 _ rfl))) eap_nil)))) (Nat.le_of_ble_eq_true rfl)) (Nat.le_of_ble_eq_true rfl)) (fun v6 H6 e6 w6 => ?_)
    have he := (kE _).mono e6 he
    have h_rows := w6
    refine q_asgQ (fun u => [some v, some u]) (fun _ => rfl) (ep_cat (ep_var rfl h_rows) (ep_lst (eap_cons (ep_bl (K := K) (ev_isx (ep_var rfl he) ev_c (.own _) (hisx x hx) (hkit x hx 24 _ rfl))) (eap_cons (ep_bl (K := K) (ev_isx (ep_var rfl he) ev_c (.own _) (hisx x hx) (hkit x hx 25 _ rfl))) (eap_cons (ep_bl (K := K) (ev_isx (ep_var rfl he) ev_c (.own _) (hisx x hx) (hkit x hx 26 _ rfl))) (eap_cons (ep_bl (K := K) (ev_isx (ep_var rfl he) ev_c (.own _) (hisx x hx) (hkit x hx 27 _ rfl))) eap_nil)))) (Nat.le_of_ble_eq_true rfl)) (Nat.le_of_ble_eq_true rfl)) (fun v7 H7 e7 w7 => ?_)
    have he := (kE _).mono e7 he
    have h_rows := w7
    refine q_asgQ (fun u => [some v, some u]) (fun _ => rfl) (ep_cat (ep_var rfl h_rows) (ep_lst (eap_cons (ep_bl (K := K) (ev_isx (ep_var rfl he) ev_c (.own _) (hisx x hx) (hkit x hx 28 _ rfl))) (eap_cons (ep_bl (K := K) (ev_isx (ep_var rfl he) ev_c (.own _) (hisx x hx) (hkit x hx 29 _ rfl))) (eap_cons (ep_bl (K := K) (ev_isx (ep_var rfl he) ev_c (.own _) (hisx x hx) (hkit x hx 30 _ rfl))) (eap_cons (ep_bl (K := K) (ev_isx (ep_var rfl he) ev_c (.own _) (hisx x hx) (hkit x hx 31 _ rfl))) eap_nil)))) (Nat.le_of_ble_eq_true rfl)) (Nat.le_of_ble_eq_true rfl)) (fun v8 H8 e8 w8 => ?_)
    have he := (kE _).mono e8 he
    have h_rows := w8
    refine q_asgQ (fun u => [some v, some u]) (fun _ => rfl) (ep_cat (ep_var rfl h_rows) (ep_lst (eap_cons (ep_bl (K := K) (ev_isx (ep_var rfl he) ev_c (.own _) (hisx x hx) (hkit x hx 32 _ rfl))) (eap_cons (ep_bl (K := K) (ev_isx (ep_var rfl he) ev_c (.own _) (hisx x hx) (hkit x hx 33 _ rfl))) (eap_cons (ep_bl (K := K) (ev_isx (ep_var rfl he) ev_c (.own _) (hisx x hx) (hkit x hx 34 _ rfl))) (eap_cons (ep_bl (K := K) (ev_isx (ep_var rfl he) ev_c (.own _) (hisx x hx) (hkit x hx 35 _ rfl))) eap_nil)))) (Nat.le_of_ble_eq_true rfl)) (Nat.le_of_ble_eq_true rfl)) (fun v9 H9 e9 w9 => ?_)
    have he := (kE _).mono e9 he
    have h_rows := w9
    refine q_asgQ (fun u => [some v, some u]) (fun _ => rfl) (ep_cat (ep_var rfl h_rows) (ep_lst (eap_cons (ep_bl (K := K) (ev_isx (ep_var rfl he) ev_c (.own _) (hisx x hx) (hkit x hx 36 _ rfl))) (eap_cons (ep_bl (K := K) (ev_isx (ep_var rfl he) ev_c (.own _) (hisx x hx) (hkit x hx 37 _ rfl))) (eap_cons (ep_bl (K := K) (ev_isx (ep_var rfl he) ev_c (.own _) (hisx x hx) (hkit x hx 38 _ rfl))) (eap_cons (ep_bl (K := K) (ev_isx (ep_var rfl he) ev_c (.own _) (hisx x hx) (hkit x hx 39 _ rfl))) eap_nil)))) (Nat.le_of_ble_eq_true rfl)) (Nat.le_of_ble_eq_true rfl)) (fun v10 H10 e10 w10 => ?_)
    have he := (kE _).mono e10 he
    have h_rows := w10
    refine q_asgQ (fun u => [some v, some u]) (fun _ => rfl) (ep_cat (ep_var rfl h_rows) (ep_lst (eap_cons (ep_bl (K := K) (ev_isx (ep_var rfl he) ev_c (.own _) (hisx x hx) (hkit x hx 40 _ rfl))) (eap_cons (ep_bl (K := K) (ev_isx (ep_var rfl he) ev_c (.own _) (hisx x hx) (hkit x hx 41 _ rfl))) (eap_cons (ep_bl (K := K) (ev_isx (ep_var rfl he) ev_c (.own _) (hisx x hx) (hkit x hx 42 _ rfl))) (eap_cons (ep_bl (K := K) (ev_isx (ep_var rfl he) ev_c (.own _) (hisx x hx) (hkit x hx 43 _ rfl))) eap_nil)))) (Nat.le_of_ble_eq_true rfl)) (Nat.le_of_ble_eq_true rfl)) (fun v11 H11 e11 w11 => ?_)
    have he := (kE _).mono e11 he
    have h_rows := w11
    refine q_asgQ (fun u => [some v, some u]) (fun _ => rfl) (ep_cat (ep_var rfl h_rows) (ep_lst (eap_cons (ep_bl (K := K) (ev_isx (ep_var rfl he) ev_c (.own _) (hisx x hx) (hkit x hx 44 _ rfl))) (eap_cons (ep_bl (K := K) (ev_isx (ep_var rfl he) ev_c (.own _) (hisx x hx) (hkit x hx 45 _ rfl))) (eap_cons (ep_bl (K := K) (ev_isx (ep_var rfl he) ev_c (.own _) (hisx x hx) (hkit x hx 46 _ rfl))) (eap_cons (ep_bl (K := K) (ev_isx (ep_var rfl he) ev_c (.own _) (hisx x hx) (hkit x hx 47 _ rfl))) eap_nil)))) (Nat.le_of_ble_eq_true rfl)) (Nat.le_of_ble_eq_true rfl)) (fun v12 H12 e12 w12 => ?_)
    have he := (kE _).mono e12 he
    have h_rows := w12
    refine q_asgQ (fun u => [some v, some u]) (fun _ => rfl) (ep_cat (ep_var rfl h_rows) (ep_lst (eap_cons (ep_bl (K := K) (ev_isx (ep_var rfl he) ev_c (.own _) (hisx x hx) (hkit x hx 48 _ rfl))) (eap_cons (ep_bl (K := K) (ev_isx (ep_var rfl he) ev_c (.own _) (hisx x hx) (hkit x hx 49 _ rfl))) (eap_cons (ep_bl (K := K) (ev_isx (ep_var rfl he) ev_c (.own _) (hisx x hx) (hkit x hx 50 _ rfl))) (eap_cons (ep_bl (K := K) (ev_isx (ep_var rfl he) ev_c (.own _) (hisx x hx) (hkit x hx 51 _ rfl))) eap_nil)))) (Nat.le_of_ble_eq_true rfl)) (Nat.le_of_ble_eq_true rfl)) (fun v13 H13 e13 w13 => ?_)
    have he := (kE _).mono e13 he
    have h_rows := w13
    refine q_asgQ (fun u => [some v, some u]) (fun _ => rfl) (ep_cat (ep_var rfl h_rows) (ep_lst (eap_cons (ep_bl (K := K) (ev_isx (ep_var rfl he) ev_c (.own _) (hisx x hx) (hkit x hx 52 _ rfl))) (eap_cons (ep_bl (K := K) (ev_isx (ep_var rfl he) ev_c (.own _) (hisx x hx) (hkit x hx 53 _ rfl))) (eap_cons (ep_bl (K := K) (ev_isx (ep_var rfl he) ev_c (.own _) (hisx x hx) (hkit x hx 54 _ rfl))) (eap_cons (ep_bl (K := K) (ev_isx (ep_var rfl he) ev_c (.own _) (hisx x hx) (hkit x hx 55 _ rfl))) eap_nil)))) (Nat.le_of_ble_eq_true rfl)) (Nat.le_of_ble_eq_true rfl)) (fun v14 H14 e14 w14 => ?_)
    have he := (kE _).mono e14 he
    have h_rows := w14
    refine q_asgQ (fun u => [some v, some u]) (fun _ => rfl) (ep_cat (ep_var rfl h_rows) (ep_lst (eap_cons (ep_bl (K := K) (ev_isx (ep_var rfl he) ev_c (.own _) (hisx x hx) (hkit x hx 56 _ rfl))) (eap_cons (ep_bl (K := K) (ev_isx (ep_var rfl he) ev_c (.own _) (hisx x hx) (hkit x hx 57 _ rfl))) (eap_cons (ep_bl (K := K) (ev_isx (ep_var rfl he) ev_c (.own _) (hisx x hx) (hkit x hx 58 _ rfl))) (eap_cons (ep_bl (K := K) (ev_isx (ep_var rfl he) ev_c (.own _) (hisx x hx) (hkit x hx 59 _ rfl))) eap_nil)))) (Nat.le_of_ble_eq_true rfl)) (Nat.le_of_ble_eq_true rfl)) (fun v15 H15 e15 w15 => ?_)
    have he := (kE _).mono e15 he
    have h_rows := w15
    refine s_retP (ep_lstD (K := K) (ds := ord.map fun y => .bool (decide (x = y))) (ep_cat (ep_var rfl h_rows) (ep_lst (eap_cons (ep_bl (K := K) (ev_isx (ep_var rfl he) ev_c (.own _) (hisx x hx) (hkit x hx 60 _ rfl))) (eap_cons (ep_bl (K := K) (ev_isx (ep_var rfl he) ev_c (.own _) (hisx x hx) (hkit x hx 61 _ rfl))) (eap_cons (ep_bl (K := K) (ev_isx (ep_var rfl he) ev_c (.own _) (hisx x hx) (hkit x hx 62 _ rfl))) eap_nil))) (Nat.le_of_ble_eq_true rfl)) (Nat.le_of_ble_eq_true rfl))) (fun u H99 e99 h99 => k u H99 (((((((((((((((e1.trans e2).trans e3).trans e4).trans e5).trans e6).trans e7).trans e8).trans e9).trans e10).trans e11).trans e12).trans e13).trans e14).trans e15).trans e99) h99)
end
end LW

set_option maxRecDepth 100000
set_option maxHeartbeats 4000000
namespace LW
open PySem PySem.Spec PyProof.Rows L2 Ve Evl

def spLaw (K : PySem.W.Frag) : Sp := fun vs H Q _ => ∃ (a : Addr) (ns : List Int), vs = [.ref a] ∧ SqL K H a (ns.map V.int) ∧ ns.length ≤ 63 ∧ ∀ H', Q (.bl true) H'
theorem ord_len : ord.length = 63 := by decide +kernel
theorem tab : ∀ i < 63, (ord.map fun y => decide (ord.getD i "" = y)) = (List.range 63).map fun k => decide (k = i) := by decide +kernel
theorem tabV (i : Nat) (hi : i < 63) : (ord.map fun y => PyData.bool (decide (ord.getD i "" = y))) = ((List.range 63).map fun k => decide (V.int ((k : Nat) : Int) = V.int ((i : Nat) : Int))).map PyData.bool := by
  have h := congrArg (List.map PyData.bool) (tab i hi)
  rw [List.map_map] at h
  refine Eq.trans h ?_
  rw [List.map_map, List.map_map]
  refine List.map_congr_left fun k _ => ?_
  show PyData.bool (decide (k = i)) = PyData.bool (decide (V.int (k : Int) = V.int (i : Int)))
  congr 1
  by_cases e : k = i
  · rw [e, decide_eq_true rfl, decide_eq_true rfl]
  · rw [decide_eq_false e, decide_eq_false (fun q => e (by injection q with q; omega))]
section
variable {P : Program} {w : World} {K : PySem.W.Frag} {mg : Str → Option Value} {base : Heap} {f : Addr} {fd : FuncData}
theorem ok_law (F : FnP K "law" "law" s_law f fd) (T : Txt1 K mg) (XA : XAll P w K mg base) (hisx : ∀ x ∈ ord, IsxC K (He.ga K x)) (hme : ∀ x ∈ ord, PySem.W.kitOne K (.ref (He.ga K x)) (.ref (He.ga K "MeterError")) = some true) (hve : ∀ x ∈ ord, PySem.W.kitOne K (.ref (He.ga K x)) (.type "ValueError") = some true)
    (c_law_hand : Cl P w K mg base CX0 1 "_law_hand" ["_law_script"] (spHand K)) (c_law_take : Cl P w K mg base CX0 2 "_law_take" ["_law_hand_here", "_law_many"] spTake) (c_law_several : Cl P w K mg base CX0 3 "_law_several" ["_law_a", "_law_b", "_law_c"] (spSeveral K)) (c_law_singles : Cl P w K mg base CX0 3 "_law_singles" ["_law_a"] (spSingles K))
    (c_law_classes : Cl P w K mg base CX0 1 "_law_classes" ["_law_e"] (spClasses K)) : FnOk P w K mg base CX0 4 f fd ["_law_script"] (spLaw K) := by
  refine F.ok sc_law (fun vs H Q E h => ?_) (fun cdv A outer s H vs Q E hr h => ?_)
  · obtain ⟨a, ns, rfl, _⟩ := h
    rfl
  · obtain ⟨s0, ns, rfl, hS, hlen, k⟩ := h
    refine ⟨_, PSs.nox (pss_cons (ps_set (i := 1) sc_law.nd rfl (Or.inl rfl) (pe_cl c_law_hand hr (by decide) (by rfl) (pa_cons (pv 0) pa_nil)))
  (pss_cons (ps_set (i := 2) sc_law.nd rfl (Or.inl rfl) (pe_op op_add (pe_op op_mul (pe_cl c_law_take hr (by decide) (by rfl) (pa_cons (pv 1) (pa_cons (pe_op op_pow pe_int pe_int) pa_nil))) (pe_op op_pow pe_int pe_int)) (pe_cl c_law_take hr (by decide) (by rfl) (pa_cons (pv 1) (pa_cons (pe_op op_pow pe_int pe_int) pa_nil)))))
  (pss_cons (ps_set (i := 3) sc_law.nd rfl (Or.inl rfl) (pe_op op_add (pe_op op_add (pv 2) pe_int) (pe_cl c_law_take hr (by decide) (by rfl) (pa_cons (pv 1) (pa_cons (pe_op op_pow pe_int pe_int) pa_nil)))))
  (pss_cons (ps_set (i := 4) sc_law.nd rfl (Or.inl rfl) (pe_cl c_law_several hr (by decide) (by rfl) (pa_cons (pv 2) (pa_cons (pv 3) (pa_cons (pe_op op_add (pe_op op_add (pv 3) pe_int) (pe_cl c_law_take hr (by decide) (by rfl) (pa_cons (pv 1) (pa_cons (pe_op op_pow pe_int pe_int) pa_nil)))) pa_nil)))))
  (pss_cons (ps_set (i := 5) sc_law.nd rfl (Or.inl rfl) (pe_cl c_law_singles hr (by decide) (by rfl) (pa_cons (pv 3) pa_nil)))
  (pss_cons (ps_if (PW.pt (pw_or (pt_not (pt_val (pe_ix ix_list (pv 4) pe_int (fun _ _ => rfl)))) (pw_or1 (pt_not (pt_val (pe_ix ix_list (pv 5) pe_int (fun _ _ => rfl))))))) (pss_one (ps_ret pe_bl)) pss_nil)
  (pss_cons (ps_set (i := 6) sc_law.nd rfl (Or.inl rfl) (pe_op op_cat (pe_op op_cat (pe_ix ix_list (pv 4) pe_int (fun _ _ => rfl)) (pe_ix ix_list (pv 5) pe_int (fun _ _ => rfl))) (pe_lst (pa_cons (pe_exz XA.z_BadFactor (by rfl)) (pa_cons (pe_exz XA.z_BadMoves (by rfl)) (pa_cons (pe_exz XA.z_BadMove (by rfl)) (pa_cons (pe_exz XA.z_NoRoom (by rfl)) (pa_cons (pe_exz XA.z_NothingSeen (by rfl)) (pa_cons (pe_exz XA.z_BadGoal (by rfl)) (pa_cons (pe_exz XA.z_NothingDone (by rfl)) pa_nil))))))))))
  (pss_cons (ps_for PassesOwn.never rfl (pi_range1 rfl T.b_range (pa_cons (pe_callB call_lenL (by rfl) T.b_len (by decide +kernel) (pa_cons (pv 6) pa_nil)) pa_nil)) (pg_name (i := 7) sc_law.nd rfl (Or.inr rfl))
  (pss_cons (ps_if (PW.pt (pw_or (pt_not (pt_val (pe_callB call_isx (by rfl) T.b_isinstance (by decide +kernel) (pa_cons (pe_ix ix_list (pv 6) (pv 7) (fun _ _ => rfl)) (pa_cons (pe_glob (v := V.ref (He.ga K "MeterError")) (by rfl) T.g_MeterError rfl) pa_nil))))) (pw_or1 (pt_not (pt_val (pe_callB call_isx (by rfl) T.b_isinstance (by decide +kernel) (pa_cons (pe_ix ix_list (pv 6) (pv 7) (fun _ _ => rfl)) (pa_cons (pe_bltn (v := V.ty "ValueError") (by rfl) T.b_ValueError (by decide +kernel) rfl) pa_nil)))))))) (pss_one (ps_ret pe_bl)) pss_nil)
  (pss_one (ps_if (pt_cmpR (op_neD hr.units) (pe_cl c_law_classes hr (by decide) (by rfl) (pa_cons (pe_ix ix_list (pv 6) (pv 7) (fun _ _ => rfl)) pa_nil)) (pe_lc (own := [("_law_other", 8)]) (g := gName 8)  rfl sc_law.nd (pi_range1 rfl T.b_range (pa_cons (pe_callB call_lenL (by rfl) T.b_len (by decide +kernel) (pa_cons (pv 6) pa_nil)) pa_nil)) (blkOk_by (own := [("_law_other", 8)]) (N := ["_law_script", "_law_hand_here", "_law_a", "_law_b", "_law_several_here", "_law_singles_here", "_law_found", "_law_at", "_law_other"]) (sc := defScope s_law) (by decide +kernel)) (fun _ _ _ _ _ => pg_name (i := 8) sc_law.nd rfl (Or.inl rfl)) (fun _ _ _ _ _ => pts_nil) (fun _ _ _ _ _ => (pe_cmpR op_eq (pv 8) (pv 7) (nomark _)))) (nomark _)) (pss_one (ps_ret pe_bl)) pss_nil))))
  (pss_one (ps_ret pe_bl)))))))))), ?_⟩
    refine ⟨_, rfl, s0, ns, rfl, hS, hlen, fun p H1 hp1 e1 hh => ?_⟩
    -- a
    refine ⟨_, rfl, _, _, rfl, rfl, ⟨by decide, by decide, by decide⟩, p, _, rfl, by decide, by decide, hh, fun r1 H2 a1 a2 hh b2 => ?_⟩
    have a2' : r1 < 1000000000 := a2
    refine ⟨_, _, rfl, rfl, ⟨by decide, by decide, by decide⟩, _, _, rfl, rfl, .inl ⟨by omega, by omega⟩, _, rfl, _, _, rfl, rfl, ⟨by decide, by decide, by decide⟩, p, _, rfl, by decide, by decide, hh, fun r2 H3 _ _ hh b3 => ?_⟩
    refine ⟨_, _, rfl, rfl, ?_⟩
    -- b
    refine ⟨_, rfl, _, _, rfl, rfl, _, rfl, _, _, rfl, rfl, ⟨by decide, by decide, by decide⟩, p, _, rfl, by decide, by decide, hh, fun r3 H4 _ _ hh b4 => ?_⟩
    refine ⟨_, _, rfl, rfl, ?_⟩
    -- several
    refine ⟨_, rfl, _, rfl, _, rfl, _, _, rfl, rfl, _, rfl, _, _, rfl, rfl, ⟨by decide, by decide, by decide⟩, p, _, rfl, by decide, by decide, hh, fun r4 H5 _ _ hh b5 => ?_⟩
    refine ⟨_, _, rfl, rfl, _, _, _, rfl, fun vs H6 e6 hs => ?_⟩
    -- singles
    refine ⟨_, rfl, _, rfl, fun vg H7 e7 hg => ?_⟩
    have hs := (kL _).mono e7 hs
    refine q_when (b := false) (et_is (et_or (et_not (et_B (ev_of (ep_ixL (j := 1) (ep_var rfl hs) ev_c rfl)))) (fun _ => et_not (et_B (ev_of (ep_ixL (j := 1) (ep_var rfl hg) ev_c rfl))))) rfl) (fun z => nomatch z) (fun _ H8 e8 => ?_)
    have hs := (kL _).mono e8 hs
    have hg := (kL _).mono e8 hg
    refine q_asgP (κ := kL (ord.map fun x => kE (He.ga K x))) (ep_cat (ep_cat (ep_ixL (j := 0) (ep_var rfl hs) ev_c rfl) (ep_ixL (j := 0) (ep_var rfl hg) ev_c rfl) (Nat.le_of_ble_eq_true rfl)) (ep_lst (eap_cons ep_exz (eap_cons ep_exz (eap_cons ep_exz (eap_cons ep_exz (eap_cons ep_exz (eap_cons ep_exz (eap_cons ep_exz eap_nil))))))) (Nat.le_of_ble_eq_true rfl)) (Nat.le_of_ble_eq_true rfl)) (fun vf H9 e9 hf => ?_)
    -- the loop
    have ln : (ord.map fun x => kE (He.ga K x)).length = 63 := by rw [List.length_map, ord_len]
    refine q_forR1 (ea_cons (ev_lenL (ep_var rfl hf)) ea_nil) ⟨by rw [ln]; decide, by rw [ln]; decide⟩ (fun _ σ' H' => ∃ u w, σ' = [some (.ref s0), some (.ref p), _, _, some vs, some vg, some vf, u, w] ∧ Ex H9 H') (fun H10 e10 => ⟨none, none, rfl, e10⟩) ?_ (fun σ' H' _ => k H')
    rintro i σ' H' hi ⟨u, w, rfl, e10⟩
    rw [ln] at hi
    have hi : i < 63 := by omega
    have hf := (kL _).mono e10 hf
    have hx : ord[i]? = some (ord.getD i "") := by
      have hl : i < ord.length := by rw [ord_len]; exact hi
      rw [List.getD_eq_getElem?_getD, List.getElem?_eq_getElem hl]
      rfl
    have hm : ord.getD i "" ∈ ord := List.mem_of_getElem? hx
    have hk : (ord.map fun x => kE (He.ga K x))[i]? = some (kE (He.ga K (ord.getD i ""))) := by
      rw [List.getElem?_map, hx]
      rfl
    refine q_when (b := false) (et_is (et_or (et_not (et_B (ev_isx (ep_ixL (j := i) (ep_var rfl hf) (ev_var rfl) hk) ev_c (.own _) (hisx _ hm) (hme _ hm)))) (fun _ => et_not (et_B (ev_isx (ep_ixL (j := i) (ep_var rfl hf) (ev_var rfl) hk) ev_c (.ty _) (hisx _ hm) (hve _ hm))))) rfl) (fun z => nomatch z) (fun _ H11 e11 => ?_)
    have hf := (kL _).mono e11 hf
    refine s_when (b := false) (et_test (ev_nsameD (K := K) (d := .list (ord.map fun y => .bool (decide (ord.getD i "" = y)))) (e := .list (((List.range 63).map fun k => decide (V.int ((k : Nat) : Int) = V.int ((i : Nat) : Int))).map PyData.bool))
      (ep_call (eap_cons (ep_ixL (j := i) (ep_var rfl hf) (ev_var rfl) hk) eap_nil) ?_)
      (ep_lstD (K := K) ((ep_ofL (el_lcR1 (fun _ => true) (fun k => V.bl (decide (V.int ((k : Nat) : Int) = V.int ((i : Nat) : Int)))) (ea_cons (ev_lenL (ep_var rfl hf)) ea_nil) ⟨by rw [ln]; decide, by rw [ln]; decide⟩ (fun _ => rfl) (fun k H1 _ _ H2 _ Q q => q H2 (Ex.refl H2)) (fun k H1 e1 _ _ => ev_op (ev_var rfl) (ev_var rfl) (rv_eq rfl)))).is (kL_map ?_)))
      (congrArg PyData.list (tabV i hi)) (shp_list (n := 0) (fun d hd => ?_) (by decide)))) (fun z => nomatch z) (fun _ H12 e12 => ⟨_, _, rfl, (e10.trans e11).trans e12⟩)
    · intro vs1 H1 hv Q q
      match vs1, hv with
      | [v1], ⟨hv, _⟩ => exact ⟨v1, _, rfl, hm, hv, fun u H' e' hu => q u H' e' hu⟩
    · intro H1 vs1 h
      rw [ln] at h
      have e : given (((63 : Nat) : Int)).toNat (fun _ => true) (fun k => V.bl (decide (V.int ((k : Nat) : Int) = V.int ((i : Nat) : Int)))) = ((List.range 63).map fun k => decide (V.int ((k : Nat) : Int) = V.int ((i : Nat) : Int))).map V.bl := by
        unfold given
        rw [List.map_map, Int.toNat_natCast, List.filter_eq_self.mpr (fun _ _ => rfl)]
        rfl
      rw [e] at h
      exact kV_bools H1 vs1 h
    · obtain ⟨y, _, rfl⟩ := List.mem_map.mp hd
      exact shp_bool _
end
end LW

set_option maxRecDepth 100000
set_option maxHeartbeats 0
namespace LW
open PySem PySem.Spec PyProof.Rows L2 Ve Evl

section
variable {P : Program} {w : World} {K : PySem.W.Frag} {mg : Str → Option Value} {base : Heap}
theorem exk_of {x : Str} {fs ps : List Str} {fd : FuncData} (h : xB K (x, fs) = true) (g : mg x = some (.ref (He.ga K x))) (ok : OexC K (He.ga K x) → (∀ f ∈ fs, PySem.W.findIn K (.ref (He.ga K x)) f = some none) → FnOk P w K mg base CX0 1 (He.ma K (He.ga K x) "__init__") fd ps (spX (He.ga K x) fs)) (b : Binds K fd ps []) : Exk P w K mg base x fs := by
  obtain ⟨h1, h⟩ := He.ba h
  obtain ⟨h2, h⟩ := He.ba h
  obtain ⟨h3, h⟩ := He.ba h
  obtain ⟨h4, h⟩ := He.ba h
  obtain ⟨h5, h6⟩ := He.ba h
  have no : ∀ f ∈ fs, PySem.W.findIn K (.ref (He.ga K x)) f = some none := fun f hf => of_decide_eq_true (List.all_eq_true.mp h6 f hf)
  exact ⟨oexB_ok h1, xfB_ok h2, isxB_ok h3, no, g, _, fd, ps, of_decide_eq_true h4, of_decide_eq_true h5, ok (oexB_ok h1) no, b⟩
theorem exz_of {x : Str} (h : zB K x = true) (g : mg x = some (.ref (He.ga K x))) : Exz K mg x := by
  obtain ⟨h1, h⟩ := He.ba h
  obtain ⟨h2, h3⟩ := He.ba h
  exact ⟨h1, h2, isxB_ok h3, g⟩
theorem isx_all (q1 : f1 K = true) (q2 : f2 K = true) : ∀ x ∈ ord, IsxC K (He.ga K x) := by
  have key : ord.all (fun x => (cfs.map (·.1)).contains x || ord3.contains x) = true := by decide +kernel
  intro x hx
  have z := List.all_eq_true.mp key x hx
  rcases Bool.or_eq_true_iff.mp z with z | z
  · obtain ⟨q, hq, rfl⟩ := List.mem_map.mp (List.contains_iff_mem.mp z)
    have h := List.all_eq_true.mp q1 q hq
    obtain ⟨_, h⟩ := He.ba h
    obtain ⟨_, h⟩ := He.ba h
    obtain ⟨h3, _⟩ := He.ba h
    exact isxB_ok h3
  · have h := List.all_eq_true.mp q2 x (List.contains_iff_mem.mp z)
    obtain ⟨_, h⟩ := He.ba h
    obtain ⟨_, h3⟩ := He.ba h
    exact isxB_ok h3
theorem xall (c : SaysF fa fn K) (gl : ∀ x ∈ globs, mg x = some (.ref (He.ga K x))) : XAll P w K mg base := by
  have q1 : ∀ q ∈ cfs, xB K q = true := List.all_eq_true.mp (c.fact 1 (f := f1) rfl)
  have q2 : ∀ x ∈ ord3, zB K x = true := List.all_eq_true.mp (c.fact 2 (f := f2) rfl)
  obtain ⟨fd0, F0⟩ := c.def_ 7 (d := d_BadChart___init) rfl
  obtain ⟨fd1, F1⟩ := c.def_ 8 (d := d_BadPlace___init) rfl
  obtain ⟨fd2, F2⟩ := c.def_ 9 (d := d_BadArrow___init) rfl
  obtain ⟨fd3, F3⟩ := c.def_ 10 (d := d_BadRun___init) rfl
  obtain ⟨fd4, F4⟩ := c.def_ 11 (d := d_BadLength___init) rfl
  obtain ⟨fd5, F5⟩ := c.def_ 12 (d := d_BadRing___init) rfl
  obtain ⟨fd6, F6⟩ := c.def_ 13 (d := d_BadText___init) rfl
  obtain ⟨fd7, F7⟩ := c.def_ 14 (d := d_BadMeter___init) rfl
  obtain ⟨fd8, F8⟩ := c.def_ 15 (d := d_Unlike___init) rfl
  obtain ⟨fd9, F9⟩ := c.def_ 16 (d := d_Drifting___init) rfl
  obtain ⟨fd10, F10⟩ := c.def_ 17 (d := d_BadDemands___init) rfl
  obtain ⟨fd11, F11⟩ := c.def_ 18 (d := d_BadHighs___init) rfl
  obtain ⟨fd12, F12⟩ := c.def_ 19 (d := d_BadLot___init) rfl
  obtain ⟨fd13, F13⟩ := c.def_ 20 (d := d_BadLeads___init) rfl
  obtain ⟨fd14, F14⟩ := c.def_ 21 (d := d_BadLows___init) rfl
  obtain ⟨fd15, F15⟩ := c.def_ 22 (d := d_NotEven___init) rfl
  obtain ⟨fd16, F16⟩ := c.def_ 23 (d := d_BadMost___init) rfl
  obtain ⟨fd17, F17⟩ := c.def_ 24 (d := d_TooTight___init) rfl
  obtain ⟨fd18, F18⟩ := c.def_ 25 (d := d_TooMany___init) rfl
  obtain ⟨fd19, F19⟩ := c.def_ 26 (d := d_BadWeights___init) rfl
  obtain ⟨fd20, F20⟩ := c.def_ 27 (d := d_BadPlaces___init) rfl
  obtain ⟨fd21, F21⟩ := c.def_ 28 (d := d_BadLimit___init) rfl
  obtain ⟨fd22, F22⟩ := c.def_ 29 (d := d_NotMetered___init) rfl
  obtain ⟨fd23, F23⟩ := c.def_ 30 (d := d_BadGates___init) rfl
  obtain ⟨fd24, F24⟩ := c.def_ 31 (d := d_BadStep___init) rfl
  obtain ⟨fd25, F25⟩ := c.def_ 32 (d := d_BadWorks___init) rfl
  obtain ⟨fd26, F26⟩ := c.def_ 33 (d := d_BadPoint___init) rfl
  obtain ⟨fd27, F27⟩ := c.def_ 34 (d := d_BadSteps___init) rfl
  obtain ⟨fd28, F28⟩ := c.def_ 35 (d := d_BadProcedure___init) rfl
  obtain ⟨fd29, F29⟩ := c.def_ 36 (d := d_BadWorkMeter___init) rfl
  obtain ⟨fd30, F30⟩ := c.def_ 37 (d := d_BadWorkLeads___init) rfl
  obtain ⟨fd31, F31⟩ := c.def_ 38 (d := d_NotEvenWorks___init) rfl
  obtain ⟨fd32, F32⟩ := c.def_ 39 (d := d_BadWorkGates___init) rfl
  obtain ⟨fd33, F33⟩ := c.def_ 40 (d := d_BadWorkLot___init) rfl
  obtain ⟨fd34, F34⟩ := c.def_ 41 (d := d_RingOfCalls___init) rfl
  obtain ⟨fd35, F35⟩ := c.def_ 42 (d := d_BadKinds___init) rfl
  obtain ⟨fd36, F36⟩ := c.def_ 43 (d := d_NoKind___init) rfl
  obtain ⟨fd37, F37⟩ := c.def_ 44 (d := d_BadPrices___init) rfl
  obtain ⟨fd38, F38⟩ := c.def_ 45 (d := d_BadKindMeter___init) rfl
  obtain ⟨fd39, F39⟩ := c.def_ 46 (d := d_BadRows___init) rfl
  obtain ⟨fd40, F40⟩ := c.def_ 47 (d := d_NotTwo___init) rfl
  obtain ⟨fd41, F41⟩ := c.def_ 48 (d := d_CantMove___init) rfl
  obtain ⟨fd42, F42⟩ := c.def_ 49 (d := d_Parted___init) rfl
  obtain ⟨fd43, F43⟩ := c.def_ 50 (d := d_BadCopy___init) rfl
  obtain ⟨fd44, F44⟩ := c.def_ 51 (d := d_BadLanes___init) rfl
  obtain ⟨fd45, F45⟩ := c.def_ 52 (d := d_NoLane___init) rfl
  obtain ⟨fd46, F46⟩ := c.def_ 53 (d := d_NotRunning___init) rfl
  obtain ⟨fd47, F47⟩ := c.def_ 54 (d := d_NotHere___init) rfl
  obtain ⟨fd48, F48⟩ := c.def_ 55 (d := d_Refused___init) rfl
  obtain ⟨fd49, F49⟩ := c.def_ 56 (d := d_BadDeeds___init) rfl
  obtain ⟨fd50, F50⟩ := c.def_ 57 (d := d_BadLaneRuns___init) rfl
  obtain ⟨fd51, F51⟩ := c.def_ 58 (d := d_BadLog___init) rfl
  obtain ⟨fd52, F52⟩ := c.def_ 59 (d := d_Misfit___init) rfl
  obtain ⟨fd53, F53⟩ := c.def_ 60 (d := d_NotThere___init) rfl
  obtain ⟨fd54, F54⟩ := c.def_ 61 (d := d_BadEdit___init) rfl
  obtain ⟨fd55, F55⟩ := c.def_ 62 (d := d_BadPool___init) rfl
  exact {
    x_BadChart := exk_of (q1 _ (List.mem_of_getElem? (i := 0) rfl)) (gl _ (List.mem_of_getElem? (i := 8) rfl)) (fun O no => ok_i_BadChart F0 O no) (FunD.bindsN F0 fun _ _ _ _ _ _ us hl => match us, hl with | [_, _, _], _ => rfl)
    x_BadPlace := exk_of (q1 _ (List.mem_of_getElem? (i := 1) rfl)) (gl _ (List.mem_of_getElem? (i := 9) rfl)) (fun O no => ok_i_BadPlace F1 O no) (FunD.bindsN F1 fun _ _ _ _ _ _ us hl => match us, hl with | [_, _], _ => rfl)
    x_BadArrow := exk_of (q1 _ (List.mem_of_getElem? (i := 2) rfl)) (gl _ (List.mem_of_getElem? (i := 10) rfl)) (fun O no => ok_i_BadArrow F2 O no) (FunD.bindsN F2 fun _ _ _ _ _ _ us hl => match us, hl with | [_, _], _ => rfl)
    x_BadRun := exk_of (q1 _ (List.mem_of_getElem? (i := 3) rfl)) (gl _ (List.mem_of_getElem? (i := 11) rfl)) (fun O no => ok_i_BadRun F3 O no) (FunD.bindsN F3 fun _ _ _ _ _ _ us hl => match us, hl with | [_, _], _ => rfl)
    x_BadLength := exk_of (q1 _ (List.mem_of_getElem? (i := 4) rfl)) (gl _ (List.mem_of_getElem? (i := 12) rfl)) (fun O no => ok_i_BadLength F4 O no) (FunD.bindsN F4 fun _ _ _ _ _ _ us hl => match us, hl with | [_, _], _ => rfl)
    x_BadRing := exk_of (q1 _ (List.mem_of_getElem? (i := 5) rfl)) (gl _ (List.mem_of_getElem? (i := 13) rfl)) (fun O no => ok_i_BadRing F5 O no) (FunD.bindsN F5 fun _ _ _ _ _ _ us hl => match us, hl with | [_, _], _ => rfl)
    x_BadText := exk_of (q1 _ (List.mem_of_getElem? (i := 6) rfl)) (gl _ (List.mem_of_getElem? (i := 14) rfl)) (fun O no => ok_i_BadText F6 O no) (FunD.bindsN F6 fun _ _ _ _ _ _ us hl => match us, hl with | [_, _], _ => rfl)
    x_BadMeter := exk_of (q1 _ (List.mem_of_getElem? (i := 7) rfl)) (gl _ (List.mem_of_getElem? (i := 15) rfl)) (fun O no => ok_i_BadMeter F7 O no) (FunD.bindsN F7 fun _ _ _ _ _ _ us hl => match us, hl with | [_, _, _], _ => rfl)
    x_Unlike := exk_of (q1 _ (List.mem_of_getElem? (i := 8) rfl)) (gl _ (List.mem_of_getElem? (i := 16) rfl)) (fun O no => ok_i_Unlike F8 O no) (FunD.bindsN F8 fun _ _ _ _ _ _ us hl => match us, hl with | [_, _], _ => rfl)
    x_Drifting := exk_of (q1 _ (List.mem_of_getElem? (i := 9) rfl)) (gl _ (List.mem_of_getElem? (i := 17) rfl)) (fun O no => ok_i_Drifting F9 O no) (FunD.bindsN F9 fun _ _ _ _ _ _ us hl => match us, hl with | [_, _, _], _ => rfl)
    x_BadDemands := exk_of (q1 _ (List.mem_of_getElem? (i := 10) rfl)) (gl _ (List.mem_of_getElem? (i := 18) rfl)) (fun O no => ok_i_BadDemands F10 O no) (FunD.bindsN F10 fun _ _ _ _ _ _ us hl => match us, hl with | [_, _, _], _ => rfl)
    x_BadHighs := exk_of (q1 _ (List.mem_of_getElem? (i := 11) rfl)) (gl _ (List.mem_of_getElem? (i := 19) rfl)) (fun O no => ok_i_BadHighs F11 O no) (FunD.bindsN F11 fun _ _ _ _ _ _ us hl => match us, hl with | [_, _], _ => rfl)
    x_BadLot := exk_of (q1 _ (List.mem_of_getElem? (i := 12) rfl)) (gl _ (List.mem_of_getElem? (i := 20) rfl)) (fun O no => ok_i_BadLot F12 O no) (FunD.bindsN F12 fun _ _ _ _ _ _ us hl => match us, hl with | [_, _], _ => rfl)
    x_BadLeads := exk_of (q1 _ (List.mem_of_getElem? (i := 13) rfl)) (gl _ (List.mem_of_getElem? (i := 21) rfl)) (fun O no => ok_i_BadLeads F13 O no) (FunD.bindsN F13 fun _ _ _ _ _ _ us hl => match us, hl with | [_, _], _ => rfl)
    x_BadLows := exk_of (q1 _ (List.mem_of_getElem? (i := 14) rfl)) (gl _ (List.mem_of_getElem? (i := 22) rfl)) (fun O no => ok_i_BadLows F14 O no) (FunD.bindsN F14 fun _ _ _ _ _ _ us hl => match us, hl with | [_, _], _ => rfl)
    x_NotEven := exk_of (q1 _ (List.mem_of_getElem? (i := 15) rfl)) (gl _ (List.mem_of_getElem? (i := 23) rfl)) (fun O no => ok_i_NotEven F15 O no) (FunD.bindsN F15 fun _ _ _ _ _ _ us hl => match us, hl with | [_, _], _ => rfl)
    x_BadMost := exk_of (q1 _ (List.mem_of_getElem? (i := 16) rfl)) (gl _ (List.mem_of_getElem? (i := 24) rfl)) (fun O no => ok_i_BadMost F16 O no) (FunD.bindsN F16 fun _ _ _ _ _ _ us hl => match us, hl with | [_, _], _ => rfl)
    x_TooTight := exk_of (q1 _ (List.mem_of_getElem? (i := 17) rfl)) (gl _ (List.mem_of_getElem? (i := 25) rfl)) (fun O no => ok_i_TooTight F17 O no) (FunD.bindsN F17 fun _ _ _ _ _ _ us hl => match us, hl with | [_, _], _ => rfl)
    x_TooMany := exk_of (q1 _ (List.mem_of_getElem? (i := 18) rfl)) (gl _ (List.mem_of_getElem? (i := 26) rfl)) (fun O no => ok_i_TooMany F18 O no) (FunD.bindsN F18 fun _ _ _ _ _ _ us hl => match us, hl with | [_, _], _ => rfl)
    x_BadWeights := exk_of (q1 _ (List.mem_of_getElem? (i := 19) rfl)) (gl _ (List.mem_of_getElem? (i := 27) rfl)) (fun O no => ok_i_BadWeights F19 O no) (FunD.bindsN F19 fun _ _ _ _ _ _ us hl => match us, hl with | [_, _], _ => rfl)
    x_BadPlaces := exk_of (q1 _ (List.mem_of_getElem? (i := 20) rfl)) (gl _ (List.mem_of_getElem? (i := 28) rfl)) (fun O no => ok_i_BadPlaces F20 O no) (FunD.bindsN F20 fun _ _ _ _ _ _ us hl => match us, hl with | [_, _], _ => rfl)
    x_BadLimit := exk_of (q1 _ (List.mem_of_getElem? (i := 21) rfl)) (gl _ (List.mem_of_getElem? (i := 29) rfl)) (fun O no => ok_i_BadLimit F21 O no) (FunD.bindsN F21 fun _ _ _ _ _ _ us hl => match us, hl with | [_, _], _ => rfl)
    x_NotMetered := exk_of (q1 _ (List.mem_of_getElem? (i := 22) rfl)) (gl _ (List.mem_of_getElem? (i := 30) rfl)) (fun O no => ok_i_NotMetered F22 O no) (FunD.bindsN F22 fun _ _ _ _ _ _ us hl => match us, hl with | [_, _], _ => rfl)
    x_BadGates := exk_of (q1 _ (List.mem_of_getElem? (i := 23) rfl)) (gl _ (List.mem_of_getElem? (i := 31) rfl)) (fun O no => ok_i_BadGates F23 O no) (FunD.bindsN F23 fun _ _ _ _ _ _ us hl => match us, hl with | [_, _], _ => rfl)
    x_BadStep := exk_of (q1 _ (List.mem_of_getElem? (i := 24) rfl)) (gl _ (List.mem_of_getElem? (i := 32) rfl)) (fun O no => ok_i_BadStep F24 O no) (FunD.bindsN F24 fun _ _ _ _ _ _ us hl => match us, hl with | [_, _], _ => rfl)
    x_BadWorks := exk_of (q1 _ (List.mem_of_getElem? (i := 25) rfl)) (gl _ (List.mem_of_getElem? (i := 33) rfl)) (fun O no => ok_i_BadWorks F25 O no) (FunD.bindsN F25 fun _ _ _ _ _ _ us hl => match us, hl with | [_, _, _, _], _ => rfl)
    x_BadPoint := exk_of (q1 _ (List.mem_of_getElem? (i := 26) rfl)) (gl _ (List.mem_of_getElem? (i := 34) rfl)) (fun O no => ok_i_BadPoint F26 O no) (FunD.bindsN F26 fun _ _ _ _ _ _ us hl => match us, hl with | [_, _], _ => rfl)
    x_BadSteps := exk_of (q1 _ (List.mem_of_getElem? (i := 27) rfl)) (gl _ (List.mem_of_getElem? (i := 35) rfl)) (fun O no => ok_i_BadSteps F27 O no) (FunD.bindsN F27 fun _ _ _ _ _ _ us hl => match us, hl with | [_, _], _ => rfl)
    x_BadProcedure := exk_of (q1 _ (List.mem_of_getElem? (i := 28) rfl)) (gl _ (List.mem_of_getElem? (i := 36) rfl)) (fun O no => ok_i_BadProcedure F28 O no) (FunD.bindsN F28 fun _ _ _ _ _ _ us hl => match us, hl with | [_, _], _ => rfl)
    x_BadWorkMeter := exk_of (q1 _ (List.mem_of_getElem? (i := 29) rfl)) (gl _ (List.mem_of_getElem? (i := 37) rfl)) (fun O no => ok_i_BadWorkMeter F29 O no) (FunD.bindsN F29 fun _ _ _ _ _ _ us hl => match us, hl with | [_, _, _, _], _ => rfl)
    x_BadWorkLeads := exk_of (q1 _ (List.mem_of_getElem? (i := 30) rfl)) (gl _ (List.mem_of_getElem? (i := 38) rfl)) (fun O no => ok_i_BadWorkLeads F30 O no) (FunD.bindsN F30 fun _ _ _ _ _ _ us hl => match us, hl with | [_, _, _], _ => rfl)
    x_NotEvenWorks := exk_of (q1 _ (List.mem_of_getElem? (i := 31) rfl)) (gl _ (List.mem_of_getElem? (i := 39) rfl)) (fun O no => ok_i_NotEvenWorks F31 O no) (FunD.bindsN F31 fun _ _ _ _ _ _ us hl => match us, hl with | [_, _], _ => rfl)
    x_BadWorkGates := exk_of (q1 _ (List.mem_of_getElem? (i := 32) rfl)) (gl _ (List.mem_of_getElem? (i := 40) rfl)) (fun O no => ok_i_BadWorkGates F32 O no) (FunD.bindsN F32 fun _ _ _ _ _ _ us hl => match us, hl with | [_, _, _], _ => rfl)
    x_BadWorkLot := exk_of (q1 _ (List.mem_of_getElem? (i := 33) rfl)) (gl _ (List.mem_of_getElem? (i := 41) rfl)) (fun O no => ok_i_BadWorkLot F33 O no) (FunD.bindsN F33 fun _ _ _ _ _ _ us hl => match us, hl with | [_, _], _ => rfl)
    x_RingOfCalls := exk_of (q1 _ (List.mem_of_getElem? (i := 34) rfl)) (gl _ (List.mem_of_getElem? (i := 42) rfl)) (fun O no => ok_i_RingOfCalls F34 O no) (FunD.bindsN F34 fun _ _ _ _ _ _ us hl => match us, hl with | [_, _], _ => rfl)
    x_BadKinds := exk_of (q1 _ (List.mem_of_getElem? (i := 35) rfl)) (gl _ (List.mem_of_getElem? (i := 43) rfl)) (fun O no => ok_i_BadKinds F35 O no) (FunD.bindsN F35 fun _ _ _ _ _ _ us hl => match us, hl with | [_, _, _], _ => rfl)
    x_NoKind := exk_of (q1 _ (List.mem_of_getElem? (i := 36) rfl)) (gl _ (List.mem_of_getElem? (i := 44) rfl)) (fun O no => ok_i_NoKind F36 O no) (FunD.bindsN F36 fun _ _ _ _ _ _ us hl => match us, hl with | [_, _], _ => rfl)
    x_BadPrices := exk_of (q1 _ (List.mem_of_getElem? (i := 37) rfl)) (gl _ (List.mem_of_getElem? (i := 45) rfl)) (fun O no => ok_i_BadPrices F37 O no) (FunD.bindsN F37 fun _ _ _ _ _ _ us hl => match us, hl with | [_, _], _ => rfl)
    x_BadKindMeter := exk_of (q1 _ (List.mem_of_getElem? (i := 38) rfl)) (gl _ (List.mem_of_getElem? (i := 46) rfl)) (fun O no => ok_i_BadKindMeter F38 O no) (FunD.bindsN F38 fun _ _ _ _ _ _ us hl => match us, hl with | [_, _], _ => rfl)
    x_BadRows := exk_of (q1 _ (List.mem_of_getElem? (i := 39) rfl)) (gl _ (List.mem_of_getElem? (i := 47) rfl)) (fun O no => ok_i_BadRows F39 O no) (FunD.bindsN F39 fun _ _ _ _ _ _ us hl => match us, hl with | [_, _], _ => rfl)
    x_NotTwo := exk_of (q1 _ (List.mem_of_getElem? (i := 40) rfl)) (gl _ (List.mem_of_getElem? (i := 48) rfl)) (fun O no => ok_i_NotTwo F40 O no) (FunD.bindsN F40 fun _ _ _ _ _ _ us hl => match us, hl with | [_, _], _ => rfl)
    x_CantMove := exk_of (q1 _ (List.mem_of_getElem? (i := 41) rfl)) (gl _ (List.mem_of_getElem? (i := 49) rfl)) (fun O no => ok_i_CantMove F41 O no) (FunD.bindsN F41 fun _ _ _ _ _ _ us hl => match us, hl with | [_, _], _ => rfl)
    x_Parted := exk_of (q1 _ (List.mem_of_getElem? (i := 42) rfl)) (gl _ (List.mem_of_getElem? (i := 50) rfl)) (fun O no => ok_i_Parted F42 O no) (FunD.bindsN F42 fun _ _ _ _ _ _ us hl => match us, hl with | [_, _], _ => rfl)
    x_BadCopy := exk_of (q1 _ (List.mem_of_getElem? (i := 43) rfl)) (gl _ (List.mem_of_getElem? (i := 51) rfl)) (fun O no => ok_i_BadCopy F43 O no) (FunD.bindsN F43 fun _ _ _ _ _ _ us hl => match us, hl with | [_, _, _], _ => rfl)
    x_BadLanes := exk_of (q1 _ (List.mem_of_getElem? (i := 44) rfl)) (gl _ (List.mem_of_getElem? (i := 52) rfl)) (fun O no => ok_i_BadLanes F44 O no) (FunD.bindsN F44 fun _ _ _ _ _ _ us hl => match us, hl with | [_, _, _], _ => rfl)
    x_NoLane := exk_of (q1 _ (List.mem_of_getElem? (i := 45) rfl)) (gl _ (List.mem_of_getElem? (i := 53) rfl)) (fun O no => ok_i_NoLane F45 O no) (FunD.bindsN F45 fun _ _ _ _ _ _ us hl => match us, hl with | [_, _], _ => rfl)
    x_NotRunning := exk_of (q1 _ (List.mem_of_getElem? (i := 46) rfl)) (gl _ (List.mem_of_getElem? (i := 54) rfl)) (fun O no => ok_i_NotRunning F46 O no) (FunD.bindsN F46 fun _ _ _ _ _ _ us hl => match us, hl with | [_, _, _], _ => rfl)
    x_NotHere := exk_of (q1 _ (List.mem_of_getElem? (i := 47) rfl)) (gl _ (List.mem_of_getElem? (i := 55) rfl)) (fun O no => ok_i_NotHere F47 O no) (FunD.bindsN F47 fun _ _ _ _ _ _ us hl => match us, hl with | [_, _], _ => rfl)
    x_Refused := exk_of (q1 _ (List.mem_of_getElem? (i := 48) rfl)) (gl _ (List.mem_of_getElem? (i := 56) rfl)) (fun O no => ok_i_Refused F48 O no) (FunD.bindsN F48 fun _ _ _ _ _ _ us hl => match us, hl with | [_, _, _, _], _ => rfl)
    x_BadDeeds := exk_of (q1 _ (List.mem_of_getElem? (i := 49) rfl)) (gl _ (List.mem_of_getElem? (i := 57) rfl)) (fun O no => ok_i_BadDeeds F49 O no) (FunD.bindsN F49 fun _ _ _ _ _ _ us hl => match us, hl with | [_, _], _ => rfl)
    x_BadLaneRuns := exk_of (q1 _ (List.mem_of_getElem? (i := 50) rfl)) (gl _ (List.mem_of_getElem? (i := 58) rfl)) (fun O no => ok_i_BadLaneRuns F50 O no) (FunD.bindsN F50 fun _ _ _ _ _ _ us hl => match us, hl with | [_, _], _ => rfl)
    x_BadLog := exk_of (q1 _ (List.mem_of_getElem? (i := 51) rfl)) (gl _ (List.mem_of_getElem? (i := 59) rfl)) (fun O no => ok_i_BadLog F51 O no) (FunD.bindsN F51 fun _ _ _ _ _ _ us hl => match us, hl with | [_, _], _ => rfl)
    x_Misfit := exk_of (q1 _ (List.mem_of_getElem? (i := 52) rfl)) (gl _ (List.mem_of_getElem? (i := 60) rfl)) (fun O no => ok_i_Misfit F52 O no) (FunD.bindsN F52 fun _ _ _ _ _ _ us hl => match us, hl with | [_, _], _ => rfl)
    x_NotThere := exk_of (q1 _ (List.mem_of_getElem? (i := 53) rfl)) (gl _ (List.mem_of_getElem? (i := 61) rfl)) (fun O no => ok_i_NotThere F53 O no) (FunD.bindsN F53 fun _ _ _ _ _ _ us hl => match us, hl with | [_, _], _ => rfl)
    x_BadEdit := exk_of (q1 _ (List.mem_of_getElem? (i := 54) rfl)) (gl _ (List.mem_of_getElem? (i := 62) rfl)) (fun O no => ok_i_BadEdit F54 O no) (FunD.bindsN F54 fun _ _ _ _ _ _ us hl => match us, hl with | [_, _, _], _ => rfl)
    x_BadPool := exk_of (q1 _ (List.mem_of_getElem? (i := 55) rfl)) (gl _ (List.mem_of_getElem? (i := 63) rfl)) (fun O no => ok_i_BadPool F55 O no) (FunD.bindsN F55 fun _ _ _ _ _ _ us hl => match us, hl with | [_, _], _ => rfl)
    z_BadFactor := exz_of (q2 _ (List.mem_of_getElem? (i := 0) rfl)) (gl _ (List.mem_of_getElem? (i := 64) rfl))
    z_BadMoves := exz_of (q2 _ (List.mem_of_getElem? (i := 1) rfl)) (gl _ (List.mem_of_getElem? (i := 65) rfl))
    z_BadMove := exz_of (q2 _ (List.mem_of_getElem? (i := 2) rfl)) (gl _ (List.mem_of_getElem? (i := 66) rfl))
    z_NoRoom := exz_of (q2 _ (List.mem_of_getElem? (i := 3) rfl)) (gl _ (List.mem_of_getElem? (i := 67) rfl))
    z_NothingSeen := exz_of (q2 _ (List.mem_of_getElem? (i := 4) rfl)) (gl _ (List.mem_of_getElem? (i := 68) rfl))
    z_BadGoal := exz_of (q2 _ (List.mem_of_getElem? (i := 5) rfl)) (gl _ (List.mem_of_getElem? (i := 69) rfl))
    z_NothingDone := exz_of (q2 _ (List.mem_of_getElem? (i := 6) rfl)) (gl _ (List.mem_of_getElem? (i := 70) rfl))
  }
end
theorem facts {P : Program} {w : World} {K : PySem.W.Frag} {h : Heap} {mg : Str → Option Value} {f : Addr} (X : K.In h) (G : h.Ns mainGlobals mg) (hfa : mg ("law" : Str) = some (.ref f)) (c : SaysF fa fn K) :
    ∃ fd : FuncData, (∀ (s : Shared) (v : Value), BindsTo s fd ⟨[v], []⟩ [("_law_script", v)]) ∧ ∀ base : Heap, K.In base → base.Ns mainGlobals mg → FnOk P w K mg base CX0 4 f fd ["_law_script"] (spLaw K) := by
  obtain ⟨q01, q02⟩ := He.ba (c.fact 0 (f := f0) rfl)
  have fr : ∀ x ∈ frees, mg x = none := fun x hx => He.free_ok X G (List.all_eq_true.mp q01 x hx)
  have gl : ∀ x ∈ globs, mg x = some (.ref (He.ga K x)) := fun x hx => He.glo_ok X G (List.all_eq_true.mp q02 x hx)
  have q1 := c.fact 1 (f := f1) rfl
  have q2 := c.fact 2 (f := f2) rfl
  have q3 : ∀ x ∈ ord, kitB K x = true := fun x hx => by
    have z3 := List.all_eq_true.mp (c.fact 3 (f := f3) rfl)
    have z4 := List.all_eq_true.mp (c.fact 4 (f := f4) rfl)
    rcases List.mem_append.mp hx with q | q
    · rcases List.mem_append.mp q with q | q
      · exact z3 x (List.mem_append_left _ q)
      · exact z4 x q
    · exact z3 x (List.mem_append_right _ q)
  have hisx := isx_all q1 q2
  have hkit : ∀ x ∈ ord, ∀ (i : Nat) (y : Str), ord[i]? = some y → PySem.W.kitOne K (.ref (He.ga K x)) (.ref (He.ga K y)) = some (decide (x = y)) := fun x hx i y hy => of_decide_eq_true (List.all_eq_true.mp (He.ba (q3 x hx)).1 y (List.mem_of_getElem? hy))
  have hme : ∀ x ∈ ord, PySem.W.kitOne K (.ref (He.ga K x)) (.ref (He.ga K "MeterError")) = some true := fun x hx => of_decide_eq_true (He.ba (He.ba (q3 x hx)).2).1
  have hve : ∀ x ∈ ord, PySem.W.kitOne K (.ref (He.ga K x)) (.type "ValueError") = some true := fun x hx => of_decide_eq_true (He.ba (He.ba (q3 x hx)).2).2
  have T : Txt1 K mg := { b_len := fr _ (List.mem_of_getElem? (i := 0) rfl), b_int := fr _ (List.mem_of_getElem? (i := 1) rfl), b_abs := fr _ (List.mem_of_getElem? (i := 2) rfl), b_isinstance := fr _ (List.mem_of_getElem? (i := 3) rfl), b_range := fr _ (List.mem_of_getElem? (i := 4) rfl), b_ValueError := fr _ (List.mem_of_getElem? (i := 5) rfl), g_MeterError := gl _ (List.mem_of_getElem? (i := 7) rfl) }
  obtain ⟨fd0, F0⟩ := c.def_ 0 (d := d_law_hand) rfl
  obtain ⟨fd1, F1⟩ := c.def_ 1 (d := d_law_mixed) rfl
  obtain ⟨fd2, F2⟩ := c.def_ 2 (d := d_law_take) rfl
  obtain ⟨fd3, F3⟩ := c.def_ 3 (d := d_law_several) rfl
  obtain ⟨fd4, F4⟩ := c.def_ 4 (d := d_law_singles) rfl
  obtain ⟨fd5, F5⟩ := c.def_ 5 (d := d_law_classes) rfl
  obtain ⟨fd6, F6⟩ := c.def_ 6 (d := d_law) rfl
  have e := hfa.symm.trans (gl _ (List.mem_of_getElem? (i := 6) rfl))
  cases e
  have b := FunD.bindsA (ps := ["_law_script"]) F6 fun _ _ _ _ _ _ us hl => match us, hl with | [_], _ => rfl
  refine ⟨fd6, fun s v => b s [v] rfl, fun base _ _ => ?_⟩
  have XA : XAll P w K mg base := xall c gl
  have c0 : Cl P w K mg base CX0 1 "_law_hand" ["_law_script"] (spHand K) := ⟨_, _, ok_hand F0 T.toTxt0, gl _ (List.mem_of_getElem? (i := 0) rfl), F0.kp, FunD.bindsN F0 fun _ _ _ _ _ _ us hl => match us, hl with | [_], _ => rfl⟩
  have c1 : Cl P w K mg base CX0 1 "_law_mixed" ["_law_number", "_law_turn"] spMixed := ⟨_, _, ok_mixed F1 T.toTxt0, gl _ (List.mem_of_getElem? (i := 1) rfl), F1.kp, FunD.bindsN F1 fun _ _ _ _ _ _ us hl => match us, hl with | [_, _], _ => rfl⟩
  have c2 : Cl P w K mg base CX0 2 "_law_take" ["_law_hand_here", "_law_many"] spTake := ⟨_, _, ok_take F2 T.toTxt0 c1, gl _ (List.mem_of_getElem? (i := 2) rfl), F2.kp, FunD.bindsN F2 fun _ _ _ _ _ _ us hl => match us, hl with | [_, _], _ => rfl⟩
  have c3 : Cl P w K mg base CX0 3 "_law_several" ["_law_a", "_law_b", "_law_c"] (spSeveral K) := ⟨_, _, ok_several F3 XA, gl _ (List.mem_of_getElem? (i := 3) rfl), F3.kp, FunD.bindsN F3 fun _ _ _ _ _ _ us hl => match us, hl with | [_, _, _], _ => rfl⟩
  have c4 : Cl P w K mg base CX0 3 "_law_singles" ["_law_a"] (spSingles K) := ⟨_, _, ok_singles F4 XA, gl _ (List.mem_of_getElem? (i := 4) rfl), F4.kp, FunD.bindsN F4 fun _ _ _ _ _ _ us hl => match us, hl with | [_], _ => rfl⟩
  have c5 : Cl P w K mg base CX0 1 "_law_classes" ["_law_e"] (spClasses K) := ⟨_, _, ok_classes F5 T XA hisx hkit, gl _ (List.mem_of_getElem? (i := 5) rfl), F5.kp, FunD.bindsN F5 fun _ _ _ _ _ _ us hl => match us, hl with | [_], _ => rfl⟩
  exact ok_law F6 T XA hisx hme hve c0 c2 c3 c4 c5
end LW
open PySem PySem.W PySem.Calls PyProof.Rows
set_option maxRecDepth 100000 in
set_option maxHeartbeats 0 in
theorem PySem.Challenge.cw_purseahead_k77_errors_side_by_side_holds : PySem.Challenge.rw_purseahead_k77_errors_side_by_side.Holds := by
  w_on; o_law
  refine HandSHeadRun.head_any (r := OpenLaw.row PySem.Challenge.rw_purseahead_k77_errors_side_by_side) (q := view (OpenLaw.row PySem.Challenge.rw_purseahead_k77_errors_side_by_side).prog [72]) (H := Ve.hookR LW.as LW.fa LW.fn) (ob := fun s => Ve.obsRG LW.as LW.fa LW.fn (HandSHeadRun.getT s)) (M := 16000) (loose := LW.loose) (d := HandSHeadRun.topDef (OpenLaw.row PySem.Challenge.rw_purseahead_k77_errors_side_by_side).prog 72) (kwd := []) (fun s => Ve.obsRG_eq (HandSHeadRun.getT_eq s))
    (by kernel_rfl) (fun s => by kernel_rfl) LW.run (by kernel_rfl) (by kernel_rfl) (by kernel_rfl) (by rfl) (by first | assumption | decide +kernel) (by decide +kernel) ⟨rfl, rfl, rfl, rfl, rfl, by decide +kernel⟩ ?hw ?hc
  case hw => w_witness2
  case hc =>
    refine L2.walk_ofE (l := PySem.Challenge.rw_purseahead_k77_errors_side_by_side) (n := 63) (k := 4) (x := "_law_script") (CX := L2.CX0) rfl (by decide) (by kernel_rfl) ⟨rfl, by decide, by decide⟩ ?F (fun _ _ _ _ z => z)
    intro w mg fa h Y G hmg0
    obtain ⟨K, KX, c⟩ := Y
    have hmg : mg ("law" : PySem.Str) = some (.ref fa) := by
      have e : (HandSHeadRun.topDef (OpenLaw.row PySem.Challenge.rw_purseahead_k77_errors_side_by_side).prog 72).name = ("law" : PySem.Str) := by kernel_rfl
      rw [← e]
      exact hmg0
    obtain ⟨fd, hb, hF⟩ := LW.facts (P := (PySem.Challenge.rw_purseahead_k77_errors_side_by_side).prog) (w := w) KX G hmg c
    exact ⟨K, fd, LW.spLaw K, KX, hb, fun H a ns hl _ hS => ⟨a, ns, rfl, hS, hl, fun _ => rfl⟩, hF⟩


