import PyProof.Rows.All
import Wide.All
import OpenK.AllK
import Wide.FinOn
import KE.KStateDown
import HandS.Head0
import HandS.Head1
import HandS.Head2
import HandS.ForMost
import HandS.Wide
import HandS.ExcInit
import HandS.ExcValue
import HandS.EndBits
import HandS.Defaults
import HandS.More
import HandS.Strs
import HandS.IsInst
import HandS.DictComp
import HandS.Star
import HandS.Zip
import HandS.Conv
import HandS.SortInts
import KE.DataEq
import HandS.Exc
import KE.KExcIs
import HandS.ExcCtx
import HandS.ExcField
import HandS.ExcInitHot
import HandS.HeadHook1
import HandS.HeadEnd
import HandS.HeadHook2
import HandS.Dict
import HandS.Iter
import HandS.Sort
import HandS.SortOrd
import HandS.Call
import HandS.List
import HandS.Deep
import HandS.TupLe
import HandS.CallSlots
import HandS.SortRule
import PySem.Challenge.RW_pairedtongues_k62_cells_of_set_terms
set_option Elab.async false
set_option linter.all false
set_option maxRecDepth 100000
set_option maxHeartbeats 4000000
/-! The top of a module that leans on hashes: trees walked by their values, with a count of steps. -/
noncomputable section
namespace Hh
open PySem PySem.W PySem.Calls PyProof.Rows HandSHeadRun

/-! ### the frame that a call leaves lies below it to the end -/
section inv
variable {den : Code → Sem Fin} {p : Program} {w : World}
/-- below the thread's stack lie a call's frame and B; or it is back, at its end -/
inductive Lies (y : Result → Sem Fin) (h : Option Value) (g : Bool) (l : List Value) (c : Code) (q : Pos) (B : List Frame) : Thread → Prop
  | above (cur : Sem Fin) (c' : Code) (q' : Pos) (pre : List Frame) (kept : List Value) : Lies y h g l c q B ⟨cur, c', q', pre ++ .ret y h g l c q kept :: B⟩
  | back (r : Result) : Lies y h g l c q B ⟨y r, c, q, B⟩
theorem split_pre {y : Result → Sem Fin} {h : Option Value} {g : Bool} {l : List Value} {c : Code} {q : Pos} {B : List Frame} {kept : List Value} (hB : splitAtGen B = none) : ∀ (pre : List Frame) {fs : List Frame} {x : Nat × (GenResult → Sem Fin) × Code × Pos} {rest : List Frame},
    splitAtGen (pre ++ .ret y h g l c q kept :: B) = some (fs, x, rest) → ∃ pre', rest = pre' ++ .ret y h g l c q kept :: B
  | [], fs, x, rest, e => by simp [splitAtGen, hB] at e
  | .ret k0 h0 g0 l0 c0 q0 kept0 :: pre, fs, x, rest, e => by
    have e' := e
    simp only [List.cons_append, splitAtGen, Option.map_eq_some_iff, Prod.exists, Prod.mk.injEq] at e'
    obtain ⟨fs1, n1, k1, c1, p1, rest1, hz, _, _, rfl⟩ := e'
    exact split_pre hB pre hz
  | .gen n k0 l0 c0 q0 :: pre, fs, x, rest, e => by
    simp only [List.cons_append, splitAtGen, Option.some.injEq, Prod.mk.injEq] at e
    exact ⟨pre, e.2.2.symm⟩
theorem lies_step {y : Result → Sem Fin} {h : Option Value} {g : Bool} {l : List Value} {c : Code} {q : Pos} {B : List Frame} (hB : splitAtGen B = none) {s s' : Shared} {cur : Sem Fin} {c' : Code} {q' : Pos} {pre : List Frame} {kept : List Value} {t' : Thread}
    (hs : step den p w s ⟨cur, c', q', pre ++ .ret y h g l c q kept :: B⟩ = .go s' t') : Lies y h g l c q B t' := by
  obtain ⟨heap, gens, drawn, toks, os⟩ := s
  cases cur with
  | pure f =>
    cases f with
    | done f =>
      cases pre with
      | nil =>
        simp only [List.nil_append, step, Step.go.injEq] at hs
        obtain ⟨_, rfl⟩ := hs
        exact .back _
      | cons F pre =>
        cases F <;> (simp only [List.cons_append, step, Step.go.injEq] at hs; obtain ⟨_, rfl⟩ := hs; exact .above ..)
    | again cc =>
      cases pre with
      | nil =>
        rw [List.nil_append, W.step_again] at hs
        simp only [Step.go.injEq] at hs
        obtain ⟨_, rfl⟩ := hs
        exact .above _ _ _ [] _
      | cons F pre =>
        cases F with
        | ret k0 h0 g0 l0 c0 q0 kept0 =>
          rw [List.cons_append, W.step_again] at hs
          simp only [Step.go.injEq] at hs
          obtain ⟨_, rfl⟩ := hs
          exact .above _ _ _ (_ :: pre) _
        | gen n k0 l0 c0 q0 =>
          rw [List.cons_append, step_again_gen] at hs
          simp only [Step.go.injEq] at hs
          obtain ⟨_, rfl⟩ := hs
          exact .above _ _ _ (_ :: pre) _
  | raise e =>
    cases pre with
    | nil =>
      simp only [List.nil_append, step, Step.go.injEq] at hs
      obtain ⟨_, rfl⟩ := hs
      exact .back _
    | cons F pre =>
      cases F <;> (simp only [List.cons_append, step, Step.go.injEq] at hs; obtain ⟨_, rfl⟩ := hs; exact .above ..)
  | unsupported | register | fork | await => simp only [step] at hs; cases hs
  | finish e => simp only [step] at hs; split at hs <;> cases hs
  | rule | «at» | alloc | loadIfAlive | point | fresh | ask | newGen | thread | stack | handled => simp only [step, Step.go.injEq] at hs; obtain ⟨_, rfl⟩ := hs; exact .above ..
  | os qq l0 k => simp only [step, Step.go.injEq] at hs; obtain ⟨_, rfl⟩ := hs; exact .above ..
  | load a qq k =>
    cases e : heap.get? a with
    | none => simp only [step, e] at hs; cases hs
    | some o => simp only [step, e, Step.go.injEq] at hs; obtain ⟨_, rfl⟩ := hs; exact .above ..
  | update a qq f k =>
    cases e : (heap.get? a).isSome with
    | false => simp only [step, e, Bool.false_eq_true, if_false] at hs; cases hs
    | true => simp only [step, e, if_true, Step.go.injEq] at hs; obtain ⟨_, rfl⟩ := hs; exact .above ..
  | choose src n k =>
    by_cases e : n = 0
    · simp only [step, e, if_true] at hs; cases hs
    · simp only [step, e, if_false, Step.go.injEq] at hs; obtain ⟨_, rfl⟩ := hs; exact .above ..
  | genState g0 k =>
    cases e : gens[g0]? with
    | none => simp only [step, e] at hs; cases hs
    | some st => simp only [step, e, Step.go.injEq] at hs; obtain ⟨_, rfl⟩ := hs; exact .above ..
  | call cc m g0 l0 k =>
    simp only [step, Step.go.injEq] at hs
    obtain ⟨_, rfl⟩ := hs
    exact .above _ _ _ (_ :: pre) _
  | resume g0 r l0 k =>
    cases e : gens[g0]? with
    | none => simp only [step, e] at hs; cases hs
    | some st =>
      cases st with
      | fresh cc =>
        cases r with
        | throw x => simp only [step, e, Step.go.injEq] at hs; obtain ⟨_, rfl⟩ := hs; exact .above ..
        | send v => cases v <;> (simp only [step, e, Step.go.injEq] at hs; obtain ⟨_, rfl⟩ := hs; first | exact .above _ _ _ pre _ | exact .above _ _ _ (_ :: pre) _)
      | suspended kk lv' c0 p0 frames cl =>
        simp only [step, e, Step.go.injEq] at hs
        obtain ⟨_, rfl⟩ := hs
        have z : frames ++ Frame.gen g0 k l0 c' q' :: (pre ++ Frame.ret y h g l c q kept :: B) = (frames ++ Frame.gen g0 k l0 c' q' :: pre) ++ Frame.ret y h g l c q kept :: B := by simp
        rw [z]
        exact .above ..
      | running => simp only [step, e, Step.go.injEq] at hs; obtain ⟨_, rfl⟩ := hs; exact .above ..
      | finished => simp only [step, e, Step.go.injEq] at hs; obtain ⟨_, rfl⟩ := hs; exact .above ..
  | «yield» v g0 l0 kk =>
    simp only [step] at hs
    cases e : splitAtGen (pre ++ Frame.ret y h g l c q kept :: B) with
    | none => rw [e] at hs; cases hs
    | some z =>
      obtain ⟨fs, ⟨n, k, c0, p0⟩, rest⟩ := z
      rw [e] at hs
      cases hs
      obtain ⟨pre', rfl⟩ := split_pre hB pre e
      exact .above ..
end inv
/-! ### parts of a run, counted -/
def enc (r : Result) : Flow := match r with
  | .ok f => f
  | .error _ => .brk
def encF (r : Result) : Sem Fin := .pure (.done (enc r))
/-- steps that leave the state as it is -/
def quiet (t : Thread) : Bool := match t.cur with
  | .pure (.done _) | .raise _ => (match t.stack with
    | .ret .. :: _ => true
    | _ => false)
  | .pure (.again _) | .rule .. | .at .. | .load .. | .loadIfAlive .. | .point .. | .ask .. | .call .. | .handled .. | .stack .. | .thread .. | .genState .. => true
  | _ => false
theorem quiet_same {den : Code → Sem Fin} {p : Program} {w : World} {s s' : Shared} {t t' : Thread} (q : quiet t = true) (hs : step den p w s t = .go s' t') : s' = s := by
  obtain ⟨heap, gens, drawn, toks, os⟩ := s
  obtain ⟨cur, code, pos, stack⟩ := t
  cases cur with
  | pure f =>
    cases f with
    | done f =>
      cases stack with
      | nil => cases q
      | cons F st =>
        cases F with
        | ret => simp only [step, Step.go.injEq] at hs; exact hs.1.symm
        | gen => cases q
    | again c => simp only [step, Step.go.injEq] at hs; exact hs.1.symm
  | raise e =>
    cases stack with
    | nil => cases q
    | cons F st =>
      cases F with
      | ret => simp only [step, Step.go.injEq] at hs; exact hs.1.symm
      | gen => cases q
  | rule | «at» | loadIfAlive | point | ask | call | thread | stack | handled => simp only [step, Step.go.injEq] at hs; exact hs.1.symm
  | load a qq k =>
    cases e : heap.get? a with
    | none => simp only [step, e] at hs; cases hs
    | some o => simp only [step, e, Step.go.injEq] at hs; exact hs.1.symm
  | genState g0 k =>
    cases e : gens[g0]? with
    | none => simp only [step, e] at hs; cases hs
    | some st => simp only [step, e, Step.go.injEq] at hs; exact hs.1.symm
  | _ => cases q
def pickS (ro : Bool) (s s' : SharedT) : SharedT := match ro with
  | true => s
  | false => s'
/-- the thread, to its end at b frames; ro: no step changes the state -/
def segF (st : SharedT → Thread → Option (SharedT × Thread)) (n0 : Nat) (ann : Option Value) (b : Nat) (ro : Bool) : Nat → Nat → SharedT → Thread → Option (Nat × Flow × SharedT)
  | 0, _, _, _ => none
  | m + 1, cnt, s, t => match endAt b t with
    | some f => frNat (cnt + 1) fun cnt => some (cnt, f, s)
    | none => match stepOk n0 ann t && (!ro || quiet t) with
      | false => none
      | true => match st s t with
        | some (s', t') => frS (pickS ro s s') fun s' => frNat (cnt + 1) fun cnt => segF st n0 ann b ro m cnt s' t'
        | none => none
theorem segF_ok {tb : String → Option Builtin} {p : Program} {w : World} {n0 : Nat} {ann : Option Value} {b : Nat} {ro : Bool} : ∀ {m cnt : Nat} {s : SharedT} {t : Thread} {cnt' : Nat} {f : Flow} {s' : SharedT}, segF (stepT (denote tb) p w) n0 ann b ro m cnt s t = some (cnt', f, s') →
    ∃ j c q, cnt' = cnt + j + 1 ∧ segRun tb p w n0 ann b (j + 1) s.abs t = some (f, s'.abs, c, q) ∧ (ro = true → s' = s)
  | 0, _, _, _, _, _, _, h => by cases h
  | m + 1, cnt, s, t, cnt', f, s', h => by
    unfold segF at h
    cases he : endAt b t with
    | some x =>
      rw [he] at h
      have h1 : (frNat (cnt + 1) fun cnt => some (cnt, x, s)) = some (cnt', f, s') := h
      rw [frNat_eq] at h1
      cases h1
      exact ⟨0, t.code, t.pos, rfl, by unfold segRun; rw [he], fun _ => rfl⟩
    | none =>
      rw [he] at h
      cases hk : stepOk n0 ann t && (!ro || quiet t) with
      | false => rw [hk] at h; cases h
      | true =>
        rw [hk] at h
        obtain ⟨hk1, hk2⟩ := Bool.and_eq_true_iff.mp hk
        cases hs : stepT (denote tb) p w s t with
        | none => rw [hs] at h; cases h
        | some r =>
          obtain ⟨s2, t2⟩ := r
          rw [hs] at h
          have h1 : (frS (pickS ro s s2) fun s' => frNat (cnt + 1) fun cnt => segF (stepT (denote tb) p w) n0 ann b ro m cnt s' t2) = some (cnt', f, s') := h
          rw [frS_eq, frNat_eq] at h1
          obtain ⟨j, c, q, e1, e2, e3⟩ := segF_ok h1
          have z := stepT_spec hs
          have zz : (pickS ro s s2).abs = s2.abs := by
            cases ro with
            | false => rfl
            | true => exact (quiet_same hk2 z).symm
          rw [zz] at e2
          refine ⟨j + 1, c, q, by omega, ?_, fun hr => ?_⟩
          · unfold segRun
            rw [he, hk1, z]
            exact e2
          · rw [e3 hr, hr]
            rfl
/-! ### trees by their values -/
section
variable (prog : Program) (w : World) (n0 : Nat) (ann : Option Value) (c : Code) (B : List Frame)
/-- from s the tree x comes to a, in m steps -/
def G {α : Type} (m : Nat) (lv : List Value → List Value) (x : Sem α) (s : Shared) (p : Pos) (a : α) (s' : Shared) (p' : Pos) : Prop :=
  ∀ (K : α → Sem Fin) (H : Value → Sem Fin) (N : Nat) (r : Shared), topRun treeTable prog w n0 ann N s' ⟨K a, c, p', B⟩ = some r → topRun treeTable prog w n0 ann (m + N) s ⟨x.wrap K H id lv, c, p, B⟩ = some r
end
section
variable {prog : Program} {w : World} {n0 : Nat} {ann : Option Value} {c : Code} {B : List Frame} {α β : Type} {m n : Nat} {lv : List Value → List Value} {s s' s'' : Shared} {p p' p'' : Pos}
theorem topRun_le {N N' : Nat} {t : Thread} {r : Shared} (h : topRun treeTable prog w n0 ann N s t = some r) (le : N ≤ N') : topRun treeTable prog w n0 ann N' s t = some r := by
  have z := topRun_mono (N' - N) _ _ _ _ h
  rw [show N + (N' - N) = N' by omega] at z
  exact z
theorem G.le {x : Sem α} {a : α} (h : G prog w n0 ann c B m lv x s p a s' p') (le : m ≤ n) : G prog w n0 ann c B n lv x s p a s' p' := fun K H N r q => topRun_le (h K H N r q) (by omega)
theorem G.pure {a : α} : G prog w n0 ann c B 0 lv (.pure a : Sem α) s p a s p := fun K H N r q => by
  rw [Nat.zero_add]
  exact q
theorem G.bind {x : Sem α} {f : α → Sem β} {a : α} {b : β} (h : G prog w n0 ann c B m lv x s p a s' p') (k : G prog w n0 ann c B n lv (f a) s' p' b s'' p'') : G prog w n0 ann c B (m + n) lv (x >>= f) s p b s'' p'' := fun K H N r q => by
  rw [Sem.bind_eq_wrap', Sem.wrap_wrap]
  have z := h (fun a => (f a).wrap K H id lv) (fun e => (Sem.raise e).wrap K H id lv) (n + N) r (k K H N r q)
  rw [Nat.add_assoc]
  exact z
theorem G.keep {vs : List Value} {x : Sem α} {a : α} (h : G prog w n0 ann c B m (fun l => lv (vs ++ l)) x s p a s' p') : G prog w n0 ann c B m lv (x.keep vs) s p a s' p' := fun K H N r q => by
  rw [Sem.keep_eq_wrap, Sem.wrap_wrap]
  exact h K (fun e => (Sem.raise e).wrap K H id lv) N r q
def refsOf (vs : List Value) : List Value := vs.filter fun | .ref _ => true | _ => false
/-- what a holding adds -/
def held (lv : List Value → List Value) (vs : List Value) : List Value → List Value := match refsOf vs with
  | [] => lv
  | v :: r => fun l => lv (v :: r ++ l)
theorem G.holding {vs : List Value} {x : Sem α} {a : α} (h : G prog w n0 ann c B m (held lv vs) x s p a s' p') : G prog w n0 ann c B m lv (PySem.holding vs x) s p a s' p' := by
  have e1 : PySem.holding vs x = (match refsOf vs with
    | [] => x
    | refs => x.keep refs) := rfl
  rw [e1]
  unfold held at h
  cases e : refsOf vs with
  | nil =>
    rw [e] at h
    exact h
  | cons v r =>
    rw [e] at h
    exact G.keep h
theorem stepOk_calm {cur : Sem Fin} (h : (match cur with | .pure _ | .yield .. | .update .. | .os .. | .fork .. | .await .. | .register .. => false | _ => true) = true) : stepOk n0 ann ⟨cur, c, p, B⟩ = true := by
  cases cur <;> first | rfl | cases h
theorem G.step1 {x : Sem α} {y : Sem α} {a : α} (h : G prog w n0 ann c B m lv y s' p' a s'' p'') (ok : ∀ K H, through ⟨x.wrap K H id lv, c, p, B⟩ = false ∧ stepOk n0 ann ⟨x.wrap K H id lv, c, p, B⟩ = true ∧
    step (denote treeTable) prog w s ⟨x.wrap K H id lv, c, p, B⟩ = .go s' ⟨y.wrap K H id lv, c, p', B⟩) : G prog w n0 ann c B (m + 1) lv x s p a s'' p'' := fun K H N r q => by
  obtain ⟨e1, e2, e3⟩ := ok K H
  have z := h K H N r q
  rw [show m + 1 + N = m + N + 1 by omega]
  unfold topRun
  rw [e1, e2, e3]
  exact z
end
/-- a tree, by its values: cnt steps so far -/
def evT {α : Type} (st : SharedT → Thread → Option (SharedT × Thread)) (prog : Program) (w : World) (n0 : Nat) (ann : Option Value) (c : Code) (B : List Frame) (lv : List Value → List Value) (ro : Bool) : Nat → Nat → SharedT → Pos → Sem α → Option (Nat × α × SharedT × Pos)
  | 0, _, _, _, _ => none
  | m + 1, cnt, s, p, x => match x with
    | .pure a => some (cnt, a, s, p)
    | .rule _ k => frNat (cnt + 1) fun cnt => evT st prog w n0 ann c B lv ro m cnt s p (k ())
    | .at q k => frNat (cnt + 1) fun cnt => evT st prog w n0 ann c B lv ro m cnt s q (k ())
    | .point _ k => frNat (cnt + 1) fun cnt => evT st prog w n0 ann c B lv ro m cnt s p (k ())
    | .ask k => frNat (cnt + 1) fun cnt => evT st prog w n0 ann c B lv ro m cnt s p (k ⟨prog, w.params⟩)
    | .stack k => frNat (cnt + 1) fun cnt => evT st prog w n0 ann c B lv ro m cnt s p (k ((c, p) :: B.map Frame.where_))
    | .handled own k => frNat (cnt + 1) fun cnt => evT st prog w n0 ann c B lv ro m cnt s p (k (topHandled (if own then (match splitAtGen B with | some (fs, _, _) => fs | none => B) else B)))
    | .load a _ k => (match getT s a with
      | some o => frNat (cnt + 1) fun cnt => evT st prog w n0 ann c B lv ro m cnt s p (k o)
      | none => none)
    | .loadIfAlive a k => frNat (cnt + 1) fun cnt => evT st prog w n0 ann c B lv ro m cnt s p (k (getT s a))
    | .update a q f k => (match !ro && stepOk n0 ann ⟨.update a q f (fun _ => .pure (.done .next)), c, p, B⟩ with
      | true => (match st s ⟨.update a q f (fun _ => .pure (.done .next)), c, p, B⟩ with
        | some (s', _) => frS s' fun s' => frNat (cnt + 1) fun cnt => evT st prog w n0 ann c B lv ro m cnt s' p (k ())
        | none => none)
      | false => none)
    | .alloc o k => (match !ro with
      | true => (match st s ⟨.alloc o (fun _ => .pure (.done .next)), c, p, B⟩ with
        | some (s', _) => frS s' fun s' => frNat (cnt + 1) fun cnt => evT st prog w n0 ann c B lv ro m cnt s' p (k s.n)
        | none => none)
      | false => none)
    | .fresh k => (match !ro with
      | true => (match s with
        | ⟨T, n, life, gens, drawn, toks, os⟩ => frNat (toks + 1) fun toks' => frNat (cnt + 1) fun cnt => evT st prog w n0 ann c B lv ro m cnt ⟨T, n, life, gens, drawn, toks', os⟩ p (k toks))
      | false => none)
    | .call cc h g l k => (match segF st n0 ann B.length ro m cnt s ⟨.call cc h g (lv l) encF, c, p, B⟩ with
      | some (cnt', f, s') => (match f with
        | .brk => none
        | .next => evT st prog w n0 ann c B lv ro m cnt' s' p (k (.ok .next))
        | .cont => evT st prog w n0 ann c B lv ro m cnt' s' p (k (.ok .cont))
        | .ret v => evT st prog w n0 ann c B lv ro m cnt' s' p (k (.ok (.ret v))))
      | none => none)
    | _ => none
section
variable {prog : Program} {w : World} {n0 : Nat} {ann : Option Value} {c : Code} {B : List Frame} {lv : List Value → List Value} {ro : Bool}
/-- a run that ends behind a call's frame ends at the call's place -/
theorem seg_back {y : Result → Sem Fin} {h : Option Value} {g : Bool} {l : List Value} {q : Pos} (hB : splitAtGen B = none) (hy : ∀ r, ∃ f, y r = .pure (.done f)) : ∀ {n : Nat} {s : Shared} {t : Thread} {f : Flow} {s' : Shared} {c' : Code} {q' : Pos}, Lies y h g l c q B t →
    segRun treeTable prog w n0 ann B.length n s t = some (f, s', c', q') → c' = c ∧ q' = q
  | 0, _, _, _, _, _, _, _, e => by cases e
  | n + 1, s, t, f, s', c', q', L, e => by
    unfold segRun at e
    cases L with
    | back r =>
      obtain ⟨f0, e0⟩ := hy r
      have z : endAt B.length ⟨y r, c, q, B⟩ = some f0 := by rw [e0]; simp [endAt]
      rw [z] at e
      cases e
      exact ⟨rfl, rfl⟩
    | above cur c1 q1 pre kept =>
      have z : endAt B.length ⟨cur, c1, q1, pre ++ .ret y h g l c q kept :: B⟩ = none := by
        have : ((pre ++ Frame.ret y h g l c q kept :: B).length == B.length) = false := beq_eq_false_iff_ne.mpr (by simp; omega)
        simp only [endAt, this]
      rw [z] at e
      cases hk : stepOk n0 ann ⟨cur, c1, q1, pre ++ .ret y h g l c q kept :: B⟩ with
      | false => rw [hk] at e; cases e
      | true =>
        rw [hk] at e
        cases hs : step (denote treeTable) prog w s ⟨cur, c1, q1, pre ++ .ret y h g l c q kept :: B⟩ with
        | halt o s2 => rw [hs] at e; cases e
        | go s2 t2 =>
          rw [hs] at e
          exact seg_back hB hy (lies_step hB hs) e
/-- a call's tree -/
theorem G.call {α : Type} {cc : Code} {h : Option Value} {g : Bool} {l : List Value} {k : Result → Sem α} {s s' s'' : Shared} {p p'' : Pos} {f : Flow} {c' : Code} {q' : Pos} {j m : Nat} {a : α} (hB : splitAtGen B = none) (hf : f ≠ .brk)
    (e : segRun treeTable prog w n0 ann B.length (j + 1) s ⟨.call cc h g (lv l) encF, c, p, B⟩ = some (f, s', c', q')) (r : G prog w n0 ann c B m lv (k (.ok f)) s' p a s'' p'') : G prog w n0 ann c B (j + 1 + m) lv (.call cc h g l k) s p a s'' p'' := fun K H N rr q => by
  have hcq : c' = c ∧ q' = p ∧ ∃ j', j = j' + 1 := by
    unfold segRun at e
    have z : endAt B.length ⟨.call cc h g (lv l) encF, c, p, B⟩ = none := by simp [endAt]
    rw [z] at e
    have z2 : stepOk n0 ann ⟨.call cc h g (lv l) encF, c, p, B⟩ = true := stepOk_calm rfl
    rw [z2] at e
    cases j with
    | zero =>
      simp only [step, segRun] at e
      cases e
    | succ j =>
      obtain ⟨heap, gens, drawn, toks, os⟩ := s
      simp only [step] at e
      have := seg_back hB (fun r => ⟨enc r, rfl⟩) (Lies.above _ _ _ [] _) e
      exact ⟨this.1, this.2, j, rfl⟩
  obtain ⟨rfl, rfl, j', rfl⟩ := hcq
  obtain ⟨a0, ha, hN⟩ := seg_top (res := enc) (K' := fun x => (k x).wrap K H id lv) (H' := deadEnd) (gd := id) (lv := lv) (B := B) hB (j' + 1 + 1) s ⟨.call cc h g (lv l) encF, c', q', B⟩ ⟨(Sem.call cc h g l k).wrap K H id lv, c', q', B⟩ f s' c' q'
    ⟨rfl, rfl, .inl ⟨rfl, rfl, .call cc h g l .pure, rfl, rfl⟩⟩ e
  have h0 : a0 = .ok f := by
    cases a0 with
    | ok f0 => exact congrArg Except.ok ha
    | error x => exact absurd ha.symm hf
  subst h0
  have z := hN (m + N) rr (r K H N rr q)
  rw [show j' + 1 + 1 + m + N = j' + 1 + 1 + (m + N) by omega]
  exact z
theorem thr {cur : Sem Fin} {p : Pos} (q : (match cur with | .pure _ => false | _ => true) = true) : through ⟨cur, c, p, B⟩ = false := by
  unfold through
  cases cur <;> first | (cases B <;> rfl) | cases q
/-- what a tree's values say of the run -/
theorem evT_ok {α : Type} (hB : splitAtGen B = none) : ∀ {m cnt : Nat} {s : SharedT} {p : Pos} {x : Sem α} {cnt' : Nat} {a : α} {s' : SharedT} {p' : Pos}, evT (stepT (denote treeTable) prog w) prog w n0 ann c B lv ro m cnt s p x = some (cnt', a, s', p') →
    ∃ j, cnt' = cnt + j ∧ G prog w n0 ann c B j lv x s.abs p a s'.abs p' ∧ (ro = true → s' = s)
  | 0, _, _, _, _, _, _, _, _, h => by cases h
  | m + 1, cnt, s, p, x, cnt', a, s', p', h => by
    unfold evT at h
    have one : ∀ {y : Sem α} {q : Pos} {s1 : SharedT}, (ro = true → s1 = s) → evT (stepT (denote treeTable) prog w) prog w n0 ann c B lv ro m (cnt + 1) s1 q y = some (cnt', a, s', p') →
        (∀ K H, through ⟨x.wrap K H id lv, c, p, B⟩ = false ∧ stepOk n0 ann ⟨x.wrap K H id lv, c, p, B⟩ = true ∧ step (denote treeTable) prog w s.abs ⟨x.wrap K H id lv, c, p, B⟩ = .go s1.abs ⟨y.wrap K H id lv, c, q, B⟩) →
        ∃ j, cnt' = cnt + j ∧ G prog w n0 ann c B j lv x s.abs p a s'.abs p' ∧ (ro = true → s' = s) := fun {y q s1} e1 e2 e3 => by
      obtain ⟨j, e, g, r⟩ := evT_ok hB e2
      exact ⟨j + 1, by omega, G.step1 g e3, fun hr => (r hr).trans (e1 hr)⟩
    cases x with
    | pure a0 =>
      cases h
      exact ⟨0, rfl, G.pure, fun _ => rfl⟩
    | rule t k =>
      dsimp only at h
      rw [frNat_eq] at h
      exact one (fun _ => rfl) h fun K H => ⟨thr rfl, stepOk_calm rfl, rfl⟩
    | «at» q k =>
      dsimp only at h
      rw [frNat_eq] at h
      exact one (fun _ => rfl) h fun K H => ⟨thr rfl, stepOk_calm rfl, rfl⟩
    | point l k =>
      dsimp only at h
      rw [frNat_eq] at h
      exact one (fun _ => rfl) h fun K H => ⟨thr rfl, stepOk_calm rfl, rfl⟩
    | ask k =>
      dsimp only at h
      rw [frNat_eq] at h
      exact one (fun _ => rfl) h fun K H => ⟨thr rfl, stepOk_calm rfl, rfl⟩
    | stack k =>
      dsimp only at h
      rw [frNat_eq] at h
      exact one (fun _ => rfl) h fun K H => ⟨thr rfl, stepOk_calm rfl, rfl⟩
    | handled own k =>
      dsimp only at h
      rw [frNat_eq] at h
      exact one (fun _ => rfl) h fun K H => ⟨thr rfl, stepOk_calm rfl, rfl⟩
    | load b q k =>
      cases e : getT s b with
      | none => simp only [e] at h; cases h
      | some o =>
        simp only [e] at h
        rw [frNat_eq] at h
        refine one (fun _ => rfl) h fun K H => ⟨thr rfl, stepOk_calm rfl, ?_⟩
        have e' : s.abs.heap.get? b = some o := (getT_eq s b).symm.trans e
        show step (denote treeTable) prog w ⟨s.abs.heap, s.abs.gens, s.abs.drawn, s.abs.toks, s.abs.os⟩ ⟨.load b q _, c, p, B⟩ = _
        simp only [step, e']
    | loadIfAlive b k =>
      dsimp only at h
      rw [frNat_eq] at h
      refine one (fun _ => rfl) h fun K H => ⟨thr rfl, stepOk_calm rfl, ?_⟩
      rw [getT_eq]
      rfl
    | update b q f k =>
      cases hk : !ro && stepOk n0 ann ⟨.update b q f (fun _ => .pure (.done .next)), c, p, B⟩ with
      | false => simp only [hk] at h; cases h
      | true =>
        simp only [hk] at h
        obtain ⟨hk1, hk2⟩ := Bool.and_eq_true_iff.mp hk
        cases hs : stepT (denote treeTable) prog w s ⟨.update b q f (fun _ => .pure (.done .next)), c, p, B⟩ with
        | none => simp only [hs] at h; cases h
        | some r =>
          obtain ⟨s1, t1⟩ := r
          simp only [hs] at h
          rw [frS_eq, frNat_eq] at h
          refine one (fun hr => by rw [hr] at hk1; cases hk1) h fun K H => ⟨thr rfl, hk2, ?_⟩
          have z := stepT_spec hs
          have z' : step (denote treeTable) prog w ⟨s.abs.heap, s.abs.gens, s.abs.drawn, s.abs.toks, s.abs.os⟩ ⟨.update b q f (fun _ => .pure (.done .next)), c, p, B⟩ = .go s1.abs t1 := z
          show step (denote treeTable) prog w ⟨s.abs.heap, s.abs.gens, s.abs.drawn, s.abs.toks, s.abs.os⟩ ⟨.update b q f _, c, p, B⟩ = _
          cases ei : (s.abs.heap.get? b).isSome with
          | false => simp only [step, ei, Bool.false_eq_true, if_false] at z'; cases z'
          | true =>
            simp only [step, ei, if_true, Step.go.injEq] at z' ⊢
            exact ⟨z'.1, trivial⟩
    | alloc o k =>
      cases hk : !ro with
      | false => simp only [hk] at h; cases h
      | true =>
        simp only [hk] at h
        cases hs : stepT (denote treeTable) prog w s ⟨.alloc o (fun _ => .pure (.done .next)), c, p, B⟩ with
        | none => simp only [hs] at h; cases h
        | some r =>
          obtain ⟨s1, t1⟩ := r
          simp only [hs] at h
          rw [frS_eq, frNat_eq] at h
          refine one (fun hr => by rw [hr] at hk; cases hk) h fun K H => ⟨thr rfl, stepOk_calm rfl, ?_⟩
          have z := stepT_spec hs
          have z' : step (denote treeTable) prog w ⟨s.abs.heap, s.abs.gens, s.abs.drawn, s.abs.toks, s.abs.os⟩ ⟨.alloc o (fun _ => .pure (.done .next)), c, p, B⟩ = .go s1.abs t1 := z
          show step (denote treeTable) prog w ⟨s.abs.heap, s.abs.gens, s.abs.drawn, s.abs.toks, s.abs.os⟩ ⟨.alloc o _, c, p, B⟩ = _
          have en : s.abs.heap.objs.size = s.n := absHeap_size s.tree s.n _
          simp only [step, Step.go.injEq] at z' ⊢
          refine ⟨z'.1, ?_⟩
          rw [en]
    | fresh k =>
      cases hk : !ro with
      | false => simp only [hk] at h; cases h
      | true =>
        simp only [hk] at h
        obtain ⟨T, n, life, gens, drawn, toks, os⟩ := s
        simp only at h
        rw [frNat_eq, frNat_eq] at h
        exact one (fun hr => by rw [hr] at hk; cases hk) h fun K H => ⟨thr rfl, stepOk_calm rfl, rfl⟩
    | call cc hh g l k =>
      cases hs : segF (stepT (denote treeTable) prog w) n0 ann B.length ro m cnt s ⟨.call cc hh g (lv l) encF, c, p, B⟩ with
      | none => simp only [hs] at h; cases h
      | some r =>
        obtain ⟨cnt1, f, s1⟩ := r
        simp only [hs] at h
        obtain ⟨j, c1, q1, e1, e2, e3⟩ := segF_ok hs
        have fin : f ≠ .brk → evT (stepT (denote treeTable) prog w) prog w n0 ann c B lv ro m cnt1 s1 p (k (.ok f)) = some (cnt', a, s', p') → ∃ j, cnt' = cnt + j ∧ G prog w n0 ann c B j lv (.call cc hh g l k) s.abs p a s'.abs p' ∧ (ro = true → s' = s) := fun hf hh => by
          obtain ⟨i, e, g, r⟩ := evT_ok hB hh
          exact ⟨j + 1 + i, by omega, G.call hB hf e2 g, fun hr => (r hr).trans (e3 hr)⟩
        cases f with
        | brk => cases h
        | next => exact fin (by simp) h
        | cont => exact fin (by simp) h
        | ret v => exact fin (by simp) h
    | _ => cases h
end
/-! ### looking a key up among keys of any hashes -/
section
variable {prog : Program} {w : World} {n0 : Nat} {ann : Option Value} {c : Code} {B : List Frame} {α β : Type} {m n : Nat} {lv : List Value → List Value} {s s' s'' : Shared} {p p' p'' : Pos}
theorem thr' {cur : Sem Fin} {p : Pos} (q : (match cur with | .pure _ => false | _ => true) = true) : through ⟨cur, c, p, B⟩ = false := thr q
theorem G.rule {tag : String} : G prog w n0 ann c B 1 lv (PySem.rule tag) s p () s p :=
  G.step1 (m := 0) (y := .pure ()) G.pure fun K H => ⟨thr rfl, stepOk_calm rfl, rfl⟩
theorem G.loadPart {a : Addr} {part : Option Value} {o : Obj} (h : s.heap.get? a = some o) : G prog w n0 ann c B 1 lv (PySem.loadPart a part) s p o s p :=
  G.step1 (m := 0) (y := .pure o) G.pure fun K H => ⟨thr rfl, stepOk_calm rfl, by
    obtain ⟨heap, gens, drawn, toks, os⟩ := s
    show step (denote treeTable) prog w ⟨heap, gens, drawn, toks, os⟩ ⟨.load a part _, c, p, B⟩ = _
    have h' : heap.get? a = some o := h
    simp only [step, h']⟩
theorem G.entries {a : Addr} {part : Option Value} {o : Obj} {es : Array DictEntry} {ep : Nat} (h : s.heap.get? a = some o) (hd : o.data = .dict es ep) : G prog w n0 ann c B 1 lv (dictEntries a part) s p es s p := by
  unfold dictEntries
  refine G.bind (n := 0) (G.loadPart h) ?_
  rw [hd]
  exact G.pure
theorem G.epoch {a : Addr} {part : Option Value} {o : Obj} {es : Array DictEntry} {ep : Nat} (h : s.heap.get? a = some o) (hd : o.data = .dict es ep) : G prog w n0 ann c B 1 lv (dictEpoch a part) s p ep s p := by
  unfold dictEpoch
  refine G.bind (n := 0) (G.loadPart h) ?_
  rw [hd]
  exact G.pure
/-- a loop whose turns leave all as it is -/
theorem G.turns {γ : Type} {f : α → γ → Sem (ForInStep γ)} {b : γ} : ∀ {l : List α}, (∀ x ∈ l, G prog w n0 ann c B m lv (f x b) s p (.yield b) s p) → G prog w n0 ann c B (l.length * m) lv (forIn l b f) s p b s p
  | [], _ => by
    rw [List.forIn_nil]
    exact G.le G.pure (by simp)
  | x :: l, h => by
    rw [List.forIn_cons]
    refine G.le (G.bind (h x List.mem_cons_self) (G.turns fun y hy => h y (List.mem_cons_of_mem _ hy))) ?_
    rw [List.length_cons, Nat.add_mul]
    omega
theorem G.mayTell {key : Value} {stored : List Value} (hk : G prog w n0 ann c B m lv (eqIsQuiet 8 key) s p true s p) (hs : ∀ k ∈ stored, G prog w n0 ann c B m lv (eqIsQuiet 8 k) s p true s p) :
    G prog w n0 ann c B (m + stored.length * m) lv (tableMayTell key stored) s p false s p := by
  unfold tableMayTell
  cases e : stored.isEmpty with
  | true => exact G.le G.pure (Nat.zero_le _)
  | false =>
    simp only [Bool.false_eq_true, if_false]
    refine G.bind hk ?_
    simp only [Bool.not_true, Bool.false_eq_true, if_false]
    refine G.le (G.bind (n := 0) (G.turns (b := ((none : Option Bool), ())) fun k hk => G.le (G.bind (n := 0) (hs k hk) ?_) (Nat.le_refl _)) ?_) (Nat.le_refl _)
    · simp only [Bool.not_true, Bool.false_eq_true, if_false]
      exact G.pure
    · exact G.pure
theorem ref_ne {a b : Addr} (h : b ≠ a) : (Value.ref b == Value.ref a) = false := beq_eq_false_iff_ne.mpr fun e => h (by injection e)
theorem places_mem {n : Nat} {f : Nat → Option Int} {h : Int} {i : Nat} (hi : i ∈ placesWithHash n f h) : i < n := by
  unfold placesWithHash at hi
  exact List.mem_range.mp (List.mem_filter.mp hi).1
theorem places_len {n : Nat} {f : Nat → Option Int} {h : Int} : (placesWithHash n f h).length ≤ n := by
  unfold placesWithHash
  refine Nat.le_trans (List.length_filter_le _ _) ?_
  rw [List.length_range]
  exact Nat.le_refl _
theorem G.find {d a : Addr} {es : Array DictEntry} {ep : Nat} {h : Int} {o : Obj} {nq ne : Nat} (ho : s.heap.get? d = some o) (hd : o.data = .dict es ep) (hne : ∀ e ∈ es, ∃ b, e.key = .ref b ∧ b ≠ a)
    (hk : G prog w n0 ann c B nq (held lv [.ref a]) (eqIsQuiet 8 (.ref a)) s p true s p) (hq : ∀ e ∈ es, G prog w n0 ann c B nq (held lv [.ref a]) (eqIsQuiet 8 e.key) s p true s p)
    (he : ∀ e ∈ es, G prog w n0 ann c B ne (held lv [.ref a]) (eqBool e.key (.ref a)) s p false s p) :
    G prog w n0 ann c B (1 + (nq + es.size * nq) + es.size * (ne + 3)) lv (dictFind d (.ref a) h) s p none s p := by
  unfold dictFind
  refine G.holding ?_
  refine G.le (G.bind (G.entries ho hd) (n := (nq + es.size * nq) + es.size * (ne + 3)) ?_) (by omega)
  dsimp only
  generalize epl : placesWithHash es.size (fun i => Option.map (fun x => x.hash) es[i]?) h = places
  have pm : ∀ i ∈ places, i < es.size := fun i hi => by
    rw [← epl] at hi
    exact places_mem hi
  have pl : places.length ≤ es.size := by
    rw [← epl]
    exact places_len
  generalize est : List.filterMap (fun i => Option.map (fun x => x.key) es[i]?) places = stored
  have sm : ∀ k ∈ stored, ∃ e ∈ es, k = e.key := fun k hk => by
    rw [← est] at hk
    obtain ⟨i, hi, e⟩ := List.mem_filterMap.mp hk
    obtain ⟨e0, h0, h1⟩ := Option.map_eq_some_iff.mp e
    exact ⟨e0, Array.mem_of_getElem? h0, h1.symm⟩
  have sl : stored.length ≤ es.size := by
    rw [← est]
    exact Nat.le_trans (List.length_filterMap_le _ _) pl
  have e1 : (Value.ref a :: stored).all carriedByValue = false := by
    rw [List.all_cons]
    rfl
  rw [if_neg (by rw [e1]; exact Bool.false_ne_true)]
  have e2 : (es.any fun e => e.key == Value.ref a && e.hash != h) = false := by
    rw [Array.any_eq_false']
    intro e hm
    obtain ⟨b, hb, nb⟩ := hne e hm
    rw [hb, ref_ne nb]
    simp
  rw [if_neg (by rw [e2]; exact Bool.false_ne_true)]
  have e3 : (stored == [Value.ref a]) = false := by
    cases stored with
    | nil => rfl
    | cons k r =>
      obtain ⟨e, hm, rfl⟩ := sm k List.mem_cons_self
      obtain ⟨b, hb, nb⟩ := hne e hm
      show (e.key == Value.ref a && _) = false
      rw [hb, ref_ne nb]
      rfl
  rw [if_neg (by rw [e3]; exact Bool.false_ne_true)]
  have le1 : nq + stored.length * nq ≤ nq + es.size * nq := Nat.add_le_add_left (Nat.mul_le_mul_right _ sl) _
  refine G.bind (G.le (G.mayTell hk fun k hk => ?_) le1) ?_
  · obtain ⟨e, hm, rfl⟩ := sm k hk
    exact hq e hm
  simp only [Bool.false_and, Bool.false_eq_true, if_false]
  have le2 : places.length * (ne + 3) + 0 ≤ es.size * (ne + 3) := Nat.mul_le_mul_right _ pl
  refine G.le (G.bind (G.turns (b := ((none : Option (Option Nat)), (none : Option Nat))) fun i hi => ?_) ?_) le2
  · have hi' : i < es.size := pm i hi
    rw [Array.getElem?_eq_getElem hi']
    dsimp only
    split
    · refine G.le (G.bind (n := ne + 2) (G.epoch ho hd) (G.le (G.bind (n := 2) (he _ (Array.getElem_mem hi')) (G.bind (n := 1) (G.epoch ho hd) ?_)) (by omega))) (by omega)
      rw [if_neg (by simp)]
      simp only [Bool.false_eq_true, if_false]
      exact G.bind (n := 0) G.rule G.pure
    · exact G.le G.pure (Nat.zero_le _)
  · exact G.pure
end
end Hh

set_option Elab.async false
set_option linter.all false
set_option maxRecDepth 100000
set_option maxHeartbeats 4000000
/-! The top with dict displays whose keys are tuples: the run, counted. -/
noncomputable section
namespace Hh
open PySem PySem.W PySem.Calls PyProof.Rows HandSHeadRun
abbrev St := SharedT → Thread → Option (SharedT × Thread)
/-- bounds of the looks at one key -/
def nQ : Nat := 600
def nE : Nat := 3000
section
variable (st : St) (prog : Program) (w : World) (n0 : Nat) (ann : Option Value) (c : Code) (B : List Frame)
/-- a look that gives b, changes nothing, in at most n steps -/
def lookF (lv : List Value → List Value) (M n : Nat) (b : Bool) (s : SharedT) (p : Pos) (x : Sem Bool) : Bool := match evT st prog w n0 ann c B lv true M 0 s p x with
  | some (k, b', _, p') => Nat.ble k n && (b' == b && decide (p' = p))
  | none => false
/-- what a hash is reduced to -/
def redI (i : Int) : Int := reduceHash i
def hashF (lv : List Value → List Value) (M : Nat) (s : SharedT) (p : Pos) (a : Addr) : Option (Nat × Int × SharedT × Pos) := match evT st prog w n0 ann c B lv false M 0 s p (cRoomFor "hash" [.ref a]) with
  | some (c1, _, s1, p1) => (match evT st prog w n0 ann c B lv false M 0 s1 p1 (specialOf (.ref a) "__hash__") with
    | some (c2, f1, s2, p2) => (match f1 == some .none with
      | false => (match evT st prog w n0 ann c B lv false M 0 s2 p2 (specialOf (.ref a) "__hash__") with
        | some (c3, some _, s3, p3) => (match evT st prog w n0 ann c B lv false M 0 s3 p3 (callSpecialIfBoundUnlessNone? (.ref a) "__hash__" (do rule "hash.unhashable"; raiseError "TypeError" s!"unhashable type: '{← typeNameOf (.ref a)}'")) with
          | some (c4, some (.int i _), s4, p4) => some (c1 + (c2 + (c3 + (c4 + 1))), redI i, s4, p4)
          | _ => none)
        | _ => none)
      | true => none)
    | none => none)
  | none => none
def setF (lv : List Value → List Value) (M : Nat) (d : Addr) (s : SharedT) (p : Pos) (key v : Value) : Option (Nat × SharedT) := match key with
  | .ref a => (match hashF st prog w n0 ann c B (held lv [.ref a, v]) M s p a with
    | some (c1, h, s1, p1) => (match getT s1 d with
      | some o => (match o.data with
        | .dict es _ => (match decide (p1 = p) && (es.toList.all (fun e => match e.key with
            | .ref b => !(Nat.beq b a)
            | _ => false) && (lookF st prog w n0 ann c B (held (held (held lv [.ref a, v]) [.ref a, v]) [.ref a]) M nQ true s1 p (eqIsQuiet 8 (.ref a)) &&
            es.toList.all (fun e => lookF st prog w n0 ann c B (held (held (held lv [.ref a, v]) [.ref a, v]) [.ref a]) M nQ true s1 p (eqIsQuiet 8 e.key) && lookF st prog w n0 ann c B (held (held (held lv [.ref a, v]) [.ref a, v]) [.ref a]) M nE false s1 p (eqBool e.key (.ref a))))) with
          | true => (match evT st prog w n0 ann c B (held (held lv [.ref a, v]) [.ref a, v]) false M 0 s1 p (updateDictKeys d (fun x => x.push ⟨h, .ref a, v⟩) (keyPart (.ref a))) with
            | some (c2, _, s2, p2) => (match decide (p2 = p) with
              | true => some (c1 + ((1 + (nQ + es.size * nQ) + es.size * (nE + 3)) + (1 + c2)), s2)
              | false => none)
            | none => none)
          | false => none)
        | _ => none)
      | none => none)
    | none => none)
  | _ => none
def loopF (lv : List Value → List Value) (M : Nat) (d : Addr) : List (Value × Value) → SharedT → Pos → Option (Nat × SharedT)
  | [], s, _ => some (0, s)
  | (k, v) :: r, s, p => match setF st prog w n0 ann c B lv M d s p k v with
    | some (c1, s1) => (match loopF lv M d r s1 p with
      | some (c2, s2) => some (c1 + c2, s2)
      | none => none)
    | none => none
def subF (lv : List Value → List Value) (M : Nat) (s : SharedT) (p : Pos) (pairs : List (Sem Value × Sem Value)) : Option (Nat × Addr × SharedT × Pos) := match Nat.ble pairs.length 15 with
  | true => (match evT st prog w n0 ann c B lv false M 0 s p (alloc { cls := .type "dict", data := .dict #[] }) with
    | some (c1, d, s1, p1) => (match evT st prog w n0 ann c B (held lv [.ref d]) false M 0 s1 p1 (evalPairs pairs) with
      | some (c2, vs, s2, p2) => (match loopF st prog w n0 ann c B (held (held lv [.ref d]) (vs.flatMap fun x => match x with | (k, v) => [k, v])) M d vs s2 p2 with
        | some (c3, s3) => some (c1 + (c2 + c3), d, s3, p2)
        | none => none)
      | none => none)
    | none => none)
  | false => none
end
section
variable {prog : Program} {w : World} {n0 : Nat} {ann : Option Value} {c : Code} {B : List Frame} {lv : List Value → List Value}
theorem lookF_ok (hB : splitAtGen B = none) {M n : Nat} {b : Bool} {s : SharedT} {p : Pos} {x : Sem Bool} (h : lookF (stepT (denote treeTable) prog w) prog w n0 ann c B lv M n b s p x = true) : G prog w n0 ann c B n lv x s.abs p b s.abs p := by
  unfold lookF at h
  cases e : evT (stepT (denote treeTable) prog w) prog w n0 ann c B lv true M 0 s p x with
  | none => rw [e] at h; cases h
  | some r =>
    obtain ⟨k, b', s', p'⟩ := r
    rw [e] at h
    dsimp only at h
    obtain ⟨h1, h2⟩ := Bool.and_eq_true_iff.mp h
    obtain ⟨h2, h3⟩ := Bool.and_eq_true_iff.mp h2
    obtain rfl := eq_of_beq h2
    obtain rfl := of_decide_eq_true h3
    obtain ⟨j, ej, g, r⟩ := evT_ok hB e
    obtain rfl := r rfl
    exact G.le g (by have := Nat.le_of_ble_eq_true h1; omega)
theorem G.reduced {i : Int} {s : Shared} {p : Pos} : G prog w n0 ann c B 1 lv (pyHashByItsType.reduced i) s p (redI i) s p := by
  unfold pyHashByItsType.reduced redI reduceHash
  dsimp only
  split
  · exact G.le G.pure (Nat.zero_le _)
  · exact G.bind (n := 0) G.rule G.pure
theorem hashF_ok (hB : splitAtGen B = none) {M : Nat} {s : SharedT} {p : Pos} {a : Addr} {k : Nat} {h : Int} {s' : SharedT} {p' : Pos} (e : hashF (stepT (denote treeTable) prog w) prog w n0 ann c B lv M s p a = some (k, h, s', p')) : G prog w n0 ann c B k lv (pyHash (.ref a)) s.abs p h s'.abs p' := by
  unfold hashF at e
  split at e
  case h_2 => cases e
  rename_i _ c1 u s1 p1 e1
  split at e
  case h_2 => cases e
  rename_i _ c2 f1 s2 p2 e2
  split at e
  case h_2 => cases e
  rename_i _ hf1
  split at e
  case h_2 => cases e
  rename_i _ c3 f2 s3 p3 e3
  split at e
  case h_2 => cases e
  rename_i _ c4 i tok s4 p4 e4
  cases e
  obtain ⟨j1, ej1, g1, _⟩ := evT_ok hB e1
  obtain ⟨j2, ej2, g2, _⟩ := evT_ok hB e2
  obtain ⟨j3, ej3, g3, _⟩ := evT_ok hB e3
  obtain ⟨j4, ej4, g4, _⟩ := evT_ok hB e4
  show G prog w n0 ann c B _ lv (pyHashByItsType (.ref a)) _ _ _ _ _
  unfold pyHashByItsType
  refine G.le (G.bind g1 (n := c2 + (c3 + (c4 + 1))) (G.le (G.bind g2 (n := c3 + (c4 + 1)) ?_) (by omega))) (by omega)
  rw [if_neg (by rw [hf1]; exact Bool.false_ne_true)]
  refine G.le (G.bind g3 (n := c4 + 1) ?_) (by omega)
  rw [if_neg (by simp)]
  refine G.le (G.bind g4 (n := 1) ?_) (by omega)
  exact G.reduced
theorem setF_ok (hB : splitAtGen B = none) {M : Nat} {d : Addr} {s : SharedT} {p : Pos} {key v : Value} {k : Nat} {s' : SharedT} (h : setF (stepT (denote treeTable) prog w) prog w n0 ann c B lv M d s p key v = some (k, s')) : G prog w n0 ann c B k lv (dictSet d key v) s.abs p () s'.abs p := by
  unfold setF at h
  split at h
  case h_2 => cases h
  rename_i _ a
  split at h
  case h_2 => cases h
  rename_i _ c1 hh s1 p1 e1
  split at h
  case h_2 => cases h
  rename_i _ o eo
  split at h
  case h_2 => cases h
  rename_i _ es ep ed
  split at h
  case h_2 => cases h
  rename_i _ hc
  split at h
  case h_2 => cases h
  rename_i _ c2 u s2 p2 e2
  split at h
  case h_2 => cases h
  rename_i _ hp2
  cases h
  obtain rfl := of_decide_eq_true hp2
  obtain ⟨hp1, hc⟩ := Bool.and_eq_true_iff.mp hc
  obtain rfl := of_decide_eq_true hp1
  obtain ⟨hn, hc⟩ := Bool.and_eq_true_iff.mp hc
  obtain ⟨hk, hq⟩ := Bool.and_eq_true_iff.mp hc
  have g1 := hashF_ok hB e1
  obtain ⟨j2, ej2, g2, _⟩ := evT_ok hB e2
  have eo' : s1.abs.heap.get? d = some o := (getT_eq s1 d).symm.trans eo
  unfold dictSet
  refine G.holding ?_
  refine G.le (G.bind g1 (n := (1 + (nQ + es.size * nQ) + es.size * (nE + 3)) + (1 + c2)) ?_) (by omega)
  unfold dictSetHashed
  refine G.holding ?_
  refine G.bind (G.find eo' ed (fun e he => ?_) (lookF_ok hB hk) (fun e he => ?_) fun e he => ?_) ?_
  · have q := List.all_eq_true.mp hn e (Array.mem_toList_iff.mpr he)
    split at q
    · rename_i b hb
      exact ⟨b, hb, fun z => by rw [z, Nat.beq_refl] at q; cases q⟩
    · cases q
  · exact lookF_ok hB (Bool.and_eq_true_iff.mp (List.all_eq_true.mp hq e (Array.mem_toList_iff.mpr he))).1
  · exact lookF_ok hB (Bool.and_eq_true_iff.mp (List.all_eq_true.mp hq e (Array.mem_toList_iff.mpr he))).2
  · exact G.bind G.rule (G.le g2 (by omega))
theorem loopF_ok (hB : splitAtGen B = none) {M : Nat} {d : Addr} : ∀ {vs : List (Value × Value)} {s : SharedT} {p : Pos} {k : Nat} {s' : SharedT}, loopF (stepT (denote treeTable) prog w) prog w n0 ann c B lv M d vs s p = some (k, s') →
    G prog w n0 ann c B k lv (forIn vs PUnit.unit fun x __s => match x with
      | (k, v) => do
        dictSet d k v
        pure (ForInStep.yield PUnit.unit)) s.abs p PUnit.unit s'.abs p
  | [], s, p, k, s', h => by
    cases h
    rw [List.forIn_nil]
    exact G.pure
  | (key, v) :: r, s, p, k, s', h => by
    unfold loopF at h
    split at h
    case h_2 => cases h
    rename_i _ c1 s1 e1
    split at h
    case h_2 => cases h
    rename_i _ c2 s2 e2
    cases h
    rw [List.forIn_cons]
    exact G.bind (m := c1) (n := c2) (G.bind (m := c1) (n := 0) (setF_ok hB e1) G.pure) (loopF_ok hB e2)
theorem subF_ok (hB : splitAtGen B = none) {M : Nat} {s : SharedT} {p : Pos} {pairs : List (Sem Value × Sem Value)} {k : Nat} {d : Addr} {s' : SharedT} {p' : Pos} (h : subF (stepT (denote treeTable) prog w) prog w n0 ann c B lv M s p pairs = some (k, d, s', p')) :
    pairs.length ≤ 15 ∧ G prog w n0 ann c B k lv (subDict pairs) s.abs p d s'.abs p' := by
  unfold subF at h
  split at h
  case h_2 => cases h
  rename_i _ hl
  split at h
  case h_2 => cases h
  rename_i _ c1 d1 s1 p1 e1
  split at h
  case h_2 => cases h
  rename_i _ c2 vs s2 p2 e2
  split at h
  case h_2 => cases h
  rename_i _ c3 s3 e3
  cases h
  have hl' := Nat.le_of_ble_eq_true hl
  obtain ⟨j1, ej1, g1, _⟩ := evT_ok hB e1
  obtain ⟨j2, ej2, g2, _⟩ := evT_ok hB e2
  refine ⟨hl', ?_⟩
  unfold subDict
  refine G.le (G.bind g1 (n := c2 + c3) ?_) (by omega)
  refine G.bind (m := c2 + c3) (n := 0) (a := ()) (G.holding ?_) G.pure
  rw [if_pos hl']
  refine G.le (G.bind g2 (n := c3) (G.holding ?_)) (by omega)
  exact G.bind (m := c3) (n := 0) (loopF_ok hB e3) G.pure
theorem few_turns {f : Option (Sem Value) × Sem Value → Option Addr × List (Sem Value × Sem Value) → Sem (ForInStep (Option Addr × List (Sem Value × Sem Value)))}
    (hf : ∀ k v main run, (run ++ [(k, v)]).length ≠ 17 → f (some k, v) (main, run) = pure (.yield (main, run ++ [(k, v)]))) : ∀ (l : List (Sem Value × Sem Value)) (main : Option Addr) (run : List (Sem Value × Sem Value)), (run ++ l).length < 17 →
      forIn (l.map fun x => (some x.1, x.2)) (main, run) f = (pure (main, run ++ l) : Sem _)
  | [], main, run, _ => by rw [List.map_nil, List.forIn_nil, List.append_nil]
  | (k, v) :: l, main, run, h => by
    rw [List.map_cons, List.forIn_cons, hf k v main run (by simp at h ⊢; omega)]
    have := few_turns hf l main (run ++ [(k, v)]) (by simpa using h)
    rw [List.append_assoc] at this
    exact this
/-- a display of few written keys is one dict, filled -/
theorem display_few {pairs : List (Sem Value × Sem Value)} (hl : pairs.length ≤ 15) (hn : pairs ≠ []) : dictDisplay (pairs.map fun x => (some x.1, x.2)) = ((subDict pairs >>= fun d => pure (some d)) >>= fun x => match x with
    | some d => pure (Value.ref d)
    | none => newDict) := by
  unfold dictDisplay
  dsimp only
  rw [few_turns (fun k v main run h => ?_) pairs none [] (by simp; omega)]
  · cases pairs with
    | nil => exact absurd rfl hn
    | cons y l => rfl
  · have h17 : ((run ++ [(k, v)]).length == 17) = false := beq_eq_false_iff_ne.mpr h
    dsimp only
    rw [if_neg (by rw [h17]; exact Bool.false_ne_true)]
def pairsOf : List (Option (Sem Value) × Sem Value) → Option (List (Sem Value × Sem Value))
  | [] => some []
  | (some k, v) :: r => (match pairsOf r with
    | some l => some ((k, v) :: l)
    | none => none)
  | (none, _) :: _ => none
theorem pairsOf_eq : ∀ {l : List (Option (Sem Value) × Sem Value)} {r : List (Sem Value × Sem Value)}, pairsOf l = some r → l = r.map fun x => (some x.1, x.2)
  | [], r, h => by cases h; rfl
  | (some k, v) :: l, r, h => by
    unfold pairsOf at h
    split at h
    case h_2 => cases h
    rename_i _ l' e
    cases h
    rw [List.map_cons, ← pairsOf_eq e]
  | (none, v) :: l, r, h => by cases h
end
section
variable (st : St) (prog : Program) (w : World) (n0 : Nat) (ann : Option Value) (c : Code) (B : List Frame)
/-- one statement that goes on: a dict display at a name by looks, any other by its values -/
def stF (M : Nat) (env : Env) (s : SharedT) (p : Pos) (x : Stmt) : Option (Nat × SharedT × Pos) := match x with
  | .Assign targets (.Dict keys values dpos) pos => (match evT st prog w n0 ann c B id false M 0 s p (standAt pos >>= fun _ => swapsWithSole targets (.Dict keys values dpos) pos.line env) with
    | some (c1, false, s1, _) => (match pairsOf ((evalEachOpt keys env).zip ((evalEach values env).map fun v => do let x ← v; standAt dpos; pure x)) with
      | some (y :: l) => (match subF st prog w n0 ann c B id M s1 dpos (y :: l) with
        | some (c2, d, s2, p2) => (match evT st prog w n0 ann c B id false M 0 s2 p2 (do assignStores env (.ref d) (← swappedStores targets (.Dict keys values dpos) env) ((assignEach targets env).map (·.2))) with
          | some (c3, .next, s3, p3) => some (c1 + 1 + (c2 + c3), s3, p3)
          | _ => none)
        | none => none)
      | _ => none)
    | _ => none)
  | x => (match evT st prog w n0 ann c B id false M 0 s p (exec x env) with
    | some (c1, .next, s1, p1) => some (c1, s1, p1)
    | _ => none)
def stsF (M : Nat) (env : Env) : List Stmt → Nat → SharedT → Pos → Option (Nat × SharedT × Pos)
  | [], cnt, s, p => some (cnt, s, p)
  | x :: r, cnt, s, p => match stF st prog w n0 ann c B M env s p x with
    | some (c1, s1, p1) => frS s1 fun s1 => frNat (cnt + c1) fun cnt => stsF M env r cnt s1 p1
    | none => none
end
/-- the top, from the boot's state -/
def topF (st : St) (prog : Program) (w : World) (n0 : Nat) (ann : Option Value) (M : Nat) (s : SharedT) : Option (Nat × SharedT) := match evT st prog w n0 ann (.builtin "claim.caller" {}) [] id false M 0 s default (moduleCode prog.main) with
  | some (c1, code, s1, p1) => (match evT st prog w n0 ann (.builtin "claim.caller" {}) [] id false M 0 s1 p1 (newBodyFrame code mainNs mainNs) with
    | some (c2, frame, s2, p2) => (match evT st prog w n0 ann (.body (behindTheImports prog) { scope := prog.main.scope, locals := mainNs, globals := mainNs, cells := [], code, frame := some frame }) [topFrame p2] id false M 0 s2 p2 (blockStart (behindTheImports prog) { scope := prog.main.scope, locals := mainNs, globals := mainNs, cells := [], code, frame := some frame }) with
      | some (c3, _, s3, p3) => (match stsF st prog w n0 ann (.body (behindTheImports prog) { scope := prog.main.scope, locals := mainNs, globals := mainNs, cells := [], code, frame := some frame }) [topFrame p2] M { scope := prog.main.scope, locals := mainNs, globals := mainNs, cells := [], code, frame := some frame } (behindTheImports prog) (c1 + (c2 + (c3 + 4))) s3 p3 with
        | some (c4, s4, _) => some (c4, s4)
        | none => none)
      | none => none)
    | none => none)
  | none => none
section
variable {prog : Program} {w : World} {n0 : Nat} {ann : Option Value} {c : Code} {B : List Frame}
theorem stF_ok (hB : splitAtGen B = none) {M : Nat} {env : Env} {s : SharedT} {p : Pos} {x : Stmt} {k : Nat} {s' : SharedT} {p' : Pos} (h : stF (stepT (denote treeTable) prog w) prog w n0 ann c B M env s p x = some (k, s', p')) :
    G prog w n0 ann c B k id (exec x env) s.abs p .next s'.abs p' := by
  unfold stF at h
  split at h
  · rename_i targets keys values dpos pos
    split at h
    case h_2 => cases h
    rename_i _ c1 s1 p1 e1
    split at h
    case h_2 => cases h
    rename_i _ y l e2
    split at h
    case h_2 => cases h
    rename_i _ c2 d s2 p2 e3
    split at h
    case h_2 => cases h
    rename_i _ c3 s3 p3 e4
    cases h
    obtain ⟨j1, ej1, g1, _⟩ := evT_ok hB e1
    obtain ⟨hl, g2⟩ := subF_ok hB e3
    obtain ⟨j3, ej3, g3, _⟩ := evT_ok hB e4
    have ge : exec (.Assign targets (.Dict keys values dpos) pos) env = (standAt pos >>= fun _ => swapsWithSole targets (.Dict keys values dpos) pos.line env) >>= fun b => (if b = true then (do
        evalThenUse (.Dict keys values dpos) env fun v => assignAll v ((assignEach targets env).map (·.2))
        pure .next) else do
        let v ← eval (.Dict keys values dpos) env
        assignStores env v (← swappedStores targets (.Dict keys values dpos) env) ((assignEach targets env).map (·.2))) := by
      rfl
    rw [ge]
    refine G.le (G.bind g1 (n := 1 + (c2 + c3)) ?_) (by omega)
    rw [if_neg Bool.false_ne_true]
    have gv : eval (.Dict keys values dpos) env = (standAt dpos >>= fun _ => dictDisplay ((evalEachOpt keys env).zip ((evalEach values env).map fun v => do let x ← v; standAt dpos; pure x))) := rfl
    rw [gv, pairsOf_eq e2, display_few hl (by simp)]
    refine G.le (G.bind (m := 1 + c2) (n := c3) (a := .ref d) (s' := s2.abs) (p' := p2) (G.bind (m := 1) (n := c2) (a := ()) (s' := s1.abs) (p' := dpos) ?_ (G.bind (m := c2) (n := 0) (a := some d) (G.bind (m := c2) (n := 0) g2 G.pure) G.pure)) (G.le g3 (by omega))) (by omega)
    exact G.step1 (m := 0) (y := .pure ()) G.pure fun K H => ⟨thr rfl, stepOk_calm rfl, rfl⟩
  · split at h
    case h_2 => cases h
    rename_i _ c1 s1 p1 e1
    cases h
    obtain ⟨j1, ej1, g1, _⟩ := evT_ok hB e1
    exact G.le g1 (by omega)
theorem stsF_ok (hB : splitAtGen B = none) {M : Nat} {env : Env} : ∀ {l : List Stmt} {cnt : Nat} {s : SharedT} {p : Pos} {k : Nat} {s' : SharedT} {p' : Pos}, stsF (stepT (denote treeTable) prog w) prog w n0 ann c B M env l cnt s p = some (k, s', p') →
    ∃ j, k = cnt + j ∧ G prog w n0 ann c B j id (execs l env) s.abs p .next s'.abs p'
  | [], cnt, s, p, k, s', p', h => by
    cases h
    exact ⟨0, rfl, G.pure⟩
  | x :: l, cnt, s, p, k, s', p', h => by
    unfold stsF at h
    split at h
    case h_2 => cases h
    rename_i _ c1 s1 p1 e1
    rw [frS_eq, frNat_eq] at h
    obtain ⟨j, ej, g⟩ := stsF_ok hB h
    exact ⟨c1 + j, by omega, G.bind (stF_ok hB e1) g⟩
theorem topF_ok {M : Nat} {s : SharedT} {k : Nat} {s' : SharedT} (h : topF (stepT (denote treeTable) prog w) prog w n0 ann M s = some (k, s')) : topRun treeTable prog w n0 ann k s.abs (topStub prog) = some s'.abs := by
  unfold topF at h
  split at h
  case h_2 => cases h
  rename_i _ c1 code s1 p1 e1
  split at h
  case h_2 => cases h
  rename_i _ c2 frame s2 p2 e2
  split at h
  case h_2 => cases h
  rename_i _ c3 u s3 p3 e3
  split at h
  case h_2 => cases h
  rename_i _ c4 s4 p4 e4
  cases h
  obtain ⟨j1, ej1, g1, _⟩ := evT_ok (B := []) rfl e1
  obtain ⟨j2, ej2, g2, _⟩ := evT_ok (B := []) rfl e2
  obtain ⟨j3, ej3, g3, _⟩ := evT_ok (B := [topFrame p2]) rfl e3
  obtain ⟨j4, ej4, g4⟩ := stsF_ok (B := [topFrame p2]) rfl e4
  have z : topStub prog = ⟨(moduleCode prog.main >>= fun code => newBodyFrame code mainNs mainNs >>= fun frame => run (.body (behindTheImports prog) { scope := prog.main.scope, locals := mainNs, globals := mainNs, cells := [], code, frame := some frame }) >>= fun _ => ret .none : Sem Fin),
      .builtin "claim.caller" {}, default, []⟩ := rfl
  rw [z, Sem.bind_eq_wrap']
  have q := g1 (fun code => newBodyFrame code mainNs mainNs >>= fun frame => run (.body (behindTheImports prog) { scope := prog.main.scope, locals := mainNs, globals := mainNs, cells := [], code, frame := some frame }) >>= fun _ => ret .none) .raise (j2 + (1 + (j3 + (j4 + 3)))) s'.abs ?_
  · exact topRun_le q (by omega)
  rw [Sem.bind_eq_wrap']
  refine g2 _ .raise (1 + (j3 + (j4 + 3))) s'.abs ?_
  have r3 := g3 (fun _ => (execs (behindTheImports prog) { scope := prog.main.scope, locals := mainNs, globals := mainNs, cells := [], code, frame := some frame }).wrap doneF (leaveH { scope := prog.main.scope, locals := mainNs, globals := mainNs, cells := [], code, frame := some frame }) id id) .raise (j4 + 3) s'.abs
    (g4 doneF (leaveH { scope := prog.main.scope, locals := mainNs, globals := mainNs, cells := [], code, frame := some frame }) 3 s'.abs ?_)
  · rw [← body_wrap] at r3
    rw [show 1 + (j3 + (j4 + 3)) = j3 + (j4 + 3) + 1 by omega]
    exact r3
  · rfl
end
end Hh

set_option Elab.async false
set_option linter.all false
set_option maxRecDepth 100000
set_option maxHeartbeats 4000000
/-! A law's head over a top with tables by tuples of texts: head_hash. -/
noncomputable section
namespace Hh
open PySem PySem.W PySem.Calls PyProof.Rows HandSHeadRun
/-- the state behind the top, from the boot, with the steps counted -/
def endH (st : St) (F : Nat) (p : Program) (w : World) (os : OsState) : Option (Nat × SharedT) := match putAll (boot_heap w.params).objs.toList .nil 0 with
  | some (t, n) => frNat n fun n0 => topF st p w n0 (bootAnn w) F (bootT w os (t, n0))
  | none => none
theorem endH_ok {F : Nat} {p : Program} {w : World} {os : OsState} {k : Nat} {s : SharedT} (h : endH (stepT (denote treeTable) p w) F p w os = some (k, s)) :
    topRun treeTable p w (boot_heap w.params).objs.size (bootAnn w) k ⟨boot_heap w.params, #[], boot_drawn, boot_toks, os⟩ (topStub p) = some s.abs := by
  unfold endH at h
  split at h
  case h_2 => cases h
  rename_i _ t n e
  rw [frNat_eq] at h
  have q := topF_ok h
  have eh := putAll_heap e
  have en : (boot_heap w.params).objs.size = n := by
    rw [← eh]
    exact absHeap_size t n _
  have eb : (bootT w os (t, n)).abs = ⟨boot_heap w.params, #[], boot_drawn, boot_toks, os⟩ := by
    show (⟨absHeap t n (boot_heap w.params).life, #[], boot_drawn, boot_toks, os⟩ : Shared) = _
    rw [eh]
  rw [eb] at q
  rw [en]
  exact q
theorem left_hash {p q : Program} {loose : List Str} {Xt : Shared → Bool} {α : Type} {Yf : Shared → α} {Ya : World → α} {N M F : Nat} (row : String)
    (e : opening p = plainProg p.main.scope.names) (hN : Nat.ble 600 N = true) (f : ∀ s, fenceModules? p s = some s) (le : Nat.ble M N = true)
    (run : ∀ (w : World) (b : Bool) (os : OsState), (endH (stepT (denote treeTable) p (w.withFollow row b)) F p (w.withFollow row b) os).map (fun x => (Nat.ble x.1 M, looksF p (boot_heap (w.withFollow row b).params) x.2.abs, openSeen q loose (importedModules p.main.body) Xt true x.2.abs, Yf x.2.abs)) = some (true, true, openGood q loose, Ya (w.withFollow row b))) :
    LeftO p q loose Xt Yf Ya N true := fun w => by
  obtain ⟨⟨h, gs, d, k, os⟩, a, a'⟩ := Option.map_eq_some_iff.mp (boot_open e hN f w)
  obtain ⟨rfl, rfl, rfl, rfl⟩ : h = boot_heap w.params ∧ gs = Array.mk [] ∧ d = boot_drawn ∧ k = boot_toks := by simpa using a'
  have rw_ := run w (w.params.followText row) os
  rw [World.withFollow_self] at rw_
  obtain ⟨⟨k, s⟩, hs, hv⟩ := Option.map_eq_some_iff.mp rw_
  obtain ⟨l0, l1, l2, l3⟩ : _ ∧ _ ∧ _ ∧ _ := by simpa only [Prod.mk.injEq] using hv
  have r := topRun_le (endH_ok hs) (Nat.le_trans (Nat.le_of_ble_eq_true l0) (Nat.le_of_ble_eq_true le))
  have l1' : (staticsOk (importedModules p.main.body) (boot_heap w.params) s.abs.heap && namesBound p s.abs.heap && gensDone s.abs && laidKept (boot_heap w.params) s.abs.heap) = true := l1
  have t : topFrom treeTable p w N ⟨boot_heap w.params, Array.mk [], boot_drawn, boot_toks, os⟩ = some s.abs := by
    unfold topFrom
    dsimp only
    rw [boot_ns]
    show (topRun treeTable p w (boot_heap w.params).objs.size (bootAnn w) N ⟨boot_heap w.params, #[], boot_drawn, boot_toks, os⟩ (topStub p)).bind _ = _
    rw [r]
    show (match staticsOk (importedModules p.main.body) (boot_heap w.params) s.abs.heap && namesBound p s.abs.heap && gensDone s.abs && laidKept (boot_heap w.params) s.abs.heap with | true => some s.abs | false => none) = _
    rw [l1']
  unfold openEnds
  rw [a]
  show (topFrom treeTable p w N _).map _ = _
  rw [t]
  exact congrArg some (Prod.ext l2 l3)
theorem endHQ_eq (F : Nat) (p : Program) (w : World) (os : OsState) : endH (stepT (denote treeTable) p w) F p w os = endH (stepQ (denQ tabQ) p w) F p w os := by
  rw [stepQ_eq, denQ_eq, tabQ_eq]
/-- the run's equation at a world -/
def RunEqH (r : OpenRow) (q : Program) (H : Hook) (ob : SharedT → H.α) (F M : Nat) (loose : List PySem.Str) (w : World) : Prop :=
  ∀ os : OsState, (endH (stepQ (denQ tabQ) r.prog w) F r.prog w os).map (fun x => (Nat.ble x.1 M, looksF r.prog (boot_heap w.params) x.2.abs, seenQ q loose (importedModules r.prog.main.body) (fun s => xlAt q [] s && recOk r.toRowW.records s) x.2.abs, ob x.2)) = some (true, true, openGood q loose, H.val w)
theorem head_hash {r : OpenRow} {q : Program} {H : Hook} {ob : SharedT → H.α} {F M : Nat} {loose : List PySem.Str} {d : DefRec} {kwd : List (PySem.Str × PySem.Expr)} (row : String) (ho : ∀ s : SharedT, ob s = H.obs s.abs)
    (e : opening r.prog = plainProg r.prog.main.scope.names) (f : ∀ s, fenceModules? r.prog s = some s) (run : ∀ (w : World) (b : Bool), RunEqH r q H ob F M loose (w.withFollow row b))
    (hdef : defOf q r.name = some (d, kwd)) (hp : r.prog.theDef r.name = some (d.params, d.body, d.scope)) (hk : kwWritten? d.params.kwonlyargs d.params.kw_defaults = some kwd)
    (hwr : (!r.writes || r.records.isEmpty) = true) (k1 : r.wellSaid = true) (ok : (chainsOk q && opensWell r.prog && (frees r.toRowW && r.within.isEmpty)) = true) (hb : r.prog.bare) (hw : r.toRowW.promised)
    (call : WalkO q loose (XL q []) H.says r.toRowW d kwd fun f vs => PySem.call f vs) : r.Holds := by
  have left : LeftO r.prog q loose (fun s => xlAt q [] s && recOk r.toRowW.records s) H.obs H.val (M + 600) true :=
    left_hash (M := M) (F := F) row e (Nat.ble_eq_true_of_le (by omega)) f (Nat.ble_eq_true_of_le (by omega)) fun (w : World) (b : Bool) os => by
      have z := run w b os
      have eo : ob = fun s => H.obs s.abs := funext ho
      rw [eo] at z
      simp only [endHQ_eq, seenQ_eq]
      exact z
  exact holds_open (r := r) (q := q) (loose := loose) (XP := XL q []) (YP := H.says) (d := d) (kwd := kwd) left H.of H.keeps (fun s z => xl_of s (Bool.and_eq_true_iff.mp z).1) XL.keeps hdef hp hk (fun s z => recFacts_of (Bool.and_eq_true_iff.mp z).2) hwr k1 ok hb hw call
end Hh

set_option Elab.async false
set_option linter.all false
set_option maxRecDepth 100000
set_option maxHeartbeats 4000000
/-! The data machine: values W, a store of cells, readings over them that know no address. -/
namespace Dm
open PySem PySem.Spec PyProof.Rows L2

/-! ### values and cells -/
inductive W where
  | non | bl (b : Bool) | int (i : Int) | str (x : Str) | ty (n : String) | tup (ws : List W) | cell (k : Nat) | ref (a : Addr) | xr (a : Addr) (d : Option Addr) (dk : Option Nat) | rng (lo hi : Int) | ktp (ws : List W)
inductive Cell where
  | dead | lst (ws : List W) | rol (ws : List W) | dct (kvs : List (Key × W))
  | exc (C : Addr) | exr (C : Addr) (j : Nat) | exf (fs : List (Str × W)) | xd (fs : List (Str × W))

/-- where an exception's dict lies -/
def dkR (θ : List Addr) : Option Nat → Option Addr → Prop
  | none, none => True
  | some k, some a => θ[k]? = some a
  | _, _ => False
mutual
inductive RW (K : PySem.W.Frag) (F : Hp) (θ : List Addr) : V → W → Prop
  | non : RW K F θ .non .non
  | bl (b : Bool) : RW K F θ (.bl b) (.bl b)
  | int (i : Int) : RW K F θ (.int i) (.int i)
  | str (x : Str) : RW K F θ (.str x) (.str x)
  | ty (n : String) : RW K F θ (.ty n) (.ty n)
  | tup {a : Addr} {vs : List V} {ws : List W} : SqT K F a vs → RWs K F θ vs ws → RW K F θ (.ref a) (.tup ws)
  | cell {k : Nat} {a : Addr} : θ[k]? = some a → RW K F θ (.ref a) (.cell k)
  | ref (a : Addr) : RW K F θ (.ref a) (.ref a)
  | xr {a : Addr} {d : Option Addr} {dk : Option Nat} : dkR θ dk d → RW K F θ (.ref a) (.xr a d dk)
  | rng {a : Addr} {lo hi : Int} : F a = some (.rng lo hi) → RW K F θ (.ref a) (.rng lo hi)
  | ktp {a : Addr} {o : Obj} {vs : List V} {ws : List W} : F a = some (.frz o (.tup vs)) → o.dict = none → RWs K F θ vs ws → RW K F θ (.ref a) (.ktp ws)
inductive RWs (K : PySem.W.Frag) (F : Hp) (θ : List Addr) : List V → List W → Prop
  | nil : RWs K F θ [] []
  | cons {v : V} {vs : List V} {w : W} {ws : List W} : RW K F θ v w → RWs K F θ vs ws → RWs K F θ (v :: vs) (w :: ws)
end
/-- what is frozen, and where the cells lie, only grows -/
structure Gr (F : Hp) (θ : List Addr) (F' : Hp) (θ' : List Addr) : Prop where
  fz : ∀ a o, F a = some o → F' a = some o
  th : ∃ m, θ' = θ ++ m
theorem Gr.refl {F : Hp} {θ : List Addr} : Gr F θ F θ := ⟨fun _ _ h => h, [], by simp⟩
theorem Gr.trans {F F1 F2 : Hp} {θ θ1 θ2 : List Addr} (a : Gr F θ F1 θ1) (b : Gr F1 θ1 F2 θ2) : Gr F θ F2 θ2 := by
  obtain ⟨m, e⟩ := a.th
  obtain ⟨n, e2⟩ := b.th
  exact ⟨fun x o h => b.fz x o (a.fz x o h), m ++ n, by rw [e2, e, List.append_assoc]⟩
theorem Gr.at {F F' : Hp} {θ θ' : List Addr} (g : Gr F θ F' θ') {k : Nat} {a : Addr} (h : θ[k]? = some a) : θ'[k]? = some a := by
  obtain ⟨m, e⟩ := g.th
  rw [e, List.getElem?_append_left (List.getElem?_eq_some_iff.mp h).1]
  exact h
theorem dkR.mono {F F' : Hp} {θ θ' : List Addr} (g : Gr F θ F' θ') {dk : Option Nat} {d : Option Addr} (h : dkR θ dk d) : dkR θ' dk d := by
  cases dk <;> cases d
  · exact True.intro
  · exact h.elim
  · exact h.elim
  · exact g.at h
theorem sqT_fz {K : PySem.W.Frag} {F F' : Hp} {a : Addr} {xs : List V} (e : ∀ a o, F a = some o → F' a = some o) (h : SqT K F a xs) : SqT K F' a xs := by
  rcases h with (h | ⟨o, h⟩) | h
  · exact .inl (.inl (e _ _ h))
  · exact .inl (.inr ⟨o, e _ _ h⟩)
  · exact .inr h
mutual
theorem RW.mono {K : PySem.W.Frag} {F F' : Hp} {θ θ' : List Addr} (g : Gr F θ F' θ') : ∀ {v : V} {w : W}, RW K F θ v w → RW K F' θ' v w
  | _, _, .non => .non
  | _, _, .bl b => .bl b
  | _, _, .int i => .int i
  | _, _, .str x => .str x
  | _, _, .ty n => .ty n
  | _, _, .tup h r => .tup (sqT_fz g.fz h) (RWs.mono g r)
  | _, _, .cell h => .cell (g.at h)
  | _, _, .ref a => .ref a
  | _, _, .xr h => .xr (h.mono g)
  | _, _, .rng h => .rng (g.fz _ _ h)
  | _, _, .ktp h d r => .ktp (g.fz _ _ h) d (RWs.mono g r)
theorem RWs.mono {K : PySem.W.Frag} {F F' : Hp} {θ θ' : List Addr} (g : Gr F θ F' θ') : ∀ {v : List V} {w : List W}, RWs K F θ v w → RWs K F' θ' v w
  | _, _, .nil => .nil
  | _, _, .cons r t => .cons (RW.mono g r) (RWs.mono g t)
end
section
variable {K : PySem.W.Frag} {F : Hp} {θ : List Addr}
theorem RWs.length : ∀ {vs : List V} {ws : List W}, RWs K F θ vs ws → vs.length = ws.length
  | _, _, .nil => rfl
  | _, _, .cons _ t => by rw [List.length_cons, List.length_cons, RWs.length t]
theorem RWs.get : ∀ {vs : List V} {ws : List W} {i : Nat} {w : W}, RWs K F θ vs ws → ws[i]? = some w → ∃ v, vs[i]? = some v ∧ RW K F θ v w
  | _, _, _, _, .nil, e => by simp at e
  | _, _, 0, _, .cons r _, e => by simp at e; subst e; exact ⟨_, rfl, r⟩
  | _, _, i + 1, w, .cons _ t, e => by
    obtain ⟨v, h1, h2⟩ := RWs.get (i := i) (w := w) t (by simpa using e)
    exact ⟨v, by simpa using h1, h2⟩
theorem RWs.getV : ∀ {vs : List V} {ws : List W} {i : Nat} {v : V}, RWs K F θ vs ws → vs[i]? = some v → ∃ w, ws[i]? = some w ∧ RW K F θ v w
  | _, _, _, _, .nil, e => by simp at e
  | _, _, 0, _, .cons r _, e => by simp at e; subst e; exact ⟨_, rfl, r⟩
  | _, _, i + 1, v, .cons _ t, e => by
    obtain ⟨w, h1, h2⟩ := RWs.getV (i := i) (v := v) t (by simpa using e)
    exact ⟨w, by simpa using h1, h2⟩
theorem RWs.append : ∀ {vs us : List V} {ws zs : List W}, RWs K F θ vs ws → RWs K F θ us zs → RWs K F θ (vs ++ us) (ws ++ zs)
  | _, _, _, _, .nil, s => s
  | _, _, _, _, .cons r t, s => .cons r (RWs.append t s)
theorem RWs.set {v : V} {w : W} (r : RW K F θ v w) : ∀ {vs : List V} {ws : List W} (i : Nat), RWs K F θ vs ws → RWs K F θ (vs.set i v) (ws.set i w)
  | _, _, _, .nil => .nil
  | _, _, 0, .cons _ t => .cons r t
  | _, _, i + 1, .cons q t => .cons q (RWs.set r i t)
theorem RWs.erase : ∀ {vs : List V} {ws : List W} (i : Nat), RWs K F θ vs ws → RWs K F θ (vs.eraseIdx i) (ws.eraseIdx i)
  | _, _, _, .nil => .nil
  | _, _, 0, .cons _ t => t
  | _, _, i + 1, .cons q t => .cons q (RWs.erase i t)
theorem RWs.take : ∀ {vs : List V} {ws : List W} (n : Nat), RWs K F θ vs ws → RWs K F θ (vs.take n) (ws.take n)
  | _, _, 0, _ => .nil
  | _, _, _ + 1, .nil => .nil
  | _, _, n + 1, .cons r t => .cons r (RWs.take n t)
theorem RWs.drop : ∀ {vs : List V} {ws : List W} (n : Nat), RWs K F θ vs ws → RWs K F θ (vs.drop n) (ws.drop n)
  | _, _, 0, r => r
  | _, _, _ + 1, .nil => .nil
  | _, _, n + 1, .cons _ t => RWs.drop n t
theorem RWs.ints {ns : List Int} : RWs K F θ (ns.map V.int) (ns.map W.int) := by
  induction ns with
  | nil => exact .nil
  | cons n r ih => exact .cons (.int n) ih
theorem RW.int_inv {v : V} {i : Int} (r : RW K F θ v (.int i)) : v = .int i := by cases r; rfl
theorem RW.bl_inv {v : V} {b : Bool} (r : RW K F θ v (.bl b)) : v = .bl b := by cases r; rfl
theorem RW.str_inv {v : V} {x : Str} (r : RW K F θ v (.str x)) : v = .str x := by cases r; rfl
theorem RW.non_inv {v : V} (r : RW K F θ v .non) : v = .non := by cases r; rfl
theorem RW.ty_inv {v : V} {n : String} (r : RW K F θ v (.ty n)) : v = .ty n := by cases r; rfl
theorem RW.tup_inv {v : V} {ws : List W} (r : RW K F θ v (.tup ws)) : ∃ a vs, v = .ref a ∧ SqT K F a vs ∧ RWs K F θ vs ws := by
  cases r with
  | tup h q => exact ⟨_, _, rfl, h, q⟩
theorem RW.cell_inv {v : V} {k : Nat} (r : RW K F θ v (.cell k)) : ∃ a, v = .ref a ∧ θ[k]? = some a := by
  cases r with
  | cell h => exact ⟨_, rfl, h⟩
theorem RWs.one_inv {vs : List V} {w : W} (r : RWs K F θ vs [w]) : ∃ v, vs = [v] ∧ RW K F θ v w := by
  cases r with
  | cons a b => cases b; exact ⟨_, rfl, a⟩
theorem RWs.two_inv {vs : List V} {w z : W} (r : RWs K F θ vs [w, z]) : ∃ v u, vs = [v, u] ∧ RW K F θ v w ∧ RW K F θ u z := by
  cases r with
  | cons a b =>
    obtain ⟨u, e, c⟩ := b.one_inv
    subst e
    exact ⟨_, _, rfl, a, c⟩
end

/-! ### the store over the heap -/
abbrev Sto := List Cell
def KvR (K : PySem.W.Frag) (F : Hp) (θ : List Addr) : List (Key × V) → List (Key × W) → Prop := Paired fun p q => p.1 = q.1 ∧ RW K F θ p.2 q.2
def FsR (K : PySem.W.Frag) (F : Hp) (θ : List Addr) : List (Str × V) → List (Str × W) → Prop := Paired fun p q => p.1 = q.1 ∧ RW K F θ p.2 q.2
def CellOk (K : PySem.W.Frag) (F H : Hp) (θ : List Addr) (a : Addr) : Cell → Prop
  | .dead => True
  | .lst ws => F a = none ∧ ∃ vs, H a = some (.lst vs) ∧ RWs K F θ vs ws
  | .rol ws => F a = none ∧ ∃ o vs, H a = some (.frz o (.lst vs)) ∧ RWs K F θ vs ws
  | .dct kvs => F a = none ∧ ∃ vs, H a = some (.dK vs) ∧ KvR K F θ vs kvs
  | .exc C => F a = none ∧ H a = some (ExO (.ref C) a)
  | .exr C j => F a = none ∧ ∃ d, θ[j]? = some d ∧ H a = some (exo a C (some d))
  | .exf fs => F a = none ∧ ∃ vs, H a = some (exd a vs) ∧ FsR K F θ vs fs
  | .xd fs => F a = none ∧ ∃ vs, H a = some (.xd vs) ∧ FsR K F θ vs fs
structure Jn (K : PySem.W.Frag) (F H : Hp) (θ : List Addr) (O : Sto) : Prop where
  sub : ∀ a o, F a = some o → H a = some o
  len : θ.length = O.length
  nd : θ.Nodup
  ok : ∀ (k : Nat) (a : Addr) (c : Cell), θ[k]? = some a → O[k]? = some c → CellOk K F H θ a c
  kno : ∀ (k : Nat) (a : Addr), θ[k]? = some a → H a ≠ none
section
variable {K : PySem.W.Frag} {F F' H H' : Hp} {θ θ' : List Addr} {O : Sto}
theorem KvR.mono (g : Gr F θ F' θ') {vs : List (Key × V)} {kvs : List (Key × W)} (h : KvR K F θ vs kvs) : KvR K F' θ' vs kvs := Paired.mapP h fun _ _ r => ⟨r.1, r.2.mono g⟩
theorem FsR.mono (g : Gr F θ F' θ') {vs : List (Str × V)} {fs : List (Str × W)} (h : FsR K F θ vs fs) : FsR K F' θ' vs fs := Paired.mapP h fun _ _ r => ⟨r.1, r.2.mono g⟩
theorem nd_at {α : Type} {l : List α} (hN : l.Nodup) {i j : Nat} {x : α} (a : l[i]? = some x) (b : l[j]? = some x) : i = j := by
  obtain ⟨h1, e1⟩ := List.getElem?_eq_some_iff.mp a
  obtain ⟨h2, e2⟩ := List.getElem?_eq_some_iff.mp b
  exact (List.getElem_inj hN).mp (e1.trans e2.symm)
/-- what a cell says stays true where its own object stays and what is frozen grows elsewhere -/
theorem CellOk.stay {a : Addr} {c : Cell} (x : CellOk K F H θ a c) (g : Gr F θ F' θ') (hF : F a = none → H a ≠ none → F' a = none) (hH : ∀ o, H a = some o → H' a = some o) : CellOk K F' H' θ' a c := by
  cases c with
  | dead => exact True.intro
  | lst ws =>
    obtain ⟨f, vs, e, r⟩ := x
    exact ⟨hF f (by rw [e]; simp), vs, hH _ e, r.mono g⟩
  | rol ws =>
    obtain ⟨f, o, vs, e, r⟩ := x
    exact ⟨hF f (by rw [e]; simp), o, vs, hH _ e, r.mono g⟩
  | dct kvs =>
    obtain ⟨f, vs, e, r⟩ := x
    exact ⟨hF f (by rw [e]; simp), vs, hH _ e, r.mono g⟩
  | exc C =>
    obtain ⟨f, e⟩ := x
    exact ⟨hF f (by rw [e]; simp), hH _ e⟩
  | exr C i =>
    obtain ⟨f, d, t, e⟩ := x
    exact ⟨hF f (by rw [e]; simp), d, g.at t, hH _ e⟩
  | exf fs =>
    obtain ⟨f, vs, e, r⟩ := x
    exact ⟨hF f (by rw [e]; simp), vs, hH _ e, r.mono g⟩
  | xd fs =>
    obtain ⟨f, vs, e, r⟩ := x
    exact ⟨hF f (by rw [e]; simp), vs, hH _ e, r.mono g⟩
theorem Gr.upd {p : Addr} {o : HO} (h : F p = none) : Gr F θ (L2.upd F p o) θ := ⟨fun a u e => by
  rw [upd_ne (ne_of_none e h)]
  exact e, [], by simp⟩
theorem Gr.push {p : Addr} : Gr F θ F (θ ++ [p]) := ⟨fun _ _ e => e, [p], rfl⟩
theorem Jn.freeF (j : Jn K F H θ O) {p : Addr} (h : H p = none) : F p = none := by
  cases e : F p with
  | none => rfl
  | some o => rw [j.sub p o e] at h; cases h
theorem Jn.nin (j : Jn K F H θ O) {p : Addr} (h : H p = none) {k : Nat} {a : Addr} (e : θ[k]? = some a) : a ≠ p := fun z => by
  subst z
  exact j.kno k a e h
/-- a new tuple -/
theorem Jn.newT (j : Jn K F H θ O) {p : Addr} {vs : List V} (h : H p = none) : Jn K (L2.upd F p (.tup vs)) (L2.upd H p (.tup vs)) θ O := by
  refine ⟨fun a o e => ?_, j.len, j.nd, fun k a c e1 e2 => ?_, fun k a e => ?_⟩
  · by_cases q : a = p
    · subst q
      rw [upd_same] at e ⊢
      exact e
    · rw [upd_ne q] at e ⊢
      exact j.sub a o e
  · have q := j.nin h e1
    exact (j.ok k a c e1 e2).stay (Gr.upd (j.freeF h)) (fun f _ => by rw [upd_ne q]; exact f) fun o e => by rw [upd_ne q]; exact e
  · rw [upd_ne (j.nin h e)]
    exact j.kno k a e
/-- a new list, a cell of its own -/
theorem Jn.newC (j : Jn K F H θ O) {p : Addr} {o : HO} {c : Cell} (h : H p = none) (hc : CellOk K F (L2.upd H p o) (θ ++ [p]) p c) : Jn K F (L2.upd H p o) (θ ++ [p]) (O ++ [c]) := by
  refine ⟨fun a u e => ?_, by rw [List.length_append, List.length_append, j.len]; rfl, ?_, fun k a d e1 e2 => ?_, fun k a e => ?_⟩
  · rw [upd_ne (ne_of_none (j.sub a u e) h)]
    exact j.sub a u e
  · rw [List.nodup_append]
    refine ⟨j.nd, by simp, fun a ha b hb z => ?_⟩
    obtain ⟨k, hk⟩ := List.getElem?_of_mem ha
    rw [List.mem_singleton] at hb
    exact j.nin h hk (z.trans hb)
  · by_cases q : k < θ.length
    · rw [List.getElem?_append_left q] at e1
      rw [List.getElem?_append_left (by rw [← j.len]; exact q)] at e2
      have n := j.nin h e1
      exact (j.ok k a d e1 e2).stay Gr.push (fun f _ => f) fun o e => by rw [upd_ne n]; exact e
    · rw [List.getElem?_append_right (by omega)] at e1
      rw [List.getElem?_append_right (by rw [← j.len]; omega)] at e2
      have z : k - θ.length = 0 := by
        have := (List.getElem?_eq_some_iff.mp e1).1
        simp at this
        omega
      rw [z] at e1
      rw [← j.len, z] at e2
      simp at e1 e2
      subst e1
      subst e2
      exact hc
  · by_cases q : k < θ.length
    · rw [List.getElem?_append_left q] at e
      rw [upd_ne (j.nin h e)]
      exact j.kno k a e
    · rw [List.getElem?_append_right (by omega)] at e
      have z : a = p := by
        have hk := (List.getElem?_eq_some_iff.mp e).1
        have z : k - θ.length = 0 := by simp at hk; omega
        rw [z] at e
        simpa using e.symm
      rw [z, upd_same]
      simp
theorem Jn.newL (j : Jn K F H θ O) {p : Addr} {vs : List V} {ws : List W} (h : H p = none) (r : RWs K F θ vs ws) : Jn K F (L2.upd H p (.lst vs)) (θ ++ [p]) (O ++ [.lst ws]) :=
  j.newC h ⟨j.freeF h, vs, upd_same, r.mono Gr.push⟩
/-- a cell is written -/
theorem Jn.put (j : Jn K F H θ O) {k : Nat} {a : Addr} {o : HO} {c : Cell} (e : θ[k]? = some a) (f : F a = none) (hc : CellOk K F (L2.upd H a o) θ a c) : Jn K F (L2.upd H a o) θ (O.set k c) := by
  refine ⟨fun b u q => ?_, by rw [List.length_set]; exact j.len, j.nd, fun i b d e1 e2 => ?_, fun i b q => ?_⟩
  · rw [upd_ne (ne_of_none q f)]
    exact j.sub b u q
  · by_cases q : i = k
    · subst q
      rw [e] at e1
      cases e1
      have hl : i < O.length := by
        rw [← j.len]
        exact (List.getElem?_eq_some_iff.mp e).1
      rw [List.getElem?_set_self hl] at e2
      cases e2
      exact hc
    · rw [List.getElem?_set_ne (Ne.symm q)] at e2
      have n : b ≠ a := fun z => by
        subst z
        exact q (nd_at j.nd e1 e)
      exact (j.ok i b d e1 e2).stay Gr.refl (fun z _ => z) fun u z => by rw [upd_ne n]; exact z
  · by_cases n : b = a
    · rw [n, upd_same]
      simp
    · rw [upd_ne n]
      exact j.kno i b q
theorem Jn.putL (j : Jn K F H θ O) {k : Nat} {a : Addr} {vs : List V} {ws : List W} (e : θ[k]? = some a) (f : F a = none) (r : RWs K F θ vs ws) : Jn K F (L2.upd H a (.lst vs)) θ (O.set k (.lst ws)) :=
  j.put e f ⟨f, vs, upd_same, r⟩
/-- what a list cell says -/
theorem Jn.lst (j : Jn K F H θ O) {k : Nat} {a : Addr} {ws : List W} (e : θ[k]? = some a) (c : O[k]? = some (.lst ws)) : F a = none ∧ ∃ vs, H a = some (.lst vs) ∧ RWs K F θ vs ws := j.ok k a _ e c
theorem Jn.rol (j : Jn K F H θ O) {k : Nat} {a : Addr} {ws : List W} (e : θ[k]? = some a) (c : O[k]? = some (.rol ws)) : F a = none ∧ ∃ o vs, H a = some (.frz o (.lst vs)) ∧ RWs K F θ vs ws := j.ok k a _ e c
theorem sqT_sub (j : Jn K F H θ O) {a : Addr} {xs : List V} (h : SqT K F a xs) : SqT K H a xs := sqT_fz j.sub h
/-- a list that may be read -/
def LstC (O : Sto) (k : Nat) (ws : List W) : Prop := O[k]? = some (.lst ws) ∨ O[k]? = some (.rol ws)
theorem Jn.lstC (j : Jn K F H θ O) {k : Nat} {a : Addr} {ws : List W} (e : θ[k]? = some a) (c : LstC O k ws) : ∃ vs, SqL K H a vs ∧ RWs K F θ vs ws := by
  rcases c with c | c
  · obtain ⟨_, vs, h, r⟩ := j.lst e c
    exact ⟨vs, .inl (.inl h), r⟩
  · obtain ⟨_, o, vs, h, r⟩ := j.rol e c
    exact ⟨vs, .inl (.inr ⟨o, h⟩), r⟩
end

/-! ### readings over the data -/
abbrev DS := List (Option W)
abbrev WK := W → Sto → Prop
abbrev DE := DS → Sto → WK → Prop
abbrev DT := DS → Sto → (Bool → Sto → Prop) → Prop
abbrev DA := DS → Sto → (List W → Sto → Prop) → Prop
def RS (K : PySem.W.Frag) (F : Hp) (θ : List Addr) (σ : L2.St) (δ : DS) : Prop := σ.length = δ.length ∧ ∀ (i : Nat) (w : W), δ[i]? = some (some w) → ∃ v, σ[i]? = some (some v) ∧ RW K F θ v w
theorem RS.mono {K : PySem.W.Frag} {F F' : Hp} {θ θ' : List Addr} {σ : L2.St} {δ : DS} (g : Gr F θ F' θ') (h : RS K F θ σ δ) : RS K F' θ' σ δ := ⟨h.1, fun i w e =>
  let ⟨v, q, r⟩ := h.2 i w e
  ⟨v, q, r.mono g⟩⟩
theorem RS.set {K : PySem.W.Frag} {F : Hp} {θ : List Addr} {σ : L2.St} {δ : DS} (h : RS K F θ σ δ) (i : Nat) {v : V} {w : W} (r : RW K F θ v w) : RS K F θ (σ.set i (some v)) (δ.set i (some w)) := by
  refine ⟨by rw [List.length_set, List.length_set]; exact h.1, fun j z e => ?_⟩
  by_cases q : j = i
  · subst q
    have hl : j < δ.length := by
      have := (List.getElem?_eq_some_iff.mp e).1
      rwa [List.length_set] at this
    rw [List.getElem?_set_self hl] at e
    cases e
    exact ⟨v, by rw [List.getElem?_set_self (by rw [h.1]; exact hl)], r⟩
  · rw [List.getElem?_set_ne (Ne.symm q)] at e ⊢
    exact h.2 j z e
def SE (K : PySem.W.Frag) (te : TE) (we : DE) : Prop := ∀ F H θ O σ δ S, Jn K F H θ O → RS K F θ σ δ → we δ O S → ∀ Q : VK,
  (∀ v w F' H' θ' O', Gr F θ F' θ' → Jn K F' H' θ' O' → RW K F' θ' v w → S w O' → Q v H') → te σ H Q
def STt (K : PySem.W.Frag) (tt : TT) (wt : DT) : Prop := ∀ F H θ O σ δ S, Jn K F H θ O → RS K F θ σ δ → wt δ O S → ∀ Q : Bool → Hp → Prop,
  (∀ b F' H' θ' O', Gr F θ F' θ' → Jn K F' H' θ' O' → S b O' → Q b H') → tt σ H Q
def SA (K : PySem.W.Frag) (ta : TA) (wa : DA) : Prop := ∀ F H θ O σ δ S, Jn K F H θ O → RS K F θ σ δ → wa δ O S → ∀ Q : List V → Hp → Prop,
  (∀ vs ws F' H' θ' O', Gr F θ F' θ' → Jn K F' H' θ' O' → RWs K F' θ' vs ws → S ws O' → Q vs H') → ta σ H Q
/-- two values in, a value out -/
abbrev R2D := W → W → Sto → WK → Prop
def SR2 (K : PySem.W.Frag) (r : R2) (rd : R2D) : Prop := ∀ F H θ O x y v u S, Jn K F H θ O → RW K F θ v x → RW K F θ u y → rd x y O S → ∀ Q : VK,
  (∀ z w F' H' θ' O', Gr F θ F' θ' → Jn K F' H' θ' O' → RW K F' θ' z w → S w O' → Q z H') → r v u H Q
structure ED (X : Cx) (e : Expr) (we : DE) : Prop where
  ex : ∃ te, PE X e te ∧ SE X.K te we
structure EDT (X : Cx) (e : Expr) (wt : DT) : Prop where
  ex : ∃ tt, PT X e tt ∧ STt X.K tt wt
structure EDA (X : Cx) (es : List Expr) (wa : DA) : Prop where
  ex : ∃ ta, PA X es ta ∧ SA X.K ta wa

def dVar (i : Nat) : DE := fun δ O S => ∃ w, δ[i]? = some (some w) ∧ S w O
def dC (w : W) : DE := fun _ O S => S w O
def dOp (r : R2D) (wa wb : DE) : DE := fun δ O S => wa δ O fun x O1 => wb δ O1 fun y O2 => r x y O2 S
def dNil : DA := fun _ O S => S [] O
def dCons (wa : DE) (wr : DA) : DA := fun δ O S => wa δ O fun x O1 => wr δ O1 fun xs O2 => S (x :: xs) O2
def dTup (wa : DA) : DE := fun δ O S => wa δ O fun ws O1 => ws.length ≤ sizeLine ∧ S (.tup ws) O1
def dLst (wa : DA) : DE := fun δ O S => wa δ O fun ws O1 => ws.length ≤ sizeLine ∧ S (.cell O1.length) (O1 ++ [.lst ws])
def dTest (we : DE) : DT := fun δ O S => we δ O fun x O1 => ∃ b, x = .bl b ∧ S b O1
def dIfE (wt : DT) (wa wb : DE) : DE := fun δ O S => wt δ O fun b O1 => if b = true then wa δ O1 S else wb δ O1 S
def dAnd (wt wu : DT) : DT := fun δ O S => wt δ O fun b O1 => if b = true then wu δ O1 S else S false O1
def dOr (wt wu : DT) : DT := fun δ O S => wt δ O fun b O1 => if b = true then S true O1 else wu δ O1 S
def dNot (wt : DT) : DT := fun δ O S => wt δ O fun b O1 => S (!b) O1

section
variable {X : Cx} {a b c e : Expr} {es : List Expr} {wa wb we : DE} {wr : DA} {wt wu : DT} {pos : Pos}
theorem SE.pure {K : PySem.W.Frag} {v : V} {w : W} (h : ∀ F θ, RW K F θ v w) : SE K (tC v) (dC w) := fun F H θ O σ δ S j s q Q k => k v w F H θ O Gr.refl j (h F θ) q
theorem ed_var {i : Nat} {x : Str} (h : PE X (.Name x pos) (tVar i)) : ED X (.Name x pos) (dVar i) := ⟨_, h, fun F H θ O σ δ S j s q Q k => by
  obtain ⟨w, e, q⟩ := q
  obtain ⟨v, e2, r⟩ := s.2 i w e
  exact ⟨v, e2, k v w F H θ O Gr.refl j r q⟩⟩
theorem dv (i : Nat) {x : Str} (hN : X.N[i]? = some x := by rfl) (hv : Vis X.env.scope x := by first | exact Or.inl rfl | exact Or.inr (Or.inl rfl) | exact Or.inr (Or.inr rfl)) (hd : (x == ("__debug__" : Str)) = false := by decide)
    (hcd : (x == ("__classdict__" : Str)) = false := by decide) : ED X (.Name x pos) (dVar i) := ed_var (pe_var hN hv hd hcd)
theorem ed_int {i j} : ED X (.Constant (.int i) j pos) (dC (.int i)) := ⟨_, pe_int, SE.pure fun _ _ => .int i⟩
theorem ed_bl {z j} : ED X (.Constant (.bool z) j pos) (dC (.bl z)) := ⟨_, pe_bl, SE.pure fun _ _ => .bl z⟩
theorem ed_non {j} : ED X (.Constant .none j pos) (dC .non) := ⟨_, pe_non, SE.pure fun _ _ => .non⟩
theorem ed_str {x j} : ED X (.Constant (.str x) j pos) (dC (.str x)) := ⟨_, pe_str, SE.pure fun _ _ => .str x⟩
theorem SE.op {K : PySem.W.Frag} {r : R2} {rd : R2D} {ta tb : TE} (hr : SR2 K r rd) (ha : SE K ta wa) (hb : SE K tb wb) : SE K (tOp r ta tb) (dOp rd wa wb) := fun F H θ O σ δ S j s q Q k => by
  refine ha F H θ O σ δ _ j s q _ fun v x F1 H1 θ1 O1 g1 j1 r1 q1 => ?_
  refine hb F1 H1 θ1 O1 σ δ _ j1 (s.mono g1) q1 _ fun u y F2 H2 θ2 O2 g2 j2 r2 q2 => ?_
  exact hr F2 H2 θ2 O2 x y v u S j2 (r1.mono g2) r2 q2 Q fun z w F3 H3 θ3 O3 g3 j3 r3 q3 => k z w F3 H3 θ3 O3 ((g1.trans g2).trans g3) j3 r3 q3
theorem ed_op {op : Operator} {r : R2} {rd : R2D} (ho : OpR X (binaryOp op) r) (hr : SR2 X.K r rd) (ha : ED X a wa) (hb : ED X b wb) : ED X (.BinOp a op b pos) (dOp rd wa wb) := by
  obtain ⟨ta, pa, sa⟩ := ha.ex
  obtain ⟨tb, pb, sb⟩ := hb.ex
  exact ⟨_, pe_op ho pa pb, .op hr sa sb⟩
theorem ed_cmp {op : CmpOp} {r : R2} {rd : R2D} (ho : OpR X (compareOp op) r) (hr : SR2 X.K r rd) (ha : ED X a wa) (hb : ED X b wb) (hm : behindInMarks op b = false) : ED X (.Compare a [op] [b] pos) (dOp rd wa wb) := by
  obtain ⟨ta, pa, sa⟩ := ha.ex
  obtain ⟨tb, pb, sb⟩ := hb.ex
  exact ⟨_, pe_cmpR ho pa pb hm, .op hr sa sb⟩
theorem STt.test {K : PySem.W.Frag} {te : TE} (ha : SE K te we) : STt K (tTest te) (dTest we) := fun F H θ O σ δ S j s q Q k => by
  refine ha F H θ O σ δ _ j s q _ fun v x F1 H1 θ1 O1 g1 j1 r1 q1 => ?_
  obtain ⟨b, rfl, q1⟩ := q1
  exact ⟨b, r1.bl_inv, k b F1 H1 θ1 O1 g1 j1 q1⟩
theorem et_cmp {op : CmpOp} {r : R2} {rd : R2D} (ho : OpR X (compareOp op) r) (hr : SR2 X.K r rd) (ha : ED X a wa) (hb : ED X b wb) (hm : behindInMarks op b = false) : EDT X (.Compare a [op] [b] pos) (dTest (dOp rd wa wb)) := by
  obtain ⟨ta, pa, sa⟩ := ha.ex
  obtain ⟨tb, pb, sb⟩ := hb.ex
  exact ⟨_, pt_cmpR ho pa pb hm, .test (.op hr sa sb)⟩
theorem et_val {te : Expr} (h : ED X te we) (he : ∀ whole, isTrue te X.env whole = (do let v ← whole; standAt te.pos; holding [v] (truthy v)) := by intro _; rfl) : EDT X te (dTest we) := by
  obtain ⟨t, p, s⟩ := h.ex
  exact ⟨_, pt_val p he, .test s⟩
theorem et_not (h : EDT X a wt) : EDT X (.UnaryOp .Not a pos) (dNot wt) := by
  obtain ⟨t, p, s⟩ := h.ex
  refine ⟨_, pt_not p, fun F H θ O σ δ S j s' q Q k => ?_⟩
  exact s F H θ O σ δ _ j s' q _ fun b F1 H1 θ1 O1 g1 j1 q1 => k (!b) F1 H1 θ1 O1 g1 j1 q1
theorem ed_if (hc : EDT X c wt) (ha : ED X a wa) (hb : ED X b wb) : ED X (.IfExp c a b pos) (dIfE wt wa wb) := by
  obtain ⟨tc, pc, sc⟩ := hc.ex
  obtain ⟨ta, pa, sa⟩ := ha.ex
  obtain ⟨tb, pb, sb⟩ := hb.ex
  refine ⟨_, pe_ifExp pc pa pb, fun F H θ O σ δ S j s q Q k => ?_⟩
  refine sc F H θ O σ δ _ j s q _ fun b F1 H1 θ1 O1 g1 j1 q1 => ?_
  cases b with
  | true => exact sa F1 H1 θ1 O1 σ δ S j1 (s.mono g1) q1 Q fun v w F2 H2 θ2 O2 g2 j2 r2 q2 => k v w F2 H2 θ2 O2 (g1.trans g2) j2 r2 q2
  | false => exact sb F1 H1 θ1 O1 σ δ S j1 (s.mono g1) q1 Q fun v w F2 H2 θ2 O2 g2 j2 r2 q2 => k v w F2 H2 θ2 O2 (g1.trans g2) j2 r2 q2
/-- and, or: in tests -/
structure EDW (X : Cx) (e : Expr) (wt : DT) : Prop where
  ex : ∃ tt, PW X e tt ∧ STt X.K tt wt
theorem EDW.t (h : EDW X e wt) : EDT X e wt := let ⟨t, p, s⟩ := h.ex; ⟨t, p.pt, s⟩
theorem ew_and1 (h : EDT X a wt) : EDW X (.BoolOp .And [a] pos) wt := let ⟨t, p, s⟩ := h.ex; ⟨t, pw_and1 p, s⟩
theorem ew_or1 (h : EDT X a wt) : EDW X (.BoolOp .Or [a] pos) wt := let ⟨t, p, s⟩ := h.ex; ⟨t, pw_or1 p, s⟩
theorem ew_and {rest : List Expr} (h : EDT X a wt) (hr : EDW X (.BoolOp .And (b :: rest) pos) wu) : EDW X (.BoolOp .And (a :: b :: rest) pos) (dAnd wt wu) := by
  obtain ⟨t, p, s⟩ := h.ex
  obtain ⟨t2, p2, s2⟩ := hr.ex
  refine ⟨_, pw_and p p2, fun F H θ O σ δ S j r q Q k => ?_⟩
  refine s F H θ O σ δ _ j r q _ fun b F1 H1 θ1 O1 g1 j1 q1 => ?_
  cases b with
  | true => exact s2 F1 H1 θ1 O1 σ δ S j1 (r.mono g1) q1 Q fun b F2 H2 θ2 O2 g2 j2 q2 => k b F2 H2 θ2 O2 (g1.trans g2) j2 q2
  | false => exact k false F1 H1 θ1 O1 g1 j1 q1
theorem ew_or {rest : List Expr} (h : EDT X a wt) (hr : EDW X (.BoolOp .Or (b :: rest) pos) wu) : EDW X (.BoolOp .Or (a :: b :: rest) pos) (dOr wt wu) := by
  obtain ⟨t, p, s⟩ := h.ex
  obtain ⟨t2, p2, s2⟩ := hr.ex
  refine ⟨_, pw_or p p2, fun F H θ O σ δ S j r q Q k => ?_⟩
  refine s F H θ O σ δ _ j r q _ fun b F1 H1 θ1 O1 g1 j1 q1 => ?_
  cases b with
  | true => exact k true F1 H1 θ1 O1 g1 j1 q1
  | false => exact s2 F1 H1 θ1 O1 σ δ S j1 (r.mono g1) q1 Q fun b F2 H2 θ2 O2 g2 j2 q2 => k b F2 H2 θ2 O2 (g1.trans g2) j2 q2
/-! arguments, displays -/
theorem ea_nil : EDA X [] dNil := ⟨_, pa_nil, fun F H θ O σ δ S j s q Q k => k [] [] F H θ O Gr.refl j .nil q⟩
theorem ea_cons (h : ED X e we) (hr : EDA X es wr) (hs : starEach (e :: es) X.env = (false, eval e X.env) :: starEach es X.env := by rfl) : EDA X (e :: es) (dCons we wr) := by
  obtain ⟨t, p, s⟩ := h.ex
  obtain ⟨t2, p2, s2⟩ := hr.ex
  refine ⟨_, pa_cons p p2 hs, fun F H θ O σ δ S j r q Q k => ?_⟩
  refine s F H θ O σ δ _ j r q _ fun v w F1 H1 θ1 O1 g1 j1 r1 q1 => ?_
  exact s2 F1 H1 θ1 O1 σ δ _ j1 (r.mono g1) q1 _ fun vs ws F2 H2 θ2 O2 g2 j2 r2 q2 => k _ _ F2 H2 θ2 O2 (g1.trans g2) j2 (.cons (r1.mono g2) r2) q2
theorem ed_tup {x1} (h : EDA X es wr) : ED X (.Tuple es x1 pos) (dTup wr) := by
  obtain ⟨t, p, s⟩ := h.ex
  refine ⟨_, pe_tup p, fun F H θ O σ δ S j r q Q k => ?_⟩
  refine s F H θ O σ δ _ j r q _ fun vs ws F1 H1 θ1 O1 g1 j1 r1 q1 => ⟨by rw [r1.length]; exact q1.1, fun p hp => ?_⟩
  have g2 : Gr F1 θ1 (L2.upd F1 p (.tup vs)) θ1 := Gr.upd (j1.freeF hp)
  exact k _ _ _ _ _ _ (g1.trans g2) (j1.newT hp) (.tup (.inl (.inl upd_same)) (r1.mono g2)) q1.2
theorem ed_lst (h : EDA X es wr) : ED X (.List es pos) (dLst wr) := by
  obtain ⟨t, p, s⟩ := h.ex
  refine ⟨_, pe_lst p, fun F H θ O σ δ S j r q Q k => ?_⟩
  refine s F H θ O σ δ _ j r q _ fun vs ws F1 H1 θ1 O1 g1 j1 r1 q1 => ⟨by rw [r1.length]; exact q1.1, fun p hp => ?_⟩
  exact k _ _ _ _ _ _ (g1.trans Gr.push) (j1.newL hp r1) (.cell (by rw [← j1.len]; simp)) q1.2
end
end Dm

set_option Elab.async false
set_option linter.all false
set_option maxRecDepth 100000
set_option maxHeartbeats 4000000
/-! The data machine: statements, loops, calls. -/
namespace Dm
open PySem PySem.Spec PyProof.Rows L2

structure DEnds where
  nx : DS → Sto → Prop
  rt : WK
  bk : DS → Sto → Prop := fun _ _ => False
  ct : DS → Sto → Prop := fun _ _ => False
abbrev DTS := DEnds → DS → Sto → Prop
/-- the ends over the heap follow from those over the data -/
structure Lk (K : PySem.W.Frag) (F : Hp) (θ : List Addr) (D : DEnds) (D' : Ends) : Prop where
  nx : ∀ F' H' θ' O' σ δ, Gr F θ F' θ' → Jn K F' H' θ' O' → RS K F' θ' σ δ → D.nx δ O' → D'.nx σ H'
  rt : ∀ F' H' θ' O' v w, Gr F θ F' θ' → Jn K F' H' θ' O' → RW K F' θ' v w → D.rt w O' → D'.rt v H'
  bk : ∀ F' H' θ' O' σ δ, Gr F θ F' θ' → Jn K F' H' θ' O' → RS K F' θ' σ δ → D.bk δ O' → D'.bk σ H'
  ct : ∀ F' H' θ' O' σ δ, Gr F θ F' θ' → Jn K F' H' θ' O' → RS K F' θ' σ δ → D.ct δ O' → D'.ct σ H'
theorem Lk.mono {K : PySem.W.Frag} {F F1 : Hp} {θ θ1 : List Addr} {D : DEnds} {D' : Ends} (l : Lk K F θ D D') (g : Gr F θ F1 θ1) : Lk K F1 θ1 D D' :=
  ⟨fun F' H' θ' O' σ δ g2 => l.nx F' H' θ' O' σ δ (g.trans g2), fun F' H' θ' O' v w g2 => l.rt F' H' θ' O' v w (g.trans g2),
    fun F' H' θ' O' σ δ g2 => l.bk F' H' θ' O' σ δ (g.trans g2), fun F' H' θ' O' σ δ g2 => l.ct F' H' θ' O' σ δ (g.trans g2)⟩
def SS (K : PySem.W.Frag) (ts : TS) (ws : DTS) : Prop := ∀ F H θ O σ δ D D', Jn K F H θ O → RS K F θ σ δ → ws D δ O → Lk K F θ D D' → ts D' σ H
structure EDS (X : Cx) (st : Stmt) (ws : DTS) : Prop where
  ex : ∃ ts, PS X st ts ∧ SS X.K ts ws
structure EDB (X : Cx) (st : List Stmt) (ws : DTS) : Prop where
  ex : ∃ ts, PSs X st ts ∧ SS X.K ts ws
/-- a target: the value stored, what is then -/
abbrev DG := W → DS → Sto → (DS → Sto → Prop) → Prop
def SG (K : PySem.W.Frag) (g : TG) (gd : DG) : Prop := ∀ F H θ O σ δ v w S, Jn K F H θ O → RS K F θ σ δ → RW K F θ v w → gd w δ O S → ∀ Q : L2.St → Hp → Prop,
  (∀ F' H' θ' O' σ' δ', Gr F θ F' θ' → Jn K F' H' θ' O' → RS K F' θ' σ' δ' → S δ' O' → Q σ' H') → g v σ H Q
structure EDG (X : Cx) (tg : Expr) (gd : DG) : Prop where
  ex : ∃ g, PG X tg g ∧ SG X.K g gd

def dNext : DTS := fun D δ O => D.nx δ O
def dSeq (w1 w2 : DTS) : DTS := fun D δ O => w1 { D with nx := w2 D } δ O
def dIf (wt : DT) (w1 w2 : DTS) : DTS := fun D δ O => wt δ O fun b O1 => if b = true then w1 D δ O1 else w2 D δ O1
def dRet (we : DE) : DTS := fun D δ O => we δ O D.rt
def dRetN : DTS := fun D _ O => D.rt .non O
def dDrop (we : DE) : DTS := fun D δ O => we δ O fun _ O1 => D.nx δ O1
def dSet (i : Nat) (we : DE) : DTS := fun D δ O => we δ O fun w O1 => D.nx (δ.set i (some w)) O1
def dPar (i j : Nat) (wa : DA) : DTS := fun D δ O => wa δ O fun ws O1 => ∃ v u, ws = [v, u] ∧ D.nx ((δ.set i (some v)).set j (some u)) O1
def dNever : DTS := fun _ _ _ => False
def dBreak : DTS := fun D δ O => D.bk δ O
def dCont : DTS := fun D δ O => D.ct δ O
def dgName (i : Nat) : DG := fun w δ O S => S (δ.set i (some w)) O
abbrev DGs := List W → DS → Sto → (DS → Sto → Prop) → Prop
def SGs (K : PySem.W.Frag) (g : TGs) (gd : DGs) : Prop := ∀ F H θ O σ δ v w S, Jn K F H θ O → RS K F θ σ δ → RWs K F θ v w → gd w δ O S → ∀ Q : L2.St → Hp → Prop,
  (∀ F' H' θ' O' σ' δ', Gr F θ F' θ' → Jn K F' H' θ' O' → RS K F' θ' σ' δ' → S δ' O' → Q σ' H') → g v σ H Q
structure EDGs (X : Cx) (tg : List Expr) (gd : DGs) : Prop where
  ex : ∃ g, PGs X tg g ∧ SGs X.K g gd
def dgNil : DGs := fun ws δ O S => ws = [] ∧ S δ O
def dgCons (g : DG) (gs : DGs) : DGs := fun ws δ O S => ∃ w r, ws = w :: r ∧ g w δ O fun δ' O' => gs r δ' O' S
def dgTup (n : Nat) (gs : DGs) : DG := fun w δ O S => ∃ ws, w = .tup ws ∧ ws.length = n ∧ gs ws δ O S
def dAsg (we : DE) (g : DG) : DTS := fun D δ O => we δ O fun w O1 => g w δ O1 D.nx

section
variable {X : Cx} {st : Stmt} {rest : List Stmt} {w1 w2 : DTS} {wt : DT} {we : DE} {wr : DA} {c e : Expr} {es : List Expr} {pos : Pos}
theorem eb_nil : EDB X [] dNext := ⟨_, pss_nil, fun F H θ O σ δ D D' j s q l => l.nx F H θ O σ δ Gr.refl j s q⟩
theorem eb_cons (h : EDS X st w1) (hr : EDB X rest w2) : EDB X (st :: rest) (dSeq w1 w2) := by
  obtain ⟨t1, p1, s1⟩ := h.ex
  obtain ⟨t2, p2, s2⟩ := hr.ex
  refine ⟨_, pss_cons p1 p2, fun F H θ O σ δ D D' j s q l => ?_⟩
  exact s1 F H θ O σ δ _ _ j s q ⟨fun F' H' θ' O' σ' δ' g j' s' q' => s2 F' H' θ' O' σ' δ' D D' j' s' q' (l.mono g), l.rt, l.bk, l.ct⟩
theorem eb_one (h : EDS X st w1) : EDB X [st] w1 := by
  obtain ⟨t1, p1, s1⟩ := h.ex
  exact ⟨_, pss_one p1, s1⟩
theorem eb_never : EDB X rest dNever := ⟨_, pss_never, fun F H θ O σ δ D D' j s q l => q.elim⟩
theorem es_never : EDS X st dNever := ⟨_, ps_never, fun F H θ O σ δ D D' j s q l => q.elim⟩
theorem es_pass : EDS X (.Pass pos) dNext := ⟨_, ps_pass, fun F H θ O σ δ D D' j s q l => l.nx F H θ O σ δ Gr.refl j s q⟩
theorem es_break : EDS X (.Break pos) dBreak := ⟨_, ps_break, fun F H θ O σ δ D D' j s q l => l.bk F H θ O σ δ Gr.refl j s q⟩
theorem es_cont : EDS X (.Continue pos) dCont := ⟨_, ps_continue, fun F H θ O σ δ D D' j s q l => l.ct F H θ O σ δ Gr.refl j s q⟩
theorem es_doc {x j pos pos'} : EDS X (.Expr (.Constant (.str x) j pos) pos') dNext := ⟨_, ps_doc, fun F H θ O σ δ D D' j s q l => l.nx F H θ O σ δ Gr.refl j s q⟩
theorem es_if {a b : List Stmt} (hc : EDT X c wt) (ha : EDB X a w1) (hb : EDB X b w2) : EDS X (.If c a b pos) (dIf wt w1 w2) := by
  obtain ⟨t0, p0, s0⟩ := hc.ex
  obtain ⟨t1, p1, s1⟩ := ha.ex
  obtain ⟨t2, p2, s2⟩ := hb.ex
  refine ⟨_, ps_if p0 p1 p2, fun F H θ O σ δ D D' j s q l => ?_⟩
  refine s0 F H θ O σ δ _ j s q _ fun b F1 H1 θ1 O1 g1 j1 q1 => ?_
  cases b with
  | true => exact s1 F1 H1 θ1 O1 σ δ D D' j1 (s.mono g1) q1 (l.mono g1)
  | false => exact s2 F1 H1 θ1 O1 σ δ D D' j1 (s.mono g1) q1 (l.mono g1)
theorem es_ret (h : ED X e we) : EDS X (.Return (some e) pos) (dRet we) := by
  obtain ⟨t0, p0, s0⟩ := h.ex
  refine ⟨_, ps_ret p0, fun F H θ O σ δ D D' j s q l => ?_⟩
  exact s0 F H θ O σ δ _ j s q _ fun v w F1 H1 θ1 O1 g1 j1 r1 q1 => l.rt F1 H1 θ1 O1 v w g1 j1 r1 q1
theorem es_retN : EDS X (.Return none pos) dRetN := ⟨_, ps_retN, fun F H θ O σ δ D D' j s q l => l.rt F H θ O .non .non Gr.refl j .non q⟩
theorem es_expr (h : ED X e we) (hs : swapsWith e none pos.line X.env = pure false := by rfl) : EDS X (.Expr e pos) (dDrop we) := by
  obtain ⟨t0, p0, s0⟩ := h.ex
  refine ⟨_, ps_expr p0 hs, fun F H θ O σ δ D D' j s q l => ?_⟩
  exact s0 F H θ O σ δ _ j s q _ fun v w F1 H1 θ1 O1 g1 j1 r1 q1 => l.nx F1 H1 θ1 O1 σ δ g1 j1 (s.mono g1) q1
theorem es_set {i : Nat} {x : Str} {pos' : Pos} (hN : X.N.Nodup) (hi : X.N[i]? = some x) (hx : Loc X.env.scope x) (h : ED X e we) (hs : swapsWith e (some (.Name x pos')) pos.line X.env = pure false := by rfl)
    (hf : X.fn x = true ∨ X.env.scope.names.lookup x = some .local := by first | exact .inl rfl | exact .inr rfl | assumption) : EDS X (.Assign [.Name x pos'] e pos) (dSet i we) := by
  obtain ⟨t0, p0, s0⟩ := h.ex
  refine ⟨_, ps_set hN hi hx p0 hs hf, fun F H θ O σ δ D D' j s q l => ?_⟩
  exact s0 F H θ O σ δ _ j s q _ fun v w F1 H1 θ1 O1 g1 j1 r1 q1 => l.nx F1 H1 θ1 O1 _ _ g1 j1 ((s.mono g1).set i r1) q1
theorem es_par {i j : Nat} {x y : Str} {a b : Expr} {px py pt : Pos} {kt k2 pt2} (hc : X.calm = true) (hN : X.N.Nodup) (hi : X.N[i]? = some x) (hj : X.N[j]? = some y) (hij : i ≠ j)
    (hx : X.env.scope.names.lookup x = some .local) (hy : X.env.scope.names.lookup y = some .local) (ha : EDA X [a, b] wr)
    (hw : swappedStores [.Tuple [.Name x px, .Name y py] kt pt] (.Tuple [a, b] k2 pt2) X.env = pure (some [x, y]) := by rfl)
    (hs : swapsWithSole [.Tuple [.Name x px, .Name y py] kt pt] (.Tuple [a, b] k2 pt2) pos.line X.env = pure false := by rfl) :
    EDS X (.Assign [.Tuple [.Name x px, .Name y py] kt pt] (.Tuple [a, b] k2 pt2) pos) (dPar i j wr) := by
  obtain ⟨t0, p0, s0⟩ := ha.ex
  refine ⟨_, ps_par hc hN hi hj hij hx hy p0 hw hs, fun F H θ O σ δ D D' jn s q l => ?_⟩
  refine s0 F H θ O σ δ _ jn s q _ fun vs ws F1 H1 θ1 O1 g1 j1 r1 q1 => ?_
  obtain ⟨w, z, rfl, q1⟩ := q1
  obtain ⟨v, u, rfl, rv, ru⟩ := r1.two_inv
  exact ⟨v, u, rfl, l.nx F1 H1 θ1 O1 _ _ g1 j1 (((s.mono g1).set i rv).set j ru) q1⟩
theorem eg_name {i : Nat} {x : Str} (hN : X.N.Nodup) (hi : X.N[i]? = some x) (hx : Loc X.env.scope x) (hf : X.fn x = true ∨ X.env.scope.names.lookup x = some .local := by first | exact .inl rfl | exact .inr rfl | assumption) : EDG X (.Name x pos) (dgName i) :=
  ⟨_, pg_name hN hi hx hf, fun F H θ O σ δ v w S j s r q Q k => k F H θ O _ _ Gr.refl j (s.set i r) q⟩
theorem egs_nil : EDGs X [] dgNil := ⟨_, pgs_nil, fun F H θ O σ δ v w S j s r q Q k => by
  obtain ⟨rfl, q⟩ := q
  cases r
  exact ⟨rfl, k F H θ O _ _ Gr.refl j s q⟩⟩
theorem egs_cons {g : DG} {gs : DGs} (h : EDG X e g) (hr : EDGs X es gs) (hs : (assignEach (e :: es) X.env).map (·.2) = assign e X.env :: (assignEach es X.env).map (·.2) := by rfl) : EDGs X (e :: es) (dgCons g gs) := by
  obtain ⟨t0, p0, s0⟩ := h.ex
  obtain ⟨t1, p1, s1⟩ := hr.ex
  refine ⟨_, pgs_cons p0 p1 hs, fun F H θ O σ δ v w S j s r q Q k => ?_⟩
  obtain ⟨w, z, rfl, q⟩ := q
  cases r with
  | cons r rr =>
    refine ⟨_, _, rfl, s0 F H θ O σ δ _ _ _ j s r q _ fun F1 H1 θ1 O1 σ1 δ1 g1 j1 s1' q1 => ?_⟩
    exact s1 F1 H1 θ1 O1 σ1 δ1 _ _ _ j1 s1' (rr.mono g1) q1 _ fun F2 H2 θ2 O2 σ2 δ2 g2 j2 s2 q2 => k F2 H2 θ2 O2 σ2 δ2 (g1.trans g2) j2 s2 q2
theorem eg_tup {k : Nat} {gs : DGs} {n : Nat} (hc : X.calm = true) (h : EDGs X es gs) (hn : (assignEach es X.env).length = n := by rfl) (hst : (assignEach es X.env).findIdx? (·.1) = none := by rfl) : EDG X (.Tuple es k pos) (dgTup n gs) := by
  obtain ⟨t0, p0, s0⟩ := h.ex
  refine ⟨_, pg_tup hc p0 hn hst, fun F H θ O σ δ v w S j s r q Q k => ?_⟩
  obtain ⟨ws, rfl, hl, q⟩ := q
  obtain ⟨a, vs, rfl, hq, rr⟩ := r.tup_inv
  exact ⟨a, vs, rfl, sqT_sub j hq, by rw [rr.length]; exact hl, s0 F H θ O σ δ _ _ _ j s rr q _ k⟩
theorem es_asg {tg : Expr} {g : DG} (he : ED X e we) (hg : EDG X tg g) (hs : swapsWithSole [tg] e pos.line X.env = pure false := by rfl) (hw : swappedStores [tg] e X.env = pure none := by rfl)
    (h1 : (assignEach [tg] X.env).map (·.2) = [assign tg X.env] := by rfl) : EDS X (.Assign [tg] e pos) (dAsg we g) := by
  obtain ⟨t0, p0, s0⟩ := he.ex
  obtain ⟨t1, p1, s1⟩ := hg.ex
  refine ⟨_, ps_asg p0 p1 hs hw h1, fun F H θ O σ δ D D' j s q l => ?_⟩
  refine s0 F H θ O σ δ _ j s q _ fun v w F1 H1 θ1 O1 g1 j1 r1 q1 => ?_
  exact s1 F1 H1 θ1 O1 σ δ _ _ _ j1 (s.mono g1) r1 q1 _ fun F2 H2 θ2 O2 σ2 δ2 g2 j2 s2 q2 => l.nx F2 H2 θ2 O2 σ2 δ2 (g1.trans g2) j2 s2 q2
end

/-! ### what is walked -/
/-- the items of a walk: the one at turn i (none: it stops) -/
structure Wk where
  at_ : Nat → Sto → Option W
  ok : Sto → Prop := fun _ => True
def SI (K : PySem.W.Frag) (wi : TI) (di : DS → Sto → (Wk → Sto → Prop) → Prop) : Prop := ∀ F H θ O σ δ S, Jn K F H θ O → RS K F θ σ δ → di δ O S → ∀ R : It → Hp → Prop,
  (∀ J w F' H' θ' O', Gr F θ F' θ' → Jn K F' H' θ' O' → S w O' →
    (∀ i F2 H2 θ2 O2, Gr F' θ' F2 θ2 → Jn K F2 H2 θ2 O2 → w.ok O2 → ((w.at_ i O2 = none ∧ J.stop i H2) ∨ ∃ z, w.at_ i O2 = some z ∧ J.go i H2 ∧ ∀ x H3, J.yld i H2 x H3 → ∃ F3 θ3, Gr F2 θ2 F3 θ3 ∧ Jn K F3 H3 θ3 O2 ∧ RW K F3 θ3 x z)) → R J H') → wi σ H R
structure EDI (X : Cx) (tg iter : Expr) (di : DS → Sto → (Wk → Sto → Prop) → Prop) : Prop where
  ex : ∃ wi, PI X tg iter wi ∧ SI X.K wi di
/-- n turns at most, an invariant over the turn, the slots, the store -/
def dFor (di : DS → Sto → (Wk → Sto → Prop) → Prop) (g : DG) (wb : DTS) : DTS := fun D δ O => di δ O fun w O1 => ∃ (n : Nat) (Pv : Nat → DS → Sto → Prop), Pv 0 δ O1 ∧
  ∀ i δ O, Pv i δ O → i ≤ n ∧ w.ok O ∧ (match w.at_ i O with
    | none => D.nx δ O
    | some z => i < n ∧ g z δ O fun δ2 O2 => wb { D with nx := Pv (i + 1), ct := Pv (i + 1), bk := D.nx } δ2 O2)
theorem es_for {X : Cx} {tg iter : Expr} {body : List Stmt} {di : DS → Sto → (Wk → Sto → Prop) → Prop} {g : DG} {wb : DTS} {pos : Pos} (hp : PassesOwn (model X.prog X.w) X.A X.env X.xe) (hc : X.calm = true) (hi : EDI X tg iter di) (hg : EDG X tg g) (hb : EDB X body wb)
    (hs : ∀ x, foldedSetIterable iter X.env x = pure x := by intro _; rfl) : EDS X (.For tg iter body [] pos) (dFor di g wb) := by
  obtain ⟨t0, p0, s0⟩ := hi.ex
  obtain ⟨t1, p1, s1⟩ := hg.ex
  obtain ⟨t2, p2, s2⟩ := hb.ex
  refine ⟨_, ps_for hp hc p0 p1 p2 hs, fun F H θ O σ δ D D' j s q l => ?_⟩
  refine s0 F H θ O σ δ _ j s q _ fun J w F1 H1 θ1 O1 g1 j1 q1 turn => ?_
  obtain ⟨n, Pv, h0, hq⟩ := q1
  refine ⟨fun i m σ' H' => m = n - i ∧ ∃ F' θ' O' δ', Gr F1 θ1 F' θ' ∧ Jn X.K F' H' θ' O' ∧ RS X.K F' θ' σ' δ' ∧ Pv i δ' O', ⟨n, by omega, F1, θ1, O1, δ, Gr.refl, j1, s.mono g1, h0⟩, ?_⟩
  rintro i m σ2 H2 ⟨rfl, F2, θ2, O2, δ2, g2, j2, s2', pv⟩
  obtain ⟨hin, hok, hm⟩ := hq i δ2 O2 pv
  rcases turn i F2 H2 θ2 O2 g2 j2 hok with ⟨e, st⟩ | ⟨z, e, go, yl⟩
  · rw [e] at hm
    exact .inl ⟨st, l.nx F2 H2 θ2 O2 σ2 δ2 (g1.trans g2) j2 s2' hm⟩
  · rw [e] at hm
    obtain ⟨hlt, hm⟩ := hm
    refine .inr ⟨go, fun σ' H' => ∃ F' θ' O' δ', Gr F1 θ1 F' θ' ∧ Jn X.K F' H' θ' O' ∧ RS X.K F' θ' σ' δ' ∧ Pv (i + 1) δ' O', fun σ' H' h => ⟨n - (i + 1), by omega, rfl, h⟩, fun x H3 hy => ?_⟩
    obtain ⟨F3, θ3, g3, j3, r3⟩ := yl x H3 hy
    refine s1 F3 H3 θ3 O2 σ2 δ2 x z _ j3 (s2'.mono g3) r3 hm _ fun F4 H4 θ4 O4 σ4 δ4 g4 j4 s4 q4 => ?_
    have gg : Gr F1 θ1 F4 θ4 := (g2.trans g3).trans g4
    refine s2 F4 H4 θ4 O4 σ4 δ4 _ _ j4 s4 q4 ⟨fun F' H' θ' O' σ' δ' g' j' s' q' => ⟨F', θ', O', δ', gg.trans g', j', s', q'⟩, fun F' H' θ' O' v w' g' j' r' q' => l.rt F' H' θ' O' v w' ((g1.trans gg).trans g') j' r' q', fun F' H' θ' O' σ' δ' g' j' s' q' => l.nx F' H' θ' O' σ' δ' ((g1.trans gg).trans g') j' s' q', fun F' H' θ' O' σ' δ' g' j' s' q' => ⟨F', θ', O', δ', gg.trans g', j', s', q'⟩⟩

/-- over ints lo, lo + 1, .. -/
def wkR (lo : Int) (n : Nat) : Wk := ⟨fun i _ => if i < n then some (.int (lo + i)) else none, fun _ => True⟩
def wkT (ws : List W) : Wk := ⟨fun i _ => ws[i]?, fun _ => True⟩
/-- the list in a cell, as it stands -/
def wkL (k : Nat) : Wk := ⟨fun i O => match O[k]? with
  | some (.lst ws) => ws[i]?
  | some (.rol ws) => ws[i]?
  | _ => none, fun O => ∃ ws, LstC O k ws⟩
theorem wkL_at {k : Nat} {i : Nat} {O : Sto} {ws : List W} (h : LstC O k ws) : (wkL k).at_ i O = ws[i]? := by
  show (match O[k]? with
    | some (.lst ws) => ws[i]?
    | some (.rol ws) => ws[i]?
    | _ => none) = ws[i]?
  rcases h with h | h <;> rw [h]
def diR1 (wa : DA) : DS → Sto → (Wk → Sto → Prop) → Prop := fun δ O S => wa δ O fun ws O1 => ∃ j : Int, ws = [.int j] ∧ -(2 ^ 62) ≤ j ∧ j < 2 ^ 62 ∧ S (wkR 0 j.toNat) O1
def diR2 (wa : DA) : DS → Sto → (Wk → Sto → Prop) → Prop := fun δ O S => wa δ O fun ws O1 => ∃ i j : Int, ws = [.int i, .int j] ∧ (-(2 ^ 62) ≤ i ∧ i < 2 ^ 62 ∧ -(2 ^ 62) ≤ j ∧ j < 2 ^ 62) ∧ S (wkR i (j - i).toNat) O1
def diT (we : DE) : DS → Sto → (Wk → Sto → Prop) → Prop := fun δ O S => we δ O fun w O1 => ∃ ws, w = .tup ws ∧ S (wkT ws) O1
def diL (we : DE) : DS → Sto → (Wk → Sto → Prop) → Prop := fun δ O S => we δ O fun w O1 => ∃ k ws, w = .cell k ∧ LstC O1 k ws ∧ S (wkL k) O1
theorem turnR {K : PySem.W.Frag} {lo : Int} {n : Nat} {i : Nat} {F2 H2 : Hp} {θ2 : List Addr} {O2 : Sto} (j2 : Jn K F2 H2 θ2 O2) :
    ((wkR lo n).at_ i O2 = none ∧ (Itr lo n).stop i H2) ∨ ∃ z, (wkR lo n).at_ i O2 = some z ∧ (Itr lo n).go i H2 ∧ ∀ x H3, (Itr lo n).yld i H2 x H3 → ∃ F3 θ3, Gr F2 θ2 F3 θ3 ∧ Jn K F3 H3 θ3 O2 ∧ RW K F3 θ3 x z := by
  by_cases h : i < n
  · refine .inr ⟨.int (lo + i), if_pos h, h, fun x H3 hy => ?_⟩
    obtain ⟨rfl, rfl⟩ := hy
    exact ⟨F2, θ2, Gr.refl, j2, .int _⟩
  · exact .inl ⟨if_neg h, by show n ≤ i; omega⟩
section
variable {X : Cx} {tg a b e : Expr} {wa : DA} {we : DE} {p pos : Pos}
theorem ei_range1 (hg : Gl X "range") (hm : X.mg "range" = none) (ha : EDA X [a] wa) (hs : starEach [a] X.env = [(false, eval a X.env)] := by rfl) : EDI X tg (.Call (.Name "range" p) [a] [] pos) (diR1 wa) := by
  obtain ⟨t0, p0, s0⟩ := ha.ex
  refine ⟨_, pi_range1 hg hm p0 hs, fun F H θ O σ δ S j s q R k => ?_⟩
  refine s0 F H θ O σ δ _ j s q _ fun vs ws F1 H1 θ1 O1 g1 j1 r1 q1 => ?_
  obtain ⟨n, rfl, h1, h2, q1⟩ := q1
  obtain ⟨v, rfl, r⟩ := r1.one_inv
  rw [r.int_inv]
  exact ⟨n, rfl, h1, h2, k _ _ F1 H1 θ1 O1 g1 j1 q1 fun i F2 H2 θ2 O2 _ j2 _ => turnR j2⟩
theorem ei_range2 (hg : Gl X "range") (hm : X.mg "range" = none) (ha : EDA X [a, b] wa) (hs : starEach [a, b] X.env = [(false, eval a X.env), (false, eval b X.env)] := by rfl) (hs2 : starEach [b] X.env = [(false, eval b X.env)] := by rfl) : EDI X tg (.Call (.Name "range" p) [a, b] [] pos) (diR2 wa) := by
  obtain ⟨t0, p0, s0⟩ := ha.ex
  refine ⟨_, pi_range2 hg hm p0 hs hs2, fun F H θ O σ δ S j s q R k => ?_⟩
  refine s0 F H θ O σ δ _ j s q _ fun vs ws F1 H1 θ1 O1 g1 j1 r1 q1 => ?_
  obtain ⟨n, m, rfl, h1, q1⟩ := q1
  obtain ⟨v, u, rfl, r, r'⟩ := r1.two_inv
  rw [r.int_inv, r'.int_inv]
  exact ⟨n, m, rfl, h1, k _ _ F1 H1 θ1 O1 g1 j1 q1 fun i F2 H2 θ2 O2 _ j2 _ => turnR j2⟩
theorem ei_tup (h : ED X e we) : EDI X tg e (diT we) := by
  obtain ⟨t0, p0, s0⟩ := h.ex
  refine ⟨_, pi_tup p0, fun F H θ O σ δ S j s q R k => ?_⟩
  refine s0 F H θ O σ δ _ j s q _ fun v w F1 H1 θ1 O1 g1 j1 r1 q1 => ?_
  obtain ⟨ws, rfl, q1⟩ := q1
  obtain ⟨a, vs, rfl, hq, rr⟩ := r1.tup_inv
  refine ⟨a, rfl, ⟨vs, sqT_sub j1 hq⟩, k _ _ F1 H1 θ1 O1 g1 j1 q1 fun i F2 H2 θ2 O2 g2 j2 _ => ?_⟩
  have hq2 : SqT X.K H2 a vs := sqT_sub j2 (sqT_fz g2.fz hq)
  have rr2 := rr.mono g2
  show (ws[i]? = none ∧ _) ∨ ∃ z, ws[i]? = some z ∧ _
  cases h : ws[i]? with
  | none => exact .inl ⟨rfl, vs, hq2, by rw [rr.length]; exact List.getElem?_eq_none_iff.mp h⟩
  | some z =>
    obtain ⟨v, ev, rv⟩ := rr2.get h
    refine .inr ⟨z, rfl, ⟨vs, v, hq2, ev⟩, fun x H3 hy => ?_⟩
    obtain ⟨rfl, hx⟩ := hy
    have e2 := (hx vs hq2).symm.trans ev
    cases e2
    exact ⟨F2, θ2, Gr.refl, j2, rv⟩
theorem ei_lst (h : ED X e we) : EDI X tg e (diL we) := by
  obtain ⟨t0, p0, s0⟩ := h.ex
  refine ⟨_, pi_list p0, fun F H θ O σ δ S j s q R k => ?_⟩
  refine s0 F H θ O σ δ _ j s q _ fun v w F1 H1 θ1 O1 g1 j1 r1 q1 => ?_
  obtain ⟨c, ws, rfl, hc, q1⟩ := q1
  obtain ⟨a, rfl, ha⟩ := r1.cell_inv
  obtain ⟨vs, hl, rr⟩ := j1.lstC ha hc
  refine ⟨a, rfl, ⟨vs, hl⟩, k _ _ F1 H1 θ1 O1 g1 j1 q1 fun i F2 H2 θ2 O2 g2 j2 ok => ?_⟩
  obtain ⟨zs, hz⟩ := ok
  rw [wkL_at hz]
  obtain ⟨us, hu, ru⟩ := j2.lstC (g2.at ha) hz
  cases h : zs[i]? with
  | none => exact .inl ⟨rfl, us, hu, by rw [ru.length]; exact List.getElem?_eq_none_iff.mp h⟩
  | some z =>
    obtain ⟨v, ev, rv⟩ := ru.get h
    refine .inr ⟨z, rfl, ⟨us, v, hu, ev⟩, fun x H3 hy => ?_⟩
    obtain ⟨rfl, hx⟩ := hy
    have e2 := (hx us hu).symm.trans ev
    cases e2
    exact ⟨F2, θ2, Gr.refl, j2, rv⟩
end

/-! ### comprehensions -/
def wipeD (δ : DS) : List Nat → DS
  | [] => δ
  | v :: vs => (wipeD δ vs).set v none
theorem wipeD_some {δ : DS} {i : Nat} {x : W} : ∀ {vs : List Nat}, (wipeD δ vs)[i]? = some (some x) → δ[i]? = some (some x) ∧ i ∉ vs
  | [], h => ⟨h, by simp⟩
  | v :: vs, h => by
    unfold wipeD at h
    by_cases hi : v = i
    · subst hi
      by_cases hv : v < (wipeD δ vs).length
      · rw [List.getElem?_set_self hv] at h; cases h
      · rw [List.getElem?_eq_none (by simpa using hv)] at h; cases h
    · rw [List.getElem?_set_ne hi] at h
      obtain ⟨h1, h2⟩ := wipeD_some h
      exact ⟨h1, by simp only [List.mem_cons, not_or]; exact ⟨fun e => hi e.symm, h2⟩⟩
theorem wipeD_len (δ : DS) : ∀ vs : List Nat, (wipeD δ vs).length = δ.length
  | [] => rfl
  | v :: vs => by unfold wipeD; rw [List.length_set, wipeD_len δ vs]
theorem wipe_keep {σ : L2.St} {i : Nat} : ∀ {vs : List Nat}, i ∉ vs → (wipe σ vs)[i]? = σ[i]?
  | [], _ => rfl
  | v :: vs, h => by
    simp only [List.mem_cons, not_or] at h
    unfold wipe
    rw [List.getElem?_set_ne (fun e => h.1 e.symm)]
    exact wipe_keep h.2
theorem RS.wipe {K : PySem.W.Frag} {F : Hp} {θ : List Addr} {σ : L2.St} {δ : DS} (h : RS K F θ σ δ) (vs : List Nat) : RS K F θ (L2.wipe σ vs) (wipeD δ vs) := by
  refine ⟨by rw [wipe_length, wipeD_len]; exact h.1, fun i w e => ?_⟩
  obtain ⟨e1, n⟩ := wipeD_some e
  rw [wipe_keep n]
  exact h.2 i w e1
/-- a target within a block: it stores at the block's own slots alone -/
def SGc (K : PySem.W.Frag) (g : TG) (gd : DG) (vs : List Nat) : Prop := ∀ F H θ O σ δ v w S, Jn K F H θ O → RS K F θ σ δ → RW K F θ v w → gd w δ O S → ∀ Q : L2.St → Hp → Prop,
  (∀ F' H' θ' O' σ' δ', Gr F θ F' θ' → Jn K F' H' θ' O' → RS K F' θ' σ' δ' → wipe σ' vs = wipe σ vs → S δ' O' → Q σ' H') → g v σ H Q
def SGsc (K : PySem.W.Frag) (g : TGs) (gd : DGs) (vs : List Nat) : Prop := ∀ F H θ O σ δ v w S, Jn K F H θ O → RS K F θ σ δ → RWs K F θ v w → gd w δ O S → ∀ Q : L2.St → Hp → Prop,
  (∀ F' H' θ' O' σ' δ', Gr F θ F' θ' → Jn K F' H' θ' O' → RS K F' θ' σ' δ' → wipe σ' vs = wipe σ vs → S δ' O' → Q σ' H') → g v σ H Q
theorem wipe_set {σ : L2.St} {i : Nat} {x : Option V} : ∀ {vs : List Nat}, i ∈ vs → wipe (σ.set i x) vs = wipe σ vs
  | [], h => by cases h
  | v :: vs, h => by
    unfold wipe
    by_cases e : v = i
    · subst e
      have : ∀ us : List Nat, (wipe (σ.set v x) us).set v none = (wipe σ us).set v none := by
        intro us
        induction us with
        | nil => unfold wipe; rw [List.set_set]
        | cons u us ih =>
          unfold wipe
          by_cases q : u = v
          · subst q
            rw [ih]
          · rw [List.set_comm _ _ q, ih, List.set_comm _ _ (fun z => q z.symm)]
      exact this vs
    · rw [wipe_set ((List.mem_cons.mp h).resolve_left fun z => e z.symm)]
theorem wipe_wipe (σ : L2.St) : ∀ vs : List Nat, wipe (wipe σ vs) vs = wipe σ vs := by
  have : ∀ (us vs : List Nat), (∀ u ∈ us, u ∈ vs) → wipe (wipe σ us) vs = wipe σ vs := by
    intro us
    induction us with
    | nil => intro vs _; rfl
    | cons u us ih =>
      intro vs h
      show wipe ((wipe σ us).set u none) vs = _
      rw [wipe_set (h u List.mem_cons_self)]
      exact ih vs fun z hz => h z (List.mem_cons_of_mem _ hz)
  exact fun vs => this vs vs fun _ h => h
structure EDTs (X : Cx) (ifs : List Expr) (wt : DT) : Prop where
  ex : ∃ tt, PTs X ifs tt ∧ STt X.K tt wt
structure EDGc (X : Cx) (vs : List Nat) (tg : Expr) (gd : DG) : Prop where
  ex : ∃ g, PG X tg g ∧ SGc X.K g gd vs
structure EDGsc (X : Cx) (vs : List Nat) (tg : List Expr) (gd : DGs) : Prop where
  ex : ∃ g, PGs X tg g ∧ SGsc X.K g gd vs
def dYes : DT := fun _ O S => S true O
theorem ets_nil {X : Cx} : EDTs X [] dYes := ⟨_, pts_nil, fun F H θ O σ δ S j s q Q k => k true F H θ O Gr.refl j q⟩
theorem ets_one {X : Cx} {c : Expr} {wt : DT} (h : EDT X c wt) : EDTs X [c] wt := let ⟨t, p, s⟩ := h.ex; ⟨t, pts_one p, s⟩
section
variable {X : Cx} {vs : List Nat} {e : Expr} {es : List Expr} {pos : Pos}
theorem egc_name {i : Nat} {x : Str} (hm : i ∈ vs) (hN : X.N.Nodup) (hi : X.N[i]? = some x) (hx : Loc X.env.scope x) (hf : X.fn x = true ∨ X.env.scope.names.lookup x = some .local := by first | exact .inl rfl | exact .inr rfl | assumption) : EDGc X vs (.Name x pos) (dgName i) :=
  ⟨_, pg_name hN hi hx hf, fun F H θ O σ δ v w S j s r q Q k => k F H θ O _ _ Gr.refl j (s.set i r) (wipe_set hm) q⟩
theorem egsc_nil : EDGsc X vs [] dgNil := ⟨_, pgs_nil, fun F H θ O σ δ v w S j s r q Q k => by
  obtain ⟨rfl, q⟩ := q
  cases r
  exact ⟨rfl, k F H θ O _ _ Gr.refl j s rfl q⟩⟩
theorem egsc_cons {g : DG} {gs : DGs} (h : EDGc X vs e g) (hr : EDGsc X vs es gs) (hs : (assignEach (e :: es) X.env).map (·.2) = assign e X.env :: (assignEach es X.env).map (·.2) := by rfl) : EDGsc X vs (e :: es) (dgCons g gs) := by
  obtain ⟨t0, p0, s0⟩ := h.ex
  obtain ⟨t1, p1, s1⟩ := hr.ex
  refine ⟨_, pgs_cons p0 p1 hs, fun F H θ O σ δ v w S j s r q Q k => ?_⟩
  obtain ⟨w, z, rfl, q⟩ := q
  cases r with
  | cons r rr =>
    refine ⟨_, _, rfl, s0 F H θ O σ δ _ _ _ j s r q _ fun F1 H1 θ1 O1 σ1 δ1 g1 j1 s1' e1 q1 => ?_⟩
    exact s1 F1 H1 θ1 O1 σ1 δ1 _ _ _ j1 s1' (rr.mono g1) q1 _ fun F2 H2 θ2 O2 σ2 δ2 g2 j2 s2 e2 q2 => k F2 H2 θ2 O2 σ2 δ2 (g1.trans g2) j2 s2 (e2.trans e1) q2
theorem egc_tup {k : Nat} {gs : DGs} {n : Nat} (hc : X.calm = true) (h : EDGsc X vs es gs) (hn : (assignEach es X.env).length = n := by rfl) (hst : (assignEach es X.env).findIdx? (·.1) = none := by rfl) : EDGc X vs (.Tuple es k pos) (dgTup n gs) := by
  obtain ⟨t0, p0, s0⟩ := h.ex
  refine ⟨_, pg_tup hc p0 hn hst, fun F H θ O σ δ v w S j s r q Q k => ?_⟩
  obtain ⟨ws, rfl, hl, q⟩ := q
  obtain ⟨a, vs, rfl, hq, rr⟩ := r.tup_inv
  exact ⟨a, vs, rfl, sqT_sub j hq, by rw [rr.length]; exact hl, s0 F H θ O σ δ _ _ _ j s rr q _ k⟩
end
abbrev Blk (X : Cx) (scope : Scope) := fun (s : Shared) (H : Hp) (C : Addr) (cl : List (Str × Addr)) (fp : List Addr) => X.blk s H scope (compEnvC scope cl C X.env) fp
theorem uni_e {X : Cx} {scope : Scope} {e : Expr} {we : DE} (h : ∀ s H C cl fp, ED (Blk X scope s H C cl fp) e we) : ∃ te, (∀ s H C cl fp, PE (Blk X scope s H C cl fp) e te) ∧ SE X.K te we :=
  ⟨fun σ H Q => ∀ s H0 C cl fp, Classical.choose (h s H0 C cl fp).ex σ H Q, fun s H0 C cl fp => ⟨fun pins s' σ H Q I hw => (Classical.choose_spec (h s H0 C cl fp).ex).1.run pins s' σ H Q I (hw s H0 C cl fp)⟩,
    fun F H θ O σ δ S j r q Q k s H0 C cl fp => (Classical.choose_spec (h s H0 C cl fp).ex).2 F H θ O σ δ S j r q Q k⟩
theorem uni_t {X : Cx} {scope : Scope} {e : List Expr} {wt : DT} (h : ∀ s H C cl fp, EDTs (Blk X scope s H C cl fp) e wt) : ∃ te, (∀ s H C cl fp, PTs (Blk X scope s H C cl fp) e te) ∧ STt X.K te wt :=
  ⟨fun σ H Q => ∀ s H0 C cl fp, Classical.choose (h s H0 C cl fp).ex σ H Q, fun s H0 C cl fp => ⟨fun pins s' σ H Q I hw => (Classical.choose_spec (h s H0 C cl fp).ex).1.run pins s' σ H Q I (hw s H0 C cl fp)⟩,
    fun F H θ O σ δ S j r q Q k s H0 C cl fp => (Classical.choose_spec (h s H0 C cl fp).ex).2 F H θ O σ δ S j r q Q k⟩
theorem uni_g {X : Cx} {scope : Scope} {e : Expr} {gd : DG} {vs : List Nat} (h : ∀ s H C cl fp, EDGc (Blk X scope s H C cl fp) vs e gd) : ∃ te, (∀ s H C cl fp, PG (Blk X scope s H C cl fp) e te) ∧ SGc X.K te gd vs :=
  ⟨fun v σ H Q => ∀ s H0 C cl fp, Classical.choose (h s H0 C cl fp).ex v σ H Q, fun s H0 C cl fp => ⟨fun pins s' σ H v u Q I r hw => (Classical.choose_spec (h s H0 C cl fp).ex).1.run pins s' σ H v u Q I r (hw s H0 C cl fp)⟩,
    fun F H θ O σ δ v w S j r rw' q Q k s H0 C cl fp => (Classical.choose_spec (h s H0 C cl fp).ex).2 F H θ O σ δ v w S j r rw' q Q k⟩
/-- [elt for tg in iter if ..]: the new list is a cell from the start; an invariant over the turn and the store -/
def dLc (di : DS → Sto → (Wk → Sto → Prop) → Prop) (g : DG) (wt : DT) (we : DE) (vs : List Nat) : DE := fun δ O S => di δ O fun w O1 => ∃ (n : Nat) (Pv : Nat → Sto → Prop), Pv 0 (O1 ++ [.lst []]) ∧
  ∀ i O, Pv i O → i ≤ n ∧ w.ok O ∧ (match w.at_ i O with
    | none => S (.cell O1.length) O
    | some z => i < n ∧ g z (wipeD δ vs) O fun δ2 O2 => wt δ2 O2 fun b O3 => if b = true then we δ2 O3 fun y O4 => ∃ acc, O4[O1.length]? = some (.lst acc) ∧ acc.length < sizeLine ∧ Pv (i + 1) (O4.set O1.length (.lst (acc ++ [y]))) else Pv (i + 1) O3)
theorem lc_sound {K : PySem.W.Frag} {wi : TI} {di : DS → Sto → (Wk → Sto → Prop) → Prop} {g : TG} {gd : DG} {tt : TT} {wt : DT} {te : TE} {we : DE} {vs : List Nat} (s0 : SI K wi di) (s1 : SGc K g gd vs) (s2 : STt K tt wt) (s3 : SE K te we) : SE K (tLc wi g tt te vs) (dLc di gd wt we vs) := by
  intro F H θ O σ δ S j s q Q k
  refine s0 F H θ O σ δ _ j s q _ fun J w F1 H1 θ1 O1 g1 j1 q1 turn D hD => ?_
  obtain ⟨n, Pv, h0, hq⟩ := q1
  have gp : Gr F1 θ1 F1 (θ1 ++ [D]) := Gr.push
  have hk0 : (θ1 ++ [D])[O1.length]? = some D := by
    rw [← j1.len]
    simp
  refine ⟨fun i m H' => m = n - i ∧ ∃ F' θ' O', Gr F1 (θ1 ++ [D]) F' θ' ∧ Jn K F' H' θ' O' ∧ Pv i O', ⟨n, by omega, F1, _, _, Gr.refl, j1.newL hD .nil, h0⟩, ?_⟩
  rintro i m H2 ⟨rfl, F2, θ2, O2, g2, j2, pv⟩
  obtain ⟨hin, hok, hm⟩ := hq i O2 pv
  have gA : Gr F1 θ1 F2 θ2 := gp.trans g2
  rcases turn i F2 H2 θ2 O2 gA j2 hok with ⟨e, st⟩ | ⟨z, e, go, yl⟩
  · rw [e] at hm
    exact .inl ⟨st, k (.ref D) _ F2 H2 θ2 O2 (g1.trans gA) j2 (.cell (g2.at hk0)) hm⟩
  · rw [e] at hm
    obtain ⟨hlt, hm⟩ := hm
    refine .inr ⟨go, fun H' => ∃ F' θ' O', Gr F1 (θ1 ++ [D]) F' θ' ∧ Jn K F' H' θ' O' ∧ Pv (i + 1) O', fun H' h => ⟨n - (i + 1), by omega, rfl, h⟩, fun x H3 hy => ?_⟩
    obtain ⟨F3, θ3, g3, j3, r3⟩ := yl x H3 hy
    have s3' := ((s.mono (g1.trans (gA.trans g3))).wipe vs)
    refine s1 F3 H3 θ3 O2 _ _ x z _ j3 s3' r3 hm _ fun F4 H4 θ4 O4 σ4 δ4 g4 j4 s4 e4 q4 => ⟨e4.trans (wipe_wipe σ vs), ?_⟩
    refine s2 F4 H4 θ4 O4 σ4 δ4 _ j4 s4 q4 _ fun b F5 H5 θ5 O5 g5 j5 q5 => ?_
    have g25 : Gr F1 (θ1 ++ [D]) F5 θ5 := ((g2.trans g3).trans g4).trans g5
    cases b with
    | false => exact ⟨F5, θ5, O5, g25, j5, q5⟩
    | true =>
      refine s3 F5 H5 θ5 O5 σ4 δ4 _ j5 (s4.mono g5) q5 _ fun y wy F6 H6 θ6 O6 g6 j6 r6 q6 => ?_
      obtain ⟨acc, ha, hz, pv6⟩ := q6
      have hD6 : θ6[O1.length]? = some D := (g25.trans g6).at hk0
      obtain ⟨f6, us, hu, ru⟩ := j6.lst hD6 ha
      exact ⟨us, hu, by rw [ru.length]; exact hz, F6, θ6, _, g25.trans g6, j6.putL hD6 f6 (ru.append (.cons r6 .nil)), pv6⟩
section
variable {X : Cx} {elt tg iter : Expr} {ifs : List Expr} {scope : Scope} {own : List (Str × Nat)} {pos : Pos} {di : DS → Sto → (Wk → Sto → Prop) → Prop} {gd : DG} {wt : DT} {we : DE}
theorem ed_lc (hc : X.calm = true) (hN : X.N.Nodup) (hi : EDI X tg iter di) (ok : BlkOk X.N X.env.scope scope own) (hg : ∀ s H C cl fp, EDGc (Blk X scope s H C cl fp) (own.map (·.2)) tg gd) (ht : ∀ s H C cl fp, EDTs (Blk X scope s H C cl fp) ifs wt)
    (he : ∀ s H C cl fp, ED (Blk X scope s H C cl fp) elt we) (hs : ∀ x, foldedSetIterable iter X.env x = pure x := by intro _; rfl) : ED X (.ListComp elt [⟨tg, iter, ifs, 0⟩] scope pos) (dLc di gd wt we (own.map (·.2))) := by
  obtain ⟨t0, p0, s0⟩ := hi.ex
  obtain ⟨t1, p1, s1⟩ := uni_g hg
  obtain ⟨t2, p2, s2⟩ := uni_t ht
  obtain ⟨t3, p3, s3⟩ := uni_e he
  exact ⟨_, pe_lc hc hN p0 ok p1 p2 p3 hs, lc_sound s0 s1 s2 s3⟩
theorem es_setLc {i : Nat} {y : Str} {py spos : Pos} (hc : X.calm = true) (hN : X.N.Nodup) (hy : X.N[i]? = some y) (hyl : X.env.scope.names.lookup y = some .local) (hsw : swapsWith (.ListComp elt [⟨tg, iter, ifs, 0⟩] scope pos) (some (.Name y py)) spos.line X.env = pure true)
    (hi : EDI X tg iter di) (ok : BlkOk X.N X.env.scope scope own) (hg : ∀ s H C cl fp, EDGc (Blk X scope s H C cl fp) (own.map (·.2)) tg gd) (ht : ∀ s H C cl fp, EDTs (Blk X scope s H C cl fp) ifs wt)
    (he : ∀ s H C cl fp, ED (Blk X scope s H C cl fp) elt we) (hs : ∀ x, foldedSetIterable iter X.env x = pure x := by intro _; rfl) : EDS X (.Assign [.Name y py] (.ListComp elt [⟨tg, iter, ifs, 0⟩] scope pos) spos) (dSet i (dLc di gd wt we (own.map (·.2)))) := by
  obtain ⟨t0, p0, s0⟩ := hi.ex
  obtain ⟨t1, p1, s1⟩ := uni_g hg
  obtain ⟨t2, p2, s2⟩ := uni_t ht
  obtain ⟨t3, p3, s3⟩ := uni_e he
  refine ⟨_, ps_setLc hc hN hy hyl hsw p0 ok p1 p2 p3 hs, fun F H θ O σ δ D D' j s q l => ?_⟩
  exact lc_sound s0 s1 s2 s3 F H θ O σ δ _ j s q _ fun v w F1 H1 θ1 O1 g1 j1 r1 q1 => l.nx F1 H1 θ1 O1 _ _ g1 j1 ((s.mono g1).set i r1) q1
end
end Dm

set_option Elab.async false
set_option linter.all false
set_option maxRecDepth 100000
set_option maxHeartbeats 4000000
/-! The data machine: what a def promises over the data, its body, its calls, the law's own call. -/
namespace Dm
open PySem PySem.Spec PyProof.Rows L2

/-- a promise over the data: the arguments, the store, what is wanted of the answer and the store behind -/
abbrev SpD := List W → Sto → WK → Prop
/-- the same over the heap -/
def lift (K : PySem.W.Frag) (sp : SpD) (vs : List V) (H : Hp) (Q : VK) : Prop :=
  ∃ F θ O ws S, Jn K F H θ O ∧ RWs K F θ vs ws ∧ sp ws O S ∧ ∀ v w F' H' θ' O', Gr F θ F' θ' → Jn K F' H' θ' O' → RW K F' θ' v w → S w O' → Q v H'
/-- what is around a call: room, no guards -/
structure RoomG (k : Nat) (A : Around) : Prop where
  r : Room k A
  g : A.guards = some []
theorem RoomG.mono {j k : Nat} {A : Around} (h : RoomG k A) (l : j ≤ k) : RoomG j A := ⟨h.r.mono l, h.g⟩
theorem RoomG.deeper {k : Nat} {A : Around} (h : RoomG (k + 1) A) (env : Env) : RoomG k (A.deeper env) := ⟨h.r.deeper env, h.g⟩
structure FnG (P : Program) (w : World) (K : PySem.W.Frag) (mg : Str → Option Value) (base : Heap) (k : Nat) (f : Addr) (fd : FuncData) (ps : List Str) (sp : SpD) : Prop where
  len : ∀ ws O S, sp ws O S → ws.length = ps.length
  run : ∀ (A : Around) (outer : List Env) (s : Shared) (H : Hp) (args : Args) (us : List Value) (vs : List V) (Q : VK), RoomG k A → Env0 P w K mg base A outer s H → BindsTo s fd args (ps.zip us) → Vals vs us → lift K sp vs H Q →
    codeAny (model P w) A (.call (.ref f) args) (CR CX0 outer P w H s Q E0) s
theorem FnG.mono {P : Program} {w : World} {K : PySem.W.Frag} {mg : Str → Option Value} {base : Heap} {j k : Nat} {f : Addr} {fd : FuncData} {ps : List Str} {sp : SpD} (F : FnG P w K mg base j f fd ps sp) (h : j ≤ k) : FnG P w K mg base k f fd ps sp :=
  ⟨F.len, fun A outer s H args us vs Q hr => F.run A outer s H args us vs Q (hr.mono h)⟩
theorem FnG.imp {P : Program} {w : World} {K : PySem.W.Frag} {mg : Str → Option Value} {base : Heap} {k : Nat} {f : Addr} {fd : FuncData} {ps : List Str} {sp sp' : SpD} (F : FnG P w K mg base k f fd ps sp) (h : ∀ ws O S, sp' ws O S → sp ws O S) : FnG P w K mg base k f fd ps sp' :=
  ⟨fun ws O S q => F.len ws O S (h _ _ _ q), fun A outer s H args us vs Q hr he hb hv ⟨F0, θ, O, ws, S, j, r, q, k⟩ => F.run A outer s H args us vs Q hr he hb hv ⟨F0, θ, O, ws, S, j, r, h _ _ _ q, k⟩⟩
/-- the slots at the entry -/
def startD (N : List Str) (ws : List W) : DS := ws.map some ++ List.replicate (N.length - ws.length) none
theorem rs_start {K : PySem.W.Frag} {F : Hp} {θ : List Addr} {N : List Str} {vs : List V} {ws : List W} (r : RWs K F θ vs ws) : RS K F θ (L2.start N vs) (startD N ws) := by
  unfold L2.start startD
  refine ⟨by simp [r.length], fun i w e => ?_⟩
  by_cases h : i < ws.length
  · rw [List.getElem?_append_left (by simpa using h), List.getElem?_map] at e
    cases q : ws[i]? with
    | none => rw [q] at e; cases e
    | some z =>
      rw [q] at e
      cases e
      obtain ⟨v, hv, rv⟩ := r.get q
      exact ⟨v, by rw [List.getElem?_append_left (by rw [List.length_map, r.length]; exact h), List.getElem?_map, hv]; rfl, rv⟩
  · rw [List.getElem?_append_right (by simpa using h), List.getElem?_replicate] at e
    split at e <;> cases e
section
variable {P : Program} {w : World} {K : PySem.W.Frag} {mg : Str → Option Value} {base : Heap}
/-- the context of a def's body where nothing may be raised -/
abbrev cxD (P : Program) (w : World) (K : PySem.W.Frag) (mg : Str → Option Value) (base : Heap) (N : List Str) (qual : Str) (scope : Scope) (f : Addr) (cd : Value) (A : Around) (outer : List Env) (s : Shared) (H : Hp) : Cx :=
  (cxOf CX0 P w K mg base N qual scope f cd A outer s H E0).nox
/-- THE RULE: a def by its body -/
theorem FunG {x qual : Str} {params : Arguments} {body : List Stmt} {scope : Scope} {dvs : List V} {kws : List (Str × V)} {f : Addr} {fd : FuncData} {N ps : List Str} {k : Nat} {sp : SpD} (F : FunD K x qual params body scope dvs kws f fd) (S : FnScope N ps scope)
    (len : ∀ ws O S, sp ws O S → ws.length = ps.length)
    (hbody : ∀ (cdv : Value) (A : Around) (outer : List Env) (s : Shared) (H : Hp), RoomG k (A.deeper (envOfC qual scope s.heap.objs.size f cdv)) →
      ∃ wb, EDB (cxD P w K mg base N qual scope f cdv A outer s H) body wb ∧ ∀ ws O S, sp ws O S → wb { nx := fun _ O' => S .non O', rt := S } (startD N ws) O) : FnG P w K mg base (k + 1) f fd ps sp := by
  obtain ⟨oc, od, dV, kV, doc, pm, an, cdv, ct, osl, rfl, lk, hcd, _, _⟩ := F.ex
  refine ⟨len, fun A outer s H args us vs Q hr e0 hb r hsp => ?_⟩
  obtain ⟨F0, θ, O, ws, S', jn, rr, q, fin⟩ := hsp
  have hl : vs.length = ps.length := rr.length.trans (len _ _ _ q)
  have KX : K.In s.heap := e0.mod.kin.keeps fun b o e => (e0.bs b o e).1
  have lim : s.heap.NoLimit := e0.mod.nolimit.keeps fun b o e => (e0.bs b o e).1
  have hkind : ∀ y ∈ ps.zip us, scope.names.lookup y.1 = some .local ∨ (scope.names.lookup y.1 = some .cell ∧ ((cellsFrom (s.heap.objs.size + 1) scope.names []).lookup y.1).isSome = true) := by
    rintro ⟨n, v⟩ hy
    rcases S.par n (List.of_mem_zip hy).1 with q | q
    · exact .inl q
    · exact .inr ⟨q, PySem.W.cellsFrom_some _ _ _ (.inl q)⟩
  refine codeAny_call_function hr.r.depth (KX _ _ lk) rfl S.co S.gen rfl (PySem.W.codeRec_of KX hcd) (hb _ _ _ _ ?_)
  refine wpAny_newFunctionEnv_cells S.kind hkind fun env he s1 x => ?_
  subst he
  refine ⟨lim.keeps x.toInCall.keep, codeAny_func ?_⟩
  obtain ⟨wb, hB, hW⟩ := hbody cdv A outer s H (hr.deeper _)
  obtain ⟨t, ht, hs⟩ := hB.ex
  have I := (inv_start (CX := CX0) (E := E0) S hr.r.hd e0 hl r x).wish fun _ _ => False
  have hq : t { nx := fun _ H' => Q .non H', rt := Q } (L2.start N vs) H := hs F0 H θ O _ _ _ _ jn (rs_start rr) (hW ws O S' q)
    ⟨fun F' H' θ' O' σ δ g j' s' q' => fin _ _ F' H' θ' O' g j' .non q', fun F' H' θ' O' v w' g j' r' q' => fin v w' F' H' θ' O' g j' r' q', fun _ _ _ _ _ _ _ _ _ z => z, fun _ _ _ _ _ _ _ _ _ z => z⟩
  refine wpAny_mono (ht.run [] s1 (L2.start N vs) H _ I hq) (fun fl s' hs' => ?_) fun e s' z => False.elim z
  cases fl with
  | ret u =>
    obtain ⟨v, σ', H', J, rv, q⟩ := hs'
    exact ⟨v, H', J.os, J.bare, J.base, J.hok, rv, q⟩
  | next =>
    obtain ⟨σ', H', J, q⟩ := hs'
    exact ⟨V.non, H', J.os, J.bare, J.base, J.hok, rfl, q⟩
  | brk =>
    obtain ⟨_, _, _, q⟩ := hs'
    exact q.elim
  | cont =>
    obtain ⟨_, _, _, q⟩ := hs'
    exact q.elim
end
/-! ### calls -/
def dCall (sp : SpD) (wa : DA) : DE := fun δ O S => wa δ O fun ws O1 => sp ws O1 S
def dCallK (sp : SpD) (g : List W → List W → List W) (wa wk : DA) : DE := fun δ O S => wa δ O fun ws O1 => wk δ O1 fun zs O2 => sp (g ws zs) O2 S
structure EDK (X : Cx) (kws : List Keyword) (wa : DA) : Prop where
  ex : ∃ ta, PK X kws ta ∧ SA X.K ta wa
section
variable {X : Cx} {k : Nat} {f : Addr} {fd : FuncData} {ps ks : List Str} {sp : SpD} {x : Str} {p pos kpos : Pos} {e : Expr} {es : List Expr} {kws : List Keyword} {wa wk : DA} {we : DE} {nm : Option Str}
/-- a call's reading over the heap -/
def tCallG (K : PySem.W.Frag) (sp : SpD) (t : TA) : TE := fun σ H Q => t σ H fun vs H1 => lift K sp vs H1 Q
def tCallKG (K : PySem.W.Frag) (sp : SpD) (gV : List V → List V → List V) (t tk : TA) : TE := fun σ H Q => t σ H fun vs H1 => tk σ H1 fun zs H2 => lift K sp (gV vs zs) H2 Q
theorem runG {pins : List (Addr × Obj)} {σ : L2.St} {H : Hp} {s : Shared} {Q : VK} {us bs : List Value} {kw : List (Str × Value)} {vs : List V} (F : FnG X.prog X.w X.K X.mg X.base k f fd ps sp) (hr : RoomG k X.A) (hb : BindsTo s fd ⟨us, kw⟩ (ps.zip bs))
    (I : Inv X pins σ H s) (r : Vals vs bs) (h : lift X.K sp vs H Q) : wpAny (model X.prog X.w) X.A (call (.ref f) us kw) (EP X pins σ Q) X.xe s := by
  refine wpAny_call (codeAny_mono (F.run X.A X.stack s H ⟨us, kw⟩ bs vs Q hr I.env0 hb r h) fun r s' hq => ?_)
  cases r with
  | error e => exact (show False from hq).elim
  | ok fl =>
    cases fl with
    | ret u => exact I.after hq
    | next => exact False.elim hq
    | brk => exact False.elim hq
    | cont => exact False.elim hq
theorem lift_len {K : PySem.W.Frag} {vs : List V} {H : Hp} {Q : VK} {P : Program} {w : World} {mg : Str → Option Value} {base : Heap} (F : FnG P w K mg base k f fd ps sp) (h : lift K sp vs H Q) : vs.length = ps.length := by
  obtain ⟨F0, θ, O, ws, S, j, r, q, _⟩ := h
  exact r.length.trans (F.len _ _ _ q)
theorem pe_callG (F : FnG X.prog X.w X.K X.mg X.base k f fd ps sp) (hr : RoomG k X.A) (hg : Gl X x) (hm : X.mg x = some (.ref f)) (hk : PySem.W.keepIn X.K (.ref f) = true) (hb : Binds X.K fd ps []) {t : TA} (ha : PA X (e :: es) t)
    (hdb : (x == ("__debug__" : Str)) = false := by decide) (he : starEach (e :: es) X.env = (false, eval e X.env) :: starEach es X.env := by rfl) (hpl : (backTo pos (starEach es X.env)).any (·.1) = false := by rfl) :
    PE X (.Call (.Name x p) (e :: es) [] pos) (tCallG X.K sp t) := by
  refine ⟨fun pins s σ H Q I h => ?_⟩
  refine wpAny_Call_Name_kw (ld_glob I hg hm ?_ hdb)
  refine PySem.W.callWith_K (h₀ := X.base) I.ok.mod.kin hk (thn (ha.run pos pins s σ H _ I h) fun us s1 ⟨vs, H1, I1, r, q⟩ => ⟨I1.kIn, ?_⟩) he hpl
  have hl := hb s1 us I1.kIn (by rw [List.append_nil, ← r.length]; exact lift_len F q)
  rw [List.append_nil] at hl
  exact runG F hr hl I1 r q
theorem ed_call (F : FnG X.prog X.w X.K X.mg X.base k f fd ps sp) (hr : RoomG k X.A) (hg : Gl X x) (hm : X.mg x = some (.ref f)) (hk : PySem.W.keepIn X.K (.ref f) = true) (hb : Binds X.K fd ps []) (ha : EDA X (e :: es) wa)
    (hdb : (x == ("__debug__" : Str)) = false := by decide) (he : starEach (e :: es) X.env = (false, eval e X.env) :: starEach es X.env := by rfl) (hpl : (backTo pos (starEach es X.env)).any (·.1) = false := by rfl) :
    ED X (.Call (.Name x p) (e :: es) [] pos) (dCall sp wa) := by
  obtain ⟨t0, p0, s0⟩ := ha.ex
  refine ⟨_, pe_callG F hr hg hm hk hb p0 hdb he hpl, fun F0 H θ O σ δ S j s q Q kk => ?_⟩
  exact s0 F0 H θ O σ δ _ j s q _ fun vs ws F1 H1 θ1 O1 g1 j1 r1 q1 => ⟨F1, θ1, O1, ws, S, j1, r1, q1, fun v w F2 H2 θ2 O2 g2 j2 r2 q2 => kk v w F2 H2 θ2 O2 (g1.trans g2) j2 r2 q2⟩
theorem ek_nil : EDK X [] dNil := ⟨_, pk_nil, fun F H θ O σ δ S j s q Q k => k [] [] F H θ O Gr.refl j .nil q⟩
theorem ek_cons (h : ED X e we) (hr : EDK X kws wk) : EDK X (⟨nm, e, kpos⟩ :: kws) (dCons we wk) := by
  obtain ⟨t, p, s⟩ := h.ex
  obtain ⟨t2, p2, s2⟩ := hr.ex
  refine ⟨_, pk_cons p p2, fun F H θ O σ δ S j r q Q k => ?_⟩
  refine s F H θ O σ δ _ j r q _ fun v w F1 H1 θ1 O1 g1 j1 r1 q1 => ?_
  exact s2 F1 H1 θ1 O1 σ δ _ j1 (r.mono g1) q1 _ fun vs ws F2 H2 θ2 O2 g2 j2 r2 q2 => k _ _ F2 H2 θ2 O2 (g1.trans g2) j2 (.cons (r1.mono g2) r2) q2
end
end Dm

set_option Elab.async false
set_option linter.all false
set_option maxRecDepth 100000
set_option maxHeartbeats 4000000
/-! The data machine: operators, subscripts, methods, built-ins. -/
namespace Dm
open PySem PySem.Spec PyProof.Rows L2

/-! ### operators on ints -/
def rdI (C : Int → Int → Prop) (g : Int → Int → W) : R2D := fun x y O S => ∃ i j, x = .int i ∧ y = .int j ∧ C i j ∧ S (g i j) O
def rdI0 (g : Int → Int → W) : R2D := fun x y O S => ∃ i j, x = .int i ∧ y = .int j ∧ S (g i j) O
theorem sr_I {K : PySem.W.Frag} {C : Int → Int → Prop} {g : Int → Int → V} {gd : Int → Int → W} (h : ∀ F θ i j, RW K F θ (g i j) (gd i j)) : SR2 K (rI C g) (rdI C gd) := by
  intro F H θ O x y v u S j rx ry q Q k
  obtain ⟨i, l, rfl, rfl, hc, q⟩ := q
  exact ⟨i, l, rx.int_inv, ry.int_inv, hc, k _ _ F H θ O Gr.refl j (h F θ i l) q⟩
theorem sr_I0 {K : PySem.W.Frag} {g : Int → Int → V} {gd : Int → Int → W} (h : ∀ F θ i j, RW K F θ (g i j) (gd i j)) : SR2 K (rI0 g) (rdI0 gd) := by
  intro F H θ O x y v u S j rx ry q Q k
  obtain ⟨i, l, rfl, rfl, q⟩ := q
  exact ⟨i, l, rx.int_inv, ry.int_inv, k _ _ F H θ O Gr.refl j (h F θ i l) q⟩
/-- products below a hundred million bits -/
def CMulB (i j : Int) : Prop := i.natAbs.log2 + j.natAbs.log2 < 100000000
theorem CMulB.ok {i j : Int} (h : CMulB i j) : IntMulOk i j := by
  have b : ∀ x : Int, Builtin.Int.intBits x ≤ x.natAbs.log2 + 1 := fun x => by
    unfold Builtin.Int.intBits
    split <;> omega
  have h1 := b i
  have h2 := b j
  have h3 : i.natAbs.log2 + j.natAbs.log2 < 100000000 := h
  have e : bitsLine = 134217728 := by decide
  intro z
  rw [Bool.and_eq_true] at z
  have z2 := of_decide_eq_true (show decide (_ > _) = true from z.2)
  rw [e] at z2
  omega
section
variable {X : Cx} {a b c e : Expr} {es : List Expr} {wa wb we : DE} {wr : DA} {pos : Pos}
theorem op_mulB : OpR X (binaryOp .Mult) (rI CMulB fun i j => .int (i * j)) := opI fun _ _ _ _ _ _ _ hc q => mul_int q hc.ok
abbrev dAdd := dOp (rdI0 fun i j => .int (i + j))
abbrev dSub := dOp (rdI0 fun i j => .int (i - j))
abbrev dMul := dOp (rdI CMulB fun i j => .int (i * j))
abbrev dDiv := dOp (rdI CDivW fun i j => .int (i / j))
abbrev dMod := dOp (rdI (fun _ j => 0 < j) fun i j => .int (i % j))
abbrev dPow := dOp (rdI CPow fun i j => .int (i ^ j.toNat))
theorem ed_add (ha : ED X a wa) (hb : ED X b wb) : ED X (.BinOp a .Add b pos) (dAdd wa wb) := ed_op op_add (sr_I0 fun _ _ _ _ => .int _) ha hb
theorem ed_sub (ha : ED X a wa) (hb : ED X b wb) : ED X (.BinOp a .Sub b pos) (dSub wa wb) := ed_op op_sub (sr_I0 fun _ _ _ _ => .int _) ha hb
theorem ed_mul (ha : ED X a wa) (hb : ED X b wb) : ED X (.BinOp a .Mult b pos) (dMul wa wb) := ed_op op_mulB (sr_I fun _ _ _ _ => .int _) ha hb
theorem ed_div (ha : ED X a wa) (hb : ED X b wb) : ED X (.BinOp a .FloorDiv b pos) (dDiv wa wb) := ed_op op_fdivW (sr_I fun _ _ _ _ => .int _) ha hb
theorem ed_mod (ha : ED X a wa) (hb : ED X b wb) : ED X (.BinOp a .Mod b pos) (dMod wa wb) := ed_op op_mod (sr_I fun _ _ _ _ => .int _) ha hb
theorem ed_pow (ha : ED X a wa) (hb : ED X b wb) : ED X (.BinOp a .Pow b pos) (dPow wa wb) := ed_op op_pow (sr_I fun _ _ _ _ => .int _) ha hb
abbrev dLt := dOp (rdI0 fun i j => .bl (decide (i < j)))
abbrev dLe := dOp (rdI0 fun i j => .bl (decide (i ≤ j)))
abbrev dGt := dOp (rdI0 fun i j => .bl (decide (j < i)))
abbrev dGe := dOp (rdI0 fun i j => .bl (decide (j ≤ i)))
theorem et_lt (ha : ED X a wa) (hb : ED X b wb) : EDT X (.Compare a [.Lt] [b] pos) (dTest (dLt wa wb)) := et_cmp op_lt (sr_I0 fun _ _ _ _ => .bl _) ha hb (nomark _)
theorem et_le (ha : ED X a wa) (hb : ED X b wb) : EDT X (.Compare a [.LtE] [b] pos) (dTest (dLe wa wb)) := et_cmp op_le (sr_I0 fun _ _ _ _ => .bl _) ha hb (nomark _)
theorem et_gt (ha : ED X a wa) (hb : ED X b wb) : EDT X (.Compare a [.Gt] [b] pos) (dTest (dGt wa wb)) := et_cmp op_gt (sr_I0 fun _ _ _ _ => .bl _) ha hb (nomark _)
theorem et_ge (ha : ED X a wa) (hb : ED X b wb) : EDT X (.Compare a [.GtE] [b] pos) (dTest (dGe wa wb)) := et_cmp op_ge (sr_I0 fun _ _ _ _ => .bl _) ha hb (nomark _)
theorem ed_lt (ha : ED X a wa) (hb : ED X b wb) : ED X (.Compare a [.Lt] [b] pos) (dLt wa wb) := ed_cmp op_lt (sr_I0 fun _ _ _ _ => .bl _) ha hb (nomark _)
theorem ed_gt (ha : ED X a wa) (hb : ED X b wb) : ED X (.Compare a [.Gt] [b] pos) (dGt wa wb) := ed_cmp op_gt (sr_I0 fun _ _ _ _ => .bl _) ha hb (nomark _)
theorem ed_le (ha : ED X a wa) (hb : ED X b wb) : ED X (.Compare a [.LtE] [b] pos) (dLe wa wb) := ed_cmp op_le (sr_I0 fun _ _ _ _ => .bl _) ha hb (nomark _)
theorem ed_ge (ha : ED X a wa) (hb : ED X b wb) : ED X (.Compare a [.GtE] [b] pos) (dGe wa wb) := ed_cmp op_ge (sr_I0 fun _ _ _ _ => .bl _) ha hb (nomark _)

/-! ### == of scalars -/
def eqS : W → W → Option Bool
  | .int i, .int j => some (decide (i = j))
  | .str x, .str y => some (decide (x = y))
  | .bl x, .bl y => some (decide (x = y))
  | .non, .non => some true
  | .non, .int _ => some false | .int _, .non => some false | .non, .str _ => some false | .str _, .non => some false | .non, .bl _ => some false | .bl _, .non => some false
  | .int _, .str _ => some false | .str _, .int _ => some false | .bl _, .str _ => some false | .str _, .bl _ => some false
  | _, _ => none
def rdEq : R2D := fun x y O S => ∃ b, eqS x y = some b ∧ S (.bl b) O
def rdNe : R2D := fun x y O S => ∃ b, eqS x y = some b ∧ S (.bl (!b)) O
theorem eqS_ok {K : PySem.W.Frag} {F : Hp} {θ : List Addr} {x y : W} {v u : V} {b : Bool} (rx : RW K F θ v x) (ry : RW K F θ u y) (h : eqS x y = some b) : scal v u = true ∧ decide (v = u) = b := by
  cases x <;> cases y <;> (try (exfalso; revert h; simp only [eqS]; intro h; cases h; done)) <;> (cases rx; cases ry; have h2 := Option.some.inj h; subst h2; refine ⟨rfl, ?_⟩; simp)
theorem sr_eq {K : PySem.W.Frag} : SR2 K rEq rdEq := by
  intro F H θ O x y v u S j rx ry q Q k
  obtain ⟨b, e, q⟩ := q
  obtain ⟨h1, h2⟩ := eqS_ok rx ry e
  exact ⟨h1, by rw [h2]; exact k _ _ F H θ O Gr.refl j (.bl b) q⟩
theorem sr_ne {K : PySem.W.Frag} : SR2 K rNe rdNe := by
  intro F H θ O x y v u S j rx ry q Q k
  obtain ⟨b, e, q⟩ := q
  obtain ⟨h1, h2⟩ := eqS_ok rx ry e
  exact ⟨h1, by rw [h2]; exact k _ _ F H θ O Gr.refl j (.bl (!b)) q⟩
theorem et_eq (ha : ED X a wa) (hb : ED X b wb) : EDT X (.Compare a [.Eq] [b] pos) (dTest (dOp rdEq wa wb)) := et_cmp op_eq sr_eq ha hb (nomark _)
theorem et_ne (ha : ED X a wa) (hb : ED X b wb) : EDT X (.Compare a [.NotEq] [b] pos) (dTest (dOp rdNe wa wb)) := et_cmp op_ne sr_ne ha hb (nomark _)
theorem ed_eq (ha : ED X a wa) (hb : ED X b wb) : ED X (.Compare a [.Eq] [b] pos) (dOp rdEq wa wb) := ed_cmp op_eq sr_eq ha hb (nomark _)
theorem ed_ne (ha : ED X a wa) (hb : ED X b wb) : ED X (.Compare a [.NotEq] [b] pos) (dOp rdNe wa wb) := ed_cmp op_ne sr_ne ha hb (nomark _)

/-! ### subscripts -/
def rdIxT : R2D := fun x y O S => ∃ ws i w, x = .tup ws ∧ y = .int i ∧ atI ws i = some w ∧ S w O
def rdIxL : R2D := fun x y O S => ∃ k ws i w, x = .cell k ∧ y = .int i ∧ LstC O k ws ∧ atI ws i = some w ∧ S w O
def rdIxS : R2D := fun x y O S => ∃ z i c, x = .str z ∧ y = .int i ∧ z.length ≤ sizeLine ∧ atI z.cps.toList i = some c ∧ S (.str ⟨#[c]⟩) O
theorem atI_rel {K : PySem.W.Frag} {F : Hp} {θ : List Addr} {vs : List V} {ws : List W} {i : Int} {w : W} (r : RWs K F θ vs ws) (h : atI ws i = some w) : ∃ v, atI vs i = some v ∧ RW K F θ v w := by
  unfold atI at h ⊢
  rw [r.length]
  cases q : ixN ws.length i with
  | none => rw [q] at h; cases h
  | some j =>
    rw [q] at h
    exact r.get (show ws[j]? = some w from h)
theorem sr_ixT {K : PySem.W.Frag} : SR2 K (rIxT K) rdIxT := by
  intro F H θ O x y v u S j rx ry q Q k
  obtain ⟨ws, i, w, rfl, rfl, h, q⟩ := q
  obtain ⟨a, vs, rfl, hq, rr⟩ := rx.tup_inv
  obtain ⟨z, hz, rz⟩ := atI_rel rr h
  exact ⟨a, vs, i, z, rfl, ry.int_inv, sqT_sub j hq, hz, k _ _ F H θ O Gr.refl j rz q⟩
theorem sr_ixL {K : PySem.W.Frag} : SR2 K (rIxL K) rdIxL := by
  intro F H θ O x y v u S j rx ry q Q k
  obtain ⟨c, ws, i, w, rfl, rfl, hc, h, q⟩ := q
  obtain ⟨a, rfl, ha⟩ := rx.cell_inv
  obtain ⟨vs, hl, rr⟩ := j.lstC ha hc
  obtain ⟨z, hz, rz⟩ := atI_rel rr h
  exact ⟨a, vs, i, z, rfl, ry.int_inv, hl, hz, k _ _ F H θ O Gr.refl j rz q⟩
theorem sr_ixS {K : PySem.W.Frag} : SR2 K rIxS rdIxS := by
  intro F H θ O x y v u S j rx ry q Q k
  obtain ⟨z, i, c, rfl, rfl, hz, h, q⟩ := q
  exact ⟨z, i, c, rx.str_inv, ry.int_inv, hz, h, k _ _ F H θ O Gr.refl j (.str _) q⟩
theorem ed_ix {r : R2} {rd : R2D} (hr : IxR X r) (h : SR2 X.K r rd) (ha : ED X a wa) (hb : ED X b wb) (hs : PlainIx b := by exact fun _ _ => rfl) : ED X (.Subscript a b pos) (dOp rd wa wb) := by
  obtain ⟨ta, pa, sa⟩ := ha.ex
  obtain ⟨tb, pb, sb⟩ := hb.ex
  exact ⟨_, pe_ix hr pa pb hs, .op h sa sb⟩
theorem ed_ixT (ha : ED X a wa) (hb : ED X b wb) (hs : PlainIx b := by exact fun _ _ => rfl) : ED X (.Subscript a b pos) (dOp rdIxT wa wb) := ed_ix ix_tup sr_ixT ha hb hs
theorem ed_ixL (ha : ED X a wa) (hb : ED X b wb) (hs : PlainIx b := by exact fun _ _ => rfl) : ED X (.Subscript a b pos) (dOp rdIxL wa wb) := ed_ix ix_list sr_ixL ha hb hs
theorem ed_ixS (ha : ED X a wa) (hb : ED X b wb) (hs : PlainIx b := by exact fun _ _ => rfl) : ED X (.Subscript a b pos) (dOp rdIxS wa wb) := ed_ix ix_str sr_ixS ha hb hs
theorem SR2.or {K : PySem.W.Frag} {r r' : R2} {rd rd' : R2D} (h : SR2 K r rd) (h' : SR2 K r' rd') : SR2 K (fun x y H Q => r x y H Q ∨ r' x y H Q) (fun x y O S => rd x y O S ∨ rd' x y O S) := by
  intro F H θ O x y v u S j rx ry q Q k
  rcases q with q | q
  · exact .inl (h F H θ O x y v u S j rx ry q Q k)
  · exact .inr (h' F H θ O x y v u S j rx ry q Q k)
/-- xs[i] = e -/
def dgSubL (wo wi : DE) : DG := fun w δ O S => wo δ O fun o O1 => wi δ O1 fun i O2 => ∃ k ws n j, o = .cell k ∧ i = .int n ∧ O2[k]? = some (.lst ws) ∧ ixN ws.length n = some j ∧ S δ (O2.set k (.lst (ws.set j w)))
theorem eg_subL (ho : ED X a wa) (hi : ED X b wb) (ha : ∀ v, assign (.Subscript a b pos) X.env v = (do
      let ov ← holding [v] (eval a X.env)
      let iv ← holding [v, ov] (eval b X.env)
      standAt pos
      holding [v, ov, iv] (setItem ov iv v)
      release [v, ov, iv] []) := by intro _; rfl) : EDG X (.Subscript a b pos) (dgSubL wa wb) := by
  obtain ⟨t0, p0, s0⟩ := ho.ex
  obtain ⟨t1, p1, s1⟩ := hi.ex
  refine ⟨_, pg_sub p0 p1 set_list ha, fun F H θ O σ δ v w S j s r q Q k => ?_⟩
  refine s0 F H θ O σ δ _ j s q _ fun vo wo F1 H1 θ1 O1 g1 j1 r1 q1 => ?_
  refine s1 F1 H1 θ1 O1 σ δ _ j1 (s.mono g1) q1 _ fun vi wi F2 H2 θ2 O2 g2 j2 r2 q2 => ?_
  obtain ⟨c, ws, n, m, rfl, rfl, hc, hm, q2⟩ := q2
  obtain ⟨p, rfl, hp⟩ := r1.cell_inv
  obtain ⟨f, vs, hv, rr⟩ := j2.lst (g2.at hp) hc
  refine ⟨p, vs, n, m, rfl, r2.int_inv, hv, by rw [rr.length]; exact hm, ?_⟩
  have g := g1.trans g2
  exact k F2 _ θ2 _ σ δ g (j2.putL (g2.at hp) f (rr.set (r.mono g) m)) (s.mono g) q2

/-! ### slices -/
structure EDO (X : Cx) (e : Option Expr) (wo : DS → Sto → (Option Int → Sto → Prop) → Prop) : Prop where
  ex : ∃ to, PO X e to ∧ ∀ F H θ O σ δ S, Jn X.K F H θ O → RS X.K F θ σ δ → wo δ O S → ∀ Q : Option Int → Hp → Prop, (∀ o F' H' θ' O', Gr F θ F' θ' → Jn X.K F' H' θ' O' → S o O' → Q o H') → to σ H Q
def dNoPart : DS → Sto → (Option Int → Sto → Prop) → Prop := fun _ O S => S none O
def dPart (we : DE) : DS → Sto → (Option Int → Sto → Prop) → Prop := fun δ O S => we δ O fun w O1 => ∃ i, w = .int i ∧ S (some i) O1
theorem eo_none : EDO X none dNoPart := ⟨_, po_none, fun F H θ O σ δ S j s q Q k => k none F H θ O Gr.refl j q⟩
theorem eo_some (h : ED X e we) : EDO X (some e) (dPart we) := by
  obtain ⟨t0, p0, s0⟩ := h.ex
  refine ⟨_, po_some p0, fun F H θ O σ δ S j s q Q k => ?_⟩
  refine s0 F H θ O σ δ _ j s q _ fun v w F1 H1 θ1 O1 g1 j1 r1 q1 => ?_
  obtain ⟨i, rfl, q1⟩ := q1
  exact ⟨i, r1.int_inv, k _ F1 H1 θ1 O1 g1 j1 q1⟩
def cutW (xs : List W) (lo hi : Option Int) : List W := (xs.drop (HT.sIx xs.length 0 lo)).take (HT.sIx xs.length xs.length hi - HT.sIx xs.length 0 lo)
theorem cut_rel {K : PySem.W.Frag} {F : Hp} {θ : List Addr} {vs : List V} {ws : List W} (r : RWs K F θ vs ws) (lo hi : Option Int) : RWs K F θ (cutV vs lo hi) (cutW ws lo hi) := by
  unfold cutV cutW
  rw [r.length]
  exact (r.drop _).take _
def dSlL (we : DE) (wl wh : DS → Sto → (Option Int → Sto → Prop) → Prop) : DE := fun δ O S => we δ O fun w O1 => wl δ O1 fun lo O2 => wh δ O2 fun hi O3 => ∃ k ws, w = .cell k ∧ LstC O3 k ws ∧ S (.cell O3.length) (O3 ++ [.lst (cutW ws lo hi)])
theorem ed_slL {lo hi : Option Expr} {wl wh : DS → Sto → (Option Int → Sto → Prop) → Prop} {p2 : Pos} (he : ED X e we) (hl : EDO X lo wl) (hh : EDO X hi wh) : ED X (.Subscript e (.Slice lo hi none p2) pos) (dSlL we wl wh) := by
  obtain ⟨t0, p0, s0⟩ := he.ex
  obtain ⟨t1, p1, s1⟩ := hl.ex
  obtain ⟨t2, p2, s2⟩ := hh.ex
  refine ⟨_, pe_slice sl_list p0 p1 p2, fun F H θ O σ δ S j s q Q k => ?_⟩
  refine s0 F H θ O σ δ _ j s q _ fun v w F1 H1 θ1 O1 g1 j1 r1 q1 => ?_
  refine s1 F1 H1 θ1 O1 σ δ _ j1 (s.mono g1) q1 _ fun lo F2 H2 θ2 O2 g2 j2 q2 => ?_
  refine s2 F2 H2 θ2 O2 σ δ _ j2 (s.mono (g1.trans g2)) q2 _ fun hi F3 H3 θ3 O3 g3 j3 q3 => ?_
  obtain ⟨c, ws, rfl, hc, q3⟩ := q3
  obtain ⟨a, rfl, ha⟩ := r1.cell_inv
  obtain ⟨vs, hl, rr⟩ := j3.lstC ((g2.trans g3).at ha) hc
  refine ⟨a, vs, rfl, hl, fun p hp => ?_⟩
  exact k _ _ _ _ _ _ (((g1.trans g2).trans g3).trans Gr.push) (j3.newL hp (cut_rel rr lo hi)) (.cell (by rw [← j3.len]; simp)) q3

/-! ### calls of built-ins -/
abbrev RCD := List W → Sto → WK → Prop
def SRC (K : PySem.W.Frag) (r : List V → Hp → VK → Prop) (rd : RCD) : Prop := ∀ F H θ O vs ws S, Jn K F H θ O → RWs K F θ vs ws → rd ws O S → ∀ Q : VK, (∀ z w F' H' θ' O', Gr F θ F' θ' → Jn K F' H' θ' O' → RW K F' θ' z w → S w O' → Q z H') → r vs H Q
def dCB (rd : RCD) (wa : DA) : DE := fun δ O S => wa δ O fun ws O1 => rd ws O1 S
theorem ed_callB {x : Str} {id : String} {p : Pos} {r : List V → Hp → VK → Prop} {rd : RCD} (hc : CallR X (.builtin id) r) (hr : SRC X.K r rd) (hg : Gl X x) (hm : X.mg x = none) (hv : bootBuiltins x = some (.builtin id)) (ha : EDA X (e :: es) wr) (hn : x ≠ "__name__" := by decide) (hdb : (x == ("__debug__" : Str)) = false := by decide)
    (he : starEach (e :: es) X.env = (false, eval e X.env) :: starEach es X.env := by rfl) (hpl : (backTo pos (starEach es X.env)).any (·.1) = false := by rfl) : ED X (.Call (.Name x p) (e :: es) [] pos) (dCB rd wr) := by
  obtain ⟨t0, p0, s0⟩ := ha.ex
  refine ⟨_, pe_callB hc hg hm hv p0 hn hdb he hpl, fun F H θ O σ δ S j s q Q k => ?_⟩
  exact s0 F H θ O σ δ _ j s q _ fun vs ws F1 H1 θ1 O1 g1 j1 r1 q1 => hr F1 H1 θ1 O1 vs ws S j1 r1 q1 Q fun z w F2 H2 θ2 O2 g2 => k z w F2 H2 θ2 O2 (g1.trans g2)
theorem ed_callTy {x : Str} {T : String} {p : Pos} {r : List V → Hp → VK → Prop} {rd : RCD} (hc : CallR X (.type T) r) (hr : SRC X.K r rd) (hg : Gl X x) (hm : X.mg x = none) (hv : bootBuiltins x = some (.type T)) (ha : EDA X (e :: es) wr) (hn : x ≠ "__name__" := by decide) (hdb : (x == ("__debug__" : Str)) = false := by decide)
    (he : starEach (e :: es) X.env = (false, eval e X.env) :: starEach es X.env := by rfl) (hpl : (backTo pos (starEach es X.env)).any (·.1) = false := by rfl) : ED X (.Call (.Name x p) (e :: es) [] pos) (dCB rd wr) := by
  obtain ⟨t0, p0, s0⟩ := ha.ex
  refine ⟨_, pe_callTy hc hg hm hv p0 hn hdb he hpl, fun F H θ O σ δ S j s q Q k => ?_⟩
  exact s0 F H θ O σ δ _ j s q _ fun vs ws F1 H1 θ1 O1 g1 j1 r1 q1 => hr F1 H1 θ1 O1 vs ws S j1 r1 q1 Q fun z w F2 H2 θ2 O2 g2 => k z w F2 H2 θ2 O2 (g1.trans g2)
def rdLen : RCD := fun ws O S => (∃ us, ws = [.tup us] ∧ S (.int us.length) O) ∨ (∃ k us, ws = [.cell k] ∧ LstC O k us ∧ S (.int us.length) O)
theorem src_len {K : PySem.W.Frag} : SRC K (fun xs H Q => ∃ p ys, xs = [.ref p] ∧ (SqL K H p ys ∨ SqT K H p ys) ∧ Q (.int ys.length) H) rdLen := by
  intro F H θ O vs ws S j r q Q k
  rcases q with ⟨us, rfl, q⟩ | ⟨c, us, rfl, hc, q⟩
  · obtain ⟨v, rfl, rv⟩ := r.one_inv
    obtain ⟨a, xs, rfl, hq, rr⟩ := rv.tup_inv
    refine ⟨a, xs, rfl, .inr (sqT_sub j hq), ?_⟩
    rw [rr.length]
    exact k _ _ F H θ O Gr.refl j (.int _) q
  · obtain ⟨v, rfl, rv⟩ := r.one_inv
    obtain ⟨a, rfl, ha⟩ := rv.cell_inv
    obtain ⟨xs, hl, rr⟩ := j.lstC ha hc
    refine ⟨a, xs, rfl, .inl hl, ?_⟩
    rw [rr.length]
    exact k _ _ F H θ O Gr.refl j (.int _) q
def rdLenS : RCD := fun ws O S => ∃ z, ws = [.str z] ∧ z.length ≤ sizeLine ∧ S (.int z.length) O
theorem src_lenS {K : PySem.W.Frag} : SRC K (fun xs H Q => ∃ z, xs = [.str z] ∧ z.length ≤ sizeLine ∧ Q (.int z.length) H) rdLenS := by
  intro F H θ O vs ws S j r q Q k
  obtain ⟨z, rfl, hz, q⟩ := q
  obtain ⟨v, rfl, rv⟩ := r.one_inv
  exact ⟨z, by rw [rv.str_inv], hz, k _ _ F H θ O Gr.refl j (.int _) q⟩
def rdMax2 : RCD := fun ws O S => ∃ i j, ws = [.int i, .int j] ∧ S (.int (if j > i then j else i)) O
def rdMin2 : RCD := fun ws O S => ∃ i j, ws = [.int i, .int j] ∧ S (.int (if j < i then j else i)) O
theorem src_max2 {K : PySem.W.Frag} : SRC K (fun xs H Q => ∃ i j, xs = [.int i, .int j] ∧ Q (.int (if j > i then j else i)) H) rdMax2 := by
  intro F H θ O vs ws S j r q Q k
  obtain ⟨i, l, rfl, q⟩ := q
  obtain ⟨v, u, rfl, rv, ru⟩ := r.two_inv
  exact ⟨i, l, by rw [rv.int_inv, ru.int_inv], k _ _ F H θ O Gr.refl j (.int _) q⟩
theorem src_min2 {K : PySem.W.Frag} : SRC K (fun xs H Q => ∃ i j, xs = [.int i, .int j] ∧ Q (.int (if j < i then j else i)) H) rdMin2 := by
  intro F H θ O vs ws S j r q Q k
  obtain ⟨i, l, rfl, q⟩ := q
  obtain ⟨v, u, rfl, rv, ru⟩ := r.two_inv
  exact ⟨i, l, by rw [rv.int_inv, ru.int_inv], k _ _ F H θ O Gr.refl j (.int _) q⟩
def rdInt1 : RCD := fun ws O S => (∃ i, ws = [.int i] ∧ S (.int i) O) ∨ ∃ b, ws = [.bl b] ∧ S (.int (if b then 1 else 0)) O
theorem src_int1 {K : PySem.W.Frag} : SRC K (fun xs H Q => (∃ i, xs = [.int i] ∧ Q (.int i) H) ∨ ∃ k, xs = [.bl k] ∧ Q (.int (if k then 1 else 0)) H) rdInt1 := by
  intro F H θ O vs ws S j r q Q k
  rcases q with ⟨i, rfl, q⟩ | ⟨b, rfl, q⟩
  · obtain ⟨v, rfl, rv⟩ := r.one_inv
    exact .inl ⟨i, by rw [rv.int_inv], k _ _ F H θ O Gr.refl j (.int _) q⟩
  · obtain ⟨v, rfl, rv⟩ := r.one_inv
    exact .inr ⟨b, by rw [rv.bl_inv], k _ _ F H θ O Gr.refl j (.int _) q⟩
def rdSum : RCD := fun ws O S => ∃ (k : Nat) (ns : List Int), ws = [.cell k] ∧ LstC O k (ns.map W.int) ∧ S (.int ns.sum) O
theorem ints_rel {K : PySem.W.Frag} {F : Hp} {θ : List Addr} : ∀ {vs : List V} {ns : List Int}, RWs K F θ vs (ns.map W.int) → vs = ns.map V.int
  | _, [], r => by cases r; rfl
  | _, n :: ns, r => by
    cases r with
    | cons a b => rw [a.int_inv, ints_rel b]; rfl
theorem strs_rel {K : PySem.W.Frag} {F : Hp} {θ : List Addr} : ∀ {vs : List V} {ns : List Str}, RWs K F θ vs (ns.map W.str) → vs = ns.map V.str
  | _, [], r => by cases r; rfl
  | _, n :: ns, r => by
    cases r with
    | cons a b => rw [a.str_inv, strs_rel b]; rfl
theorem src_sum {K : PySem.W.Frag} : SRC K (rSum K) rdSum := by
  intro F H θ O vs ws S j r q Q k
  obtain ⟨c, ns, rfl, hc, q⟩ := q
  obtain ⟨v, rfl, rv⟩ := r.one_inv
  obtain ⟨a, rfl, ha⟩ := rv.cell_inv
  obtain ⟨xs, hl, rr⟩ := j.lstC ha hc
  exact ⟨a, ns, rfl, by rw [← ints_rel rr]; exact hl, k _ _ F H θ O Gr.refl j (.int _) q⟩
def rdStrI : RCD := fun ws O S => ∃ i, ws = [.int i] ∧ i.natAbs.log2 < 1920 ∧ S (.str (toString i)) O
theorem src_strI {K : PySem.W.Frag} : SRC K (fun xs H Q => ∃ i, xs = [.int i] ∧ i.natAbs.log2 < 1920 ∧ Q (.str (toString i)) H) rdStrI := by
  intro F H θ O vs ws S j r q Q k
  obtain ⟨i, rfl, hi, q⟩ := q
  obtain ⟨v, rfl, rv⟩ := r.one_inv
  exact ⟨i, by rw [rv.int_inv], hi, k _ _ F H θ O Gr.refl j (.str _) q⟩
/-- list(..), tuple(..) of a list, a tuple -/
def rdListOf : RCD := fun ws O S => (∃ us, ws = [.tup us] ∧ S (.cell O.length) (O ++ [.lst us])) ∨ ∃ k us, ws = [.cell k] ∧ LstC O k us ∧ S (.cell O.length) (O ++ [.lst us])
theorem src_listOf {K : PySem.W.Frag} : SRC K (fun xs H Q => ∃ p ys, xs = [.ref p] ∧ (SqL K H p ys ∨ SqT K H p ys) ∧ ∀ l, H l = none → Q (.ref l) (L2.upd H l (.lst ys))) rdListOf := by
  intro F H θ O vs ws S j r q Q k
  rcases q with ⟨us, rfl, q⟩ | ⟨c, us, rfl, hc, q⟩
  · obtain ⟨v, rfl, rv⟩ := r.one_inv
    obtain ⟨a, xs, rfl, hq, rr⟩ := rv.tup_inv
    exact ⟨a, xs, rfl, .inr (sqT_sub j hq), fun p hp => k _ _ _ _ _ _ Gr.push (j.newL hp rr) (.cell (by rw [← j.len]; simp)) q⟩
  · obtain ⟨v, rfl, rv⟩ := r.one_inv
    obtain ⟨a, rfl, ha⟩ := rv.cell_inv
    obtain ⟨xs, hl, rr⟩ := j.lstC ha hc
    exact ⟨a, xs, rfl, .inl hl, fun p hp => k _ _ _ _ _ _ Gr.push (j.newL hp rr) (.cell (by rw [← j.len]; simp)) q⟩
def rdTupOf : RCD := fun ws O S => (∃ us, ws = [.tup us] ∧ S (.tup us) O) ∨ ∃ k us, ws = [.cell k] ∧ LstC O k us ∧ S (.tup us) O
theorem src_tupOf {K : PySem.W.Frag} : SRC K (fun xs H Q => ∃ p ys, xs = [.ref p] ∧ ((SqL K H p ys ∧ ∀ l, H l = none → Q (.ref l) (L2.upd H l (.tup ys))) ∨ (SqT K H p ys ∧ Q (.ref p) H))) rdTupOf := by
  intro F H θ O vs ws S j r q Q k
  rcases q with ⟨us, rfl, q⟩ | ⟨c, us, rfl, hc, q⟩
  · obtain ⟨v, rfl, rv⟩ := r.one_inv
    obtain ⟨a, xs, rfl, hq, rr⟩ := rv.tup_inv
    exact ⟨a, xs, rfl, .inr ⟨sqT_sub j hq, k _ _ F H θ O Gr.refl j rv q⟩⟩
  · obtain ⟨v, rfl, rv⟩ := r.one_inv
    obtain ⟨a, rfl, ha⟩ := rv.cell_inv
    obtain ⟨xs, hl, rr⟩ := j.lstC ha hc
    refine ⟨a, xs, rfl, .inl ⟨hl, fun p hp => ?_⟩⟩
    have g2 : Gr F θ (L2.upd F p (.tup xs)) θ := Gr.upd (j.freeF hp)
    exact k _ _ _ _ _ _ g2 (j.newT hp) (.tup (.inl (.inl upd_same)) (rr.mono g2)) q

/-! ### methods -/
abbrev RMD := W → List W → Sto → WK → Prop
def SRM (K : PySem.W.Frag) (T : String) (r : V → List V → Hp → VK → Prop) (rd : RMD) : Prop := ∀ F H θ O v x vs ws S, Jn K F H θ O → RW K F θ v x → RWs K F θ vs ws → rd x ws O S → ∀ Q : VK, (∀ z w F' H' θ' O', Gr F θ F' θ' → Jn K F' H' θ' O' → RW K F' θ' z w → S w O' → Q z H') → r v vs H Q
/-- what a method's receiver is, ahead of the arguments -/
def STy (K : PySem.W.Frag) (T : String) (ok : W → Sto → Prop) : Prop := ∀ F H θ O v x, Jn K F H θ O → RW K F θ v x → ok x O → tyV K T v H
def okL (x : W) (O : Sto) : Prop := ∃ k ws, x = .cell k ∧ LstC O k ws
def okS (x : W) (_ : Sto) : Prop := ∃ z, x = .str z
theorem sty_L {K : PySem.W.Frag} : STy K "list" okL := by
  intro F H θ O v x j r h
  obtain ⟨c, ws, rfl, hc⟩ := h
  obtain ⟨a, rfl, ha⟩ := r.cell_inv
  obtain ⟨vs, hl, _⟩ := j.lstC ha hc
  exact .inl ⟨rfl, vs, hl⟩
theorem sty_S {K : PySem.W.Frag} : STy K "str" okS := by
  intro F H θ O v x j r h
  obtain ⟨z, rfl⟩ := h
  rw [r.str_inv]
  rfl
def dBM (ok : W → Sto → Prop) (rd : RMD) (wo : DE) (wa : DA) : DE := fun δ O S => wo δ O fun x O1 => ok x O1 ∧ wa δ O1 fun ws O2 => rd x ws O2 S
theorem ed_bm {name : Str} {apos cpos : Pos} {T id : String} {r : V → List V → Hp → VK → Prop} {rd : RMD} {ok : W → Sto → Prop} (pa : PlainAttrs T) (slot : Slot T name id) (hty : typeOf (.builtin id) = pure (.type "method_descriptor")) (hm : MtR X id r) (hs : STy X.K T ok) (hr : SRM X.K T r rd) (ho : ED X a wa) (ha : EDA X (e :: es) wr)
    (hbase : attributeBase a name X.env (eval a X.env) = eval a X.env := by rfl) (hline : (apos.endLine == cpos.line) = true := by rfl)
    (hplain : (((backTo cpos (starEach (e :: es) X.env)).all (!·.1)) && (backToKw cpos (keywordEach [] X.env)).all (·.1.isSome) && decide ((e :: es).length + ([] : List Keyword).length + (if ([] : List Keyword).isEmpty then 0 else 1) < 30)) = true := by rfl)
    (hst : starEach (e :: es) X.env = (false, eval e X.env) :: starEach es X.env := by rfl) (hpl : (backTo cpos (starEach es X.env)).any (·.1) = false := by rfl) : ED X (.Call (.Attribute a name apos) (e :: es) [] cpos) (dBM ok rd wa wr) := by
  obtain ⟨t0, p0, s0⟩ := ho.ex
  obtain ⟨t1, p1, s1⟩ := ha.ex
  refine ⟨_, pe_bm pa slot hty hm p0 p1 hbase hplain hline hst hpl, fun F H θ O σ δ S j s q Q k => ?_⟩
  refine s0 F H θ O σ δ _ j s q _ fun v x F1 H1 θ1 O1 g1 j1 r1 q1 => ⟨hs F1 H1 θ1 O1 v x j1 r1 q1.1, ?_⟩
  refine s1 F1 H1 θ1 O1 σ δ _ j1 (s.mono g1) q1.2 _ fun vs ws F2 H2 θ2 O2 g2 j2 r2 q2 => ?_
  exact hr F2 H2 θ2 O2 v x vs ws S j2 (r1.mono g2) r2 q2 Q fun z w F3 H3 θ3 O3 g3 => k z w F3 H3 θ3 O3 ((g1.trans g2).trans g3)
def rdAppend : RMD := fun x ws O S => ∃ k us w, x = .cell k ∧ ws = [w] ∧ O[k]? = some (.lst us) ∧ us.length < sizeLine ∧ S .non (O.set k (.lst (us ++ [w])))
theorem srm_append {K : PySem.W.Frag} : SRM K "list" rAppend rdAppend := by
  intro F H θ O v x vs ws S j r rs q Q k
  obtain ⟨c, us, w, rfl, rfl, hc, hz, q⟩ := q
  obtain ⟨a, rfl, ha⟩ := r.cell_inv
  obtain ⟨y, rfl, ry⟩ := rs.one_inv
  obtain ⟨f, xs, hx, rr⟩ := j.lst ha hc
  exact ⟨a, xs, y, rfl, rfl, hx, by rw [rr.length]; exact hz, k _ _ F _ θ _ Gr.refl (j.putL ha f (rr.append (.cons ry .nil))) .non q⟩
def rdPopAt : RMD := fun x ws O S => ∃ k us i n w, x = .cell k ∧ ws = [.int i] ∧ O[k]? = some (.lst us) ∧ -(2 ^ 63) ≤ i ∧ i < 2 ^ 63 ∧ seqIndex? i us.length = some n ∧ us[n]? = some w ∧ S w (O.set k (.lst (us.eraseIdx n)))
theorem srm_popAt {K : PySem.W.Frag} : SRM K "list" rPopAt rdPopAt := by
  intro F H θ O v x vs ws S j r rs q Q k
  obtain ⟨c, us, i, n, w, rfl, rfl, hc, h1, h2, hn, hw, q⟩ := q
  obtain ⟨a, rfl, ha⟩ := r.cell_inv
  obtain ⟨y, rfl, ry⟩ := rs.one_inv
  obtain ⟨f, xs, hx, rr⟩ := j.lst ha hc
  obtain ⟨z, hz, rz⟩ := rr.get hw
  exact ⟨a, xs, i, n, z, rfl, by rw [ry.int_inv], hx, h1, h2, by rw [rr.length]; exact hn, hz, k _ _ F _ θ _ Gr.refl (j.putL ha f (rr.erase n)) rz q⟩
def rdInsert : RMD := fun x ws O S => ∃ k us i w, x = .cell k ∧ ws = [.int i, w] ∧ O[k]? = some (.lst us) ∧ us.length < sizeLine ∧ 0 ≤ i ∧ i < 2 ^ 63 ∧ S .non (O.set k (.lst (us.take i.toNat ++ [w] ++ us.drop i.toNat)))
theorem srm_insert {K : PySem.W.Frag} : SRM K "list" (fun x vs H Q => ∃ (l : Addr) (xs : List V) (i : Int) (y : V), x = .ref l ∧ vs = [.int i, y] ∧ H l = some (.lst xs) ∧ xs.length < sizeLine ∧ 0 ≤ i ∧ i < 2 ^ 63 ∧ Q .non (L2.upd H l (.lst (xs.take i.toNat ++ [y] ++ xs.drop i.toNat)))) rdInsert := by
  intro F H θ O v x vs ws S j r rs q Q k
  obtain ⟨c, us, i, w, rfl, rfl, hc, hz, h0, h1, q⟩ := q
  obtain ⟨a, rfl, ha⟩ := r.cell_inv
  obtain ⟨y, z, rfl, ry, rz⟩ := rs.two_inv
  obtain ⟨f, xs, hx, rr⟩ := j.lst ha hc
  exact ⟨a, xs, i, z, rfl, by rw [ry.int_inv], hx, by rw [rr.length]; exact hz, h0, h1, k _ _ F _ θ _ Gr.refl (j.putL ha f (((rr.take _).append (.cons rz .nil)).append (rr.drop _))) .non q⟩
def rdJoin : RMD := fun x ws O S => ∃ (a : Str) (ys : List Str), x = .str a ∧ ((∃ k, ws = [.cell k] ∧ LstC O k (ys.map W.str)) ∨ ws = [.tup (ys.map W.str)]) ∧ (ys.map (·.length)).sum + ys.length * a.length ≤ 16777216 ∧ S (.str (Txt.join a ys)) O
theorem srm_join {K : PySem.W.Frag} : SRM K "str" (fun x xs H Q => ∃ a p, ∃ ys : List Str, x = .str a ∧ xs = [.ref p] ∧ (SqL K H p (ys.map V.str) ∨ SqT K H p (ys.map V.str)) ∧ (ys.map (·.length)).sum + ys.length * a.length ≤ 16777216 ∧ Q (.str (Txt.join a ys)) H) rdJoin := by
  intro F H θ O v x vs ws S j r rs q Q k
  obtain ⟨a, ys, rfl, h, hz, q⟩ := q
  rcases h with ⟨c, rfl, hc⟩ | rfl
  · obtain ⟨y, rfl, ry⟩ := rs.one_inv
    obtain ⟨p, rfl, hp⟩ := ry.cell_inv
    obtain ⟨xs, hl, rr⟩ := j.lstC hp hc
    exact ⟨a, p, ys, r.str_inv, rfl, .inl (by rw [← strs_rel rr]; exact hl), hz, k _ _ F H θ O Gr.refl j (.str _) q⟩
  · obtain ⟨y, rfl, ry⟩ := rs.one_inv
    obtain ⟨p, xs, rfl, hq, rr⟩ := ry.tup_inv
    exact ⟨a, p, ys, r.str_inv, rfl, .inr (by rw [← strs_rel rr]; exact sqT_sub j hq), hz, k _ _ F H θ O Gr.refl j (.str _) q⟩
end
end Dm

set_option Elab.async false
set_option linter.all false
set_option maxRecDepth 100000
set_option maxHeartbeats 4000000
/-! len(set(texts)), of any number of texts below 4000: how many unlike ones. -/
namespace Dm
open PySem PySem.Spec PyProof.Rows L2

/-- how many unlike texts are among the first i -/
def nD (xs : List Str) : Nat → Nat
  | 0 => 0
  | i + 1 => if (xs.take i).any (· == xs.getD i Str.empty) = true then nD xs i else nD xs i + 1
theorem nD_le (xs : List Str) : ∀ i, nD xs i ≤ i
  | 0 => Nat.le_refl _
  | i + 1 => by
    have h := nD_le xs i
    unfold nD
    split <;> omega
theorem take_any {xs : List Str} {i : Nat} (h : i < xs.length) (k : Str) : ((xs.take i).any (· == k) || decide (k = xs.getD i Str.empty)) = (xs.take (i + 1)).any (· == k) := by
  have e : xs.getD i Str.empty = xs[i] := by simp [List.getD, h]
  rw [List.take_add_one, List.getElem?_eq_getElem h, List.any_append, e]
  congr 1
  by_cases q : k = xs[i]
  · subst q
    simp
  · have : (xs[i] == k) = false := by simpa using fun z : xs[i] = k => q z.symm
    simp [this, q]
section
variable {prog : Program} {w : World} {A : Around} {R : Result → Shared → Prop} {E : Value → Shared → Prop} {I : Addr} {fp wr : List Addr} {G : Array GenState → Array GenState → Prop} {n : Nat} {P : Nat → Value → Prop} {St : Nat → Shared → Prop}
theorem setOf_get {h h' : Heap} {S : Addr} {f : Str → Bool} {m : Nat} (x : h.SetOf (PySem.strKind prog w) S f m) (k : ∀ o, h.get? S = some o → h'.get? S = some o) : h'.SetOf (PySem.strKind prog w) S f m :=
  let ⟨o, es, ep, t, ho, rest⟩ := x
  ⟨o, es, ep, t, k o ho, rest⟩
/-- the members are laid one behind another -/
theorem setLoop (W : WalksS prog w A.in1 I fp wr G n P St) (S : Addr) (nS : S ∉ fp) (xs : List Str) (en : xs.length = n) (room : n + 1 < scanBound) (val : ∀ i v, P i v → ∃ t, v = .str (xs.getD i Str.empty) t) : ∀ (k i : Nat) (s : Shared), n - i = k → i ≤ n → St i s →
    s.heap.SetOf (PySem.strKind prog w) S (fun z => (xs.take i).any (· == z)) (nD xs i) → (∀ s', Moved (S :: wr) G s s' → s'.heap.SetOf (PySem.strKind prog w) S (fun z => (xs.take n).any (· == z)) (nD xs n) → R (.ok (.ret .none)) s') →
    codeAny (model prog w) A (.builtin "set.update.loop" ⟨[.ref S, .ref I], []⟩) R s := by
  have nW : S ∉ wr := fun z => nS (W.sub _ z)
  have more : ∀ b ∈ wr, b ∈ S :: wr := fun b z => List.mem_cons_of_mem _ z
  intro k
  induction k with
  | zero =>
    intro i s hk hi st hS fin
    obtain rfl : i = n := by omega
    refine codeAny_builtin PyProof.Rows.F.entry_set_update_loop ?_
    rw [Around.under_plainId PyProof.Rows.F.plain_set_update_loop _]
    show wpAny _ A.in1 (pyNext (.ref I) >>= _) _ _ s
    exact wpAny_bind (W.done s _ _ st fun s' mv => (show wpAny _ A.in1 (ret Value.none) _ _ s' from wpAny_pure (fin s' (mv.mono more) (setOf_get hS fun o ho => mv.heap S o nW ho))))
  | succ k ih =>
    intro i s hk hi st hS fin
    have lt : i < n := by omega
    refine codeAny_builtin PyProof.Rows.F.entry_set_update_loop ?_
    rw [Around.under_plainId PyProof.Rows.F.plain_set_update_loop _]
    show wpAny _ A.in1 (pyNext (.ref I) >>= _) _ _ s
    refine wpAny_bind (W.item i s _ _ lt st fun v s' hP st' mv => ?_)
    obtain ⟨t, rfl⟩ := val i v hP
    have hS1 := setOf_get hS fun o ho => mv.heap S o nW ho
    show wpAny _ A.in1 (holding [Value.str (xs.getD i Str.empty) t] (setAdd S (.str (xs.getD i Str.empty) t)) >>= _) _ _ s'
    refine wpAny_bind (wpAny_holding ?_)
    unfold setAdd
    refine wpAny_holding (wpAny_bind ((PySem.strKind prog w).pyHash (k := xs.getD i Str.empty) (strKind_is _ _ _ _) ?_))
    refine wpAny_setAddHashed_of (knd := PySem.strKind prog w) (s := { s' with toks := s'.toks + 1 }) (strKind_is _ _ _ _) rfl hS1 (by have := nD_le xs i; omega) fun h' sb hS2 => ?_
    have hS3 : h'.SetOf (PySem.strKind prog w) S (fun z => (xs.take (i + 1)).any (· == z)) (nD xs (i + 1)) := PyProof.Rows.SetOf_congr hS2 (fun z => take_any (by omega) z) (by rw [show nD xs (i + 1) = if (xs.take i).any (· == xs.getD i Str.empty) = true then nD xs i else nD xs i + 1 from rfl])
    refine wpAny_pure ⟨plainId_quiet PyProof.Rows.F.plain_set_update_loop _, ih (i + 1) _ (by omega) lt (W.frame _ s' _ _ st' (Nat.le_succ _) fun b hb o e => (sb.2 b fun z : b = S => nS (z ▸ hb)).trans e) hS3 fun s2 mv2 hS4 => fin s2 (Moved.trans W.gtrans ((mv.mono more).then_heap (Nat.le_succ _) fun b o hb e => (sb.2 b fun z : b = S => hb (z ▸ List.mem_cons_self)).trans e) mv2) hS4⟩
end
/-- an empty set, new -/
abbrev eSet (led : Bool) : Obj := { cls := .type "set", dict := none, data := .set #[] 0 (.fresh 0 0 led) }
section
variable {prog : Program} {w : World} {A : Around} {E : Value → Shared → Prop} {s : Shared}
theorem strs_nth {us : List Value} {xs : List Str} (h : PyProof.Rows.StrsAre us xs) : ∀ (i : Nat) (v : Value), us[i]? = some v → ∃ t, v = .str (xs.getD i Str.empty) t := by
  induction h with
  | nil =>
    intro i v e
    simp at e
  | cons n t hr ih =>
    intro i v e
    cases i with
    | zero =>
      simp at e
      exact ⟨t, by rw [← e]; rfl⟩
    | succ i =>
      rw [List.getElem?_cons_succ] at e
      obtain ⟨t', q⟩ := ih i v e
      exact ⟨t', by rw [q]; rfl⟩
set_option maxHeartbeats 6400000 in
/-- set(xs) of a list or a tuple of texts -/
theorem callSet {l : Addr} {T IT : String} {items : Array Value} {xs : List Str} {Q : Value → Shared → Prop} (hT : (T = "list" ∧ IT = "list_iterator") ∨ (T = "tuple" ∧ IT = "tuple_iterator")) (hh : A.handled = none) (ho : ∃ o n, s.heap.get? l = some o ∧ o.cls = .type T ∧ o.data = .seq items n) (hi : PyProof.Rows.StrsAre items.toList xs) (room : xs.length + 1 < scanBound)
    (h : ∀ (h' : Heap) (tk : Nat), h'.SetOf (PySem.strKind prog w) s.heap.objs.size (fun z => (xs.take items.size).any (· == z)) (nD xs items.size) → (∀ b o, b < s.heap.objs.size → s.heap.get? b = some o → h'.get? b = some o) → Q (.ref s.heap.objs.size) { s with heap := h', toks := tk }) :
    wpAny (model prog w) A (call (.type "set") [.ref l]) Q E s := by
  obtain ⟨cM, tM, hmro⟩ := PySem.F.called_set.mro
  have q1 := PySem.F.called_set.made
  have q2 := PySem.F.called_set.sub
  refine wpAny_call (codeAny_of_tree (show wpAny _ _ (callAny (.type "set") _) _ _ _ from wpAny_pure ⟨Code.quiet_builtin _ (by decide +kernel), codeAny_builtin PySem.F.entry_type_call ?_⟩))
  rw [Around.under_plain (weight_type_call_type "set" [.ref l] []) rfl]
  have q3 := PySem.F.called_set.notType
  have q4 := PySem.F.called_set.canCreate
  have q5 := PySem.F.typeCall_set_1 (.ref l)
  repeat (any_goals (first | assumption | wp_step))
  refine codeAny_mono (code_set_new_1 (.ref l) (E := E) (Q₁ := fun x s₁ => ∃ led : Bool, x = .ref s.heap.objs.size ∧ s₁ = { s with heap := s.heap.push (eSet led) }) fun led => ⟨led, rfl, rfl⟩) fun r s₁ hr => ?_
  cases r with
  | error e => exact hr
  | ok fl =>
    cases fl with
    | ret x =>
      obtain ⟨led, rfl, rfl⟩ := hr
      have atS : (s.heap.push (eSet led)).get? s.heap.objs.size = some (eSet led) := Heap.get?_push_size _ rfl
      have tyS : Shared.TypeIs { s with heap := s.heap.push (eSet led) } (.ref s.heap.objs.size) "set" := ⟨_, atS, rfl⟩
      have q6 := PySem.F.called_set.init.lookup
      have q7 := PySem.F.called_set.init.bind (.ref s.heap.objs.size)
      repeat (any_goals (first | assumption | wp_step))
      refine codeAny_mono (codeAny_call_builtin (R := wants (fun r s₂ => r = .none ∧ ∃ h' tk, s₂ = { s with heap := h', toks := tk } ∧ h'.SetOf (PySem.strKind prog w) s.heap.objs.size (fun z => (xs.take items.size).any (· == z)) (nD xs items.size) ∧ (∀ b o, b < s.heap.objs.size → s.heap.get? b = some o → h'.get? b = some o)) E) PySem.F.called_set.init.plain PySem.F.entry_set_init (check_set_init_1 tyS ?_)) fun r₂ s₂ hr₂ => ?_
      · obtain ⟨⟨oc, od, oda, osl⟩, nl, hol, hcl, hdl⟩ := ho
        simp only at hcl hdl
        subst hcl
        subst hdl
        have lS : l < s.heap.objs.size := Heap.lt_size hol
        have ol1 : (s.heap.push (eSet led)).get? l = some { cls := .type T, dict := od, data := .seq items nl, slots := osl } := Heap.get?_push_of_some _ hol
        have nI : l ≠ (s.heap.push (eSet led)).objs.size := by
          rw [Heap.size_push]
          exact Nat.ne_of_lt (Nat.lt_succ_of_lt lS)
        have nS : s.heap.objs.size ∉ [(s.heap.push (eSet led)).objs.size, l] := by
          rw [Heap.size_push]
          simp only [List.mem_cons, List.not_mem_nil, or_false, not_or]
          exact ⟨Nat.ne_of_lt (Nat.lt_succ_self _), Nat.ne_of_gt lS⟩
        have en : xs.length = items.size := by rw [← StrsAre.len_eq hi, Array.length_toList]
        have hv : ∀ (i : Nat) (v : Value), items[i]? = some v → ∃ t, v = .str (xs.getD i Str.empty) t := fun i v e => strs_nth hi i v (by rw [Array.getElem?_toList]; exact e)
        have h3 : A.in1.in1.in1.handled = none := by simp [hh]
        have zero : ∀ ob : Obj, ((s.heap.push (eSet led)).push ob).SetOf (PySem.strKind prog w) s.heap.objs.size (fun z => (xs.take 0).any (· == z)) (nD xs 0) := fun ob =>
          PyProof.Rows.SetOf_congr ((PyProof.Rows.setObjOf_fresh (knd := PySem.strKind prog w) led).setOf (Heap.get?_push_of_some ob atS) (by unfold scanBound; omega)) (fun _ => rfl) rfl
        rcases hT with ⟨rfl, rfl⟩ | ⟨rfl, rfl⟩
        · have hl1 : (s.heap.push (eSet led)).IsList l items := ⟨_, ol1, rfl, nl, rfl⟩
          have d1 := PySem.F.sub_list_set
          have d2 := PySem.F.sub_list_frozenset
          have d3 : (Value.type "list" == Value.type "dict") = false := by decide
          unfold Builtin.«set.__init__» noKeywords Builtin.Frozenset.updateFrom
          generalize hPI : pyIter = PI
          wp_walk
          subst hPI
          refine wpAny_pyIter_list hl1 (wpAny_bind (wpAny_runValue ?_))
          refine setLoop ((Walks.list h3 _ l nI items).toS) s.heap.objs.size nS xs en (by omega) hv (items.size - 0) 0 _ (by omega) (Nat.zero_le _) ⟨⟨_, Heap.get?_push_size _ rfl, rfl, rfl⟩, (hl1.push _)⟩ (zero _) ?_
          rintro ⟨h', g', d', tk', os'⟩ mv hS'
          obtain rfl : g' = s.gens := mv.gens
          obtain rfl : d' = s.drawn := mv.drawn
          obtain rfl : os' = s.os := mv.os
          show wpAny _ _ _ _ _ _
          refine wpAny_pure (show wpAny _ _ (ret Value.none) _ _ _ from wpAny_pure ⟨rfl, h', tk', rfl, hS', fun b o hb e => ?_⟩)
          refine mv.heap b o ?_ (Heap.get?_push_of_some _ (Heap.get?_push_of_some _ e))
          rw [Heap.size_push]
          simp only [List.mem_cons, List.not_mem_nil, or_false, not_or]
          exact ⟨Nat.ne_of_lt hb, Nat.ne_of_lt (Nat.lt_succ_of_lt hb)⟩
        · have hl1 : (s.heap.push (eSet led)).IsTuple l items := ⟨_, ol1, rfl, nl, rfl⟩
          have d1 := PySem.F.sub_tuple_set
          have d2 := PySem.F.sub_tuple_frozenset
          have d3 : (Value.type "tuple" == Value.type "dict") = false := by decide
          unfold Builtin.«set.__init__» noKeywords Builtin.Frozenset.updateFrom
          generalize hPI : pyIter = PI
          wp_walk
          subst hPI
          refine wpAny_pyIter_tuple hl1 (wpAny_bind (wpAny_runValue ?_))
          refine setLoop ((Walks.tuple h3 _ l nI items).toS) s.heap.objs.size nS xs en (by omega) hv (items.size - 0) 0 _ (by omega) (Nat.zero_le _) ⟨⟨_, Heap.get?_push_size _ rfl, rfl, rfl⟩, (hl1.push _)⟩ (zero _) ?_
          rintro ⟨h', g', d', tk', os'⟩ mv hS'
          obtain rfl : g' = s.gens := mv.gens
          obtain rfl : d' = s.drawn := mv.drawn
          obtain rfl : os' = s.os := mv.os
          show wpAny _ _ _ _ _ _
          refine wpAny_pure (show wpAny _ _ (ret Value.none) _ _ _ from wpAny_pure ⟨rfl, h', tk', rfl, hS', fun b o hb e => ?_⟩)
          refine mv.heap b o ?_ (Heap.get?_push_of_some _ (Heap.get?_push_of_some _ e))
          rw [Heap.size_push]
          simp only [List.mem_cons, List.not_mem_nil, or_false, not_or]
          exact ⟨Nat.ne_of_lt hb, Nat.ne_of_lt (Nat.lt_succ_of_lt hb)⟩
      · cases r₂ with
        | error e => exact hr₂
        | ok fl₂ =>
          cases fl₂ with
          | ret r =>
            obtain ⟨rfl, h', tk, rfl, hS', hk'⟩ := hr₂
            repeat (any_goals (first | assumption | wp_step))
            exact h _ _ hS' hk'
          | _ => exact hr₂.elim
    | _ => exact hr.elim
end
/-- len(set(xs)) -/
def tLenS (K : PySem.W.Frag) (ta : TE) : TE := fun σ H Q => ta σ H fun x H1 => ∃ l, ∃ xs : List Str, x = .ref l ∧ (SqL K H1 l (xs.map V.str) ∨ SqT K H1 l (xs.map V.str)) ∧ xs.length < 4000 ∧ Q (.int (nD xs xs.length : Nat)) H1
theorem pe_lenS {X : Cx} {a : Expr} {ta : TE} {p p2 q pos : Pos} (hc : X.calm = true) (hg : Gl X "len") (hm : X.mg "len" = none) (hg2 : Gl X "set") (hm2 : X.mg "set" = none) (ha : PE X a ta)
    (na : starEach [a] X.env = (false, eval a X.env) :: starEach [] X.env := by rfl) : PE X (.Call (.Name "len" p) [.Call (.Name "set" p2) [a] [] q] [] pos) (tLenS X.K ta) := by
  refine ⟨fun pins s σ H Q I h => Call_ (ld_blt I hg hm boot_len ?_)⟩
  refine PyProof.Rows.callWith_builtin1 (PyProof.Rows.args_cons (Call_ (ld_blt I hg2 hm2 boot_set ?_)) rfl) rfl rfl
  refine PyProof.Rows.callWith_type1 (PyProof.Rows.args_cons (thn (ha.run pins s σ H _ I h) fun v s1 ⟨x, H1, I1, r1, q1⟩ => PyProof.Rows.args_nil ?_) na) na rfl
  obtain ⟨l, xs, rfl, hq, h1, q1⟩ := q1
  cases r1
  have room : xs.length + 1 < scanBound := by unfold scanBound; omega
  have fin : ∀ (its : List Value), Vals (xs.map V.str) its → ∀ (h' : Heap) (tk : Nat), h'.SetOf (PySem.strKind X.prog X.w) s1.heap.objs.size (fun z => (xs.take its.toArray.size).any (· == z)) (nD xs its.toArray.size) →
      (∀ b o, b < s1.heap.objs.size → s1.heap.get? b = some o → h'.get? b = some o) →
      wpAny (model X.prog X.w) X.A (spliced (backTo pos (starEach [] X.env))) (fun vs s₂ => wpAny (model X.prog X.w) X.A (call (.builtin "len") (Value.ref s1.heap.objs.size :: vs)) (EP X pins σ Q) X.xe s₂) X.xe { s1 with heap := h', toks := tk } := fun its r h' tk hS hk => by
    refine PyProof.Rows.args_nil ?_
    have hl : its.toArray.size = xs.length := by rw [List.size_toArray, ← r.length, List.length_map]
    rw [hl] at hS
    obtain ⟨o, es, ep, t, ho, hex, hd, _, _, _, hf, hn⟩ := hS
    have hb := nD_le xs xs.length
    have I2 : Inv X pins σ H1 { s1 with heap := h', toks := tk } := I1.kept fun b o e => hk b o (Heap.lt_size e) e
    exact call_len_set ho hex hd hf (by rw [hn]; omega) ⟨.int (nD xs xs.length : Nat), H1, I2.tok _, ⟨_, by rw [hn]⟩, q1⟩
  rcases hq with hq | hq
  · obtain ⟨its, r, pl, hz⟩ := I1.list hq
    obtain ⟨o, ho, hcl, n, hd⟩ := pl.isList
    exact callSet (.inl ⟨rfl, rfl⟩) (I1.ok.hd hc) ⟨o, n, ho, hcl, hd⟩ (by simpa using strsAre_of r) room fun h' tk hS hk => fin its r h' tk hS hk
  · obtain ⟨its, r, pl, hz⟩ := I1.tuple hq
    obtain ⟨o, ho, hcl, n, hd⟩ := pl
    exact callSet (.inr ⟨rfl, rfl⟩) (I1.ok.hd hc) ⟨o, n, ho, hcl, hd⟩ (by simpa using strsAre_of r) room fun h' tk hS hk => fin its r h' tk hS hk
def dLenSet (wa : DE) : DE := fun δ O S => wa δ O fun x O1 => ∃ xs : List Str, ((∃ k, x = .cell k ∧ LstC O1 k (xs.map W.str)) ∨ x = .tup (xs.map W.str)) ∧ xs.length < 4000 ∧ S (.int (nD xs xs.length : Nat)) O1
theorem ed_lenSet {X : Cx} {a : Expr} {wa : DE} {p p2 q pos : Pos} (hc : X.calm = true) (hg : Gl X "len") (hm : X.mg "len" = none) (hg2 : Gl X "set") (hm2 : X.mg "set" = none) (ha : ED X a wa)
    (na : starEach [a] X.env = (false, eval a X.env) :: starEach [] X.env := by rfl) : ED X (.Call (.Name "len" p) [.Call (.Name "set" p2) [a] [] q] [] pos) (dLenSet wa) := by
  obtain ⟨t0, p0, s0⟩ := ha.ex
  refine ⟨_, pe_lenS hc hg hm hg2 hm2 p0 na, fun F H θ O σ δ S j s q Q k => ?_⟩
  refine s0 F H θ O σ δ _ j s q _ fun v x F1 H1 θ1 O1 g1 j1 r1 q1 => ?_
  obtain ⟨xs, h, hz, q1⟩ := q1
  rcases h with ⟨c, rfl, hcl⟩ | rfl
  · obtain ⟨l, rfl, hl⟩ := r1.cell_inv
    obtain ⟨vs, hv, rr⟩ := j1.lstC hl hcl
    exact ⟨l, xs, rfl, .inl (by rw [← strs_rel rr]; exact hv), hz, k _ _ F1 H1 θ1 O1 g1 j1 (.int _) q1⟩
  · obtain ⟨l, vs, rfl, hq, rr⟩ := r1.tup_inv
    exact ⟨l, xs, rfl, .inr (by rw [← strs_rel rr]; exact sqT_sub j1 hq), hz, k _ _ F1 H1 θ1 O1 g1 j1 (.int _) q1⟩
/-- all unlike: as many as there are -/
theorem nD_nodup (xs : List Str) : ∀ i, i ≤ xs.length → (nD xs i = i ↔ (xs.take i).Nodup)
  | 0, _ => by simp [nD]
  | i + 1, h => by
    have lt : i < xs.length := by omega
    have ih := nD_nodup xs i (by omega)
    have le := nD_le xs i
    have e : xs.getD i Str.empty = xs[i] := by simp [List.getD, lt]
    have t : xs.take (i + 1) = xs.take i ++ [xs[i]] := by rw [List.take_add_one, List.getElem?_eq_getElem lt]; rfl
    unfold nD
    rw [e, t, List.nodup_append]
    by_cases m : xs[i] ∈ xs.take i
    · have : (xs.take i).any (· == xs[i]) = true := List.any_eq_true.mpr ⟨_, m, by simp⟩
      rw [if_pos this]
      refine ⟨fun z => by omega, fun z => absurd rfl (z.2.2 _ m _ (by simp))⟩
    · have : ¬ (xs.take i).any (· == xs[i]) = true := fun z => by
        obtain ⟨y, hy, ey⟩ := List.any_eq_true.mp z
        rw [eq_of_beq ey] at hy
        exact m hy
      rw [if_neg this]
      refine ⟨fun z => ⟨ih.mp (by omega), by simp, fun a ha b hb q => ?_⟩, fun z => by have := ih.mpr z.1; omega⟩
      rw [List.mem_singleton] at hb
      subst hb
      subst q
      exact m ha
theorem nD_all (xs : List Str) : decide (((nD xs xs.length : Nat) : Int) = xs.length) = decide xs.Nodup := by
  have h := nD_nodup xs xs.length (Nat.le_refl _)
  rw [List.take_length] at h
  exact decide_eq_decide.mpr ⟨fun z => h.mp (by omega), fun z => by have := h.mpr z; omega⟩
end Dm

set_option Elab.async false
set_option linter.all false
set_option maxRecDepth 100000
set_option maxHeartbeats 4000000
/-! The data machine: chains, truths, membership, dicts, deep ==, while, zip, stars. -/
namespace Dm
open PySem PySem.Spec PyProof.Rows L2
section
variable {X : Cx} {a b c e : Expr} {es : List Expr} {wa wb wc we : DE} {wr ws : DA} {wt wu : DT} {pos : Pos}

/-! ### chains, and, or, not as values -/
def dChain (r r' : R2D) (wa wb wc : DE) : DE := fun δ O S => wa δ O fun x O1 => wb δ O1 fun y O2 => r x y O2 fun z O3 => ∃ k, z = .bl k ∧ if k = true then wc δ O3 fun w O4 => r' y w O4 S else S (.bl false) O3
theorem chain_sound {K : PySem.W.Frag} {r r' : R2} {rd rd' : R2D} {ta tb tc : TE} (h : SR2 K r rd) (h' : SR2 K r' rd') (ha : SE K ta wa) (hb : SE K tb wb) (hc : SE K tc wc) : SE K (tChain r r' ta tb tc) (dChain rd rd' wa wb wc) := fun F H θ O σ δ S j s q Q k => by
  refine ha F H θ O σ δ _ j s q _ fun v x F1 H1 θ1 O1 g1 j1 r1 q1 => ?_
  refine hb F1 H1 θ1 O1 σ δ _ j1 (s.mono g1) q1 _ fun u y F2 H2 θ2 O2 g2 j2 r2 q2 => ?_
  refine h F2 H2 θ2 O2 x y v u _ j2 (r1.mono g2) r2 q2 _ fun z w F3 H3 θ3 O3 g3 j3 r3 q3 => ?_
  obtain ⟨t, rfl, q3⟩ := q3
  have g := (g1.trans g2).trans g3
  refine ⟨t, r3.bl_inv, ?_⟩
  cases t with
  | false => exact k _ _ F3 H3 θ3 O3 g j3 (.bl false) q3
  | true =>
    refine hc F3 H3 θ3 O3 σ δ _ j3 (s.mono g) q3 _ fun w2 y2 F4 H4 θ4 O4 g4 j4 r4 q4 => ?_
    exact h' F4 H4 θ4 O4 y y2 u w2 S j4 ((r2.mono g3).mono g4) r4 q4 Q fun z w F5 H5 θ5 O5 g5 => k z w F5 H5 θ5 O5 ((g.trans g4).trans g5)
theorem ed_chain {op op' : CmpOp} {r r' : R2} {rd rd' : R2D} (ho : OpR X (compareOp op) r) (ho' : OpR X (compareOp op') r') (h : SR2 X.K r rd) (h' : SR2 X.K r' rd') (ha : ED X a wa) (hb : ED X b wb) (hc : ED X c wc) (hm : lastMarks [op, op'] [b, c] = false := by with_unfolding_all rfl) :
    ED X (.Compare a [op, op'] [b, c] pos) (dChain rd rd' wa wb wc) := by
  obtain ⟨ta, pa, sa⟩ := ha.ex
  obtain ⟨tb, pb, sb⟩ := hb.ex
  obtain ⟨tc, pc, sc⟩ := hc.ex
  exact ⟨_, pe_chain ho ho' pa pb pc hm, chain_sound h h' sa sb sc⟩
abbrev cle : R2D := rdI0 fun i j => .bl (decide (i ≤ j))
abbrev clt : R2D := rdI0 fun i j => .bl (decide (i < j))
def dAndV (wa wb : DE) : DE := fun δ O S => wa δ O fun x O1 => ∃ t, x = .bl t ∧ if t = true then wb δ O1 S else S (.bl false) O1
def dOrV (wa wb : DE) : DE := fun δ O S => wa δ O fun x O1 => ∃ t, x = .bl t ∧ if t = true then S (.bl true) O1 else wb δ O1 S
def dNotV (wa : DE) : DE := fun δ O S => wa δ O fun x O1 => ∃ t, x = .bl t ∧ S (.bl (!t)) O1
theorem ed_one {op} (h : ED X a wa) : ED X (.BoolOp op [a] pos) wa := let ⟨t, p, s⟩ := h.ex; ⟨t, pe_one p, s⟩
theorem ed_and {rest : List Expr} (h : ED X a wa) (hr : ED X (.BoolOp .And (b :: rest) pos) wb) : ED X (.BoolOp .And (a :: b :: rest) pos) (dAndV wa wb) := by
  obtain ⟨t, p, s⟩ := h.ex
  obtain ⟨t2, p2, s2⟩ := hr.ex
  refine ⟨_, pe_and p p2, fun F H θ O σ δ S j r q Q k => ?_⟩
  refine s F H θ O σ δ _ j r q _ fun v x F1 H1 θ1 O1 g1 j1 r1 q1 => ?_
  obtain ⟨t, rfl, q1⟩ := q1
  refine ⟨t, r1.bl_inv, ?_⟩
  cases t with
  | true => exact s2 F1 H1 θ1 O1 σ δ S j1 (r.mono g1) q1 Q fun z w F2 H2 θ2 O2 g2 => k z w F2 H2 θ2 O2 (g1.trans g2)
  | false => exact k _ _ F1 H1 θ1 O1 g1 j1 (.bl false) q1
theorem ed_or {rest : List Expr} (h : ED X a wa) (hr : ED X (.BoolOp .Or (b :: rest) pos) wb) : ED X (.BoolOp .Or (a :: b :: rest) pos) (dOrV wa wb) := by
  obtain ⟨t, p, s⟩ := h.ex
  obtain ⟨t2, p2, s2⟩ := hr.ex
  refine ⟨_, pe_or p p2, fun F H θ O σ δ S j r q Q k => ?_⟩
  refine s F H θ O σ δ _ j r q _ fun v x F1 H1 θ1 O1 g1 j1 r1 q1 => ?_
  obtain ⟨t, rfl, q1⟩ := q1
  refine ⟨t, r1.bl_inv, ?_⟩
  cases t with
  | false => exact s2 F1 H1 θ1 O1 σ δ S j1 (r.mono g1) q1 Q fun z w F2 H2 θ2 O2 g2 => k z w F2 H2 θ2 O2 (g1.trans g2)
  | true => exact k _ _ F1 H1 θ1 O1 g1 j1 (.bl true) q1
theorem ed_not (h : ED X a wa) : ED X (.UnaryOp .Not a pos) (dNotV wa) := by
  obtain ⟨t, p, s⟩ := h.ex
  refine ⟨_, pe_not p, fun F H θ O σ δ S j r q Q k => ?_⟩
  refine s F H θ O σ δ _ j r q _ fun v x F1 H1 θ1 O1 g1 j1 r1 q1 => ?_
  obtain ⟨t, rfl, q1⟩ := q1
  exact ⟨t, r1.bl_inv, k _ _ F1 H1 θ1 O1 g1 j1 (.bl _) q1⟩
/-- a built-in class by its name; a constant of the module -/
theorem ed_bltn {x : Str} {T : String} (hg : Gl X x) (hm : X.mg x = none) (hv : bootBuiltins x = some (.type T)) (hn : x ≠ "__name__" := by decide) (hd : (x == ("__debug__" : Str)) = false := by decide) : ED X (.Name x pos) (dC (.ty T)) :=
  ⟨_, pe_bltn (v := .ty T) hg hm hv rfl hn hd, SE.pure fun _ _ => .ty T⟩
theorem ed_gint {x : Str} {i : Int} {t : Tok} (hg : Gl X x) (hm : X.mg x = some (.int i t)) (hd : (x == ("__debug__" : Str)) = false := by decide) : ED X (.Name x pos) (dC (.int i)) := ⟨_, pe_glob (v := .int i) hg hm ⟨t, rfl⟩ hd, SE.pure fun _ _ => .int i⟩
theorem ed_gstr {x : Str} {y : Str} {t : Tok} (hg : Gl X x) (hm : X.mg x = some (.str y t)) (hd : (x == ("__debug__" : Str)) = false := by decide) : ED X (.Name x pos) (dC (.str y)) := ⟨_, pe_glob (v := .str y) hg hm ⟨t, rfl⟩ hd, SE.pure fun _ _ => .str y⟩

/-! ### isinstance -/
def tyW (x : W) (O : Sto) : Option String := match x with
  | .non => some "NoneType" | .bl _ => some "bool" | .int _ => some "int" | .str _ => some "str" | .tup _ => some "tuple"
  | .cell k => (match O[k]? with | some (.lst _) => some "list" | some (.rol _) => some "list" | some (.dct _) => some "dict" | _ => none)
  | _ => none
def rdIsi : RCD := fun ws O S => ∃ x T t b, ws = [x, .ty T] ∧ tyW x O = some t ∧ kitB t T = some b ∧ S (.bl b) O
theorem tyW_ok {K : PySem.W.Frag} {F H : Hp} {θ : List Addr} {O : Sto} {v : V} {x : W} {t : String} (j : Jn K F H θ O) (r : RW K F θ v x) (h : tyW x O = some t) : TyX K H v (.type t) := by
  cases x with
  | non => cases h; rw [r.non_inv]; exact .base .non
  | bl z => cases h; rw [r.bl_inv]; exact .base (.bl z)
  | int i => cases h; rw [r.int_inv]; exact .base (.int i)
  | str z => cases h; rw [r.str_inv]; exact .base (.str z)
  | tup us =>
    cases h
    obtain ⟨a, vs, rfl, hq, _⟩ := r.tup_inv
    rcases hq with (hq | ⟨o, hq⟩) | ⟨o, its, n, hk, hc, _⟩
    · exact .base (.tup (j.sub a _ hq))
    · exact .fTuple (j.sub a _ hq)
    · exact .kTuple hk hc
  | cell k =>
    obtain ⟨a, rfl, ha⟩ := r.cell_inv
    unfold tyW at h
    cases e : O[k]? with
    | none => simp [e] at h
    | some c =>
      simp only [e] at h
      cases c with
      | dead => cases h
      | lst us => cases h; obtain ⟨_, vs, hv, _⟩ := j.lst ha e; exact .base (.lst hv)
      | rol us => cases h; obtain ⟨_, o, vs, hv, _⟩ := j.rol ha e; exact .base (.frz hv)
      | dct kvs => cases h; obtain ⟨_, vs, hv, _⟩ := (show F a = none ∧ ∃ vs, H a = some (.dK vs) ∧ KvR K F θ vs kvs from j.ok k a _ ha e); exact .base (.dK hv)
      | exc C => cases h
      | exr C i => cases h
      | exf fs => cases h
      | xd fs => cases h
  | ty n => cases h
  | ref a => cases h
  | xr a d dk => cases h
  | rng lo hi => cases h
  | ktp us => cases h
theorem src_isi {K : PySem.W.Frag} : SRC K (rIsi K) rdIsi := by
  intro F H θ O vs ws S j r q Q k
  obtain ⟨x, T, t, b, rfl, ht, hb, q⟩ := q
  obtain ⟨v, u, rfl, rv, ru⟩ := r.two_inv
  rw [ru.ty_inv]
  refine ⟨v, .ty T, .type t, .type T, b, rfl, ?_, tyW_ok j rv ht, kit_ty hb, k _ _ F H θ O Gr.refl j (.bl b) q⟩
  constructor

/-! ### in -/
def flatW : W → Bool
  | .non => true | .bl _ => true | .int _ => true | .str _ => true
  | _ => false
def eqW : W → W → Bool
  | .non, .non => true
  | .bl a, .bl b => a == b
  | .bl a, .int b => (if a then 1 else 0) == b
  | .int a, .bl b => a == (if b then 1 else 0)
  | .int a, .int b => a == b
  | .str a, .str b => a == b
  | _, _ => false
def inW (x : W) (xs : List W) : Bool := xs.any fun y => eqW y x
theorem flat_rel {K : PySem.W.Frag} {F : Hp} {θ : List Addr} {v : V} {x : W} (r : RW K F θ v x) (h : flatW x = true) : flatV v = true := by cases r <;> first | rfl | exact absurd h Bool.false_ne_true
theorem flats_rel {K : PySem.W.Frag} {F : Hp} {θ : List Addr} : ∀ {vs : List V} {xs : List W}, RWs K F θ vs xs → xs.all flatW = true → vs.all flatV = true
  | _, _, .nil, _ => rfl
  | _, _, .cons r t, h => by
    rw [List.all_cons, Bool.and_eq_true] at h ⊢
    exact ⟨flat_rel r h.1, flats_rel t h.2⟩
theorem eq_rel {K : PySem.W.Frag} {F : Hp} {θ : List Addr} {v u : V} {x y : W} (r : RW K F θ v x) (q : RW K F θ u y) (h : flatW x = true) : eqV v u = eqW x y := by
  cases r <;> cases q <;> first | rfl | exact absurd h Bool.false_ne_true
theorem in_rel {K : PySem.W.Frag} {F : Hp} {θ : List Addr} {v : V} {x : W} (r : RW K F θ v x) : ∀ {vs : List V} {xs : List W}, RWs K F θ vs xs → xs.all flatW = true → inV v vs = inW x xs
  | _, _, .nil, _ => rfl
  | _, _, .cons q t, h => by
    rw [List.all_cons, Bool.and_eq_true] at h
    have ih := in_rel r t h.2
    unfold inV inW at ih ⊢
    rw [List.any_cons, List.any_cons, eq_rel q r h.1, ih]
def rdInQ : R2D := fun x y O S => ∃ xs, (y = .tup xs ∨ ∃ k, y = .cell k ∧ LstC O k xs) ∧ flatW x = true ∧ xs.all flatW = true ∧ S (.bl (inW x xs)) O
def rdNinQ : R2D := fun x y O S => ∃ xs, (y = .tup xs ∨ ∃ k, y = .cell k ∧ LstC O k xs) ∧ flatW x = true ∧ xs.all flatW = true ∧ S (.bl (!inW x xs)) O
theorem seq_rel {K : PySem.W.Frag} {F H : Hp} {θ : List Addr} {O : Sto} {u : V} {y : W} {xs : List W} (j : Jn K F H θ O) (r : RW K F θ u y) (h : y = .tup xs ∨ ∃ k, y = .cell k ∧ LstC O k xs) : ∃ p vs, u = .ref p ∧ (SqL K H p vs ∨ SqT K H p vs) ∧ RWs K F θ vs xs := by
  rcases h with rfl | ⟨k, rfl, hc⟩
  · obtain ⟨p, vs, rfl, hq, rr⟩ := r.tup_inv
    exact ⟨p, vs, rfl, .inr (sqT_sub j hq), rr⟩
  · obtain ⟨p, rfl, hp⟩ := r.cell_inv
    obtain ⟨vs, hl, rr⟩ := j.lstC hp hc
    exact ⟨p, vs, rfl, .inl hl, rr⟩
theorem sr_inQ {K : PySem.W.Frag} : SR2 K (rIn K false) rdInQ := by
  intro F H θ O x y v u S j rx ry q Q k
  obtain ⟨xs, h, h1, h2, q⟩ := q
  obtain ⟨p, vs, rfl, hq, rr⟩ := seq_rel j ry h
  exact ⟨p, vs, rfl, hq, flat_rel rx h1, flats_rel rr h2, by rw [if_neg Bool.false_ne_true, in_rel rx rr h2]; exact k _ _ F H θ O Gr.refl j (.bl _) q⟩
theorem sr_ninQ {K : PySem.W.Frag} : SR2 K (rIn K true) rdNinQ := by
  intro F H θ O x y v u S j rx ry q Q k
  obtain ⟨xs, h, h1, h2, q⟩ := q
  obtain ⟨p, vs, rfl, hq, rr⟩ := seq_rel j ry h
  exact ⟨p, vs, rfl, hq, flat_rel rx h1, flats_rel rr h2, by rw [if_pos rfl, in_rel rx rr h2]; exact k _ _ F H θ O Gr.refl j (.bl _) q⟩
/-- one sign in a text -/
def rdInS : R2D := fun x y O S => ∃ (c : Nat) (z : Str), x = .str ⟨#[c]⟩ ∧ y = .str z ∧ S (.bl (decide (c ∈ z.cps.toList))) O
theorem sr_inS {K : PySem.W.Frag} : SR2 K (fun x y H Q => ∃ (c : Nat) (z : Str), x = .str ⟨#[c]⟩ ∧ y = .str z ∧ Q (.bl (decide (c ∈ z.cps.toList))) H) rdInS := by
  intro F H θ O x y v u S j rx ry q Q k
  obtain ⟨c, z, rfl, rfl, q⟩ := q
  exact ⟨c, z, rx.str_inv, ry.str_inv, k _ _ F H θ O Gr.refl j (.bl _) q⟩
/-- a key of a dict -/
def keyW : W → Option Key
  | .int i => some (.inl i)
  | .str x => some (.inr x)
  | _ => none
def valW (kvs : List (Key × W)) (k : Key) : Option W := (kvs.find? fun kv => decide (kv.1 = k)).map (·.2)
def putW (kvs : List (Key × W)) (k : Key) (v : W) : List (Key × W) := if (kvs.any fun kv => decide (kv.1 = k)) = true then kvs.map (fun kv => if kv.1 = k then (kv.1, v) else kv) else kvs ++ [(k, v)]
theorem key_rel {K : PySem.W.Frag} {F : Hp} {θ : List Addr} {v : V} {x : W} {k : Key} (r : RW K F θ v x) (h : keyW x = some k) : v = kV k := by
  cases x <;> first | (cases h; first | rw [r.int_inv]; rfl | rw [r.str_inv]; rfl) | cases h
theorem val_rel {K : PySem.W.Frag} {F : Hp} {θ : List Addr} (k : Key) : ∀ {vs : List (Key × V)} {kvs : List (Key × W)}, KvR K F θ vs kvs → (valV vs k = none ∧ valW kvs k = none) ∨ ∃ v w, valV vs k = some v ∧ valW kvs k = some w ∧ RW K F θ v w
  | _, _, .nil => .inl ⟨rfl, rfl⟩
  | (k1, v1) :: vs, (k2, w2) :: kvs, .cons r t => by
    obtain ⟨e, rv⟩ := r
    have e' : k1 = k2 := e
    subst e'
    unfold valV valW
    by_cases h : k1 = k
    · refine .inr ⟨v1, w2, ?_, ?_, rv⟩ <;> simp [List.find?, h]
    · have := val_rel k t
      unfold valV valW at this
      simp only [List.find?, decide_eq_false h]
      exact this
theorem anyk_rel {K : PySem.W.Frag} {F : Hp} {θ : List Addr} (k : Key) : ∀ {vs : List (Key × V)} {kvs : List (Key × W)}, KvR K F θ vs kvs → (vs.any fun kv => decide (kv.1 = k)) = kvs.any fun kv => decide (kv.1 = k)
  | _, _, .nil => rfl
  | _, _, .cons r t => by rw [List.any_cons, List.any_cons, r.1, anyk_rel k t]
theorem mapk_rel {K : PySem.W.Frag} {F : Hp} {θ : List Addr} (k : Key) {v : V} {w : W} (rv : RW K F θ v w) : ∀ {vs : List (Key × V)} {kvs : List (Key × W)}, KvR K F θ vs kvs → KvR K F θ (vs.map fun kv => if kv.1 = k then (kv.1, v) else kv) (kvs.map fun kv => if kv.1 = k then (kv.1, w) else kv)
  | _, _, .nil => .nil
  | (k1, v1) :: vs, (k2, w2) :: kvs, .cons r t => by
    obtain ⟨e, r2⟩ := r
    have e' : k1 = k2 := e
    subst e'
    refine .cons ?_ (mapk_rel k rv t)
    by_cases h : k1 = k
    · dsimp only
      rw [if_pos h, if_pos h]
      exact ⟨rfl, rv⟩
    · dsimp only
      rw [if_neg h, if_neg h]
      exact ⟨rfl, r2⟩
theorem appk_rel {K : PySem.W.Frag} {F : Hp} {θ : List Addr} {p : Key × V} {q : Key × W} (r : p.1 = q.1 ∧ RW K F θ p.2 q.2) : ∀ {vs : List (Key × V)} {kvs : List (Key × W)}, KvR K F θ vs kvs → KvR K F θ (vs ++ [p]) (kvs ++ [q])
  | _, _, .nil => .cons r .nil
  | _, _, .cons z t => .cons z (appk_rel r t)
theorem put_rel {K : PySem.W.Frag} {F : Hp} {θ : List Addr} (k : Key) {v : V} {w : W} (rv : RW K F θ v w) {vs : List (Key × V)} {kvs : List (Key × W)} (h : KvR K F θ vs kvs) : KvR K F θ (putK vs k v) (putW kvs k w) := by
  unfold putK putW
  rw [anyk_rel k h]
  split
  · exact mapk_rel k rv h
  · exact appk_rel ⟨rfl, rv⟩ h
theorem kv_len {K : PySem.W.Frag} {F : Hp} {θ : List Addr} : ∀ {vs : List (Key × V)} {kvs : List (Key × W)}, KvR K F θ vs kvs → vs.length = kvs.length
  | _, _, .nil => rfl
  | _, _, .cons _ t => by rw [List.length_cons, List.length_cons, kv_len t]
theorem Jn.dct {K : PySem.W.Frag} {F H : Hp} {θ : List Addr} {O : Sto} (j : Jn K F H θ O) {k : Nat} {a : Addr} {kvs : List (Key × W)} (e : θ[k]? = some a) (c : O[k]? = some (.dct kvs)) : F a = none ∧ ∃ vs, H a = some (.dK vs) ∧ KvR K F θ vs kvs := j.ok k a _ e c
theorem Jn.putD {K : PySem.W.Frag} {F H : Hp} {θ : List Addr} {O : Sto} (j : Jn K F H θ O) {k : Nat} {a : Addr} {vs : List (Key × V)} {kvs : List (Key × W)} (e : θ[k]? = some a) (f : F a = none) (r : KvR K F θ vs kvs) : Jn K F (L2.upd H a (.dK vs)) θ (O.set k (.dct kvs)) :=
  j.put e f ⟨f, vs, upd_same, r⟩

/-! ### dicts -/
variable {X : Cx} {a b c e : Expr} {es : List Expr} {wa wb wc we : DE} {wr ws : DA} {wt wu : DT} {pos : Pos}
def rInD (neg : Bool) : R2 := fun y x H Q => ∃ a o, x = .ref a ∧ DGet H a y o ∧ Q (.bl (if neg then !o.isSome else o.isSome)) H
theorem op_inD (hu : X.A.units + 1 < cLine) : OpR X (compareOp .In) (rInD false) := by
  intro pins s σ H y x v u Q I ry rx h
  obtain ⟨a, o, rfl, g, q⟩ := h
  obtain rfl : u = Value.ref a := rx
  exact d_in hu I g ry fun s3 I3 => ⟨.bl o.isSome, H, I3, rfl, q⟩
theorem op_ninD (hu : X.A.units + 1 < cLine) : OpR X (compareOp .NotIn) (rInD true) := by
  intro pins s σ H y x v u Q I ry rx h
  obtain ⟨a, o, rfl, g, q⟩ := h
  obtain rfl : u = Value.ref a := rx
  exact d_notIn hu I g ry fun s3 I3 => ⟨.bl (!o.isSome), H, I3, rfl, q⟩
theorem OpR.or {f : Value → Value → Sem Value} {r r' : R2} (h : OpR X f r) (h' : OpR X f r') : OpR X f (fun x y H Q => r x y H Q ∨ r' x y H Q) := by
  intro pins s σ H y x v u Q I ry rx q
  rcases q with q | q
  · exact h pins s σ H y x v u Q I ry rx q
  · exact h' pins s σ H y x v u Q I ry rx q
def rdInD : R2D := fun x y O S => ∃ k kvs key, y = .cell k ∧ O[k]? = some (.dct kvs) ∧ keyW x = some key ∧ S (.bl (valW kvs key).isSome) O
def rdNinD : R2D := fun x y O S => ∃ k kvs key, y = .cell k ∧ O[k]? = some (.dct kvs) ∧ keyW x = some key ∧ S (.bl (!(valW kvs key).isSome)) O
theorem sr_inD {K : PySem.W.Frag} : SR2 K (rInD false) rdInD := by
  intro F H θ O x y v u S j rx ry q Q k
  obtain ⟨c, kvs, key, rfl, hc, hk, q⟩ := q
  obtain ⟨a, rfl, ha⟩ := ry.cell_inv
  obtain ⟨f, vs, hv, rr⟩ := j.dct ha hc
  refine ⟨a, valV vs key, rfl, by rw [key_rel rx hk]; exact DGet.k hv, ?_⟩
  have e : (valV vs key).isSome = (valW kvs key).isSome := by
    rcases val_rel key rr with ⟨e1, e2⟩ | ⟨_, _, e1, e2, _⟩ <;> rw [e1, e2] <;> rfl
  rw [if_neg Bool.false_ne_true, e]
  exact k _ _ F H θ O Gr.refl j (.bl _) q
theorem sr_ninD {K : PySem.W.Frag} : SR2 K (rInD true) rdNinD := by
  intro F H θ O x y v u S j rx ry q Q k
  obtain ⟨c, kvs, key, rfl, hc, hk, q⟩ := q
  obtain ⟨a, rfl, ha⟩ := ry.cell_inv
  obtain ⟨f, vs, hv, rr⟩ := j.dct ha hc
  refine ⟨a, valV vs key, rfl, by rw [key_rel rx hk]; exact DGet.k hv, ?_⟩
  have e : (valV vs key).isSome = (valW kvs key).isSome := by
    rcases val_rel key rr with ⟨e1, e2⟩ | ⟨_, _, e1, e2, _⟩ <;> rw [e1, e2] <;> rfl
  rw [if_pos rfl, e]
  exact k _ _ F H θ O Gr.refl j (.bl _) q
theorem behind (b : Expr) {op : CmpOp} (h : behindInMarks op b = false) : behindInMarks op b = false := h
theorem ed_inQ (ha : ED X a wa) (hb : ED X b wb) (hm : behindInMarks .In b = false := by with_unfolding_all rfl) : ED X (.Compare a [.In] [b] pos) (dOp rdInQ wa wb) := ed_cmp op_in_seq sr_inQ ha hb hm
theorem ed_ninQ (ha : ED X a wa) (hb : ED X b wb) (hm : behindInMarks .NotIn b = false := by with_unfolding_all rfl) : ED X (.Compare a [.NotIn] [b] pos) (dOp rdNinQ wa wb) := ed_cmp op_notIn_seq sr_ninQ ha hb hm
theorem et_inQ (ha : ED X a wa) (hb : ED X b wb) (hm : behindInMarks .In b = false := by with_unfolding_all rfl) : EDT X (.Compare a [.In] [b] pos) (dTest (dOp rdInQ wa wb)) := et_cmp op_in_seq sr_inQ ha hb hm
theorem et_ninQ (ha : ED X a wa) (hb : ED X b wb) (hm : behindInMarks .NotIn b = false := by with_unfolding_all rfl) : EDT X (.Compare a [.NotIn] [b] pos) (dTest (dOp rdNinQ wa wb)) := et_cmp op_notIn_seq sr_ninQ ha hb hm
theorem ed_inS (ha : ED X a wa) (hb : ED X b wb) (hm : behindInMarks .In b = false := by with_unfolding_all rfl) : ED X (.Compare a [.In] [b] pos) (dOp rdInS wa wb) := ed_cmp op_in_sign sr_inS ha hb hm
theorem et_inS (ha : ED X a wa) (hb : ED X b wb) (hm : behindInMarks .In b = false := by with_unfolding_all rfl) : EDT X (.Compare a [.In] [b] pos) (dTest (dOp rdInS wa wb)) := et_cmp op_in_sign sr_inS ha hb hm
theorem ed_inD (hu : X.A.units + 1 < cLine) (ha : ED X a wa) (hb : ED X b wb) (hm : behindInMarks .In b = false := by with_unfolding_all rfl) : ED X (.Compare a [.In] [b] pos) (dOp rdInD wa wb) := ed_cmp (op_inD hu) sr_inD ha hb hm
theorem et_inD (hu : X.A.units + 1 < cLine) (ha : ED X a wa) (hb : ED X b wb) (hm : behindInMarks .In b = false := by with_unfolding_all rfl) : EDT X (.Compare a [.In] [b] pos) (dTest (dOp rdInD wa wb)) := et_cmp (op_inD hu) sr_inD ha hb hm
theorem et_ninD (hu : X.A.units + 1 < cLine) (ha : ED X a wa) (hb : ED X b wb) (hm : behindInMarks .NotIn b = false := by with_unfolding_all rfl) : EDT X (.Compare a [.NotIn] [b] pos) (dTest (dOp rdNinD wa wb)) := et_cmp (op_ninD hu) sr_ninD ha hb hm
/-- in, of a sequence or a dict -/
abbrev rdInU : R2D := fun x y O S => rdInQ x y O S ∨ rdInD x y O S
theorem ed_inU (hu : X.A.units + 1 < cLine) (ha : ED X a wa) (hb : ED X b wb) (hm : behindInMarks .In b = false := by with_unfolding_all rfl) : ED X (.Compare a [.In] [b] pos) (dOp rdInU wa wb) := ed_cmp (op_in_seq.or (op_inD hu)) (sr_inQ.or sr_inD) ha hb hm
/-- d[k] -/
def rdIxD : R2D := fun x y O S => ∃ k kvs key w, x = .cell k ∧ O[k]? = some (.dct kvs) ∧ keyW y = some key ∧ valW kvs key = some w ∧ S w O
theorem ed_ixD (hu : X.A.units + 1 < cLine) (ha : ED X a wa) (hb : ED X b wb) (hs : NoSl b := by exact fun _ _ => rfl) : ED X (.Subscript a b pos) (dOp rdIxD wa wb) := by
  obtain ⟨ta, pa, sa⟩ := ha.ex
  obtain ⟨tb, pb, sb⟩ := hb.ex
  refine ⟨_, pe_dget hu pa pb hs, fun F H θ O σ δ S j s q Q k => ?_⟩
  refine sa F H θ O σ δ _ j s q _ fun v x F1 H1 θ1 O1 g1 j1 r1 q1 => ?_
  refine sb F1 H1 θ1 O1 σ δ _ j1 (s.mono g1) q1 _ fun u y F2 H2 θ2 O2 g2 j2 r2 q2 => ?_
  obtain ⟨c, kvs, key, w, rfl, hc, hk, hw, q2⟩ := q2
  obtain ⟨p, rfl, hp⟩ := r1.cell_inv
  obtain ⟨f, vs, hv, rr⟩ := j2.dct (g2.at hp) hc
  rcases val_rel key rr with ⟨_, e2⟩ | ⟨v, w', e1, e2, rw'⟩
  · rw [e2] at hw
    cases hw
  · rw [e2] at hw
    cases hw
    exact ⟨p, v, rfl, by rw [key_rel r2 hk, ← e1]; exact DGet.k hv, k v w F2 H2 θ2 O2 (g1.trans g2) j2 rw' q2⟩
/-- d[k] = v -/
def dDput (wd wk wv : DE) : DTS := fun D δ O => wv δ O fun v O1 => wd δ O1 fun d O2 => wk δ O2 fun y O3 => ∃ k kvs key, d = .cell k ∧ O3[k]? = some (.dct kvs) ∧ keyW y = some key ∧ kvs.length < sizeLine ∧ D.nx δ (O3.set k (.dct (putW kvs key v)))
theorem es_dput {pos' : Pos} (hu : X.A.units + 1 < cLine) (ho : ED X a wa) (hi : ED X b wb) (hv : ED X e we) (hs : swapsWith e (some (.Subscript a b pos')) pos.line X.env = pure false := by rfl) : EDS X (.Assign [.Subscript a b pos'] e pos) (dDput wa wb we) := by
  obtain ⟨ta, pa, sa⟩ := ho.ex
  obtain ⟨tb, pb, sb⟩ := hi.ex
  obtain ⟨te, pe, se⟩ := hv.ex
  refine ⟨_, ps_dput hu pa pb pe hs, fun F H θ O σ δ D D' j s q l => ?_⟩
  refine se F H θ O σ δ _ j s q _ fun vv w F1 H1 θ1 O1 g1 j1 r1 q1 => ?_
  refine sa F1 H1 θ1 O1 σ δ _ j1 (s.mono g1) q1 _ fun x d F2 H2 θ2 O2 g2 j2 r2 q2 => ?_
  refine sb F2 H2 θ2 O2 σ δ _ j2 (s.mono (g1.trans g2)) q2 _ fun u y F3 H3 θ3 O3 g3 j3 r3 q3 => ?_
  obtain ⟨c, kvs, key, rfl, hc, hk, hz, q3⟩ := q3
  obtain ⟨p, rfl, hp⟩ := r2.cell_inv
  obtain ⟨f, vs, hv, rr⟩ := j3.dct (g3.at hp) hc
  have g := (g1.trans g2).trans g3
  exact ⟨p, _, rfl, by rw [key_rel r3 hk]; exact DPut.k hv (by rw [kv_len rr]; exact hz), l.nx F3 _ θ3 _ σ δ g (j3.putD (g3.at hp) f (put_rel key (r1.mono (g2.trans g3)) rr)) (s.mono g) q3⟩
def dDnew : DE := fun _ O S => S (.cell O.length) (O ++ [.dct []])
theorem ed_dnew : ED X (.Dict [] [] pos) dDnew := by
  refine ⟨_, pe_dnewK, fun F H θ O σ δ S j s q Q k p hp => ?_⟩
  exact k _ _ _ _ _ _ Gr.push (j.newC (c := .dct []) hp ⟨j.freeF hp, [], upd_same, .nil⟩) (.cell (by rw [← j.len]; simp)) q
def rdLenD : RCD := fun ws O S => ∃ k kvs, ws = [.cell k] ∧ O[k]? = some (.dct kvs) ∧ S (.int kvs.length) O
theorem src_lenD {K : PySem.W.Frag} : SRC K (fun xs H Q => ∃ a kvs, xs = [V.ref a] ∧ H a = some (.dK kvs) ∧ Q (.int kvs.length) H) rdLenD := by
  intro F H θ O vs ws S j r q Q k
  obtain ⟨c, kvs, rfl, hc, q⟩ := q
  obtain ⟨v, rfl, rv⟩ := r.one_inv
  obtain ⟨a, rfl, ha⟩ := rv.cell_inv
  obtain ⟨f, us, hu, rr⟩ := j.dct ha hc
  exact ⟨a, us, rfl, hu, by rw [kv_len rr]; exact k _ _ F H θ O Gr.refl j (.int _) q⟩

/-! ### all, sums of truths; stars in displays -/
def rdAll : RCD := fun ws O S => ∃ (k : Nat) (bs : List Bool), ws = [.cell k] ∧ LstC O k (bs.map W.bl) ∧ S (.bl (bs.all id)) O
theorem bls_rel {K : PySem.W.Frag} {F : Hp} {θ : List Addr} : ∀ {vs : List V} {ns : List Bool}, RWs K F θ vs (ns.map W.bl) → vs = ns.map V.bl
  | _, [], r => by cases r; rfl
  | _, n :: ns, r => by
    cases r with
    | cons a b => rw [a.bl_inv, bls_rel b]; rfl
theorem src_all {K : PySem.W.Frag} : SRC K (rAll K) rdAll := by
  intro F H θ O vs ws S j r q Q k
  obtain ⟨c, bs, rfl, hc, q⟩ := q
  obtain ⟨v, rfl, rv⟩ := r.one_inv
  obtain ⟨a, rfl, ha⟩ := rv.cell_inv
  obtain ⟨xs, hl, rr⟩ := j.lstC ha hc
  exact ⟨a, bs, rfl, by rw [← bls_rel rr]; exact hl, k _ _ F H θ O Gr.refl j (.bl _) q⟩
def dStar (we : DE) (wr : DA) : DA := fun δ O S => we δ O fun x O1 => ∃ us, (x = .tup us ∨ ∃ k, x = .cell k ∧ LstC O1 k us) ∧ wr δ O1 fun ws O2 => S (us ++ ws) O2
theorem ea_star {p : Pos} (h : ED X e we) (hr : EDA X es wr) (hs : starEach (.Starred e p :: es) X.env = (true, eval e X.env) :: starEach es X.env := by rfl) : EDA X (.Starred e p :: es) (dStar we wr) := by
  obtain ⟨t, pe, s⟩ := h.ex
  obtain ⟨t2, p2, s2⟩ := hr.ex
  refine ⟨_, StX.pa_star pe p2 hs, fun F H θ O σ δ S j r q Q k => ?_⟩
  refine s F H θ O σ δ _ j r q _ fun v x F1 H1 θ1 O1 g1 j1 r1 q1 => ?_
  obtain ⟨us, hx, q1⟩ := q1
  obtain ⟨a, vs, rfl, hq, rr⟩ := seq_rel j1 r1 hx
  refine ⟨a, vs, rfl, hq.symm, ?_⟩
  exact s2 F1 H1 θ1 O1 σ δ _ j1 (r.mono g1) q1 _ fun zs ws F2 H2 θ2 O2 g2 j2 r2 q2 => k _ _ F2 H2 θ2 O2 (g1.trans g2) j2 ((rr.mono g2).append r2) q2

/-! ### while, op=, truth -/
def dWhile (wt : DT) (wb : DTS) : DTS := fun D δ O => ∃ Pv : Nat → DS → Sto → Prop, (∃ m, Pv m δ O) ∧ ∀ m δ O, Pv m δ O → wt δ O fun b O1 => if b = true then ∃ N : DS → Sto → Prop, (∀ δ' O', N δ' O' → ∃ m', m' < m ∧ Pv m' δ' O') ∧ wb { D with nx := N, ct := N, bk := D.nx } δ O1 else D.nx δ O1
theorem es_while {body : List Stmt} {wb' : DTS} (hp : PassesOwn (model X.prog X.w) X.A X.env X.xe) (hc : EDT X c wt) (hb : EDB X body wb') : EDS X (.While c body [] pos) (dWhile wt wb') := by
  obtain ⟨t0, p0, s0⟩ := hc.ex
  obtain ⟨t1, p1, s1⟩ := hb.ex
  refine ⟨_, ps_while hp p0 p1, fun F H θ O σ δ D D' j s q l => ?_⟩
  obtain ⟨Pv, ⟨m0, h0⟩, turn⟩ := q
  refine ⟨fun m σ' H' => ∃ F' θ' O' δ', Gr F θ F' θ' ∧ Jn X.K F' H' θ' O' ∧ RS X.K F' θ' σ' δ' ∧ Pv m δ' O', ⟨m0, F, θ, O, δ, Gr.refl, j, s, h0⟩, ?_⟩
  rintro m σ2 H2 ⟨F2, θ2, O2, δ2, g2, j2, s2, pv⟩
  refine s0 F2 H2 θ2 O2 σ2 δ2 _ j2 s2 (turn m δ2 O2 pv) _ fun b F3 H3 θ3 O3 g3 j3 q3 => ?_
  have g := g2.trans g3
  cases b with
  | false => exact l.nx F3 H3 θ3 O3 σ2 δ2 g j3 (s2.mono g3) q3
  | true =>
    obtain ⟨N, hN, q3⟩ := q3
    rw [if_pos rfl]
    refine ⟨fun σ' H' => ∃ F' θ' O' δ', Gr F θ F' θ' ∧ Jn X.K F' H' θ' O' ∧ RS X.K F' θ' σ' δ' ∧ N δ' O', fun σ' H' h => ?_, ?_⟩
    · obtain ⟨F', θ', O', δ', a1, a2, a3, a4⟩ := h
      obtain ⟨m', lt, w⟩ := hN δ' O' a4
      exact ⟨m', lt, F', θ', O', δ', a1, a2, a3, w⟩
    · refine s1 F3 H3 θ3 O3 σ2 δ2 _ _ j3 (s2.mono g3) q3 ⟨fun F' H' θ' O' σ' δ' g' j' s' q' => ⟨F', θ', O', δ', g.trans g', j', s', q'⟩, fun F' H' θ' O' v w' g' j' r' q' => l.rt F' H' θ' O' v w' (g.trans g') j' r' q', fun F' H' θ' O' σ' δ' g' j' s' q' => l.nx F' H' θ' O' σ' δ' (g.trans g') j' s' q', fun F' H' θ' O' σ' δ' g' j' s' q' => ⟨F', θ', O', δ', g.trans g', j', s', q'⟩⟩
def dAug (i : Nat) (we : DE) (f : Int → Int → Int) : DTS := fun D δ O => ∃ x, δ[i]? = some (some x) ∧ we δ O fun y O1 => ∃ n m, x = .int n ∧ y = .int m ∧ D.nx (δ.set i (some (.int (f n m)))) O1
theorem es_augAdd {i : Nat} {x : Str} {pos' : Pos} (hN : X.N.Nodup) (hi : X.N[i]? = some x) (hx : Loc X.env.scope x) (h : ED X e we) (hf : X.fn x = true ∨ X.env.scope.names.lookup x = some .local := by first | exact .inl rfl | exact .inr rfl | assumption) :
    EDS X (.AugAssign (.Name x pos') .Add e pos) (dAug i we fun n m => n + m) := by
  obtain ⟨t0, p0, s0⟩ := h.ex
  refine ⟨_, ps_aug hN hi hx p0 ip_add hf, fun F H θ O σ δ D D' j s q l => ?_⟩
  obtain ⟨z, e1, q⟩ := q
  obtain ⟨v, e2, rv⟩ := s.2 i z e1
  refine ⟨v, e2, s0 F H θ O σ δ _ j s q _ fun u y F1 H1 θ1 O1 g1 j1 r1 q1 => ?_⟩
  obtain ⟨n, m, rfl, rfl, q1⟩ := q1
  exact ⟨n, m, rv.int_inv, r1.int_inv, l.nx F1 H1 θ1 O1 _ _ g1 j1 ((s.mono g1).set i (.int _)) q1⟩
/-- a value's truth: a list's, a tuple's -/
def dTru (we : DE) : DT := fun δ O S => we δ O fun x O1 => ∃ us, (x = .tup us ∨ ∃ k, x = .cell k ∧ LstC O1 k us) ∧ S (!us.isEmpty) O1
theorem et_tru (h : ED X a wa) (he : ∀ whole, isTrue a X.env whole = (do let v ← whole; standAt a.pos; holding [v] (truthy v)) := by intro _; rfl) : EDT X a (dTru wa) := by
  obtain ⟨t0, p0, s0⟩ := h.ex
  refine ⟨_, pt_truth p0 he, fun F H θ O σ δ S j s q Q k => ?_⟩
  refine s0 F H θ O σ δ _ j s q _ fun v x F1 H1 θ1 O1 g1 j1 r1 q1 => ?_
  obtain ⟨us, hx, q1⟩ := q1
  obtain ⟨p, vs, rfl, hq, rr⟩ := seq_rel j1 r1 hx
  have e : vs.isEmpty = us.isEmpty := by cases rr <;> rfl
  refine ⟨!us.isEmpty, ?_, k _ F1 H1 θ1 O1 g1 j1 q1⟩
  rcases hq with hq | hq
  · exact .inl ⟨vs, hq, by rw [e]⟩
  · exact .inr (.inl ⟨vs, hq, by rw [e]⟩)

/-! ### deep == -/
mutual
/-- the data that a value bears -/
inductive DW (O : Sto) : W → PyData → Prop
  | non : DW O .non .none
  | bl (b : Bool) : DW O (.bl b) (.bool b)
  | int (i : Int) : DW O (.int i) (.int i)
  | str (x : Str) : DW O (.str x) (.str x)
  | tup {ws : List W} {ds : List PyData} : DWs O ws ds → DW O (.tup ws) (.tuple ds)
  | cell {k : Nat} {ws : List W} {ds : List PyData} : LstC O k ws → DWs O ws ds → DW O (.cell k) (.list ds)
inductive DWs (O : Sto) : List W → List PyData → Prop
  | nil : DWs O [] []
  | cons {w : W} {ws : List W} {d : PyData} {ds : List PyData} : DW O w d → DWs O ws ds → DWs O (w :: ws) (d :: ds)
end
mutual
theorem DW.dp {K : PySem.W.Frag} {F H : Hp} {θ : List Addr} {O : Sto} (j : Jn K F H θ O) : ∀ {w : W} {d : PyData} {v : V}, DW O w d → RW K F θ v w → Dp K H v d
  | _, _, _, .non, r => by rw [r.non_inv]; exact .non
  | _, _, _, .bl b, r => by rw [r.bl_inv]; exact .bl b
  | _, _, _, .int i, r => by rw [r.int_inv]; exact .int i
  | _, _, _, .str x, r => by rw [r.str_inv]; exact .str x
  | _, _, _, .tup h, r => by
    obtain ⟨a, vs, rfl, hq, rr⟩ := r.tup_inv
    exact .tup (sqT_sub j hq) (DWs.dp j h rr)
  | _, _, _, .cell c h, r => by
    obtain ⟨a, rfl, ha⟩ := r.cell_inv
    obtain ⟨vs, hl, rr⟩ := j.lstC ha c
    exact .lst hl (DWs.dp j h rr)
theorem DWs.dp {K : PySem.W.Frag} {F H : Hp} {θ : List Addr} {O : Sto} (j : Jn K F H θ O) : ∀ {w : List W} {d : List PyData} {v : List V}, DWs O w d → RWs K F θ v w → DpAll K H v d
  | _, _, _, .nil, r => by cases r; exact .nil
  | _, _, _, .cons h t, r => by
    cases r with
    | cons r rr => exact .cons (DW.dp j h r) (DWs.dp j t rr)
end
def rEqP (K : PySem.W.Frag) (neg : Bool) : R2 := fun x y H Q => ∃ d e, Dp K H x d ∧ Dp K H y e ∧ d.plain = true ∧ e.plain = true ∧ min d.depth e.depth ≤ 64 ∧ Q (.bl (if neg then !PyData.eqv d e else PyData.eqv d e)) H
theorem op_eqP (hu : X.A.units + 64 < cLine) : OpR X (compareOp .Eq) (rEqP X.K false) := by
  intro pins s σ H x y v u Q I rx ry h
  obtain ⟨d, e, hd, he, h1, h2, h3, q⟩ := h
  obtain ⟨as, r1⟩ := Dp.reads I d x v hd rx
  obtain ⟨bs, r2⟩ := Dp.reads I e y u he ry
  exact SeqAt.eq_plain r1 r2 h1 h2 (by omega) ⟨.bl _, H, I, rfl, q⟩
theorem op_neP (hu : X.A.units + 64 < cLine) : OpR X (compareOp .NotEq) (rEqP X.K true) := by
  intro pins s σ H x y v u Q I rx ry h
  obtain ⟨d, e, hd, he, h1, h2, h3, q⟩ := h
  obtain ⟨as, r1⟩ := Dp.reads I d x v hd rx
  obtain ⟨bs, r2⟩ := Dp.reads I e y u he ry
  exact SeqAt.ne_plain r1 r2 h1 h2 (by omega) ⟨.bl _, H, I, rfl, q⟩
def rdEqD : R2D := fun x y O S => ∃ d e, DW O x d ∧ DW O y e ∧ d.plain = true ∧ e.plain = true ∧ min d.depth e.depth ≤ 64 ∧ S (.bl (PyData.eqv d e)) O
def rdNeD : R2D := fun x y O S => ∃ d e, DW O x d ∧ DW O y e ∧ d.plain = true ∧ e.plain = true ∧ min d.depth e.depth ≤ 64 ∧ S (.bl (!PyData.eqv d e)) O
theorem sr_eqD {K : PySem.W.Frag} : SR2 K (rEqP K false) rdEqD := by
  intro F H θ O x y v u S j rx ry q Q k
  obtain ⟨d, e, hd, he, h1, h2, h3, q⟩ := q
  exact ⟨d, e, hd.dp j rx, he.dp j ry, h1, h2, h3, k _ _ F H θ O Gr.refl j (.bl _) q⟩
theorem sr_neD {K : PySem.W.Frag} : SR2 K (rEqP K true) rdNeD := by
  intro F H θ O x y v u S j rx ry q Q k
  obtain ⟨d, e, hd, he, h1, h2, h3, q⟩ := q
  exact ⟨d, e, hd.dp j rx, he.dp j ry, h1, h2, h3, k _ _ F H θ O Gr.refl j (.bl _) q⟩
theorem et_eqD (hu : X.A.units + 64 < cLine) (ha : ED X a wa) (hb : ED X b wb) : EDT X (.Compare a [.Eq] [b] pos) (dTest (dOp rdEqD wa wb)) := et_cmp (op_eqP hu) sr_eqD ha hb (nomark _)
theorem et_neD (hu : X.A.units + 64 < cLine) (ha : ED X a wa) (hb : ED X b wb) : EDT X (.Compare a [.NotEq] [b] pos) (dTest (dOp rdNeD wa wb)) := et_cmp (op_neP hu) sr_neD ha hb (nomark _)
theorem ed_eqD (hu : X.A.units + 64 < cLine) (ha : ED X a wa) (hb : ED X b wb) : ED X (.Compare a [.Eq] [b] pos) (dOp rdEqD wa wb) := ed_cmp (op_eqP hu) sr_eqD ha hb (nomark _)
theorem ed_neD (hu : X.A.units + 64 < cLine) (ha : ED X a wa) (hb : ED X b wb) : ED X (.Compare a [.NotEq] [b] pos) (dOp rdNeD wa wb) := ed_cmp (op_neP hu) sr_neD ha hb (nomark _)
theorem hu64 {k : Nat} (hr : RoomG k X.A) : X.A.units + 64 < cLine := by
  have h := hr.r.un
  omega
end
end Dm

set_option Elab.async false
set_option linter.all false
set_option maxRecDepth 100000
set_option maxHeartbeats 4000000
/-! The data machine: dict comprehensions, zip, enumerate, slices of tuples, sorted, list(range), pop(), extend, sums of lists and texts, keywords. -/
namespace Dm
open PySem PySem.Spec PyProof.Rows L2
/-! ### dict comprehensions -/
def dDc (di : DS → Sto → (Wk → Sto → Prop) → Prop) (g : DG) (wt : DT) (wk wv : DE) (vs : List Nat) : DE := fun δ O S => di δ O fun w O1 => ∃ (n : Nat) (Pv : Nat → Sto → Prop), Pv 0 (O1 ++ [.dct []]) ∧
  ∀ i O, Pv i O → i ≤ n ∧ w.ok O ∧ (match w.at_ i O with
    | none => S (.cell O1.length) O
    | some z => i < n ∧ g z (wipeD δ vs) O fun δ2 O2 => wt δ2 O2 fun b O3 => if b = true then wk δ2 O3 fun y O4 => wv δ2 O4 fun u O5 => ∃ kvs key, keyW y = some key ∧ O5[O1.length]? = some (.dct kvs) ∧ kvs.length < sizeLine ∧ Pv (i + 1) (O5.set O1.length (.dct (putW kvs key u))) else Pv (i + 1) O3)
theorem dc_sound {K : PySem.W.Frag} {wi : TI} {di : DS → Sto → (Wk → Sto → Prop) → Prop} {g : TG} {gd : DG} {tt : TT} {wt : DT} {tk tv : TE} {wk wv : DE} {vs : List Nat} (s0 : SI K wi di) (s1 : SGc K g gd vs) (s2 : STt K tt wt) (s3 : SE K tk wk) (s4 : SE K tv wv) : SE K (tDc wi g tt tk tv vs) (dDc di gd wt wk wv vs) := by
  intro F H θ O σ δ S j s q Q k
  refine s0 F H θ O σ δ _ j s q _ fun J w F1 H1 θ1 O1 g1 j1 q1 turn D hD => ?_
  obtain ⟨n, Pv, h0, hq⟩ := q1
  have gp : Gr F1 θ1 F1 (θ1 ++ [D]) := Gr.push
  have hk0 : (θ1 ++ [D])[O1.length]? = some D := by
    rw [← j1.len]
    simp
  refine ⟨fun i m H' => m = n - i ∧ ∃ F' θ' O', Gr F1 (θ1 ++ [D]) F' θ' ∧ Jn K F' H' θ' O' ∧ Pv i O', ⟨n, by omega, F1, _, _, Gr.refl, j1.newC (c := .dct []) hD ⟨j1.freeF hD, [], upd_same, .nil⟩, h0⟩, ?_⟩
  rintro i m H2 ⟨rfl, F2, θ2, O2, g2, j2, pv⟩
  obtain ⟨hin, hok, hm⟩ := hq i O2 pv
  have gA : Gr F1 θ1 F2 θ2 := gp.trans g2
  rcases turn i F2 H2 θ2 O2 gA j2 hok with ⟨e, st⟩ | ⟨z, e, go, yl⟩
  · rw [e] at hm
    exact .inl ⟨st, k (.ref D) _ F2 H2 θ2 O2 (g1.trans gA) j2 (.cell (g2.at hk0)) hm⟩
  · rw [e] at hm
    obtain ⟨hlt, hm⟩ := hm
    refine .inr ⟨go, fun H' => ∃ F' θ' O', Gr F1 (θ1 ++ [D]) F' θ' ∧ Jn K F' H' θ' O' ∧ Pv (i + 1) O', fun H' h => ⟨n - (i + 1), by omega, rfl, h⟩, fun x H3 hy => ?_⟩
    obtain ⟨F3, θ3, g3, j3, r3⟩ := yl x H3 hy
    have s3' := ((s.mono (g1.trans (gA.trans g3))).wipe vs)
    refine s1 F3 H3 θ3 O2 _ _ x z _ j3 s3' r3 hm _ fun F4 H4 θ4 O4 σ4 δ4 g4 j4 q4' e4 q4 => ⟨e4.trans (wipe_wipe σ vs), ?_⟩
    refine s2 F4 H4 θ4 O4 σ4 δ4 _ j4 q4' q4 _ fun b F5 H5 θ5 O5 g5 j5 q5 => ?_
    have g25 : Gr F1 (θ1 ++ [D]) F5 θ5 := ((g2.trans g3).trans g4).trans g5
    cases b with
    | false => exact ⟨F5, θ5, O5, g25, j5, q5⟩
    | true =>
      refine s3 F5 H5 θ5 O5 σ4 δ4 _ j5 (q4'.mono g5) q5 _ fun y wy F6 H6 θ6 O6 g6 j6 r6 q6 => ?_
      refine s4 F6 H6 θ6 O6 σ4 δ4 _ j6 (q4'.mono (g5.trans g6)) q6 _ fun zz wz F7 H7 θ7 O7 g7 j7 r7 q7 => ?_
      obtain ⟨kvs, key, hk, ha, hz, pv7⟩ := q7
      have g27 := (g25.trans g6).trans g7
      have hD7 : θ7[O1.length]? = some D := g27.at hk0
      obtain ⟨f7, us, hu, ru⟩ := j7.dct hD7 ha
      exact ⟨us, key, key_rel r6 hk, hu, by rw [kv_len ru]; exact hz, F7, θ7, _, g27, j7.putD hD7 f7 (put_rel key r7 ru), pv7⟩
section
variable {X : Cx} {elt tg iter : Expr} {ifs : List Expr} {scope : Scope} {own : List (Str × Nat)} {pos : Pos} {di : DS → Sto → (Wk → Sto → Prop) → Prop} {gd : DG} {wt : DT} {wk wv : DE}
theorem ed_dc {kx vx : Expr} (hc : X.calm = true) (hN : X.N.Nodup) (hi : EDI X tg iter di) (ok : BlkOk X.N X.env.scope scope own) (hg : ∀ s H C cl fp, EDGc (Blk X scope s H C cl fp) (own.map (·.2)) tg gd) (ht : ∀ s H C cl fp, EDTs (Blk X scope s H C cl fp) ifs wt)
    (hk : ∀ s H C cl fp, ED (Blk X scope s H C cl fp) kx wk) (hv : ∀ s H C cl fp, ED (Blk X scope s H C cl fp) vx wv) (hs : ∀ x, foldedSetIterable iter X.env x = pure x := by intro _; rfl) : ED X (.DictComp kx vx [⟨tg, iter, ifs, 0⟩] scope pos) (dDc di gd wt wk wv (own.map (·.2))) := by
  obtain ⟨t0, p0, s0⟩ := hi.ex
  obtain ⟨t1, p1, s1⟩ := uni_g hg
  obtain ⟨t2, p2, s2⟩ := uni_t ht
  obtain ⟨t3, p3, s3⟩ := uni_e hk
  obtain ⟨t4, p4, s4⟩ := uni_e hv
  exact ⟨_, pe_dc hc hN p0 ok p1 p2 p3 p4 hs, dc_sound s0 s1 s2 s3 s4⟩
end
/-! ### zip, enumerate, texts -/
def LstQ (O : Sto) (y : W) (xs : List W) : Prop := ∃ k, y = .cell k ∧ LstC O k xs
/-- of the lists in two cells; of two tuples -/
def wkZL (k l : Nat) : Wk := ⟨fun i O => match (wkL k).at_ i O, (wkL l).at_ i O with
  | some x, some y => some (.tup [x, y])
  | _, _ => none, fun O => (wkL k).ok O ∧ (wkL l).ok O⟩
def wkZT (xs ys : List W) : Wk := ⟨fun i _ => match xs[i]?, ys[i]? with
  | some x, some y => some (.tup [x, y])
  | _, _ => none, fun _ => True⟩
def wkE (k : Nat) : Wk := ⟨fun i O => ((wkL k).at_ i O).map fun x => .tup [.int i, x], (wkL k).ok⟩
def wkS (x : Str) : Wk := ⟨fun i _ => x.cps[i]?.map fun c => .str ⟨#[c]⟩, fun _ => True⟩
def diZip (wa : DA) : DS → Sto → (Wk → Sto → Prop) → Prop := fun δ O S => wa δ O fun ws O1 => (∃ xs ys, ws = [.tup xs, .tup ys] ∧ S (wkZT xs ys) O1) ∨ ∃ k l xs ys, ws = [.cell k, .cell l] ∧ LstC O1 k xs ∧ LstC O1 l ys ∧ S (wkZL k l) O1
def diEnum (wa : DA) : DS → Sto → (Wk → Sto → Prop) → Prop := fun δ O S => wa δ O fun ws O1 => ∃ k xs, ws = [.cell k] ∧ LstC O1 k xs ∧ S (wkE k) O1
def diS (we : DE) : DS → Sto → (Wk → Sto → Prop) → Prop := fun δ O S => we δ O fun w O1 => ∃ x, w = .str x ∧ S (wkS x) O1
theorem ei_str {X : Cx} {tg e : Expr} {we : DE} (h : ED X e we) : EDI X tg e (diS we) := by
  obtain ⟨t0, p0, s0⟩ := h.ex
  refine ⟨_, pi_str p0, fun F H θ O σ δ S j s q R k => ?_⟩
  refine s0 F H θ O σ δ _ j s q _ fun v w F1 H1 θ1 O1 g1 j1 r1 q1 => ?_
  obtain ⟨x, rfl, q1⟩ := q1
  refine ⟨x, r1.str_inv, k _ _ F1 H1 θ1 O1 g1 j1 q1 fun i F2 H2 θ2 O2 g2 j2 _ => ?_⟩
  show (x.cps[i]?.map _ = none ∧ _) ∨ ∃ z, x.cps[i]?.map _ = some z ∧ _
  cases h : x.cps[i]? with
  | none => exact .inl ⟨rfl, (show x.cps.size ≤ i by simpa using h)⟩
  | some c =>
    refine .inr ⟨_, rfl, (Array.getElem?_eq_some_iff.mp h).1, fun v H3 hy => ?_⟩
    obtain ⟨rfl, c', e', rfl⟩ := hy
    rw [h] at e'
    cases e'
    exact ⟨F2, θ2, Gr.refl, j2, .str _⟩
theorem ei_enum {X : Cx} {e : Expr} {wa : DA} {p pos tpos : Pos} {elts : List Expr} {kk : Nat} (hg : Gl X "enumerate") (hm : X.mg "enumerate" = none) (ha : EDA X [e] wa) (hs : starEach [e] X.env = [(false, eval e X.env)] := by rfl) :
    EDI X (.Tuple elts kk tpos) (.Call (.Name "enumerate" p) [e] [] pos) (diEnum wa) := by
  obtain ⟨t0, p0, s0⟩ := ha.ex
  refine ⟨_, pi_enum hg hm p0 hs, fun F H θ O σ δ S j s q R k => ?_⟩
  refine s0 F H θ O σ δ _ j s q _ fun vs ws F1 H1 θ1 O1 g1 j1 r1 q1 => ?_
  obtain ⟨c, xs, rfl, hc, q1⟩ := q1
  obtain ⟨v, rfl, rv⟩ := r1.one_inv
  obtain ⟨a, rfl, ha⟩ := rv.cell_inv
  obtain ⟨us, hu, ru⟩ := j1.lstC ha hc
  refine ⟨a, us, rfl, hu, k _ _ F1 H1 θ1 O1 g1 j1 q1 fun i F2 H2 θ2 O2 g2 j2 ok => ?_⟩
  obtain ⟨zs, hz⟩ := ok
  obtain ⟨us2, hu2, ru2⟩ := j2.lstC (g2.at ha) hz
  show (((wkL c).at_ i O2).map _ = none ∧ _) ∨ ∃ z, ((wkL c).at_ i O2).map _ = some z ∧ _
  rw [wkL_at hz]
  cases h : zs[i]? with
  | none => exact .inl ⟨rfl, us2, hu2, by rw [ru2.length]; exact List.getElem?_eq_none_iff.mp h⟩
  | some z =>
    obtain ⟨v, ev, rv⟩ := ru2.get h
    refine .inr ⟨_, rfl, ⟨us2, v, hu2, ev⟩, fun x H3 hy => ?_⟩
    obtain ⟨T, y, rfl, hT, rfl, hx⟩ := hy
    have e2 := (hx us2 hu2).symm.trans ev
    cases e2
    have g3 : Gr F2 θ2 (L2.upd F2 T (.tup [.int (i : Nat), v])) θ2 := Gr.upd (j2.freeF hT)
    exact ⟨_, _, g3, j2.newT hT, .tup (.inl (.inl upd_same)) (.cons (.int _) (.cons (rv.mono g3) .nil))⟩
theorem ei_zip {X : Cx} {e e2 : Expr} {wa : DA} {p pos tpos : Pos} {elts : List Expr} {kk : Nat} (hg : Gl X "zip") (hm : X.mg "zip" = none) (ha : EDA X [e, e2] wa)
    (hs : starEach [e, e2] X.env = (false, eval e X.env) :: starEach [e2] X.env := by rfl) (hpl : (backTo pos (starEach [e2] X.env)).any (·.1) = false := by rfl) : EDI X (.Tuple elts kk tpos) (.Call (.Name "zip" p) [e, e2] [] pos) (diZip wa) := by
  obtain ⟨t0, p0, s0⟩ := ha.ex
  refine ⟨_, RZ.pi_zipA hg hm p0 hs hpl, fun F H θ O σ δ S j s q R k => ?_⟩
  refine s0 F H θ O σ δ _ j s q _ fun vs ws F1 H1 θ1 O1 g1 j1 r1 q1 => ?_
  rcases q1 with ⟨xs, ys, rfl, q1⟩ | ⟨c, d, xs, ys, rfl, hc, hd, q1⟩
  · obtain ⟨v, u, rfl, rv, ru⟩ := r1.two_inv
    obtain ⟨a, vs, rfl, hq, rr⟩ := rv.tup_inv
    obtain ⟨b, us, rfl, hq', rr'⟩ := ru.tup_inv
    refine ⟨a, b, vs, us, rfl, .inr ⟨sqT_sub j1 hq, sqT_sub j1 hq', k _ _ F1 H1 θ1 O1 g1 j1 q1 fun i F2 H2 θ2 O2 g2 j2 _ => ?_⟩⟩
    have e1 : SqT X.K H2 a vs := sqT_sub j2 (sqT_fz g2.fz hq)
    have e2 : SqT X.K H2 b us := sqT_sub j2 (sqT_fz g2.fz hq')
    show ((match xs[i]?, ys[i]? with | some x, some y => some (W.tup [x, y]) | _, _ => none) = none ∧ _) ∨ ∃ z, (match xs[i]?, ys[i]? with | some x, some y => some (W.tup [x, y]) | _, _ => none) = some z ∧ _
    cases h1 : xs[i]? with
    | none => exact .inl ⟨rfl, vs, us, e1, e2, .inl (by rw [rr.length]; exact List.getElem?_eq_none_iff.mp h1)⟩
    | some x =>
      cases h2 : ys[i]? with
      | none => exact .inl ⟨rfl, vs, us, e1, e2, .inr (by rw [rr'.length]; exact List.getElem?_eq_none_iff.mp h2)⟩
      | some y =>
        obtain ⟨v, ev, rv⟩ := (rr.mono g2).get h1
        obtain ⟨u, eu, ru⟩ := (rr'.mono g2).get h2
        refine .inr ⟨_, rfl, ⟨vs, us, v, u, e1, e2, ev, eu⟩, fun z H3 hy => ?_⟩
        obtain ⟨T, y1, y2, rfl, hT, rfl, f1, f2⟩ := hy
        have q1 := (f1 _ e1).symm.trans ev
        have q2 := (f2 _ e2).symm.trans eu
        cases q1
        cases q2
        have g3 : Gr F2 θ2 (L2.upd F2 T (.tup [v, u])) θ2 := Gr.upd (j2.freeF hT)
        exact ⟨_, _, g3, j2.newT hT, .tup (.inl (.inl upd_same)) (.cons (rv.mono g3) (.cons (ru.mono g3) .nil))⟩
  · obtain ⟨v, u, rfl, rv, ru⟩ := r1.two_inv
    obtain ⟨a, rfl, ha⟩ := rv.cell_inv
    obtain ⟨b, rfl, hb⟩ := ru.cell_inv
    obtain ⟨vs, hv, rr⟩ := j1.lstC ha hc
    obtain ⟨us, hu, rr'⟩ := j1.lstC hb hd
    refine ⟨a, b, vs, us, rfl, .inl ⟨hv, hu, k _ _ F1 H1 θ1 O1 g1 j1 q1 fun i F2 H2 θ2 O2 g2 j2 ok => ?_⟩⟩
    obtain ⟨⟨zs, hz⟩, ⟨zs', hz'⟩⟩ := ok
    obtain ⟨vs2, e1, rr2⟩ := j2.lstC (g2.at ha) hz
    obtain ⟨us2, e2, rr2'⟩ := j2.lstC (g2.at hb) hz'
    show ((match (wkL c).at_ i O2, (wkL d).at_ i O2 with | some x, some y => some (W.tup [x, y]) | _, _ => none) = none ∧ _) ∨ ∃ z, (match (wkL c).at_ i O2, (wkL d).at_ i O2 with | some x, some y => some (W.tup [x, y]) | _, _ => none) = some z ∧ _
    rw [wkL_at hz, wkL_at hz']
    cases h1 : zs[i]? with
    | none => exact .inl ⟨rfl, vs2, us2, e1, e2, .inl (by rw [rr2.length]; exact List.getElem?_eq_none_iff.mp h1)⟩
    | some x =>
      cases h2 : zs'[i]? with
      | none => exact .inl ⟨rfl, vs2, us2, e1, e2, .inr (by rw [rr2'.length]; exact List.getElem?_eq_none_iff.mp h2)⟩
      | some y =>
        obtain ⟨v, ev, rv⟩ := rr2.get h1
        obtain ⟨u, eu, ru⟩ := rr2'.get h2
        refine .inr ⟨_, rfl, ⟨vs2, us2, v, u, e1, e2, ev, eu⟩, fun z H3 hy => ?_⟩
        obtain ⟨T, y1, y2, rfl, hT, rfl, f1, f2⟩ := hy
        have q1 := (f1 _ e1).symm.trans ev
        have q2 := (f2 _ e2).symm.trans eu
        cases q1
        cases q2
        have g3 : Gr F2 θ2 (L2.upd F2 T (.tup [v, u])) θ2 := Gr.upd (j2.freeF hT)
        exact ⟨_, _, g3, j2.newT hT, .tup (.inl (.inl upd_same)) (.cons (rv.mono g3) (.cons (ru.mono g3) .nil))⟩

/-! ### slices of tuples, sums, sorted, list(range(..)) -/
section
variable {X : Cx} {a b c e : Expr} {es : List Expr} {wa wb wc we : DE} {wr : DA} {pos : Pos}
def dSlT (we : DE) (wl wh : DS → Sto → (Option Int → Sto → Prop) → Prop) : DE := fun δ O S => we δ O fun w O1 => wl δ O1 fun lo O2 => wh δ O2 fun hi O3 => ∃ ws, w = .tup ws ∧ ¬ (HT.sIx ws.length 0 lo = 0 ∧ HT.sIx ws.length ws.length hi = ws.length) ∧ S (.tup (cutW ws lo hi)) O3
theorem ed_slT {lo hi : Option Expr} {wl wh : DS → Sto → (Option Int → Sto → Prop) → Prop} {p2 : Pos} (he : ED X e we) (hl : EDO X lo wl) (hh : EDO X hi wh) : ED X (.Subscript e (.Slice lo hi none p2) pos) (dSlT we wl wh) := by
  obtain ⟨t0, p0, s0⟩ := he.ex
  obtain ⟨t1, p1, s1⟩ := hl.ex
  obtain ⟨t2, p2, s2⟩ := hh.ex
  refine ⟨_, pe_slice sl_tup p0 p1 p2, fun F H θ O σ δ S j s q Q k => ?_⟩
  refine s0 F H θ O σ δ _ j s q _ fun v w F1 H1 θ1 O1 g1 j1 r1 q1 => ?_
  refine s1 F1 H1 θ1 O1 σ δ _ j1 (s.mono g1) q1 _ fun lo F2 H2 θ2 O2 g2 j2 q2 => ?_
  refine s2 F2 H2 θ2 O2 σ δ _ j2 (s.mono (g1.trans g2)) q2 _ fun hi F3 H3 θ3 O3 g3 j3 q3 => ?_
  obtain ⟨ws, rfl, hn, q3⟩ := q3
  obtain ⟨a, vs, rfl, hq, rr⟩ := r1.tup_inv
  have g23 := g2.trans g3
  refine ⟨a, vs, rfl, sqT_sub j3 (sqT_fz g23.fz hq), by rw [rr.length]; exact hn, fun p hp => ?_⟩
  have g4 : Gr F3 θ3 (L2.upd F3 p (.tup (cutV vs lo hi))) θ3 := Gr.upd (j3.freeF hp)
  exact k _ _ _ _ _ _ ((g1.trans g23).trans g4) (j3.newT hp) (.tup (.inl (.inl upd_same)) ((cut_rel (rr.mono g23) lo hi).mono g4)) q3
def rdSorted : RCD := fun ws O S => ∃ (k : Nat) (ns : List Int), ws = [.cell k] ∧ LstC O k (ns.map W.int) ∧ ∀ ns' : List Int, ns'.Perm ns → ns'.Pairwise (· ≤ ·) → S (.cell O.length) (O ++ [.lst (ns'.map W.int)])
theorem src_sorted {K : PySem.W.Frag} : SRC K (rSortedI K) rdSorted := by
  intro F H θ O vs ws S j r q Q k
  obtain ⟨c, ns, rfl, hc, q⟩ := q
  obtain ⟨v, rfl, rv⟩ := r.one_inv
  obtain ⟨a, rfl, ha⟩ := rv.cell_inv
  obtain ⟨xs, hl, rr⟩ := j.lstC ha hc
  refine ⟨a, ns, rfl, by rw [← ints_rel rr]; exact hl, fun ns' p h1 h2 hp => ?_⟩
  exact k _ _ _ _ _ _ Gr.push (j.newL hp RWs.ints) (.cell (by rw [← j.len]; simp)) (q ns' h1 h2)
def dListR (wa : DA) : DE := fun δ O S => wa δ O fun ws O1 => ∃ n : Int, ws = [.int n] ∧ 0 ≤ n ∧ n < 100000 ∧ S (.cell O1.length) (O1 ++ [.lst ((List.range n.toNat).map fun i => W.int (i : Nat))])
def rdCatL : R2D := fun x y O S => ∃ k l xs ys, x = .cell k ∧ y = .cell l ∧ O[k]? = some (.lst xs) ∧ O[l]? = some (.lst ys) ∧ xs.length + ys.length ≤ sizeLine ∧ S (.cell O.length) (O ++ [.lst (xs ++ ys)])
theorem sr_catL {K : PySem.W.Frag} : SR2 K rCat rdCatL := by
  intro F H θ O x y v u S j rx ry q Q k
  obtain ⟨c, d, xs, ys, rfl, rfl, hc, hd, hz, q⟩ := q
  obtain ⟨a, rfl, ha⟩ := rx.cell_inv
  obtain ⟨b, rfl, hb⟩ := ry.cell_inv
  obtain ⟨f, vs, hv, rr⟩ := j.lst ha hc
  obtain ⟨f', us, hu, rr'⟩ := j.lst hb hd
  refine ⟨a, b, vs, us, rfl, rfl, hv, hu, by rw [rr.length, rr'.length]; exact hz, fun p hp => ?_⟩
  exact k _ _ _ _ _ _ Gr.push (j.newL hp (rr.append rr')) (.cell (by rw [← j.len]; simp)) q
abbrev dCatL := dOp rdCatL
theorem ed_catL (ha : ED X a wa) (hb : ED X b wb) : ED X (.BinOp a .Add b pos) (dCatL wa wb) := ed_op op_cat sr_catL ha hb
def rdCatS : R2D := fun x y O S => ∃ i j, x = .str i ∧ y = .str j ∧ i.length + j.length ≤ sizeLine ∧ S (.str (i ++ j)) O
theorem sr_catS {K : PySem.W.Frag} : SR2 K (fun x y H Q => ∃ i j, x = .str i ∧ y = .str j ∧ i.length + j.length ≤ sizeLine ∧ Q (.str (i ++ j)) H) rdCatS := by
  intro F H θ O x y v u S j rx ry q Q k
  obtain ⟨i, l, rfl, rfl, hz, q⟩ := q
  exact ⟨i, l, rx.str_inv, ry.str_inv, hz, k _ _ F H θ O Gr.refl j (.str _) q⟩
abbrev dCatS := dOp rdCatS
theorem ed_catS (ha : ED X a wa) (hb : ED X b wb) : ED X (.BinOp a .Add b pos) (dCatS wa wb) := ed_op op_add_str sr_catS ha hb

/-! ### pop(), extend -/
def dBM0 (ok : W → Sto → Prop) (rd : RMD) (wo : DE) : DE := fun δ O S => wo δ O fun x O1 => ok x O1 ∧ rd x [] O1 S
theorem ed_bm0 {name : Str} {apos cpos : Pos} {T id : String} {r : V → List V → Hp → VK → Prop} {rd : RMD} {ok : W → Sto → Prop} (pa : PlainAttrs T) (slot : Slot T name id) (hty : typeOf (.builtin id) = pure (.type "method_descriptor")) (hm : MtR X id r) (hs : STy X.K T ok) (hr : SRM X.K T r rd) (ho : ED X a wa)
    (hbase : attributeBase a name X.env (eval a X.env) = eval a X.env := by rfl) (hline : (apos.endLine == cpos.line) = true := by rfl) : ED X (.Call (.Attribute a name apos) [] [] cpos) (dBM0 ok rd wa) := by
  obtain ⟨t0, p0, s0⟩ := ho.ex
  refine ⟨_, pe_bm0 pa slot hty hm p0 hbase hline, fun F H θ O σ δ S j s q Q k => ?_⟩
  refine s0 F H θ O σ δ _ j s q _ fun v x F1 H1 θ1 O1 g1 j1 r1 q1 => ⟨hs F1 H1 θ1 O1 v x j1 r1 q1.1, ?_⟩
  exact hr F1 H1 θ1 O1 v x [] [] S j1 r1 .nil q1.2 Q fun z w F3 H3 θ3 O3 g3 => k z w F3 H3 θ3 O3 (g1.trans g3)
theorem RWs.dropLast {K : PySem.W.Frag} {F : Hp} {θ : List Addr} : ∀ {vs : List V} {ws : List W}, RWs K F θ vs ws → RWs K F θ vs.dropLast ws.dropLast
  | _, _, .nil => .nil
  | _, _, .cons r .nil => .nil
  | _, _, .cons r (.cons q t) => .cons r (RWs.dropLast (.cons q t))
def rdPop : RMD := fun x ws O S => ∃ k us w, x = .cell k ∧ ws = [] ∧ O[k]? = some (.lst us) ∧ us[us.length - 1]? = some w ∧ S w (O.set k (.lst us.dropLast))
theorem srm_pop {K : PySem.W.Frag} : SRM K "list" rPop rdPop := by
  intro F H θ O v x vs ws S j r rs q Q k
  obtain ⟨c, us, w, rfl, rfl, hc, hw, q⟩ := q
  obtain ⟨a, rfl, ha⟩ := r.cell_inv
  cases rs
  obtain ⟨f, xs, hx, rr⟩ := j.lst ha hc
  obtain ⟨z, hz, rz⟩ := rr.get hw
  exact ⟨a, xs, z, rfl, rfl, hx, by rw [rr.length]; exact hz, k _ _ F _ θ _ Gr.refl (j.putL ha f rr.dropLast) rz q⟩
def rdExtend : RMD := fun x ws O S => ∃ k l us zs, x = .cell k ∧ ws = [.cell l] ∧ O[k]? = some (.lst us) ∧ O[l]? = some (.lst zs) ∧ us.length + zs.length ≤ sizeLine ∧ S .non (O.set k (.lst (us ++ zs)))
theorem srm_extend {K : PySem.W.Frag} : SRM K "list" rExtend rdExtend := by
  intro F H θ O v x vs ws S j r rs q Q k
  obtain ⟨c, d, us, zs, rfl, rfl, hc, hd, hz, q⟩ := q
  obtain ⟨a, rfl, ha⟩ := r.cell_inv
  obtain ⟨y, rfl, ry⟩ := rs.one_inv
  obtain ⟨b, rfl, hb⟩ := ry.cell_inv
  obtain ⟨f, xs, hx, rr⟩ := j.lst ha hc
  obtain ⟨f', ys, hy, rr'⟩ := j.lst hb hd
  exact ⟨a, b, xs, ys, rfl, rfl, hx, hy, by rw [rr.length, rr'.length]; exact hz, k _ _ F _ θ _ Gr.refl (j.putL ha f (rr.append rr')) .non q⟩
theorem ed_listR {p p2 q : Pos} (hc : X.calm = true) (hg : Gl X "list") (hm : X.mg "list" = none) (hg2 : Gl X "range") (hm2 : X.mg "range" = none) (ha : ED X a wa) (na : starEach [a] X.env = (false, eval a X.env) :: starEach [] X.env := by rfl)
    (nr : starEach [.Call (.Name "range" p2) [a] [] q] X.env = (false, eval (.Call (.Name "range" p2) [a] [] q) X.env) :: starEach [] X.env := by rfl) : ED X (.Call (.Name "list" p) [.Call (.Name "range" p2) [a] [] q] [] pos) (dListR (dCons wa dNil)) := by
  obtain ⟨t0, p0, s0⟩ := ha.ex
  refine ⟨_, pe_listRg hc hg hm (prg_1 hg2 hm2 p0 na) nr, fun F H θ O σ δ S j s q Q k => ?_⟩
  refine s0 F H θ O σ δ _ j s q _ fun v w F1 H1 θ1 O1 g1 j1 r1 q1 => ?_
  obtain ⟨n, e, h0, h1, q1⟩ := q1
  have e' : w = .int n := List.head_eq_of_cons_eq e
  subst e'
  refine ⟨n, r1.int_inv, ⟨by omega, by omega, by omega, by omega, by omega⟩, fun p hp => ?_⟩
  have ev : rgV 0 n = (List.range n.toNat).map fun i => V.int (i : Nat) := by
    unfold rgV
    rw [Int.sub_zero]
    refine List.map_congr_left fun i _ => ?_
    rw [Int.zero_add]
  have rr : RWs X.K F1 θ1 (rgV 0 n) ((List.range n.toNat).map fun i => W.int (i : Nat)) := by
    rw [ev]
    induction List.range n.toNat with
    | nil => exact .nil
    | cons i r ih => exact .cons (.int _) ih
  exact k _ _ _ _ _ _ (g1.trans Gr.push) (j1.newL hp rr) (.cell (by rw [← j1.len]; simp)) q1
end
end Dm

set_option Elab.async false
set_option linter.all false
set_option maxRecDepth 100000
set_option maxHeartbeats 4000000
/-! Classes of exceptions of the program with own __init__, called with keywords. -/
namespace Dm
open PySem PySem.Spec PyProof.Rows PySem.W PySem.Calls PySem.HandSPX
section
variable {prog : Program} {w : World} {A : Around} {E : Value → Shared → Prop} {R : Result → Shared → Prop} {h : Heap} {g : Array GenState} {d : Drawn} {t : Nat} {os : OsState}
variable {nm q : Str} {C N : Addr} {bs bm bmB : List Value} {hdct : Bool} {sn : List Str} {sub : List Value} {ab : Bool} {col : Option Bool} {dd : Option Addr} {k0 k1 k2 k3 k5 : Option Value} {B newId initId : String} {kw : List (Str × Value)}
theorem kw_chk {M : Model} {rest : List Value} {Q : Unit → Shared → Prop} (hC : h.get? C = some (excClassObj nm q C N bs bm hdct sn sub ab col dd k0 k1 k2 k3 k5 newId))
    (done : Q () ⟨h, g, d, t, os⟩) : wpAny M A (checkBuiltinCall "type.__call__" ⟨.ref C :: rest, kw⟩) Q E ⟨h, g, d, t, os⟩ := by
  have z3 := tc_sub
  have zT : (⟨h, g, d, t, os⟩ : Shared).TypeIs (.ref C) "type" := ⟨_, hC, rfl⟩
  simp only [checkBuiltinCall, tc_kind, tc_split]
  repeat (any_goals (first | assumption | (with_reducible refine wpAny_loadPart_at hC ?_) | (with_reducible refine wpAny_onRaise ?_) | (with_reducible refine wpAny_map ?_) | wp_step))
theorem kw_new (F : ExcBaseFacts B newId initId bmB) (hT : ∀ X : String, bm.contains (.type X) = bmB.contains (.type X)) {rest : List Value} {Q : Unit → Shared → Prop}
    (hC : h.get? C = some (excClassObj nm q C N bs bm hdct sn sub ab col dd k0 k1 k2 k3 k5 newId)) (done : Q () ⟨h, g, d, t, os⟩) : wpAny (model prog w) A (checkBuiltinCall newId ⟨.ref C :: rest, kw⟩) Q E ⟨h, g, d, t, os⟩ := by
  have zB : (Value.ref C :: bm).contains (.type B) = true := by rw [List.contains_cons, hT, F.hasB, Bool.or_true]
  have zS := F.noStar
  simp only [checkBuiltinCall, F.newKind, F.newSplit, F.newRow]
  repeat (first | refine wpAny_loadPart_at hC ?_ | (refine wpAny_isSubtype_exc hC ?_; rw [zB]) | refine wpAny_staticBase_exc hC ?_ | refine wpAny_madeBy_exc hC ?_ | simp only [bne_self_eq_false, Bool.false_eq_true, if_false] | wp_step)
  exact done
theorem kw_made (F : ExcBaseFacts B newId initId bmB) (hT : ∀ X : String, bm.contains (.type X) = bmB.contains (.type X)) {rest : List Value}
    (hC : h.get? C = some (excClassObj nm q C N bs bm hdct sn sub ab col dd k0 k1 k2 k3 k5 newId))
    (done : R (.ok (.ret (.ref (h.objs.size + 1)))) ⟨(h.push (W.kdv_tup rest)).push (excO C h.objs.size), g, d, t, os⟩) (hrest : rest.length ≤ sizeLine) :
    codeAny (model prog w) A (.builtin newId ⟨.ref C :: rest, kw⟩) R ⟨h, g, d, t, os⟩ := by
  have zE := F.ends
  have zB : (Value.ref C :: bm).contains (.type B) = true := by rw [List.contains_cons, hT, F.hasB, Bool.or_true]
  have zA : (Value.ref C :: bm).contains (.type "AttributeError") = false := by rw [List.contains_cons, hT, F.noAttr]; rfl
  have zN : (Value.ref C :: bm).contains (.type "NameError") = false := by rw [List.contains_cons, hT, F.noName]; rfl
  refine codeAny_builtinAt F.entry ?_
  unfold Builtin.«BaseException.__new__»
  refine PySem.wpAt_bind ?_
  show PySem.wpAt _ _ _ (stack >>= _) _ _ _
  refine PySem.wpAt_bind (PySem.wpAt_stack fun p below => PySem.wpAt_of_wpAny ?_)
  wp_walk
  refine PySem.wpAt_of_wpAny ?_
  rw [F.owner]
  repeat (first | with_reducible refine wpAny_madeHere_exc F.canon hC ?_ | with_reducible refine wpAny_loadPart_at hC ?_ | (with_reducible refine wpAny_isSubtype_exc hC ?_; first | rw [zB] | rw [zA] | rw [zN]) | wp_step)
  show R _ _
  rw [Heap.size_push]
  exact done
theorem kw_call (F : ExcBaseFacts B newId initId bmB) (hT : ∀ X : String, bm.contains (.type X) = bmB.contains (.type X)) {rest : List Value} {fI : Addr} {Q : Fin → Shared → Prop}
    (hC : h.get? C = some (excClassObj nm q C N bs bm hdct sn sub ab col dd k0 k1 k2 k3 k5 newId))
    (hi : W.Looks (model prog w) h (typeLookup (.ref C) "__init__") (some (.ref fI))) (hb : ∀ self, W.Looks (model prog w) h (bindSpecial (.ref fI) self) (.ref fI, [self])) (hrest : rest.length ≤ sizeLine)
    (done : codeAny (model prog w) A (.call (.ref fI) ⟨.ref (h.objs.size + 1) :: rest, kw⟩)
      (fun r s' => match r with | .ok (.ret v) => v = .none ∧ Q (.done (.ret (.ref (h.objs.size + 1)))) s' | .ok _ => False | .error e => E e s')
      ⟨(h.push (W.kdv_tup rest)).push (excO C h.objs.size), g, d, t, os⟩) :
    wpAny (model prog w) A (Builtin.«type.__call__» ⟨.ref C :: rest, kw⟩) Q E ⟨h, g, d, t, os⟩ := by
  repeat (first | with_reducible refine wpAny_loadPart_at hC ?_ | with_reducible refine wpAny_madeBy_exc hC ?_ | wp_step)
  refine codeAny_call_builtin_code (Code.quiet_builtin _ F.quiet) (kw_new F hT hC ?_)
  refine kw_made F hT hC ?_ hrest
  show wpAny _ _ _ _ _ _
  have kk : ∀ b o, h.get? b = some o → ((h.push (W.kdv_tup rest)).push (excO C h.objs.size)).get? b = some o := fun b o e => Heap.get?_push_of_some _ (Heap.get?_push_of_some _ e)
  have zC := kk _ _ hC
  have zg : ((h.push (W.kdv_tup rest)).push (excO C h.objs.size)).get? (h.objs.size + 1) = some (excO C h.objs.size) := by heap_get
  have zc : (Value.ref C :: bm).contains (.ref C) = true := by simp
  have zi := hi.keeps kk
  have zb := (hb (.ref (h.objs.size + 1))).keeps kk
  unfold isInstance
  repeat (first | with_reducible refine wpAny_loadPart_at zg ?_ | (with_reducible refine wpAny_isSubtype_exc zC ?_; rw [zc]) | wp_step)
  show wpAny _ _ (typeLookup (.ref C) _) _ _ _
  refine zi.at ?_
  refine wpAny_holding (wpAny_bind (zb.at ?_))
  refine wpAny_bind (wpAny_call (codeAny_mono done fun r s' z => ?_))
  rcases r with e | (v | _ | _ | _) <;> first | exact z | exact z.elim | skip
  obtain ⟨rfl, z⟩ := z
  first
    | exact wpAny_pure (wpAny_pure z)
    | (wp_walk; exact z)
theorem kw_own (F : ExcBaseFacts B newId initId bmB) (hT : ∀ X : String, bm.contains (.type X) = bmB.contains (.type X)) {rest : List Value} {fI : Addr}
    (hC : h.get? C = some (excClassObj nm q C N bs bm hdct sn sub ab col dd k0 k1 k2 k3 k5 newId))
    (hi : W.Looks (model prog w) h (typeLookup (.ref C) "__init__") (some (.ref fI))) (hb : ∀ self, W.Looks (model prog w) h (bindSpecial (.ref fI) self) (.ref fI, [self])) (hrest : rest.length ≤ sizeLine)
    (done : codeAny (model prog w) (A.under (.builtin "type.__call__" ⟨.ref C :: rest, kw⟩)) (.call (.ref fI) ⟨.ref (h.objs.size + 1) :: rest, kw⟩) (W.InitBack (h.objs.size + 1) R)
      ⟨(h.push (W.kdv_tup rest)).push (excO C h.objs.size), g, d, t, os⟩) :
    codeAny (model prog w) A (.call (.ref C) ⟨rest, kw⟩) R ⟨h, g, d, t, os⟩ := by
  have z1 := tc_lookup
  have z2 := tc_bind (.ref C)
  have zT : (⟨h, g, d, t, os⟩ : Shared).TypeIs (.ref C) "type" := ⟨_, hC, rfl⟩
  refine codeAny_of_tree ?_
  show wpAny _ _ (callAny (.ref C) _) _ _ _
  repeat (any_goals (first | assumption | with_reducible refine wpAny_loadPart_at hC ?_ | wp_step))
  refine ⟨rfl, ?_⟩
  refine codeAny_call_builtin_at (Code.quiet_builtin _ (by decide +kernel)) entry_typeCall (kw_chk hC (kw_call F hT hC hi hb hrest ?_))
  refine codeAny_mono done fun r s' z => ?_
  rcases r with e | (v | _ | _ | _) <;> exact z
end
end Dm

set_option Elab.async false
set_option linter.all false
set_option maxRecDepth 100000
set_option maxHeartbeats 4000000
/-! The data machine: exceptions. -/
namespace Dm
open PySem PySem.Spec PyProof.Rows L2

/-! ### classes of exceptions -/
/-- what a class of exceptions of the program says -/
structure XC (K : PySem.W.Frag) (C : Addr) : Prop where
  cl : (PySem.W.clsIn K C).isSome = true
  ga : PySem.W.findIn K (.ref C) "__getattribute__" = some (some (.builtin "BaseException.__getattribute__"))
  gg : PySem.W.findIn K (.ref C) "__getattr__" = some none
  sb : PySem.W.subIn K (.ref C) (.type "BaseException") = some true
  ca : PySem.W.findIn K (.ref C) "__class__" = some (some (.builtin "object.__class__"))
  sp : PySem.W.specialIn K (.builtin "object.__class__") "__get__" = some (some (.builtin "getset_descriptor.__get__"))
  tk : PySem.W.takesIn K (.builtin "object.__class__") = some true
  mr : PySem.W.mroIn K C (.type "object") = some true
  hd : PySem.W.hasDictIn K C = true
  kp : PySem.W.keepIn K (.ref C) = true
  ty : PySem.W.typeIn K (.ref C) = some (.type "type")
def xcB (K : PySem.W.Frag) (C : Addr) : Bool := (PySem.W.clsIn K C).isSome &&
  (He.eqO (PySem.W.findIn K (.ref C) "__getattribute__") (some (some (.builtin "BaseException.__getattribute__"))) && (He.eqO (PySem.W.findIn K (.ref C) "__getattr__") (some none) &&
  (decide (PySem.W.subIn K (.ref C) (.type "BaseException") = some true) && (He.eqO (PySem.W.findIn K (.ref C) "__class__") (some (some (.builtin "object.__class__"))) &&
  (He.eqO (PySem.W.specialIn K (.builtin "object.__class__") "__get__") (some (some (.builtin "getset_descriptor.__get__"))) && (decide (PySem.W.takesIn K (.builtin "object.__class__") = some true) &&
  (decide (PySem.W.mroIn K C (.type "object") = some true) && (PySem.W.hasDictIn K C && (PySem.W.keepIn K (.ref C) && decide (PySem.W.typeIn K (.ref C) = some (.type "type")))))))))))
theorem xcB_ok {K : PySem.W.Frag} {C : Addr} (h : xcB K C = true) : XC K C := by
  obtain ⟨h1, h⟩ := He.ba h
  obtain ⟨h2, h⟩ := He.ba h
  obtain ⟨h3, h⟩ := He.ba h
  obtain ⟨h4, h⟩ := He.ba h
  obtain ⟨h5, h⟩ := He.ba h
  obtain ⟨h6, h⟩ := He.ba h
  obtain ⟨h7, h⟩ := He.ba h
  obtain ⟨h8, h⟩ := He.ba h
  obtain ⟨h9, h⟩ := He.ba h
  obtain ⟨h10, h11⟩ := He.ba h
  exact ⟨h1, He.eqO_ok h2, He.eqO_ok h3, of_decide_eq_true h4, He.eqO_ok h5, He.eqO_ok h6, of_decide_eq_true h7, of_decide_eq_true h8, h9, h10, of_decide_eq_true h11⟩
/-- .. without an __init__ of its own -/
structure XC0 (K : PySem.W.Frag) (C : Addr) : Prop extends XC K C where
  ex : PySem.W.excIn K C He.veBase "ValueError.__new__" = true
def xc0B (K : PySem.W.Frag) (C : Addr) : Bool := xcB K C && PySem.W.excIn K C He.veBase "ValueError.__new__"
theorem xc0B_ok {K : PySem.W.Frag} {C : Addr} (h : xc0B K C = true) : XC0 K C := ⟨xcB_ok (He.ba h).1, (He.ba h).2⟩
/-- .. with one -/
structure XCI (K : PySem.W.Frag) (C fI : Addr) : Prop extends XC K C where
  ox : OexC K C
  iC : PySem.W.findIn K (.ref C) "__init__" = some (some (.ref fI))
  tI : PySem.W.typeIn K (.ref fI) = some (.type "function")
def oexB (K : PySem.W.Frag) (C : Addr) : Bool := match K.lookup C with
  | some ⟨.type ty, _, .cls cd, sl⟩ => decide (ty = "type") && (match cd.mro, sl.toList with
    | .ref C' :: bm, [_, _, _, _, some (.builtin n), _] => decide (C' = C) && (PySem.HandSPX.refsVE bm && (cd.hasDict && (!cd.hasDel && decide (n = "ValueError.__new__"))))
    | _, _ => false)
  | _ => false
def xciB (K : PySem.W.Frag) (C fI : Addr) : Bool := xcB K C && (oexB K C && (He.eqO (PySem.W.findIn K (.ref C) "__setattr__") (some (some (.builtin "object.__setattr__"))) &&
  (He.eqO (PySem.W.findIn K (.ref C) "__init__") (some (some (.ref fI))) && decide (PySem.W.typeIn K (.ref fI) = some (.type "function")))))
theorem oexB_ok {K : PySem.W.Frag} {C : Addr} (h : oexB K C = true) : ∃ nm q N bs bm sn sub ab col dd k0 k1 k2 k3 k5, K.lookup C = some (excClassObj nm q C N bs bm true sn sub ab col dd k0 k1 k2 k3 k5 "ValueError.__new__") ∧ PySem.HandSPX.refsVE bm = true := by
  unfold oexB at h
  split at h
  · rename_i ty dd cd sl ho
    obtain ⟨h0, h⟩ := He.ba h
    split at h
    · rename_i C' bm k0 k1 k2 k3 n k5 hm hs
      obtain ⟨h1, h⟩ := He.ba h
      obtain ⟨h2, h⟩ := He.ba h
      obtain ⟨h3, h⟩ := He.ba h
      obtain ⟨h4, h5⟩ := He.ba h
      obtain rfl := of_decide_eq_true h0
      obtain rfl := of_decide_eq_true h1
      obtain rfl := of_decide_eq_true h5
      obtain ⟨nm, bs, mro, ns, qn, hd, sn, sub, ab, col, del⟩ := cd
      dsimp only at hm h3 h4
      subst hm h3
      have h6 : del = false := by cases del <;> simp_all
      subst h6
      have hsl : sl = #[k0, k1, k2, k3, some (.builtin "ValueError.__new__"), k5] := by
        obtain ⟨l⟩ := sl
        simp only at hs
        rw [hs]
      subst hsl
      exact ⟨nm, qn, ns, bs, bm, sn, sub, ab, col, dd, k0, k1, k2, k3, k5, ho, h2⟩
    · cases h
  · cases h
theorem xciB_ok {K : PySem.W.Frag} {C fI : Addr} (h : xciB K C fI = true) : XCI K C fI := by
  obtain ⟨h1, h⟩ := He.ba h
  obtain ⟨h2, h⟩ := He.ba h
  obtain ⟨h3, h⟩ := He.ba h
  obtain ⟨h4, h5⟩ := He.ba h
  have x := xcB_ok h1
  exact ⟨x, ⟨oexB_ok h2, He.eqO_ok h3, x.sb, x.ty, x.kp⟩, He.eqO_ok h4, of_decide_eq_true h5⟩
/-! ### asked, read -/
section
variable {X : Cx} {te : TE} {e : Expr} {pos : Pos} {n : Str}
theorem inst_none {H : Hp} {s : Shared} {pins : List (Addr × Obj)} {σ : L2.St} {a D : Addr} (I : Inv X pins σ H s) (h : H a = some (ExO (.ref D) a)) : ∃ ox, PySem.W.InstAt s.heap a ox D none := by
  obtain ⟨⟨oe, vs, ho, ⟨h1, h2⟩, hd, _⟩, _, _⟩ := I.hok a _ h
  obtain ⟨oc, od, oda, osl⟩ := oe
  dsimp only at h1 h2 hd
  subst h1 h2 hd
  exact ⟨_, ho, rfl, rfl, trivial⟩
theorem inst_some {H : Hp} {s : Shared} {pins : List (Addr × Obj)} {σ : L2.St} {a D d : Addr} {fs : List (Str × V)} (I : Inv X pins σ H s) (h : H a = some (exo a D (some d))) (h2 : H d = some (exd d fs)) :
    ∃ ox od, PySem.W.InstAt s.heap a ox D (some od) ∧ ∃ mA : Str → Option Value, (∀ f, RelO (fs.lookup f) (mA f)) ∧ ∀ x, PySem.W.lookIn x od = some (mA x) := by
  obtain ⟨t1, ho⟩ := exo_at I.hok h
  obtain ⟨mA, hns, hr⟩ := exd_at I.hok h2
  obtain ⟨od, hod, hl⟩ := lookIn_ns hns
  exact ⟨_, od, ⟨ho, rfl, rfl, hod⟩, mA, hr, hl⟩
/-- isinstance of an exception that the program holds as a value -/
def rIsO (K : PySem.W.Frag) : List V → Hp → VK → Prop := fun xs H Q => ∃ (a D : Addr) (c : V) (cv : Value) (b : Bool), xs = [.ref a, c] ∧ (H a = some (ExO (.ref D) a) ∨ ∃ d fs, H a = some (exo a D (some d)) ∧ H d = some (exd d fs)) ∧ XC K D ∧
  (∀ u, RelV c u → u = cv) ∧ PySem.W.kitOne K (.ref D) cv = some b ∧ Q (.bl b) H
theorem call_isO : CallR X (.builtin "isinstance") (rIsO X.K) := by
  intro pins s σ H xs us Q I r h
  obtain ⟨a, D, c, cv, b, rfl, ho, C, hcv, e, q⟩ := h
  cases r with
  | cons rx rr =>
    cases rr with
    | cons rt rr =>
      cases rr
      cases rx
      have ec := hcv _ rt
      subst ec
      have out : ∀ {ox od}, PySem.W.InstAt s.heap a ox D od → _ := fun {ox od} J => PySem.W.kia_one (Q := EP X pins σ Q) (E := X.xe) (A := X.A) (prog := X.prog) (w := X.w) (PySem.W.kitx_exc (ox := ox) (od := od) C.cl C.ga C.gg C.sb C.ca C.sp C.tk C.mr) I.kIn J e (fun z => nomatch z) fun tk => ⟨.bl b, H, I.kept (t' := tk) fun _ _ z => z, rfl, q⟩
      rcases ho with ho | ⟨d, fs, h1, h2⟩
      · obtain ⟨ox, J⟩ := inst_none I ho
        exact out J
      · obtain ⟨ox, od, J, _⟩ := inst_some I h1 h2
        exact out J
/-- isinstance of the exception that a suite holds -/
def rIsC (K : PySem.W.Frag) (a : Addr) (cls : Value) : List V → Hp → VK → Prop := fun xs H Q => ∃ (D : Addr) (c : V) (cv : Value) (b : Bool), cls = .ref D ∧ xs = [.ref a, c] ∧ XC K D ∧ (∀ u, RelV c u → u = cv) ∧ PySem.W.kitOne K (.ref D) cv = some b ∧ Q (.bl b) H
/-- o.n of such a value -/
def tXo (K : PySem.W.Frag) (n : Str) (te : TE) : TE := fun σ H Q => te σ H fun x H1 => ∃ (a C d : Addr) (fs : List (Str × V)) (v : V), x = .ref a ∧ XC K C ∧ PySem.W.findIn K (.ref C) n = some none ∧ H1 a = some (exo a C (some d)) ∧ H1 d = some (exd d fs) ∧ fs.lookup n = some v ∧ Q v H1
theorem pe_xo (he : PE X e te) (hb : attributeBase e n X.env (eval e X.env) = eval e X.env := by rfl) : PE X (.Attribute e n pos) (tXo X.K n te) := by
  refine ⟨fun pins s σ H Q I h => ?_⟩
  refine attr_of hb (thn (he.run pins s σ H _ I h) fun u s1 hh => ?_)
  obtain ⟨x, H1, I1, rx, a, C, d, fs, v, rfl, xc, hno, h1, h2, l, q⟩ := hh
  obtain rfl : u = Value.ref a := rx
  obtain ⟨ox, od, J, mA, hr, hl⟩ := inst_some I1 h1 h2
  obtain ⟨u, hu, ru⟩ := RelO.some_of (v := v) (o := mA n) (by rw [← l]; exact hr n)
  exact HandSPX.exc_get I1.kIn J xc.ga xc.gg xc.sb (PySem.W.findObj_own xc.hd hno rfl (by rw [hl, hu])) (handed_of ru) ⟨v, H1, I1.tok _, ru, q⟩
end

/-! ### made -/
theorem RoomG.make {k : Nat} {A : Around} (h : RoomG (k + 1) A) (C : Addr) (us : List Value) (kw : List (Str × Value)) : RoomG k (A.under (.builtin "type.__call__" ⟨.ref C :: us, kw⟩)) := ⟨h.r.make C us kw, h.g⟩
/-- what an own __init__ that stores two fields promises -/
def spIni (C : Addr) (f g : Str) : Sp := fun vs H Q _ => ∃ (a : Addr) (x y : V), vs = [.ref a, x, y] ∧ H a = some (exo a C none) ∧ ∀ d, H d = none → d ≠ a → Q .non (upd (upd (upd H d (exd d [(f, x)])) a (exo a C (some d))) d (exd d [(g, y), (f, x)]))
section
variable {X : Cx} {C fI : Addr} {k : Nat} {fd : FuncData} {ps : List Str} {f g : Str}
theorem upd3 {H : Hp} {a d : Addr} {o1 o2 o3 o4 : HO} (n : d ≠ a) : upd (upd (upd (upd H a o1) d o2) a o3) d o4 = upd (upd H d o4) a o3 := by
  funext b
  by_cases h1 : b = d
  · subst h1
    rw [upd_same, upd_ne n, upd_same]
  · by_cases h2 : b = a
    · subst h2
      rw [upd_ne h1, upd_same, upd_same]
    · rw [upd_ne h1, upd_ne h2, upd_ne h1, upd_ne h2, upd_ne h2, upd_ne h1]
/-- C(..) as a value: a new object and its dict -/
theorem run_ini {pins : List (Addr × Obj)} {σ : L2.St} {H : Hp} {s : Shared} {Q : VK} {us bs : List Value} {kw : List (Str × Value)} {x y : V} {CX : CXT} (T : XCI X.K C fI) (F1 : FnOk X.prog X.w X.K X.mg X.base CX k fI fd ps (spIni C f g)) (hr : Room (k + 1) X.A)
    (hx : Passes CX X (fun _ _ _ => False)) (hus : us.length ≤ sizeLine) (hb : ∀ s a, X.K.In s.heap → BindsTo s fd ⟨.ref a :: us, kw⟩ (ps.zip (.ref a :: bs))) (I : Inv X pins σ H s) (r : Vals [x, y] bs)
    (h : ∀ a d, H d = none → H a = none → d ≠ a → Q (.ref a) (upd (upd H d (exd d [(g, y), (f, x)])) a (exo a C (some d)))) : wpAny (model X.prog X.w) X.A (call (.ref C) us kw) (EP X pins σ Q) X.xe s := by
  obtain ⟨nm, q, N, bs', bm, sn, sub, ab, col, dd, k0, k1, k2, k3, k5, hC, hbm⟩ := T.ox.cls
  obtain ⟨hp, g', dr, tk, os⟩ := s
  have hsz : hp.objs.size ≤ hp.objs.size + 1 := Nat.le_succ _
  have hn : H (hp.objs.size + 1) = none := I.hok.fresh hsz
  have kk : ∀ b o, hp.get? b = some o → ((hp.push (PySem.W.kdv_tup us)).push (PySem.HandSPX.excO C hp.objs.size)).get? b = some o := fun b o e => Heap.get?_push_of_some _ (Heap.get?_push_of_some _ e)
  have hget : ((hp.push (PySem.W.kdv_tup us)).push (PySem.HandSPX.excO C hp.objs.size)).get? (hp.objs.size + 1) = some (PySem.HandSPX.excO C hp.objs.size) := by heap_get
  have I2 : Inv X pins σ (upd H (hp.objs.size + 1) (exo (hp.objs.size + 1) C none)) ⟨(hp.push (PySem.W.kdv_tup us)).push (PySem.HandSPX.excO C hp.objs.size), g', dr, tk, os⟩ :=
    I.laid (t' := tk) (a := hp.objs.size + 1) (o := exo (hp.objs.size + 1) C none) (h' := (hp.push (PySem.W.kdv_tup us)).push (PySem.HandSPX.excO C hp.objs.size)) kk hsz (L2.exo_ok hget)
  have r2 : Vals [V.ref (hp.objs.size + 1), x, y] (Value.ref (hp.objs.size + 1) :: bs) := .cons rfl r
  refine wpAny_call (kw_own F.excBase_ValueError (fun Y => PySem.HandSPX.refsVE_contains Y bm hbm) (I.kIn _ _ hC) (PySem.W.looks_findIn I.kIn T.iC) (fun self => PySem.W.bind_fn I.kIn self T.tI) hus
    (codeAny_mono (F1.run _ X.stack _ _ ⟨Value.ref (hp.objs.size + 1) :: us, kw⟩ (Value.ref (hp.objs.size + 1) :: bs) _ (fun v H2 => v = .non ∧ Q (.ref (hp.objs.size + 1)) H2) (fun _ _ _ => False) (hr.make C us kw) (I2.env0.make C us kw) (hb _ _ I2.kIn) r2
      ⟨_, x, y, rfl, upd_same, fun d hd nd => ⟨rfl, ?_⟩⟩) fun r s' hq' => ?_))
  · rw [upd3 nd]
    rw [upd_ne nd] at hd
    exact h _ _ hd hn nd
  cases r with
  | error er => exact hx pins σ _ _ er s' I2 hq'
  | ok fl =>
    cases fl with
    | ret u =>
      obtain ⟨v, H', I3, rv, ⟨ev, q3⟩⟩ := I2.after hq'
      subst ev
      exact ⟨rv, V.ref (hp.objs.size + 1), H', I3, rfl, q3⟩
    | next => exact False.elim hq'
    | brk => exact False.elim hq'
    | cont => exact False.elim hq'
end
/-! ### raised -/
theorem XC.rs {X : Cx} {C : Addr} (x : XC X.K C) : Raises X (.ref C) := raises_own x.sb x.ty
section
variable {X : Cx} {C fI : Addr} {k : Nat} {fd : FuncData} {ps : List Str} {f g x : Str} {e : Expr} {es : List Expr} {t : TA} {p pos : Pos}
/-- X(e, ..) to be raised, no __init__ of its own -/
theorem pmk_x0 (T : XC0 X.K C) (gC : X.mg x = some (.ref C)) (hg : Gl X x) (ha : PA X (e :: es) t) (hdb : (x == ("__debug__" : Str)) = false := by decide)
    (he : starEach (e :: es) X.env = (false, eval e X.env) :: starEach es X.env := by rfl) (hpl : (backTo pos (starEach es X.env)).any (·.1) = false := by rfl) :
    L2N.PMk X (.Call (.Name x p) (e :: es) [] pos) (fun σ H Q => t σ H fun vs H1 => vs.length ≤ sizeLine ∧ Q (.ref C) none H1) := by
  intro pins s σ H Q I h
  refine wpAny_Call_Name_kw (ld_glob I hg gC ?_ hdb)
  refine PySem.W.callWith_K (h₀ := X.base) I.ok.mod.kin T.kp (thn (ha.run pos pins s σ H _ I h) fun us s1 ⟨vs, H1, I1, r1, hz, q1⟩ => ⟨I1.kIn, ?_⟩) he hpl
  show wpAny _ _ (call (.ref C) us) _ _ _
  obtain ⟨bm, N, nm, qn, bs, hdct, sn, sub, ab, col, dd, k0, k1, k2, k3, k5, mN, hC, hN, hni, tl⟩ := exc_obj I1.kIn T.ex
  refine wpAny_call_exc_subT F.excBase_ValueError tl hC hN hni (fun h' a hm => ?_) (by rw [← r1.length]; exact hz)
  exact L2N.mk_of I1 hm T.rs q1 (I1.hok.gone hm.new)
/-- X(e, ..) as a value -/
theorem pe_x0 (T : XC0 X.K C) (gC : X.mg x = some (.ref C)) (hg : Gl X x) (ha : PA X (e :: es) t) (hdb : (x == ("__debug__" : Str)) = false := by decide)
    (he : starEach (e :: es) X.env = (false, eval e X.env) :: starEach es X.env := by rfl) (hpl : (backTo pos (starEach es X.env)).any (·.1) = false := by rfl) :
    PE X (.Call (.Name x p) (e :: es) [] pos) (fun σ H Q => t σ H fun vs H1 => vs.length ≤ sizeLine ∧ ∀ a, H1 a = none → Q (.ref a) (upd H1 a (ExO (.ref C) a))) := by
  refine ⟨fun pins s σ H Q I h => ?_⟩
  refine wpAny_Call_Name_kw (ld_glob I hg gC ?_ hdb)
  refine PySem.W.callWith_K (h₀ := X.base) I.ok.mod.kin T.kp (thn (ha.run pos pins s σ H _ I h) fun us s1 ⟨vs, H1, I1, r1, hz, q1⟩ => ⟨I1.kIn, ?_⟩) he hpl
  show wpAny _ _ (call (.ref C) us) _ _ _
  obtain ⟨bm, N, nm, qn, bs, hdct, sn, sub, ab, col, dd, k0, k1, k2, k3, k5, mN, hC, hN, hni, tl⟩ := exc_obj I1.kIn T.ex
  refine wpAny_call_exc_subT F.excBase_ValueError tl hC hN hni (fun h' a hm => ?_) (by rw [← r1.length]; exact hz)
  have hn : H1 a = none := I1.hok.gone hm.new
  obtain ⟨tt, ht, _, _⟩ := hm.there
  exact ⟨.ref a, upd H1 a (ExO (.ref C) a), I1.laidN hm.keeps hm.new hn (L2.exO_ok ht ⟨rfl, rfl⟩ rfl rfl rfl (show 4 < 6 by decide)), rfl, q1 a hn⟩
/-- C(x, y) with its own __init__, as a value -/
theorem pe_xi {CX : CXT} (T : XCI X.K C fI) (F1 : FnOk X.prog X.w X.K X.mg X.base CX k fI fd ps (spIni C f g)) (hr : Room (k + 1) X.A) (hx : Passes CX X (fun _ _ _ => False)) (hb : Binds X.K fd ps []) (hl : ps.length = 3)
    (gC : X.mg x = some (.ref C)) (hg : Gl X x) (ha : PA X (e :: es) t) (hdb : (x == ("__debug__" : Str)) = false := by decide)
    (he : starEach (e :: es) X.env = (false, eval e X.env) :: starEach es X.env := by rfl) (hpl : (backTo pos (starEach es X.env)).any (·.1) = false := by rfl) :
    PE X (.Call (.Name x p) (e :: es) [] pos) (fun σ H Q => t σ H fun vs H1 => ∃ y z, vs = [y, z] ∧ ∀ a d, H1 d = none → H1 a = none → d ≠ a → Q (.ref a) (upd (upd H1 d (exd d [(g, z), (f, y)])) a (exo a C (some d)))) := by
  refine ⟨fun pins s σ H Q I h => ?_⟩
  refine wpAny_Call_Name_kw (ld_glob I hg gC ?_ hdb)
  refine PySem.W.callWith_K (h₀ := X.base) I.ok.mod.kin T.kp (thn (ha.run pos pins s σ H _ I h) fun us s1 ⟨vs, H1, I1, r1, y, z, ev, q1⟩ => ⟨I1.kIn, ?_⟩) he hpl
  subst ev
  have hus : us.length = 2 := r1.length.symm
  refine run_ini T F1 hr hx (by show us.length ≤ _; rw [hus, sizeLine_eq]; omega) (fun s a KX => ?_) I1 r1 q1
  have b2 := hb s (.ref a :: us) KX (by rw [List.append_nil, List.length_cons, hus, hl])
  rw [List.append_nil] at b2
  exact b2
/-- .. by keywords alone -/
theorem pe_xik {CX : CXT} {kws : List Keyword} {ks : List Str} {gV : List V → List V → List V} {gU : List Value → List Value → List Value} {tlV : List V → List V} {tlU : List Value → List Value} (T : XCI X.K C fI) (F1 : FnOk X.prog X.w X.K X.mg X.base CX k fI fd ps (spIni C f g)) (hr : Room (k + 1) X.A)
    (hx : Passes CX X (fun _ _ _ => False)) (hl : ps.length = 3) (hb : KBinds X.K fd ps ks gU gV) (gC : X.mg x = some (.ref C)) (hg : Gl X x) (hkw : PK X kws t) (hgu : ∀ a ws, gU [a] ws = a :: tlU ws) (hgv : ∀ a ws, gV [a] ws = a :: tlV ws)
    (hall : (backToKw pos (keywordEach kws X.env)).all (·.1.isSome) = true := by rfl) (hks : (backToKw pos (keywordEach kws X.env)).filterMap (·.1) = ks := by rfl) (hdb : (x == ("__debug__" : Str)) = false := by decide)
    (hpl : ((backTo pos (starEach [] X.env)).any (·.1) || (backToKw pos (keywordEach kws X.env)).any (·.1.isNone)) = false := by rfl) :
    PE X (.Call (.Name x p) [] kws pos) (fun σ H Q => t σ H fun vs H1 => ∃ y z, tlV vs = [y, z] ∧ ∀ a d, H1 d = none → H1 a = none → d ≠ a → Q (.ref a) (upd (upd H1 d (exd d [(g, z), (f, y)])) a (exo a C (some d)))) := by
  refine ⟨fun pins s σ H Q I h => ?_⟩
  refine wpAny_Call_Name_kw (ld_glob I hg gC ?_ hdb)
  refine PySem.W.callWith_KW0 (h₀ := X.base) I.ok.mod.kin T.kp hall (thn (hkw.run pos pins s σ H _ I h) fun ws s1 ⟨vs, H1, I1, r1, y, z, ev, q1⟩ => ⟨I1.kIn, ?_⟩) hpl
  rw [hks]
  have rr : Vals [y, z] (tlU ws) := by
    have q := hb.rel (vs := [.non]) (us := [.none]) (.cons rfl .nil) r1
    rw [hgu, hgv, ev] at q
    cases q with
    | cons _ q => exact q
  refine run_ini T F1 hr hx (by show 0 ≤ _; exact Nat.zero_le _) (fun s a KX => ?_) I1 rr q1
  have b2 := hb.to s [.ref a] ws KX (by rw [hgu, List.length_cons, hl, ← rr.length]; rfl)
  rw [hgu] at b2
  exact b2
/-- C(x, y) to be raised -/
theorem pmk_xi {CX : CXT} (T : XCI X.K C fI) (F1 : FnOk X.prog X.w X.K X.mg X.base CX k fI fd ps (spIni C f g)) (hr : Room (k + 1) X.A) (hx : Passes CX X (fun _ _ _ => False)) (hb : Binds X.K fd ps []) (hl3 : ps.length = 3)
    (gC : X.mg x = some (.ref C)) (hg : Gl X x) (ha : PA X (e :: es) t) (hdb : (x == ("__debug__" : Str)) = false := by decide)
    (he : starEach (e :: es) X.env = (false, eval e X.env) :: starEach es X.env := by rfl) (hpl : (backTo pos (starEach es X.env)).any (·.1) = false := by rfl) :
    L2N.PMk X (.Call (.Name x p) (e :: es) [] pos) (fun σ H Q => t σ H fun vs H1 => ∃ y z, vs = [y, z] ∧ ∀ d, H1 d = none → Q (.ref C) (some d) (upd H1 d (.xd [(g, z), (f, y)]))) := by
  intro pins s σ H Q I h
  obtain ⟨nm, q, N, bs', bm, sn, sub, ab, col, dd, k0, k1, k2, k3, k5, hC, hbm⟩ := T.ox.cls
  refine wpAny_Call_Name_kw (ld_glob I hg gC ?_ hdb)
  refine PySem.W.callWith_K (h₀ := X.base) I.ok.mod.kin T.kp (thn (ha.run pos pins s σ H _ I h) fun us s1 ⟨vs, H1, I1, r1, y, z, ev, q1⟩ => ⟨I1.kIn, ?_⟩) he hpl
  subst ev
  have hus : us.length = 2 := r1.length.symm
  show wpAny _ _ (call (.ref C) us) _ _ _
  obtain ⟨hp, g', dr, tk, os⟩ := s1
  have hsz : hp.objs.size ≤ hp.objs.size + 1 := Nat.le_succ _
  have hn : H1 (hp.objs.size + 1) = none := I1.hok.fresh hsz
  have kk : ∀ b o, hp.get? b = some o → ((hp.push (PySem.W.kdv_tup us)).push (PySem.HandSPX.excO C hp.objs.size)).get? b = some o := fun b o e => Heap.get?_push_of_some _ (Heap.get?_push_of_some _ e)
  have hget : ((hp.push (PySem.W.kdv_tup us)).push (PySem.HandSPX.excO C hp.objs.size)).get? (hp.objs.size + 1) = some (PySem.HandSPX.excO C hp.objs.size) := by heap_get
  have I2 : Inv X pins σ (upd H1 (hp.objs.size + 1) (exo (hp.objs.size + 1) C none)) ⟨(hp.push (PySem.W.kdv_tup us)).push (PySem.HandSPX.excO C hp.objs.size), g', dr, tk, os⟩ :=
    I1.laid (t' := tk) (a := hp.objs.size + 1) (o := exo (hp.objs.size + 1) C none) (h' := (hp.push (PySem.W.kdv_tup us)).push (PySem.HandSPX.excO C hp.objs.size)) kk hsz (L2.exo_ok hget)
  have r2 : Vals [V.ref (hp.objs.size + 1), y, z] (Value.ref (hp.objs.size + 1) :: us) := .cons rfl r1
  have b2 := hb ⟨(hp.push (PySem.W.kdv_tup us)).push (PySem.HandSPX.excO C hp.objs.size), g', dr, tk, os⟩ (.ref (hp.objs.size + 1) :: us) I2.kIn (by rw [List.append_nil, List.length_cons, hus, hl3])
  rw [List.append_nil] at b2
  refine wpAny_call (kw_own F.excBase_ValueError (fun Y => PySem.HandSPX.refsVE_contains Y bm hbm) (I1.kIn _ _ hC) (PySem.W.looks_findIn I1.kIn T.iC) (fun self => PySem.W.bind_fn I1.kIn self T.tI) (by rw [hus, sizeLine_eq]; omega)
    (codeAny_mono (F1.run _ X.stack _ _ ⟨Value.ref (hp.objs.size + 1) :: us, []⟩ (Value.ref (hp.objs.size + 1) :: us) _
      (fun v H2 => v = .non ∧ ∃ d, H1 d = none ∧ d ≠ hp.objs.size + 1 ∧ H2 = upd (upd H1 d (exd d [(g, z), (f, y)])) (hp.objs.size + 1) (exo (hp.objs.size + 1) C (some d))) (fun _ _ _ => False) (hr.make C us []) (I2.env0.make C us []) b2 r2
      ⟨_, y, z, rfl, upd_same, fun d hd nd => ⟨rfl, d, by rw [upd_ne nd] at hd; exact hd, nd, upd3 nd⟩⟩) fun r s' hq' => ?_))
  cases r with
  | error er => exact hx pins σ _ _ er s' I2 hq'
  | ok fl =>
    cases fl with
    | ret u =>
      obtain ⟨v, H2, os2, bare2, un2, hok2, rv, ev, d, hd1, nd, eH⟩ := hq'
      subst ev
      obtain ⟨h2, g2, d2, t2, os'⟩ := s'
      have ea : H2 (hp.objs.size + 1) = some (exo (hp.objs.size + 1) C (some d)) := by rw [eH, upd_same]
      have ed : H2 d = some (exd d [(g, z), (f, y)]) := by rw [eH, upd_ne nd, upd_same]
      obtain ⟨t0, G, J, kG, ge, hoe, na⟩ := mk_end0 (d2 := d2) (t2 := t2) I1 hsz kk un2 hok2 os2 bare2 ea ed hd1
      have eq : upd (del H2 (hp.objs.size + 1)) d (.xd [(g, z), (f, y)]) = upd H1 d (.xd [(g, z), (f, y)]) := by
        funext b
        by_cases h1 : b = d
        · rw [h1, upd_same, upd_same]
        · rw [upd_ne h1, upd_ne h1]
          by_cases h2 : b = hp.objs.size + 1
          · rw [h2, del_same, hn]
          · rw [del_ne h2, eH, upd_ne h2, upd_ne h1]
      rw [eq] at J na
      refine ⟨rv, hp.objs.size + 1, _, _, ⟨G, g2, d2, t2, os'⟩, _, .ref C, some d, rfl, J, kG, ge, hoe, ⟨rfl, rfl, fun vs hv => ?_⟩, rfl, rfl, na, rfl, bare2, T.rs, q1 d hd1⟩
      cases hv
      rfl
    | next => exact False.elim hq'
    | brk => exact False.elim hq'
    | cont => exact False.elim hq'
end
/-! ### over the data: values -/
section
variable {K : PySem.W.Frag} {F F' H H' : Hp} {θ θ' : List Addr} {O : Sto}
theorem lookC {α : Type} (f g : Str) (y : α) (fs : List (Str × α)) : ((f, y) :: fs).lookup g = if g = f then some y else fs.lookup g := by
  by_cases h : g = f
  · subst h
    simp [List.lookup]
  · have e : (g == f) = false := by simpa using h
    simp [List.lookup, h, e]
theorem FsR.look {vs : List (Str × V)} {fs : List (Str × W)} (h : FsR K F θ vs fs) {n : Str} {w : W} (e : fs.lookup n = some w) : ∃ v, vs.lookup n = some v ∧ RW K F θ v w := by
  induction h with
  | nil => cases e
  | @cons p q vs fs r _ ih =>
    obtain ⟨n1, v1⟩ := p
    obtain ⟨n2, w2⟩ := q
    obtain ⟨en, r⟩ := r
    dsimp only at en r
    subst en
    rw [lookC] at e ⊢
    by_cases h : n = n1
    · rw [if_pos h] at e ⊢
      cases e
      exact ⟨v1, rfl, r⟩
    · rw [if_neg h] at e ⊢
      exact ih e
theorem Jn.newX0 (j : Jn K F H θ O) {p C : Addr} (h : H p = none) : Jn K F (L2.upd H p (ExO (.ref C) p)) (θ ++ [p]) (O ++ [.exc C]) := j.newC h ⟨j.freeF h, upd_same⟩
theorem Jn.newXd (j : Jn K F H θ O) {p : Addr} {vs : List (Str × V)} {fs : List (Str × W)} (h : H p = none) (r : FsR K F θ vs fs) : Jn K F (L2.upd H p (.xd vs)) (θ ++ [p]) (O ++ [.xd fs]) := j.newC h ⟨j.freeF h, vs, upd_same, r.mono Gr.push⟩
theorem Jn.newXi (j : Jn K F H θ O) {a d C : Addr} {vs : List (Str × V)} {fs : List (Str × W)} (ha : H a = none) (hd : H d = none) (n : d ≠ a) (r : FsR K F θ vs fs) :
    Jn K F (L2.upd (L2.upd H d (exd d vs)) a (exo a C (some d))) (θ ++ [d] ++ [a]) (O ++ [.exf fs] ++ [.exr C O.length]) := by
  have j1 : Jn K F (L2.upd H d (exd d vs)) (θ ++ [d]) (O ++ [.exf fs]) := j.newC hd ⟨j.freeF hd, vs, upd_same, r.mono Gr.push⟩
  refine j1.newC (by rw [upd_ne (Ne.symm n)]; exact ha) ⟨j1.freeF (by rw [upd_ne (Ne.symm n)]; exact ha), d, ?_, upd_same⟩
  rw [← j.len]
  simp
end
def clsV : W → Option Value
  | .ref a => some (.ref a)
  | .ty n => some (.type n)
  | _ => none
theorem clsV_ok {K : PySem.W.Frag} {F : Hp} {θ : List Addr} {v : V} {w : W} {cv : Value} (r : RW K F θ v w) (h : clsV w = some cv) : ∀ u, RelV v u → u = cv := by
  cases w <;> (first | (exfalso; revert h; simp [clsV]; done) | skip)
  · cases r
    cases h
    exact fun u e => e
  · cases r
    cases h
    exact fun u e => e
/-- an exception that the program holds: its class -/
def XcAt (O : Sto) (k : Nat) (D : Addr) : Prop := O[k]? = some (.exc D) ∨ ∃ j fs, O[k]? = some (.exr D j) ∧ O[j]? = some (.exf fs)
theorem XcAt.ok {K : PySem.W.Frag} {F H : Hp} {θ : List Addr} {O : Sto} {k : Nat} {D a : Addr} (h : XcAt O k D) (j : Jn K F H θ O) (ha : θ[k]? = some a) : H a = some (ExO (.ref D) a) ∨ ∃ d fs, H a = some (exo a D (some d)) ∧ H d = some (exd d fs) := by
  rcases h with h | ⟨i, fs, h1, h2⟩
  · exact .inl (show F a = none ∧ H a = some (ExO (.ref D) a) from j.ok k a _ ha h).2
  · obtain ⟨_, d, hd, e⟩ := (show F a = none ∧ ∃ d, θ[i]? = some d ∧ H a = some (exo a D (some d)) from j.ok k a _ ha h1)
    obtain ⟨_, vs, e2, _⟩ := (show F d = none ∧ ∃ vs, H d = some (exd d vs) ∧ FsR K F θ vs fs from j.ok i d _ hd h2)
    exact .inr ⟨d, vs, e, e2⟩
def rdIsO (K : PySem.W.Frag) : RCD := fun ws O S => ∃ k D c cv b, ws = [.cell k, c] ∧ XcAt O k D ∧ XC K D ∧ clsV c = some cv ∧ PySem.W.kitOne K (.ref D) cv = some b ∧ S (.bl b) O
theorem src_isO {K : PySem.W.Frag} : SRC K (rIsO K) (rdIsO K) := by
  intro F H θ O vs ws S j r q Q k
  obtain ⟨i, D, c, cv, b, rfl, hx, xc, hc, e, q⟩ := q
  obtain ⟨v, u, rfl, rv, ru⟩ := r.two_inv
  obtain ⟨a, rfl, ha⟩ := rv.cell_inv
  exact ⟨a, D, u, cv, b, rfl, hx.ok j ha, xc, clsV_ok ru hc, e, k _ _ F H θ O Gr.refl j (.bl b) q⟩
/-- of the exception that a suite holds -/
def rdIsC (K : PySem.W.Frag) (a : Addr) (cls : Value) (d : Option Addr) : RCD := fun ws O S => ∃ D dk c cv b, cls = .ref D ∧ ws = [.xr a d dk, c] ∧ (dk = none ∨ ∃ j fs, dk = some j ∧ O[j]? = some (.xd fs)) ∧ XC K D ∧ clsV c = some cv ∧ PySem.W.kitOne K (.ref D) cv = some b ∧ S (.bl b) O
def rIsD (K : PySem.W.Frag) (a : Addr) (cls : Value) (d : Option Addr) : List V → Hp → VK → Prop := fun xs H Q => ∃ (D : Addr) (c : V) (cv : Value) (b : Bool), cls = .ref D ∧ xs = [.ref a, c] ∧ (d = none ∨ ∃ dd fs, d = some dd ∧ H dd = some (.xd fs)) ∧ XC K D ∧ (∀ u, RelV c u → u = cv) ∧ PySem.W.kitOne K (.ref D) cv = some b ∧ Q (.bl b) H
theorem call_isD {X : Cx} {a : Addr} {cls : Value} {d : Option Addr} {oe : Obj} {pn : List (Addr × Obj)} (hz : Zc cls d oe) (hf : ∃ vs, oe.data = .fields vs) : CallR (X.suite a ((a, oe) :: pn)) (.builtin "isinstance") (rIsD X.K a cls d) := by
  intro pins s σ H xs us Q I r h
  obtain ⟨D, c, cv, b, rfl, rfl, ho, C, hcv, e, q⟩ := h
  cases r with
  | cons rx rr =>
    cases rr with
    | cons rt rr =>
      cases rr
      cases rx
      have ec := hcv _ rt
      subst ec
      obtain ⟨hget, _⟩ := I.pin (a, oe) (List.mem_append.mpr (.inl List.mem_cons_self))
      obtain ⟨vs, hv⟩ := hf
      obtain ⟨oc, od, oda, osl⟩ := oe
      obtain ⟨h1, h2⟩ := hz
      dsimp only at h1 h2 hv
      subst h1 h2 hv
      have J : ∃ ox od', PySem.W.InstAt s.heap a ox D od' := by
        rcases ho with rfl | ⟨dd, fs, rfl, h3⟩
        · exact ⟨_, none, hget, rfl, rfl, trivial⟩
        · obtain ⟨mA, hns, hr⟩ := (show ∃ mA, s.heap.Ns1 dd mA ∧ ∀ f, RelO (fs.lookup f) (mA f) from I.hok dd _ h3)
          obtain ⟨od', hod, _⟩ := lookIn_ns hns
          exact ⟨_, some od', hget, rfl, rfl, hod⟩
      obtain ⟨ox, od', J⟩ := J
      exact PySem.W.kia_one (PySem.W.kitx_exc (ox := ox) (od := od') C.cl C.ga C.gg C.sb C.ca C.sp C.tk C.mr) I.kIn J e (fun z => nomatch z) fun tk => ⟨.bl b, H, I.kept (t' := tk) fun _ _ z => z, rfl, q⟩
theorem src_isD {K : PySem.W.Frag} {a : Addr} {cls : Value} {d : Option Addr} : SRC K (rIsD K a cls d) (rdIsC K a cls d) := by
  intro F H θ O vs ws S j r q Q k
  obtain ⟨D, dk, c, cv, b, hcl, rfl, hx, xc, hc, e, q⟩ := q
  obtain ⟨v, u, rfl, rv, ru⟩ := r.two_inv
  cases rv with
  | xr hd =>
    refine ⟨D, u, cv, b, hcl, rfl, ?_, xc, clsV_ok ru hc, e, k _ _ F H θ O Gr.refl j (.bl b) q⟩
    rcases hx with rfl | ⟨i, fs, rfl, hx⟩
    · cases d with
      | none => exact .inl rfl
      | some z => exact hd.elim
    · cases d with
      | none => exact hd.elim
      | some z =>
        obtain ⟨_, vs, e2, _⟩ := (show F z = none ∧ ∃ vs, H z = some (.xd vs) ∧ FsR K F θ vs fs from j.ok i z _ hd hx)
        exact .inr ⟨z, vs, rfl, e2⟩
/-- o.n of an exception that the program holds -/
def dXo (K : PySem.W.Frag) (n : Str) (we : DE) : DE := fun δ O S => we δ O fun w O1 => ∃ k j C fs v, w = .cell k ∧ O1[k]? = some (.exr C j) ∧ O1[j]? = some (.exf fs) ∧ XC K C ∧ PySem.W.findIn K (.ref C) n = some none ∧ fs.lookup n = some v ∧ S v O1
/-- .. of the one that a suite holds -/
def dXf (K : PySem.W.Frag) (a : Addr) (cls : Value) (d : Option Addr) (C : Addr) (n : Str) (we : DE) : DE := fun δ O S => we δ O fun w O1 => ∃ j fs v, w = .xr a d (some j) ∧ cls = .ref C ∧ O1[j]? = some (.xd fs) ∧ fs.lookup n = some v ∧ S v O1
section
variable {X : Cx} {e : Expr} {es : List Expr} {we : DE} {wa : DA} {n x f g : Str} {p pos : Pos} {C fI : Addr} {k : Nat} {fd : FuncData} {ps : List Str}
theorem ed_xo (h : ED X e we) (hb : attributeBase e n X.env (eval e X.env) = eval e X.env := by rfl) : ED X (.Attribute e n pos) (dXo X.K n we) := by
  obtain ⟨t, p, s⟩ := h.ex
  refine ⟨_, pe_xo p hb, fun F H θ O σ δ S j s' q Q kk => ?_⟩
  refine s F H θ O σ δ _ j s' q _ fun v w F1 H1 θ1 O1 g1 j1 r1 q1 => ?_
  obtain ⟨k, i, C, fs, z, rfl, h1, h2, xc, hno, hl, q1⟩ := q1
  obtain ⟨a, rfl, ha⟩ := r1.cell_inv
  obtain ⟨_, d, hd, ea⟩ := (show F1 a = none ∧ ∃ d, θ1[i]? = some d ∧ H1 a = some (exo a C (some d)) from j1.ok k a _ ha h1)
  obtain ⟨_, vs, ed, fr⟩ := (show F1 d = none ∧ ∃ vs, H1 d = some (exd d vs) ∧ FsR X.K F1 θ1 vs fs from j1.ok i d _ hd h2)
  obtain ⟨y, hy, ry⟩ := fr.look hl
  exact ⟨a, C, d, vs, y, rfl, xc, hno, ea, ed, hy, kk _ _ F1 H1 θ1 O1 g1 j1 ry q1⟩
theorem ed_xf {a : Addr} {cls : Value} {d : Option Addr} {oe : Obj} {pn : List (Addr × Obj)} (T : XC X.K C) (hno : PySem.W.findIn X.K (.ref C) n = some none) (hz : Zc cls d oe) (hf : ∃ vs, oe.data = .fields vs)
    (h : ED (X.suite a ((a, oe) :: pn)) e we) (hb : attributeBase e n X.env (eval e X.env) = eval e X.env := by rfl) : ED (X.suite a ((a, oe) :: pn)) (.Attribute e n pos) (dXf X.K a cls d C n we) := by
  obtain ⟨t, p, s⟩ := h.ex
  refine ⟨_, pe_xf ⟨T.ga, T.gg, T.sb, T.hd⟩ hno hz hf p hb, fun F H θ O σ δ S j s' q Q kk => ?_⟩
  refine s F H θ O σ δ _ j s' q _ fun v w F1 H1 θ1 O1 g1 j1 r1 q1 => ?_
  obtain ⟨i, fs, z, rfl, hc, h1, hl, q1⟩ := q1
  cases r1 with
  | xr hd =>
    cases d with
    | none => exact hd.elim
    | some dd =>
      obtain ⟨_, vs, e2, fr⟩ := (show F1 dd = none ∧ ∃ vs, H1 dd = some (.xd vs) ∧ FsR X.K F1 θ1 vs fs from j1.ok i dd _ hd h1)
      obtain ⟨y, hy, ry⟩ := fr.look hl
      exact ⟨rfl, hc, dd, vs, y, rfl, e2, hy, kk _ _ F1 H1 θ1 O1 g1 j1 ry q1⟩
def dX0 (C : Addr) (wa : DA) : DE := fun δ O S => wa δ O fun ws O1 => ws.length ≤ sizeLine ∧ S (.cell O1.length) (O1 ++ [.exc C])
theorem ed_x0 (T : XC0 X.K C) (gC : X.mg x = some (.ref C)) (hg : Gl X x) (ha : EDA X (e :: es) wa) (hdb : (x == ("__debug__" : Str)) = false := by decide)
    (he : starEach (e :: es) X.env = (false, eval e X.env) :: starEach es X.env := by rfl) (hpl : (backTo pos (starEach es X.env)).any (·.1) = false := by rfl) : ED X (.Call (.Name x p) (e :: es) [] pos) (dX0 C wa) := by
  obtain ⟨t, p, s⟩ := ha.ex
  refine ⟨_, pe_x0 T gC hg p hdb he hpl, fun F H θ O σ δ S j s' q Q kk => ?_⟩
  refine s F H θ O σ δ _ j s' q _ fun vs ws F1 H1 θ1 O1 g1 j1 r1 q1 => ⟨by rw [r1.length]; exact q1.1, fun a ha => ?_⟩
  exact kk _ _ _ _ _ _ (g1.trans Gr.push) (j1.newX0 ha) (.cell (by rw [← j1.len]; simp)) q1.2
def dXi (C : Addr) (f g : Str) (wa : DA) : DE := fun δ O S => wa δ O fun ws O1 => ∃ y z, ws = [y, z] ∧ S (.cell (O1.length + 1)) (O1 ++ [.exf [(g, z), (f, y)]] ++ [.exr C O1.length])
theorem fsR2 {K : PySem.W.Frag} {F : Hp} {θ : List Addr} {y z : V} {yw zw : W} (ry : RW K F θ y yw) (rz : RW K F θ z zw) : FsR K F θ [(g, z), (f, y)] [(g, zw), (f, yw)] := .cons ⟨rfl, rz⟩ (.cons ⟨rfl, ry⟩ .nil)
theorem ed_xi {CX : CXT} (T : XCI X.K C fI) (F1 : FnOk X.prog X.w X.K X.mg X.base CX k fI fd ps (spIni C f g)) (hr : Room (k + 1) X.A) (hx : Passes CX X (fun _ _ _ => False)) (hb : Binds X.K fd ps []) (hl : ps.length = 3)
    (gC : X.mg x = some (.ref C)) (hg : Gl X x) (ha : EDA X (e :: es) wa) (hdb : (x == ("__debug__" : Str)) = false := by decide)
    (he : starEach (e :: es) X.env = (false, eval e X.env) :: starEach es X.env := by rfl) (hpl : (backTo pos (starEach es X.env)).any (·.1) = false := by rfl) : ED X (.Call (.Name x p) (e :: es) [] pos) (dXi C f g wa) := by
  obtain ⟨t, p, s⟩ := ha.ex
  refine ⟨_, pe_xi T F1 hr hx hb hl gC hg p hdb he hpl, fun F H θ O σ δ S j s' q Q kk => ?_⟩
  refine s F H θ O σ δ _ j s' q _ fun vs ws F1 H1 θ1 O1 g1 j1 r1 q1 => ?_
  obtain ⟨y, z, rfl, q1⟩ := q1
  obtain ⟨yv, zv, rfl, ry, rz⟩ := r1.two_inv
  refine ⟨yv, zv, rfl, fun a d hd ha n => ?_⟩
  refine kk _ _ _ _ _ _ ((g1.trans Gr.push).trans Gr.push) (j1.newXi ha hd n (fsR2 ry rz)) (.cell ?_) q1
  rw [← j1.len]
  simp
def dXik (C : Addr) (f g : Str) (tl : List W → List W) (wa : DA) : DE := fun δ O S => wa δ O fun ws O1 => ∃ y z, tl ws = [y, z] ∧ S (.cell (O1.length + 1)) (O1 ++ [.exf [(g, z), (f, y)]] ++ [.exr C O1.length])
theorem ed_xik {CX : CXT} {kws : List Keyword} {ks : List Str} {gV : List V → List V → List V} {gU : List Value → List Value → List Value} {tlV : List V → List V} {tlU : List Value → List Value} {tlW : List W → List W} (T : XCI X.K C fI) (F1 : FnOk X.prog X.w X.K X.mg X.base CX k fI fd ps (spIni C f g)) (hr : Room (k + 1) X.A)
    (hx : Passes CX X (fun _ _ _ => False)) (hl : ps.length = 3) (hb : KBinds X.K fd ps ks gU gV) (gC : X.mg x = some (.ref C)) (hg : Gl X x) (hkw : EDK X kws wa) (hgu : ∀ a ws, gU [a] ws = a :: tlU ws) (hgv : ∀ a ws, gV [a] ws = a :: tlV ws)
    (htl : ∀ F θ vs ws y z, RWs X.K F θ vs ws → tlW ws = [y, z] → ∃ yv zv, tlV vs = [yv, zv] ∧ RW X.K F θ yv y ∧ RW X.K F θ zv z)
    (hall : (backToKw pos (keywordEach kws X.env)).all (·.1.isSome) = true := by rfl) (hks : (backToKw pos (keywordEach kws X.env)).filterMap (·.1) = ks := by rfl) (hdb : (x == ("__debug__" : Str)) = false := by decide)
    (hpl : ((backTo pos (starEach [] X.env)).any (·.1) || (backToKw pos (keywordEach kws X.env)).any (·.1.isNone)) = false := by rfl) :
    ED X (.Call (.Name x p) [] kws pos) (dXik C f g tlW wa) := by
  obtain ⟨t, p, s⟩ := hkw.ex
  refine ⟨_, pe_xik T F1 hr hx hl hb gC hg p hgu hgv hall hks hdb hpl, fun F H θ O σ δ S j s' q Q kk => ?_⟩
  refine s F H θ O σ δ _ j s' q _ fun vs ws F1 H1 θ1 O1 g1 j1 r1 q1 => ?_
  obtain ⟨y, z, ht, q1⟩ := q1
  obtain ⟨yv, zv, e, ry, rz⟩ := htl _ _ _ _ _ _ r1 ht
  refine ⟨yv, zv, e, fun a d hd ha n => ?_⟩
  refine kk _ _ _ _ _ _ ((g1.trans Gr.push).trans Gr.push) (j1.newXi ha hd n (fsR2 ry rz)) (.cell ?_) q1
  rw [← j1.len]
  simp
theorem ed_gref (hg : Gl X x) (hm : X.mg x = some (.ref C)) (hd : (x == ("__debug__" : Str)) = false := by decide) : ED X (.Name x pos) (dC (.ref C)) := ⟨_, pe_glob (v := .ref C) hg hm rfl hd, SE.pure fun _ _ => .ref C⟩
end

/-! ### over the data: statements that may raise -/
structure DEndsX extends DEnds where
  ex : Value → Option Nat → DS → Sto → Prop := fun _ _ _ _ => False
abbrev DTX := DEndsX → DS → Sto → Prop
structure LkX (K : PySem.W.Frag) (F : Hp) (θ : List Addr) (D : DEndsX) (D' : Ends) (W : WX) : Prop extends Lk K F θ D.toDEnds D' where
  ex : ∀ F' H' θ' O' σ δ cls dk d, Gr F θ F' θ' → Jn K F' H' θ' O' → RS K F' θ' σ δ → dkR θ' dk d → D.ex cls dk δ O' → W cls d σ H'
theorem LkX.mono {K : PySem.W.Frag} {F F1 : Hp} {θ θ1 : List Addr} {D : DEndsX} {D' : Ends} {W : WX} (l : LkX K F θ D D' W) (g : Gr F θ F1 θ1) : LkX K F1 θ1 D D' W :=
  ⟨l.toLk.mono g, fun F' H' θ' O' σ δ cls dk d g2 => l.ex F' H' θ' O' σ δ cls dk d (g.trans g2)⟩
def SSX (K : PySem.W.Frag) (W : WX) (ts : TS) (ws : DTX) : Prop := ∀ F H θ O σ δ D D', Jn K F H θ O → RS K F θ σ δ → ws D δ O → LkX K F θ D D' W → ts D' σ H
structure EDX (X : Cx) (W : WX) (st : Stmt) (ws : DTX) : Prop where
  ex : ∃ ts, PS X st ts ∧ SSX X.K W ts ws
structure EDXB (X : Cx) (W : WX) (st : List Stmt) (ws : DTX) : Prop where
  ex : ∃ ts, PSs X st ts ∧ SSX X.K W ts ws
def dxOf (ws : DTS) : DTX := fun D δ O => ws D.toDEnds δ O
def dxSeq (w1 w2 : DTX) : DTX := fun D δ O => w1 { D with nx := w2 D } δ O
def dxIf (wt : DT) (w1 w2 : DTX) : DTX := fun D δ O => wt δ O fun b O1 => if b = true then w1 D δ O1 else w2 D δ O1
abbrev DM := DS → Sto → (Value → Option Nat → Sto → Prop) → Prop
def SM (K : PySem.W.Frag) (t : L2.St → Hp → XK → Prop) (wm : DM) : Prop := ∀ F H θ O σ δ S, Jn K F H θ O → RS K F θ σ δ → wm δ O S → ∀ Q : XK,
  (∀ cls dk d F' H' θ' O', Gr F θ F' θ' → Jn K F' H' θ' O' → dkR θ' dk d → S cls dk O' → Q cls d H') → t σ H Q
structure EDM (X : Cx) (e : Expr) (wm : DM) : Prop where
  ex : ∃ t, L2N.PMk X e t ∧ SM X.K t wm
def dRaise (wm : DM) : DTX := fun D δ O => wm δ O fun cls dk O1 => D.ex cls dk δ O1
def dM0 (C : Addr) (wa : DA) : DM := fun δ O S => wa δ O fun ws O1 => ws.length ≤ sizeLine ∧ S (.ref C) none O1
def dMi (C : Addr) (f g : Str) (wa : DA) : DM := fun δ O S => wa δ O fun ws O1 => ∃ y z, ws = [y, z] ∧ S (.ref C) (some O1.length) (O1 ++ [.xd [(g, z), (f, y)]])
section
variable {X : Cx} {W : WX} {st : Stmt} {rest : List Stmt} {ws : DTS} {w1 w2 : DTX} {wt : DT} {wm : DM} {wa : DA} {c e : Expr} {es : List Expr} {pos p : Pos} {x f g : Str} {C fI : Addr} {k : Nat} {fd : FuncData} {ps : List Str}
theorem es_x (h : EDS X st ws) : EDX X W st (dxOf ws) := by
  obtain ⟨t, p, s⟩ := h.ex
  exact ⟨t, p, fun F H θ O σ δ D D' j s' q l => s F H θ O σ δ _ D' j s' q l.toLk⟩
theorem eb_x (h : EDB X rest ws) : EDXB X W rest (dxOf ws) := by
  obtain ⟨t, p, s⟩ := h.ex
  exact ⟨t, p, fun F H θ O σ δ D D' j s' q l => s F H θ O σ δ _ D' j s' q l.toLk⟩
theorem exb_one (h : EDX X W st w1) : EDXB X W [st] w1 := by
  obtain ⟨t1, p1, s1⟩ := h.ex
  exact ⟨_, pss_one p1, s1⟩
theorem exb_cons (h : EDX X W st w1) (hr : EDXB X W rest w2) : EDXB X W (st :: rest) (dxSeq w1 w2) := by
  obtain ⟨t1, p1, s1⟩ := h.ex
  obtain ⟨t2, p2, s2⟩ := hr.ex
  refine ⟨_, pss_cons p1 p2, fun F H θ O σ δ D D' j s q l => ?_⟩
  exact s1 F H θ O σ δ _ _ j s q ⟨⟨fun F' H' θ' O' σ' δ' g j' s' q' => s2 F' H' θ' O' σ' δ' D D' j' s' q' (l.mono g), l.rt, l.bk, l.ct⟩, l.ex⟩
theorem ex_if {a b : List Stmt} (hc : EDT X c wt) (ha : EDXB X W a w1) (hb : EDXB X W b w2) : EDX X W (.If c a b pos) (dxIf wt w1 w2) := by
  obtain ⟨t0, p0, s0⟩ := hc.ex
  obtain ⟨t1, p1, s1⟩ := ha.ex
  obtain ⟨t2, p2, s2⟩ := hb.ex
  refine ⟨_, ps_if p0 p1 p2, fun F H θ O σ δ D D' j s q l => ?_⟩
  refine s0 F H θ O σ δ _ j s q _ fun b F1 H1 θ1 O1 g1 j1 q1 => ?_
  cases b with
  | true => exact s1 F1 H1 θ1 O1 σ δ D D' j1 (s.mono g1) q1 (l.mono g1)
  | false => exact s2 F1 H1 θ1 O1 σ δ D D' j1 (s.mono g1) q1 (l.mono g1)
theorem ex_raise (hc : X.calm = true) (tk : L2N.Takes X W) (h : EDM X e wm) : EDX X W (.Raise (some e) none pos) (dRaise wm) := by
  obtain ⟨t0, p0, s0⟩ := h.ex
  refine ⟨_, L2N.ps_raise hc tk p0, fun F H θ O σ δ D D' j s q l => ?_⟩
  exact s0 F H θ O σ δ _ j s q _ fun cls dk d F1 H1 θ1 O1 g1 j1 r1 q1 => l.ex F1 H1 θ1 O1 σ δ cls dk d g1 j1 (s.mono g1) r1 q1
theorem em_x0 (T : XC0 X.K C) (gC : X.mg x = some (.ref C)) (hg : Gl X x) (ha : EDA X (e :: es) wa) (hdb : (x == ("__debug__" : Str)) = false := by decide)
    (he : starEach (e :: es) X.env = (false, eval e X.env) :: starEach es X.env := by rfl) (hpl : (backTo pos (starEach es X.env)).any (·.1) = false := by rfl) : EDM X (.Call (.Name x p) (e :: es) [] pos) (dM0 C wa) := by
  obtain ⟨t, p, s⟩ := ha.ex
  refine ⟨_, pmk_x0 T gC hg p hdb he hpl, fun F H θ O σ δ S j s' q Q kk => ?_⟩
  exact s F H θ O σ δ _ j s' q _ fun vs ws F1 H1 θ1 O1 g1 j1 r1 q1 => ⟨by rw [r1.length]; exact q1.1, kk _ none none _ _ _ _ g1 j1 True.intro q1.2⟩
theorem em_xi {CX : CXT} (T : XCI X.K C fI) (F1 : FnOk X.prog X.w X.K X.mg X.base CX k fI fd ps (spIni C f g)) (hr : Room (k + 1) X.A) (hx : Passes CX X (fun _ _ _ => False)) (hb : Binds X.K fd ps []) (hl : ps.length = 3)
    (gC : X.mg x = some (.ref C)) (hg : Gl X x) (ha : EDA X (e :: es) wa) (hdb : (x == ("__debug__" : Str)) = false := by decide)
    (he : starEach (e :: es) X.env = (false, eval e X.env) :: starEach es X.env := by rfl) (hpl : (backTo pos (starEach es X.env)).any (·.1) = false := by rfl) : EDM X (.Call (.Name x p) (e :: es) [] pos) (dMi C f g wa) := by
  obtain ⟨t, p, s⟩ := ha.ex
  refine ⟨_, pmk_xi T F1 hr hx hb hl gC hg p hdb he hpl, fun F H θ O σ δ S j s' q Q kk => ?_⟩
  refine s F H θ O σ δ _ j s' q _ fun vs ws F1 H1 θ1 O1 g1 j1 r1 q1 => ?_
  obtain ⟨y, z, rfl, q1⟩ := q1
  obtain ⟨yv, zv, rfl, ry, rz⟩ := r1.two_inv
  refine ⟨yv, zv, rfl, fun d hd => ?_⟩
  refine kk (.ref C) (some O1.length) (some d) _ _ _ _ (g1.trans Gr.push) (j1.newXd hd (fsR2 ry rz)) ?_ q1
  show (θ1 ++ [d])[O1.length]? = some d
  rw [← j1.len]
  simp
end

/-! ### try -/
theorem takesN0 {X : Cx} : L2N.Takes X (fun _ _ _ _ => False) := fun _ _ x => by
  obtain ⟨_, _, _, _, _, _, _, _, _, _, _, _, _, _, _, _, z⟩ := x
  exact z.elim
def dHs (K : PySem.W.Frag) (D : DEnds) : List (Value × DTS) → Value → DS → Sto → Prop
  | [], _, _, _ => False
  | (c, ws) :: r, cls, δ, O => ∃ b, PySem.W.exmOne K cls c = some b ∧ if b = true then ws D δ O else dHs K D r cls δ O
def dTry (K : PySem.W.Frag) (wb : DTX) (l : List (Value × DTS)) : DTS := fun D δ O => wb { D with ex := fun cls _ δ O => dHs K D l cls δ O } δ O
/-- the clauses: a class each, no name -/
inductive EHs (X : Cx) : List ExceptHandler → List (Value × DTS) → Prop
  | nil : EHs X [] []
  | cons {x : Str} {c : Value} {ws : DTS} {b₀ : Stmt} {suite : List Stmt} {np pos' : Pos} {hds : List ExceptHandler} {l : List (Value × DTS)} (hc : Names X x c)
      (hsu : ∀ (a : Addr) (oe : Obj) (pn : List (Addr × Obj)), EDB (X.suite a ((a, oe) :: pn)) (b₀ :: suite) ws) (r : EHs X hds l) :
      EHs X (.ExceptHandler (some (.Name x np)) none (b₀ :: suite) pos' :: hds) ((c, ws) :: l)
theorem EHs.hds {X : Cx} {hds : List ExceptHandler} {l : List (Value × DTS)} (h : EHs X hds l) : ∃ l', L2N.HdsOk X hds l' ∧ ∀ F H θ O σ δ D D' cls d, Jn X.K F H θ O → RS X.K F θ σ δ → Lk X.K F θ D D' → dHs X.K D l cls δ O → wMany X.K (fun _ _ _ _ => False) D' l' cls d σ H := by
  induction h with
  | nil => exact ⟨[], .nil, fun F H θ O σ δ D D' cls d j s lk h => h⟩
  | @cons x c ws b₀ suite np pos' hds l hc hsu r ih =>
    obtain ⟨l', h1, h2⟩ := ih
    refine ⟨(c, fun a cls d => fun D σ H => ∀ oe pn, Classical.choose (hsu a oe pn).ex D σ H) :: l', .cons hc (fun a oe cls d pn _ _ => ⟨fun pins s σ H D I hw => (Classical.choose_spec (hsu a oe pn).ex).1.run pins s σ H D I (hw oe pn)⟩) h1,
      fun F H θ O σ δ D D' cls d j s lk h => ?_⟩
    obtain ⟨b, hb, h⟩ := h
    refine ⟨b, hb, fun e a _ oe pn => ?_, fun e => ?_⟩
    · rw [if_pos e] at h
      exact (Classical.choose_spec (hsu a oe pn).ex).2 F H θ O σ δ D D' j s h lk
    · rw [if_neg (by rw [e]; simp)] at h
      exact h2 F H θ O σ δ D D' cls d j s lk h
section
variable {X : Cx} {body : List Stmt} {h₀ : ExceptHandler} {hds : List ExceptHandler} {l : List (Value × DTS)} {pos : Pos} {wb : DTX}
theorem uni_b (hb : ∀ (W : WX) (pn : List (Addr × Obj)) (xe : Value → Shared → Prop), L2N.Takes (X.tr pn xe) W → PassesOwn (model X.prog X.w) X.A X.env xe → EDXB (X.tr pn xe) W body wb) :
    ∃ tb : WX → TS, (∀ (W : WX) (pn : List (Addr × Obj)) (xe : Value → Shared → Prop), L2N.Takes (X.tr pn xe) W → PassesOwn (model X.prog X.w) X.A X.env xe → PSs (X.tr pn xe) body (tb W)) ∧ ∀ W, SSX X.K W (tb W) wb :=
  ⟨fun W => fun D σ H => ∀ pn xe (tk : L2N.Takes (X.tr pn xe) W) (po : PassesOwn (model X.prog X.w) X.A X.env xe), Classical.choose (hb W pn xe tk po).ex D σ H,
    fun W pn xe tk po => ⟨fun pins s σ H D I hw => (Classical.choose_spec (hb W pn xe tk po).ex).1.run pins s σ H D I (hw pn xe tk po)⟩,
    fun W F H θ O σ δ D D' j s q lk pn xe tk po => (Classical.choose_spec (hb W pn xe tk po).ex).2 F H θ O σ δ D D' j s q lk⟩
theorem es_try (hs : X.stack = X.env :: X.outer) (hf : X.env.frame = some X.env.locals)
    (hb : ∀ (W : WX) (pn : List (Addr × Obj)) (xe : Value → Shared → Prop), L2N.Takes (X.tr pn xe) W → PassesOwn (model X.prog X.w) X.A X.env xe → EDXB (X.tr pn xe) W body wb) (hh : EHs X (h₀ :: hds) l) :
    EDS X (.Try body (h₀ :: hds) [] [] pos) (dTry X.K wb l) := by
  obtain ⟨tb, p0, s0⟩ := uni_b hb
  obtain ⟨l', h1, h2⟩ := hh.hds
  refine ⟨_, L2N.ps_try_many hs hf takesN0 p0 h1, fun F H θ O σ δ D D' j s q lk => ?_⟩
  exact s0 _ F H θ O σ δ _ D' j s q ⟨lk, fun F' H' θ' O' σ' δ' cls dk d g j' s' _ h => h2 F' H' θ' O' σ' δ' D D' cls d j' s' (lk.mono g) h⟩
/-- except X as n -/
def endsAs (i : Nat) (D : DEnds) : DEnds := { nx := fun δ' O' => D.nx (δ'.set i none) O', rt := D.rt, bk := fun δ' O' => D.bk (δ'.set i none) O', ct := fun δ' O' => D.ct (δ'.set i none) O' }
def dAs (K : PySem.W.Frag) (c : Value) (i : Nat) (ws : Addr → Value → Option Addr → DTS) (D : DEnds) : Value → Option Nat → DS → Sto → Prop := fun cls dk δ O => PySem.W.exmOne K cls c = some true ∧ ∀ a d, ws a cls d (endsAs i D) (δ.set i (some (.xr a d dk))) O
def dTryAs (K : PySem.W.Frag) (wb : DTX) (c : Value) (i : Nat) (ws : Addr → Value → Option Addr → DTS) : DTS := fun D δ O => wb { D with ex := dAs K c i ws D } δ O
theorem RS.gone {K : PySem.W.Frag} {F : Hp} {θ : List Addr} {σ : L2.St} {δ : DS} (h : RS K F θ σ δ) (i : Nat) : RS K F θ (σ.set i none) (δ.set i none) := by
  refine ⟨by rw [List.length_set, List.length_set]; exact h.1, fun j w e => ?_⟩
  by_cases q : j = i
  · subst q
    by_cases hl : j < δ.length
    · rw [List.getElem?_set_self hl] at e
      cases e
    · rw [List.getElem?_eq_none (by rw [List.length_set]; omega)] at e
      cases e
  · rw [List.getElem?_set_ne (Ne.symm q)] at e ⊢
    exact h.2 j w e
theorem es_tryAs {x n : Str} {c : Value} {i : Nat} {suite : List Stmt} {b₀ : Stmt} {np pos' : Pos} {ws : Addr → Value → Option Addr → DTS} (hs : X.stack = X.env :: X.outer) (hf : X.env.frame = some X.env.locals) (hN : X.N.Nodup) (hi : X.N[i]? = some n) (hln : X.env.kindOf n = some .local) (hc : Names X x c)
    (hb : ∀ (W : WX) (pn : List (Addr × Obj)) (xe : Value → Shared → Prop), L2N.Takes (X.tr pn xe) W → PassesOwn (model X.prog X.w) X.A X.env xe → EDXB (X.tr pn xe) W body wb)
    (hsu : ∀ (a : Addr) (oe : Obj) (cls : Value) (d : Option Addr) (pn : List (Addr × Obj)), Zc cls d oe → (∃ vs, oe.data = .fields vs) → EDB (X.suite a ((a, oe) :: pn)) (b₀ :: suite) (ws a cls d)) :
    EDS X (.Try body [.ExceptHandler (some (.Name x np)) (some n) (b₀ :: suite) pos'] [] [] pos) (dTryAs X.K wb c i ws) := by
  obtain ⟨tb, p0, s0⟩ := uni_b hb
  refine ⟨_, L2N.ps_try_as (ts := fun a cls d => fun D σ H => ∀ oe pn (z : Zc cls d oe) (f : ∃ vs, oe.data = .fields vs), Classical.choose (hsu a oe cls d pn z f).ex D σ H) hs hf hN hi hln hc takesN0 p0
    (fun a oe cls d pn z f => ⟨fun pins s σ H D I hw => (Classical.choose_spec (hsu a oe cls d pn z.zc f).ex).1.run pins s σ H D I (hw oe pn z.zc f)⟩), fun F H θ O σ δ D D' j s q lk => ?_⟩
  refine s0 _ F H θ O σ δ _ D' j s q ⟨lk, fun F' H' θ' O' σ' δ' cls dk d g j' s' hd h => ⟨true, h.1, fun _ a _ oe pn z f => ?_, fun e => by cases e⟩⟩
  refine (Classical.choose_spec (hsu a oe cls d pn z f).ex).2 F' H' θ' O' _ _ _ _ j' (s'.set i (.xr hd)) (h.2 a d) ?_
  have lk' := lk.mono g
  exact ⟨fun F2 H2 θ2 O2 σ2 δ2 g2 j2 s2 q2 => lk'.nx F2 H2 θ2 O2 _ _ g2 j2 (s2.gone i) q2, lk'.rt, fun F2 H2 θ2 O2 σ2 δ2 g2 j2 s2 q2 => lk'.bk F2 H2 θ2 O2 _ _ g2 j2 (s2.gone i) q2, fun F2 H2 θ2 O2 σ2 δ2 g2 j2 s2 q2 => lk'.ct F2 H2 θ2 O2 _ _ g2 j2 (s2.gone i) q2⟩
end
/-- how a call with keywords binds, no defaults -/
theorem kbN {K : PySem.W.Frag} {x qual : Str} {params : Arguments} {body : List Stmt} {scope : Scope} {kws : List (Str × V)} {f : Addr} {fd : FuncData} {ps ks : List Str} {g : List Value → List Value → List Value} {gV : List V → List V → List V} (F : FunD K x qual params body scope [] kws f fd)
    (hrel : ∀ {vs : List V} {us : List Value} {zs : List V} {ws : List Value}, Vals vs us → Vals zs ws → Vals (gV vs zs) (g us ws))
    (h : ∀ (kV doc pm : Value) (an : Option Addr) (cdv ct : Value) (us ws : List Value), (g us ws).length = ps.length → bindArgs (PySem.W.fnOf x qual params body scope .none kV doc pm an cdv ct) ⟨us, ks.zip ws⟩ = pure (ps.zip (g us ws))) : KBinds K fd ps ks g gV := by
  obtain ⟨oc, od, dV, kV, doc, pm, an, cdv, ct, osl, rfl, lk, hcd, hD, hK⟩ := F.ex
  rcases hD with ⟨_, rfl⟩ | ⟨e, _⟩
  · exact ⟨fun s us ws _ hl => .of_eq (h kV doc pm an cdv ct us ws hl), hrel⟩
  · exact absurd rfl e
theorem XcAt.app {O : Sto} {k : Nat} {D : Addr} (h : XcAt O k D) (ys : Sto) : XcAt (O ++ ys) k D := by
  have e : ∀ {i : Nat} {c : Cell}, O[i]? = some c → (O ++ ys)[i]? = some c := fun h => by rw [List.getElem?_append_left (List.getElem?_eq_some_iff.mp h).1]; exact h
  rcases h with h | ⟨j, fs, h1, h2⟩
  · exact .inl (e h)
  · exact .inr ⟨j, fs, e h1, e h2⟩
end Dm

set_option Elab.async false
set_option linter.all false
set_option maxRecDepth 100000
set_option maxHeartbeats 4000000
/-! The data machine: the law's own call, the end of a law, a hook with facts of one's own. -/
namespace Dm
open PySem PySem.Spec PyProof.Rows L2
/-- no list stands in the written part -/
def noLst (K : PySem.W.Frag) : Bool := K.all fun p => !(p.2.cls == Value.type "list")
theorem noLst_ok {K : PySem.W.Frag} (h : noLst K = true) {a : Addr} {o : Obj} (e : K.lookup a = some o) : o.cls ≠ .type "list" := by
  intro z
  have m : ∀ l : List (Addr × Obj), l.lookup a = some o → ∃ b, (b, o) ∈ l := by
    intro l
    induction l with
    | nil => intro h; cases h
    | cons p l ih =>
      intro h
      obtain ⟨b, q⟩ := p
      rw [List.lookup_cons] at h
      split at h
      · cases h
        exact ⟨b, List.mem_cons_self⟩
      · obtain ⟨c, hc⟩ := ih h
        exact ⟨c, List.mem_cons_of_mem _ hc⟩
  obtain ⟨b, hb⟩ := m K e
  have q := List.all_eq_true.mp h (b, o) hb
  rw [show ((b, o) : Addr × Obj).2.cls = Value.type "list" from z] at q
  simp at q
/-- the law's def called with the script -/
theorem law_callG {P : Program} {w : World} {K : PySem.W.Frag} {mg mb : Str → Option Value} {k : Nat} {fa a : Addr} {fd : FuncData} {x : Str} {sp : SpD} {s₁ : Shared} {vs : List Value} {ns : List Int} (KX : K.In s₁.heap) (nl : noLst K = true) (hns : s₁.heap.Ns mainGlobals mg)
    (hb : s₁.heap.Ns builtinsNs mb) (hbb : ∀ x : Str, x ≠ "__name__" → mb x = bootBuiltins x) (hlim : s₁.heap.NoLimit) (hg : s₁.gens = #[]) (ha : s₁.heap.get? a = some { cls := .type "list", data := .seq vs.toArray }) (hi : IntsAre vs ns) (hl : ns.length ≤ sizeLine) (hr : Room k callerA)
    (F : ∀ base : Heap, K.In base → base.Ns mainGlobals mg → FnG P w K mg base k fa fd [x] sp) (hbind : ∀ (s : Shared) (u : Value), BindsTo s fd ⟨[u], []⟩ [(x, u)]) (hsp : sp [.cell 0] [.rol (ns.map W.int)] fun w _ => w = .bl true) :
    codeAny (model P w) callerA (.call (.ref fa) ⟨[.ref a], []⟩) (fun r s' => r = .ok (.ret (.bool true)) ∧ OldK s₁.heap s'.heap ∧ s'.os = s₁.os ∧ AllBare s'.gens) s₁ := by
  have kn : K.lookup a = none := by
    cases e : K.lookup a with
    | none => rfl
    | some o =>
      have q := KX a o e
      rw [ha] at q
      cases q
      exact absurd rfl (noLst_ok nl e)
  let H : Hp := fun b => if b = a then some (.frz { cls := .type "list", data := .seq vs.toArray } (.lst (ns.map V.int))) else none
  have hAt : H a = some (.frz { cls := .type "list", data := .seq vs.toArray } (.lst (ns.map V.int))) := if_pos rfl
  have hNo : ∀ b, b ≠ a → H b = none := fun b n => if_neg n
  have hok : HOk P w H s₁.heap := fun b u z => by
    by_cases e : b = a
    · subst e
      rw [hAt] at z
      cases z
      exact ⟨ha, by rw [List.length_map]; exact hl, vs, _, vals_ints hi, ha⟩
    · rw [hNo b e] at z
      cases z
  have up : ∀ {b : Addr} {o : Obj}, s₁.heap.get? b = some o → b ≠ a → (hidT s₁.heap H).get? b = some o := fun q n => hidT_get q (hNo _ n)
  have hKb : K.In (hidT s₁.heap H) := fun b o e => up (KX b o e) (fun z => by rw [z, kn] at e; cases e)
  have nsK : ∀ {b : Addr} {m : Str → Option Value}, s₁.heap.Ns b m → (hidT s₁.heap H).Ns b m := fun {b m} ⟨o, es, ep, e, d, r⟩ => ⟨o, es, ep, up e (fun z => by
    rw [z, ha] at e
    cases e
    cases d), d, r⟩
  have hM : Mod K mg (hidT s₁.heap H) := ⟨hKb, nsK hns, ⟨mb, nsK hb, hbb⟩, let ⟨mc, h1, h2⟩ := hlim; ⟨mc, nsK h1, h2⟩⟩
  have none0 : ∀ {b : Addr}, b ∉ ([] : List Addr) := fun z => nomatch z
  have e0 : Env0 P w K mg (hidT s₁.heap H) callerA [] s₁ H := ⟨rfl, hM, fun _ _ e => of_hidT e, Nat.le_of_eq (hidT_size _ _), trivial, fun b hb => absurd hb none0, hok, .of_eq hg⟩
  have jn : Jn K (fun _ => none) H [a] [.rol (ns.map W.int)] := by
    refine ⟨(fun _ _ e => nomatch e), rfl, by simp [List.nodup_cons], fun i b c e1 e2 => ?_, fun i b e => ?_⟩
    · cases i with
      | zero =>
        cases e1
        cases e2
        exact ⟨rfl, _, _, hAt, RWs.ints⟩
      | succ i => cases e1
    · cases i with
      | zero =>
        cases e
        rw [hAt]
        simp
      | succ i => cases e
  refine codeAny_mono ((F _ hKb (nsK hns)).run callerA [] s₁ H ⟨[.ref a], []⟩ [.ref a] [.ref a] (fun v _ => v = .bl true) ⟨hr, rfl⟩ e0 (hbind s₁ (.ref a)) (.cons rfl .nil)
    ⟨_, _, _, [.cell 0], _, jn, .cons (.cell rfl) .nil, hsp, fun v w F' H' θ' O' _ _ r q => by rw [q] at r; exact r.bl_inv⟩) fun r s' h => ?_
  cases r with
  | error e => exact (show False from h).elim
  | ok fl =>
    cases fl with
    | next => exact False.elim h
    | brk => exact False.elim h
    | cont => exact False.elim h
    | ret u =>
      obtain ⟨v, H', os, bare, un, hok', r', q⟩ := h
      subst q
      obtain rfl : u = Value.bool true := r'
      refine ⟨rfl, OldK.of_keep fun b o e => ?_, os, bare⟩
      by_cases n : b = a
      · subst n
        obtain ⟨e1, _⟩ := hok b _ hAt
        obtain ⟨e2, _⟩ := hok' b _ (un.frzs b _ _ hAt)
        rw [e] at e1
        cases e1
        exact e2
      · exact un.keep b o e (hNo b n) none0 none0
/-- the end of a law: F gives the written part, the function object, the promise over every base -/
theorem walk_ofG {l : PySem.W.OpenLaw} {n k : Nat} {q : Program} {loose : List Str} {XP : (Str → Option Value) → Heap → Prop} {YP : World → Heap → Prop} {d : DefRec} {x : Str} (hn : l.most = some n) (hn2 : n ≤ sizeLine) (hdf : d.params.defaults = []) (hr : Room k callerA)
    (F : ∀ (w : World) (mg : Str → Option Value) (fa : Addr) (h : Heap), YP w h → h.Ns mainGlobals mg → mg d.name = some (.ref fa) →
      ∃ (K : PySem.W.Frag) (fd : FuncData) (sp : SpD), K.In h ∧ noLst K = true ∧ (∀ (s : Shared) (u : Value), BindsTo s fd ⟨[u], []⟩ [(x, u)]) ∧
        (∀ ns : List Int, ns.length ≤ n → (∀ z ∈ ns, Builtin.Int.intBits z ≤ 1048576) → sp [.cell 0] [.rol (ns.map W.int)] fun w _ => w = .bl true) ∧
        ∀ base : Heap, K.In base → base.Ns mainGlobals mg → FnG l.prog w K mg base k fa fd [x] sp) :
    PySem.W.WalkO q loose XP YP l.row.toRowW d [] (fun f vs => PySem.call f vs) := by
  refine Att.attach_callB hn hdf fun w s₀ s₁ mg mb fa o pm cd doc a vs ns G Y ho hd hcd hmg hobj hints hlen hbits hg => ?_
  obtain ⟨K, fd, sp, KX, nl, hb, hsp, hF⟩ := F w mg fa _ Y G.T.g hmg
  exact law_callG KX nl G.T.g G.T.b G.T.builtins G.T.nolimit hg hobj hints (Nat.le_trans hlen hn2) hr hF hb (hsp ns hlen hbits)

/-! ### a hook with facts of one's own -/
def obsX (xs : PySem.W.Frag → Bool) (fa : List He.Fa) (fn : List He.DefD) (K : PySem.W.Frag) : Bool × He.AlD := (xs K, He.obsD fa fn K)
def obsXG (xs : PySem.W.Frag → Bool) (n : Nat) (fa : List He.Fa) (fn : List He.DefD) (g : Addr → Option Obj) : Bool × He.AlD := obsX xs fa fn (He.frG g (He.asD g n))
def SaysX (xs : PySem.W.Frag → Bool) (fa : List He.Fa) (fn : List He.DefD) (K : PySem.W.Frag) : Prop := obsX xs fa fn K = (true, He.valD fn)
def hookX (xs : PySem.W.Frag → Bool) (n : Nat) (fa : List He.Fa) (fn : List He.DefD) : PySem.W.Hook where
  α := Bool × He.AlD
  obs := fun s => obsXG xs n fa fn s.heap.get?
  val := fun _ => (true, He.valD fn)
  says := fun _ h => ∃ K : PySem.W.Frag, K.In h ∧ SaysX xs fa fn K
  of := fun _ _ e => ⟨_, He.frG_in, e⟩
  keeps := fun _ _ _ ⟨K, hK, c⟩ k => ⟨K, PySem.W.Frag.In.keeps hK k, c⟩
theorem obsXG_eq {xs : PySem.W.Frag → Bool} {n : Nat} {fa : List He.Fa} {fn : List He.DefD} {g : Addr → Option Obj} {s : Shared} (h : ∀ a, g a = s.heap.get? a) : obsXG xs n fa fn g = (hookX xs n fa fn).obs s := by
  have e : g = s.heap.get? := funext h
  rw [e] <;> rfl
theorem SaysX.own {xs : PySem.W.Frag → Bool} {fa : List He.Fa} {fn : List He.DefD} {K : PySem.W.Frag} (c : SaysX xs fa fn K) : xs K = true := congrArg Prod.fst c
theorem SaysX.d {xs : PySem.W.Frag → Bool} {fa : List He.Fa} {fn : List He.DefD} {K : PySem.W.Frag} (c : SaysX xs fa fn K) : He.SaysD fa fn K := congrArg Prod.snd c
end Dm

set_option Elab.async false
set_option linter.all false
set_option maxRecDepth 100000
set_option maxHeartbeats 1000000
/-! What stays of a store; comprehensions and loops over things, in general. -/
namespace Dm
open PySem PySem.Spec PyProof.Rows L2

/-- every cell of O stands in O' as it was -/
def Sm (O O' : Sto) : Prop := ∀ (i : Nat) (c : Cell), O[i]? = some c → O'[i]? = some c
/-- all but the cells ks -/
def SmB (ks : List Nat) (O O' : Sto) : Prop := O.length ≤ O'.length ∧ ∀ (i : Nat) (c : Cell), i ∉ ks → O[i]? = some c → O'[i]? = some c
section
variable {O O' O1 O2 : Sto} {ks : List Nat}
theorem Sm.refl : Sm O O := fun _ _ h => h
theorem Sm.trans (a : Sm O O1) (b : Sm O1 O2) : Sm O O2 := fun i c h => b i c (a i c h)
theorem Sm.app (h : Sm O O1) (ys : Sto) : Sm O (O1 ++ ys) := fun i c e => by
  have e1 := h i c e
  rw [List.getElem?_append_left (List.getElem?_eq_some_iff.mp e1).1]
  exact e1
theorem Sm.len (h : Sm O O') : O.length ≤ O'.length := by
  cases e : O.length with
  | zero => exact Nat.zero_le _
  | succ n =>
    have hn : n < O.length := by omega
    have q := h n _ (List.getElem?_eq_getElem hn)
    exact (List.getElem?_eq_some_iff.mp q).1
theorem Sm.set (h : Sm O O') {k : Nat} {c : Cell} (hk : O.length ≤ k) : Sm O (O'.set k c) := fun i d e => by
  have hi := (List.getElem?_eq_some_iff.mp e).1
  rw [List.getElem?_set_ne (by omega)]
  exact h i d e
theorem Sm.push {c : Cell} : Sm O (O ++ [c]) := Sm.refl.app _
theorem Sm.b (h : Sm O O') : SmB ks O O' := ⟨h.len, fun i c _ e => h i c e⟩
theorem SmB.refl : SmB ks O O := Sm.refl.b
theorem SmB.trans (a : SmB ks O O1) (b : SmB ks O1 O2) : SmB ks O O2 := ⟨Nat.le_trans a.1 b.1, fun i c n h => b.2 i c n (a.2 i c n h)⟩
theorem SmB.nil (h : SmB [] O O') : Sm O O' := fun i c e => h.2 i c (by simp) e
theorem SmB.set (h : SmB ks O O') {k : Nat} {c : Cell} (hk : k ∈ ks ∨ O.length ≤ k) : SmB ks O (O'.set k c) := ⟨by rw [List.length_set]; exact h.1, fun i d n e => by
  have hi := (List.getElem?_eq_some_iff.mp e).1
  rw [List.getElem?_set_ne (by
    rintro rfl
    rcases hk with hk | hk
    · exact n hk
    · omega)]
  exact h.2 i d n e⟩
theorem SmB.app (h : SmB ks O O1) (ys : Sto) : SmB ks O (O1 ++ ys) := ⟨by rw [List.length_append]; have := h.1; omega, fun i c n e => by
  have e1 := h.2 i c n e
  rw [List.getElem?_append_left (List.getElem?_eq_some_iff.mp e1).1]
  exact e1⟩
theorem SmB.drop {k : Nat} (h : SmB (k :: ks) O O') (hk : O.length ≤ k) : SmB ks O O' := ⟨h.1, fun i c n e => h.2 i c (by
  have hi := (List.getElem?_eq_some_iff.mp e).1
  simp only [List.mem_cons, not_or]
  exact ⟨by omega, n⟩) e⟩
theorem SmB.wide {k : Nat} (h : SmB ks O O') : SmB (k :: ks) O O' := ⟨h.1, fun i c n e => h.2 i c (fun z => n (List.mem_cons_of_mem _ z)) e⟩
theorem Sm.lstC (h : Sm O O') {k : Nat} {ws : List W} (c : LstC O k ws) : LstC O' k ws := c.elim (fun e => .inl (h _ _ e)) fun e => .inr (h _ _ e)
theorem SmB.lstC (h : SmB ks O O') {k : Nat} (n : k ∉ ks) {ws : List W} (c : LstC O k ws) : LstC O' k ws := c.elim (fun e => .inl (h.2 _ _ n e)) fun e => .inr (h.2 _ _ n e)
theorem push_at {c : Cell} : (O ++ [c])[O.length]? = some c := by simp
theorem Sm.ty (h : Sm O O') {w : W} {t : String} (e : tyW w O = some t) : tyW w O' = some t := by
  cases w with
  | cell k =>
    unfold tyW at e ⊢
    dsimp only at e ⊢
    cases q : O[k]? with
    | none => rw [q] at e; cases e
    | some c => rw [h k c q]; rw [q] at e; exact e
  | _ => exact e
end
theorem ifT {p q : Prop} (h : p) : if true = true then p else q := by rw [if_pos rfl]; exact h
theorem ifF {p q : Prop} (h : q) : if false = true then p else q := by rw [if_neg (by decide)]; exact h
theorem sz_le {a : Nat} (h : a ≤ 1000000) : a ≤ sizeLine := by rw [sizeLine_eq]; omega
theorem sz_lt {a : Nat} (h : a ≤ 1000000) : a < sizeLine := by rw [sizeLine_eq]; omega

/-! ### comprehensions -/
/-- the loop of a list comprehension over the items zs: each is kept where p says so, as f tells -/
theorem lc_gen {w : Wk} {O1 : Sto} {δ : DS} {zs : List W} {f : W → W} {p : W → Bool} {g : DG} {wt : DT} {we : DE} {vs : List Nat} {S : WK} (hat : ∀ O', Sm O1 O' → w.ok O' ∧ ∀ i, w.at_ i O' = zs[i]?) (hl : zs.length ≤ 1000000)
    (hel : ∀ (i : Nat) (z : W), zs[i]? = some z → ∀ O', Sm O1 O' → ∀ (S1 : WK) (S0 : Sto → Prop), (∀ O2, Sm O' O2 → if p z = true then S1 (f z) O2 else S0 O2) → g z (wipeD δ vs) O' fun δ2 O2 => wt δ2 O2 fun b O3 => if b = true then we δ2 O3 S1 else S0 O3)
    (fin : ∀ O', Sm O1 O' → O'[O1.length]? = some (.lst ((zs.filter p).map f)) → S (.cell O1.length) O') :
    ∃ (n : Nat) (Pv : Nat → Sto → Prop), Pv 0 (O1 ++ [.lst []]) ∧ ∀ i O, Pv i O → i ≤ n ∧ w.ok O ∧ (match w.at_ i O with
      | none => S (.cell O1.length) O
      | some z => i < n ∧ g z (wipeD δ vs) O fun δ2 O2 => wt δ2 O2 fun b O3 => if b = true then we δ2 O3 fun y O4 => ∃ acc, O4[O1.length]? = some (.lst acc) ∧ acc.length < sizeLine ∧ Pv (i + 1) (O4.set O1.length (.lst (acc ++ [y]))) else Pv (i + 1) O3) := by
  refine ⟨zs.length, fun i O' => i ≤ zs.length ∧ Sm O1 O' ∧ O'[O1.length]? = some (.lst (((zs.take i).filter p).map f)), ⟨Nat.zero_le _, Sm.push, by simp⟩, fun i O' hi => ?_⟩
  obtain ⟨hi, hs, hc⟩ := hi
  obtain ⟨ok, ha⟩ := hat O' hs
  refine ⟨hi, ok, ?_⟩
  rw [ha i]
  cases hz : zs[i]? with
  | none =>
    have hn := List.getElem?_eq_none_iff.mp hz
    rw [List.take_of_length_le hn] at hc
    exact fin O' hs hc
  | some z =>
    have hlt := (List.getElem?_eq_some_iff.mp hz).1
    have et : zs.take (i + 1) = zs.take i ++ [z] := by rw [List.take_succ, hz]; rfl
    refine ⟨hlt, hel i z hz O' hs _ (fun O3 => i + 1 ≤ zs.length ∧ Sm O1 O3 ∧ O3[O1.length]? = some (.lst (((zs.take (i + 1)).filter p).map f))) fun O2 h2 => ?_⟩
    have hc2 := h2 _ _ hc
    cases hp : p z with
    | true =>
      refine ifT ⟨_, hc2, ?_, hlt, (hs.trans h2).set (Nat.le_refl _), ?_⟩
      · rw [List.length_map]
        refine sz_lt (Nat.le_trans (List.length_filter_le _ _) ?_)
        rw [List.length_take]
        omega
      · rw [List.getElem?_set_self (List.getElem?_eq_some_iff.mp hc2).1, et, List.filter_append, List.map_append]
        simp [hp]
    | false =>
      refine ifF ⟨hlt, hs.trans h2, ?_⟩
      rw [et, List.filter_append]
      simp [hp]
      exact hc2
/-- without a test -/
theorem lc_gen1 {w : Wk} {O1 : Sto} {δ : DS} {zs : List W} {f : W → W} {g : DG} {we : DE} {vs : List Nat} {S : WK} (hat : ∀ O', Sm O1 O' → w.ok O' ∧ ∀ i, w.at_ i O' = zs[i]?) (hl : zs.length ≤ 1000000)
    (hel : ∀ (i : Nat) (z : W), zs[i]? = some z → ∀ O', Sm O1 O' → ∀ S1 : WK, (∀ O2, Sm O' O2 → S1 (f z) O2) → g z (wipeD δ vs) O' fun δ2 O2 => we δ2 O2 S1)
    (fin : ∀ O', Sm O1 O' → O'[O1.length]? = some (.lst (zs.map f)) → S (.cell O1.length) O') :
    ∃ (n : Nat) (Pv : Nat → Sto → Prop), Pv 0 (O1 ++ [.lst []]) ∧ ∀ i O, Pv i O → i ≤ n ∧ w.ok O ∧ (match w.at_ i O with
      | none => S (.cell O1.length) O
      | some z => i < n ∧ g z (wipeD δ vs) O fun δ2 O2 => dYes δ2 O2 fun b O3 => if b = true then we δ2 O3 fun y O4 => ∃ acc, O4[O1.length]? = some (.lst acc) ∧ acc.length < sizeLine ∧ Pv (i + 1) (O4.set O1.length (.lst (acc ++ [y]))) else Pv (i + 1) O3) := by
  have ef : zs.filter (fun _ => true) = zs := List.filter_eq_self.mpr fun _ _ => rfl
  have := lc_gen (δ := δ) (f := f) (p := fun _ => true) (g := g) (wt := dYes) (we := we) (vs := vs) (S := S) hat hl (fun i z hz O' hs S1 S0 h => hel i z hz O' hs S1 fun O2 h2 => by
    have q := h O2 h2
    rw [if_pos rfl] at q
    exact q) (fun O' hs hc => fin O' hs (by rw [ef] at hc; exact hc))
  exact this
theorem at_tup {ws : List W} {O1 : Sto} : ∀ O', Sm O1 O' → (wkT ws).ok O' ∧ ∀ i, (wkT ws).at_ i O' = ws[i]? := fun _ _ => ⟨True.intro, fun _ => rfl⟩
theorem at_lst {k : Nat} {ws : List W} {O1 : Sto} (h : LstC O1 k ws) : ∀ O', Sm O1 O' → (wkL k).ok O' ∧ ∀ i, (wkL k).at_ i O' = ws[i]? := fun O' s => ⟨⟨ws, s.lstC h⟩, fun i => wkL_at (s.lstC h)⟩
theorem at_str {x : Str} {O1 : Sto} : ∀ O', Sm O1 O' → (wkS x).ok O' ∧ ∀ i, (wkS x).at_ i O' = (x.cps.toList.map fun c => W.str ⟨#[c]⟩)[i]? := fun _ _ => ⟨True.intro, fun i => by
  show x.cps[i]?.map _ = _
  rw [List.getElem?_map, Array.getElem?_toList]⟩
/-- isinstance of a thing whose kind is known -/
theorem isi_of {x : W} {t T : String} {b : Bool} {O : Sto} {S : WK} (h : tyW x O = some t) (hb : kitB t T = some b) (q : S (.bl b) O) : rdIsi [x, .ty T] O S := ⟨x, T, t, b, rfl, h, hb, q⟩
section
variable {δ : DS} {O : Sto} {S : WK} {i : Nat} {f : W → W} {p : W → Bool} {g : DG} {wt : DT} {we : DE} {vs : List Nat}
theorem ev_lcT {zs : List W} (h : δ[i]? = some (some (.tup zs))) (hl : zs.length ≤ 1000000) (hel : ∀ (i : Nat) (z : W), zs[i]? = some z → ∀ O', Sm O O' → ∀ S1 : WK, (∀ O2, Sm O' O2 → S1 (f z) O2) → g z (wipeD δ vs) O' fun δ2 O2 => we δ2 O2 S1)
    (fin : ∀ O', Sm O O' → O'[O.length]? = some (.lst (zs.map f)) → S (.cell O.length) O') : dLc (diT (dVar i)) g dYes we vs δ O S := ⟨_, h, zs, rfl, lc_gen1 at_tup hl hel fin⟩
theorem ev_lcL {k : Nat} {zs : List W} (h : δ[i]? = some (some (.cell k))) (hk : LstC O k zs) (hl : zs.length ≤ 1000000) (hel : ∀ (i : Nat) (z : W), zs[i]? = some z → ∀ O', Sm O O' → ∀ S1 : WK, (∀ O2, Sm O' O2 → S1 (f z) O2) → g z (wipeD δ vs) O' fun δ2 O2 => we δ2 O2 S1)
    (fin : ∀ O', Sm O O' → O'[O.length]? = some (.lst (zs.map f)) → S (.cell O.length) O') : dLc (diL (dVar i)) g dYes we vs δ O S := ⟨_, h, k, zs, rfl, hk, lc_gen1 (at_lst hk) hl hel fin⟩
theorem ev_lcS {x : Str} (h : δ[i]? = some (some (.str x))) (hl : x.length ≤ 1000000) (hel : ∀ (i : Nat) (c : Nat), x.cps.toList[i]? = some c → ∀ O', Sm O O' → ∀ S1 : WK, (∀ O2, Sm O' O2 → S1 (f (.str ⟨#[c]⟩)) O2) → g (.str ⟨#[c]⟩) (wipeD δ vs) O' fun δ2 O2 => we δ2 O2 S1)
    (fin : ∀ O', Sm O O' → O'[O.length]? = some (.lst (x.cps.toList.map fun c => f (.str ⟨#[c]⟩))) → S (.cell O.length) O') : dLc (diS (dVar i)) g dYes we vs δ O S := ⟨_, h, x, rfl, lc_gen1 at_str (by rw [List.length_map]; exact hl) (fun i z hz O' hs S1 hq => by
      rw [List.getElem?_map] at hz
      cases hc : x.cps.toList[i]? with
      | none => rw [hc] at hz; cases hz
      | some c =>
        rw [hc] at hz
        cases hz
        exact hel i c hc O' hs S1 hq) fun O' hs hc => fin O' hs (by rw [hc, List.map_map]; rfl)⟩
/-- .. with a test -/
theorem ev_lcTp {zs : List W} (h : δ[i]? = some (some (.tup zs))) (hl : zs.length ≤ 1000000) (hel : ∀ (i : Nat) (z : W), zs[i]? = some z → ∀ O', Sm O O' → ∀ (S1 : WK) (S0 : Sto → Prop), (∀ O2, Sm O' O2 → if p z = true then S1 (f z) O2 else S0 O2) → g z (wipeD δ vs) O' fun δ2 O2 => wt δ2 O2 fun b O3 => if b = true then we δ2 O3 S1 else S0 O3)
    (fin : ∀ O', Sm O O' → O'[O.length]? = some (.lst ((zs.filter p).map f)) → S (.cell O.length) O') : dLc (diT (dVar i)) g wt we vs δ O S := ⟨_, h, zs, rfl, lc_gen at_tup hl hel fin⟩
theorem ev_all {wa : DE} (h : wa δ O fun x O1 => ∃ (k : Nat) (bs : List Bool), x = .cell k ∧ LstC O1 k (bs.map W.bl) ∧ S (.bl (bs.all id)) O1) : dCB rdAll (dCons wa dNil) δ O S := by
  have m : (dCB rdAll (dCons wa dNil) δ O S) = (wa δ O fun x O1 => rdAll [x] O1 S) := rfl
  rw [m]
  have e : (fun x O1 => rdAll [x] O1 S) = fun x O1 => ∃ (k : Nat) (bs : List Bool), x = .cell k ∧ LstC O1 k (bs.map W.bl) ∧ S (.bl (bs.all id)) O1 := by
    funext x O1
    apply propext
    constructor
    · rintro ⟨k, bs, e, h1, h2⟩
      cases e
      exact ⟨k, bs, rfl, h1, h2⟩
    · rintro ⟨k, bs, rfl, h1, h2⟩
      exact ⟨k, bs, rfl, h1, h2⟩
  rw [e]
  exact h
end
end Dm

set_option Elab.async false
set_option linter.all false
set_option maxRecDepth 100000
set_option maxHeartbeats 1000000
/-! plain: what its defs say of any thing. -/
namespace Dm
open PySem PySem.Spec PyProof.Rows L2

/-- a thing that may be asked for its kind; a text of it is no giant -/
def Vw (O : Sto) (w : W) : Prop := (∃ t, tyW w O = some t) ∧ ∀ z, w = .str z → z.length ≤ 1000000
theorem Vw.mono {O O' : Sto} {w : W} (h : Vw O w) (s : Sm O O') : Vw O' w := ⟨let ⟨t, e⟩ := h.1; ⟨t, s.ty e⟩, h.2⟩
def tInt : W → Bool
  | .int _ => true
  | .bl _ => true
  | _ => false
def tBool : W → Bool
  | .bl _ => true
  | _ => false
def tStr : W → Bool
  | .str _ => true
  | _ => false
def tTup : W → Bool
  | .tup _ => true
  | _ => false
def tLst (O : Sto) : W → Bool
  | .cell k => (match O[k]? with
    | some (.lst _) => true
    | some (.rol _) => true
    | _ => false)
  | _ => false
theorem ty_cell {O : Sto} {k : Nat} {t : String} (h : tyW (.cell k) O = some t) : t = "list" ∨ t = "dict" := by
  unfold tyW at h
  dsimp only at h
  split at h
  · cases h; exact .inl rfl
  · cases h; exact .inl rfl
  · cases h; exact .inr rfl
  · cases h
theorem isi_int {O : Sto} {w : W} {S : WK} (h : Vw O w) (q : S (.bl (tInt w)) O) : rdIsi [w, .ty "int"] O S := by
  obtain ⟨⟨t, e⟩, _⟩ := h
  cases w with
  | non => exact isi_of rfl (show kitB "NoneType" "int" = some false by decide +kernel) q
  | bl b => exact isi_of rfl (show kitB "bool" "int" = some true by decide +kernel) q
  | int i => exact isi_of rfl (show kitB "int" "int" = some true by decide +kernel) q
  | str x => exact isi_of rfl (show kitB "str" "int" = some false by decide +kernel) q
  | tup ws => exact isi_of rfl (show kitB "tuple" "int" = some false by decide +kernel) q
  | cell k =>
    rcases ty_cell e with rfl | rfl
    · exact isi_of e (show kitB "list" "int" = some false by decide +kernel) q
    · exact isi_of e (show kitB "dict" "int" = some false by decide +kernel) q
  | ty n => cases e
  | ref a => cases e
  | xr a d k => cases e
  | rng lo hi => cases e
  | ktp us => cases e
theorem isi_bool {O : Sto} {w : W} {S : WK} (h : Vw O w) (q : S (.bl (tBool w)) O) : rdIsi [w, .ty "bool"] O S := by
  obtain ⟨⟨t, e⟩, _⟩ := h
  cases w with
  | non => exact isi_of rfl (show kitB "NoneType" "bool" = some false by decide +kernel) q
  | bl b => exact isi_of rfl (show kitB "bool" "bool" = some true by decide +kernel) q
  | int i => exact isi_of rfl (show kitB "int" "bool" = some false by decide +kernel) q
  | str x => exact isi_of rfl (show kitB "str" "bool" = some false by decide +kernel) q
  | tup ws => exact isi_of rfl (show kitB "tuple" "bool" = some false by decide +kernel) q
  | cell k =>
    rcases ty_cell e with rfl | rfl
    · exact isi_of e (show kitB "list" "bool" = some false by decide +kernel) q
    · exact isi_of e (show kitB "dict" "bool" = some false by decide +kernel) q
  | ty n => cases e
  | ref a => cases e
  | xr a d k => cases e
  | rng lo hi => cases e
  | ktp us => cases e
theorem isi_str {O : Sto} {w : W} {S : WK} (h : Vw O w) (q : S (.bl (tStr w)) O) : rdIsi [w, .ty "str"] O S := by
  obtain ⟨⟨t, e⟩, _⟩ := h
  cases w with
  | non => exact isi_of rfl (show kitB "NoneType" "str" = some false by decide +kernel) q
  | bl b => exact isi_of rfl (show kitB "bool" "str" = some false by decide +kernel) q
  | int i => exact isi_of rfl (show kitB "int" "str" = some false by decide +kernel) q
  | str x => exact isi_of rfl (show kitB "str" "str" = some true by decide +kernel) q
  | tup ws => exact isi_of rfl (show kitB "tuple" "str" = some false by decide +kernel) q
  | cell k =>
    rcases ty_cell e with rfl | rfl
    · exact isi_of e (show kitB "list" "str" = some false by decide +kernel) q
    · exact isi_of e (show kitB "dict" "str" = some false by decide +kernel) q
  | ty n => cases e
  | ref a => cases e
  | xr a d k => cases e
  | rng lo hi => cases e
  | ktp us => cases e
theorem isi_tuple {O : Sto} {w : W} {S : WK} (h : Vw O w) (q : S (.bl (tTup w)) O) : rdIsi [w, .ty "tuple"] O S := by
  obtain ⟨⟨t, e⟩, _⟩ := h
  cases w with
  | non => exact isi_of rfl (show kitB "NoneType" "tuple" = some false by decide +kernel) q
  | bl b => exact isi_of rfl (show kitB "bool" "tuple" = some false by decide +kernel) q
  | int i => exact isi_of rfl (show kitB "int" "tuple" = some false by decide +kernel) q
  | str x => exact isi_of rfl (show kitB "str" "tuple" = some false by decide +kernel) q
  | tup ws => exact isi_of rfl (show kitB "tuple" "tuple" = some true by decide +kernel) q
  | cell k =>
    rcases ty_cell e with rfl | rfl
    · exact isi_of e (show kitB "list" "tuple" = some false by decide +kernel) q
    · exact isi_of e (show kitB "dict" "tuple" = some false by decide +kernel) q
  | ty n => cases e
  | ref a => cases e
  | xr a d k => cases e
  | rng lo hi => cases e
  | ktp us => cases e
section
variable {δ : DS} {O : Sto} {S : WK} {D : DEnds} {wa wb we : DE} {wr : DA} {i : Nat} {w : W}
theorem ev_ret (h : we δ O D.rt) : dRet we D δ O := h
theorem ev_and (h : wa δ O fun x O1 => ∃ t, x = .bl t ∧ if t = true then wb δ O1 S else S (.bl false) O1) : dAndV wa wb δ O S := h
theorem ev_isi {T : String} (h : δ[i]? = some (some w)) (q : rdIsi [w, .ty T] O S) : dCB rdIsi (dCons (dVar i) (dCons (dC (.ty T)) dNil)) δ O S := ⟨w, h, q⟩
theorem ev_int (h : δ[i]? = some (some w)) (hv : Vw O w) (q : S (.bl (tInt w)) O) : dCB rdIsi (dCons (dVar i) (dCons (dC (.ty "int")) dNil)) δ O S := ⟨w, h, isi_int hv q⟩
theorem ev_bool (h : δ[i]? = some (some w)) (hv : Vw O w) (q : S (.bl (tBool w)) O) : dCB rdIsi (dCons (dVar i) (dCons (dC (.ty "bool")) dNil)) δ O S := ⟨w, h, isi_bool hv q⟩
theorem ev_str (h : δ[i]? = some (some w)) (hv : Vw O w) (q : S (.bl (tStr w)) O) : dCB rdIsi (dCons (dVar i) (dCons (dC (.ty "str")) dNil)) δ O S := ⟨w, h, isi_str hv q⟩
theorem ev_tuple (h : δ[i]? = some (some w)) (hv : Vw O w) (q : S (.bl (tTup w)) O) : dCB rdIsi (dCons (dVar i) (dCons (dC (.ty "tuple")) dNil)) δ O S := ⟨w, h, isi_tuple hv q⟩
theorem ev_seq {w1 w2 : DTS} (h : w1 { D with nx := w2 D } δ O) : dSeq w1 w2 D δ O := h
theorem ev_if {wt : DT} {w1 w2 : DTS} (h : wt δ O fun b O1 => if b = true then w1 D δ O1 else w2 D δ O1) : dIf wt w1 w2 D δ O := h
theorem ev_guard {wt : DT} {w2 : DTS} (h : wt δ O fun b O1 => if b = true then we δ O1 D.rt else w2 D δ O1) : dSeq (dIf wt (dRet we) dNext) w2 D δ O := h
theorem ev_not {wt : DT} {S : Bool → Sto → Prop} (h : wt δ O fun b O1 => S (!b) O1) : dNot wt δ O S := h
theorem ev_test {S : Bool → Sto → Prop} (h : we δ O fun x O1 => ∃ b, x = .bl b ∧ S b O1) : dTest we δ O S := h
theorem ev_or {wt wu : DT} {S : Bool → Sto → Prop} (h : wt δ O fun b O1 => if b = true then S true O1 else wu δ O1 S) : dOr wt wu δ O S := h
end
inductive Vd (O : Sto) : W → Prop
  | mk {w : W} : Vw O w → (∀ xs, w = .tup xs → ∀ x ∈ xs, Vd O x) → Vd O w
theorem Vd.v {O : Sto} {w : W} (h : Vd O w) : Vw O w := by cases h with | mk a _ => exact a
theorem Vd.at_ {O : Sto} {xs : List W} (h : Vd O (.tup xs)) {x : W} (hx : x ∈ xs) : Vd O x := by cases h with | mk _ b => exact b xs rfl x hx
theorem Vd.mono {O O' : Sto} {w : W} (h : Vd O w) (s : Sm O O') : Vd O' w := by
  induction h with
  | mk a _ ih => exact .mk (a.mono s) ih
theorem Vd.str {O : Sto} {x : Str} (h : x.length ≤ 1000000) : Vd O (.str x) := .mk ⟨⟨_, rfl⟩, fun z e => by cases e; exact h⟩ fun xs e => by cases e
theorem Vd.int {O : Sto} {i : Int} : Vd O (.int i) := .mk ⟨⟨_, rfl⟩, fun z e => by cases e⟩ fun xs e => by cases e
theorem Vd.tup {O : Sto} {ws : List W} (h : ∀ w ∈ ws, Vd O w) : Vd O (.tup ws) := .mk ⟨⟨_, rfl⟩, fun z e => by cases e⟩ fun xs e => by cases e; exact h
/-! ### the mirrors -/
abbrev lowS : Str := "abcdefghijklmnopqrstuvwxyz"
abbrev alnS : Str := "abcdefghijklmnopqrstuvwxyz0123456789"
abbrev grtS : Str := "ABCDEFGHIJKLMNOPQRSTUVWXYZ"
def mInt : W → Bool
  | .int _ => true
  | _ => false
def mTup (w : W) (a b : Int) : Bool := match w with
  | .tup ws => decide (a ≤ (ws.length : Int)) && decide ((ws.length : Int) ≤ b)
  | _ => false
def mOf (w : W) (xs : List W) : Bool := tStr w && inW w xs
def mOfD (w : W) (kvs : List (Key × W)) : Bool := match w with
  | .str s => (valW kvs (.inr s)).isSome
  | _ => false
def nameOk (s : Str) : Bool := (decide (1 ≤ s.length) && decide (s.length ≤ 12)) && ((s.cps.toList.head?.any fun c => decide (c ∈ lowS.cps.toList)) && s.cps.toList.all fun c => decide (c ∈ alnS.cps.toList))
def mName : W → Bool
  | .str s => nameOk s
  | _ => false
def varOk (s : Str) : Bool := match s.cps.toList with
  | [c] => decide (c ∈ grtS.cps.toList)
  | _ => false
def mVar : W → Bool
  | .str s => varOk s
  | _ => false
def strOf : W → Str
  | .str s => s
  | _ => Str.empty
def mNames (w : W) (a b : Int) : Bool := match w with
  | .tup xs => mTup w a b && (xs.all mName && decide (xs.map strOf).Nodup)
  | _ => false
/-! ### the promises -/
def sp_is_integer : SpD := fun ws O S => ∃ w, ws = [w] ∧ Vw O w ∧ S (.bl (mInt w)) O
def sp_is_tuple : SpD := fun ws O S => ∃ w a b, ws = [w, .int a, .int b] ∧ Vw O w ∧ S (.bl (mTup w a b)) O
def sp_is_one_of : SpD := fun ws O S => ∃ w x, ws = [w, x] ∧ Vw O w ∧ ((∃ xs, x = .tup xs ∧ xs.all flatW = true ∧ S (.bl (mOf w xs)) O) ∨ ∃ k kvs, x = .cell k ∧ O[k]? = some (.dct kvs) ∧ S (.bl (mOfD w kvs)) O)
def sp_is_name : SpD := fun ws O S => ∃ w, ws = [w] ∧ Vw O w ∧ ∀ O', Sm O O' → S (.bl (mName w)) O'
def sp_is_word : SpD := sp_is_name
def sp_is_variable : SpD := fun ws O S => ∃ w, ws = [w] ∧ Vw O w ∧ S (.bl (mVar w)) O
def sp_is_side : SpD := fun ws O S => ∃ w, ws = [w] ∧ Vw O w ∧ S (.bl (mOf w [.str "left", .str "right"])) O
def sp_are_names : SpD := fun ws O S => ∃ w a b, ws = [w, .int a, .int b] ∧ Vd O w ∧ b ≤ 1000 ∧ ∀ O', Sm O O' → S (.bl (mNames w a b)) O'
def d_is_integer : DTS := (dRet (dAndV (dCB rdIsi (dCons (dVar 0) (dCons (dC (.ty "int")) dNil))) (dNotV (dCB rdIsi (dCons (dVar 0) (dCons (dC (.ty "bool")) dNil))))))
abbrev n_is_integer : List Str := ["thing"]
def d_is_tuple : DTS := (dRet (dAndV (dCB rdIsi (dCons (dVar 0) (dCons (dC (.ty "tuple")) dNil))) (dChain cle cle (dVar 1) (dCB rdLen (dCons (dVar 0) dNil)) (dVar 2))))
abbrev n_is_tuple : List Str := ["thing", "least", "most"]
def d_is_one_of : DTS := (dRet (dAndV (dCB rdIsi (dCons (dVar 0) (dCons (dC (.ty "str")) dNil))) (dOp rdInU (dVar 0) (dVar 1))))
abbrev n_is_one_of : List Str := ["thing", "words"]
def d_is_name : DTS := (dSeq (dIf (dOr (dNot (dTest (dCB rdIsi (dCons (dVar 0) (dCons (dC (.ty "str")) dNil))))) (dNot (dTest (dChain cle cle (dC (.int 1)) (dCB rdLenS (dCons (dVar 0) dNil)) (dC (.int 12)))))) (dRet (dC (.bl false))) dNext)
    (dRet (dAndV (dOp rdInS (dOp rdIxS (dVar 0) (dC (.int 0))) (dC (.str "abcdefghijklmnopqrstuvwxyz"))) (dCB rdAll (dCons (dLc (diS (dVar 0)) (dgName 1) dYes (dOp rdInS (dVar 1) (dC (.str "abcdefghijklmnopqrstuvwxyz0123456789"))) [1]) dNil)))))
abbrev n_is_name : List Str := ["thing", "letter"]
def d_is_word : DTS := (dRet (dCall sp_is_name (dCons (dVar 0) dNil)))
abbrev n_is_word : List Str := ["thing"]
def d_is_variable : DTS := (dRet (dAndV (dCB rdIsi (dCons (dVar 0) (dCons (dC (.ty "str")) dNil))) (dAndV (dOp rdEq (dCB rdLenS (dCons (dVar 0) dNil)) (dC (.int 1))) (dOp rdInS (dVar 0) (dC (.str "ABCDEFGHIJKLMNOPQRSTUVWXYZ"))))))
abbrev n_is_variable : List Str := ["thing"]
def d_is_side : DTS := (dRet (dCall sp_is_one_of (dCons (dVar 0) (dCons (dC (.tup [.str "left", .str "right"])) dNil))))
abbrev n_is_side : List Str := ["thing"]
def d_are_names : DTS := (dSeq (dIf (dOr (dNot (dTest (dCall sp_is_tuple (dCons (dVar 0) (dCons (dVar 1) (dCons (dVar 2) dNil)))))) (dNot (dTest (dCB rdAll (dCons (dLc (diT (dVar 0)) (dgName 3) dYes (dCall sp_is_name (dCons (dVar 3) dNil)) [3]) dNil))))) (dRet (dC (.bl false))) dNext)
    (dRet (dOp rdEq (dLenSet (dVar 0)) (dCB rdLen (dCons (dVar 0) dNil)))))
abbrev n_are_names : List Str := ["thing", "least", "most", "entry"]
abbrev outB (S : WK) : DEnds := { nx := fun _ O' => S .non O', rt := S }
theorem rd_is_integer (ws : List W) (O : Sto) (S : WK) (h : sp_is_integer ws O S) : d_is_integer (outB S) (startD n_is_integer ws) O := by
  obtain ⟨w, rfl, hv, q⟩ := h
  refine ev_ret (ev_and (ev_int rfl hv ⟨_, rfl, ?_⟩))
  cases w with
  | int i => exact ifT (ev_bool rfl hv ⟨_, rfl, q⟩)
  | bl b => exact ifT (ev_bool rfl hv ⟨_, rfl, q⟩)
  | _ => exact ifF q
theorem rd_is_tuple (ws : List W) (O : Sto) (S : WK) (h : sp_is_tuple ws O S) : d_is_tuple (outB S) (startD n_is_tuple ws) O := by
  obtain ⟨w, a, b, rfl, hv, q⟩ := h
  refine ev_ret (ev_and (ev_tuple rfl hv ⟨_, rfl, ?_⟩))
  cases w with
  | tup ws =>
    refine ifT ⟨_, rfl, _, rfl, .inl ⟨ws, rfl, _, _, rfl, rfl, _, rfl, ?_⟩⟩
    unfold mTup at q
    dsimp only at q
    cases h1 : decide (a ≤ (ws.length : Int)) with
    | true =>
      rw [h1] at q
      exact ifT ⟨_, rfl, _, _, rfl, rfl, q⟩
    | false =>
      rw [h1] at q
      exact ifF q
  | _ => exact ifF q
theorem rd_is_one_of (ws : List W) (O : Sto) (S : WK) (h : sp_is_one_of ws O S) : d_is_one_of (outB S) (startD n_is_one_of ws) O := by
  obtain ⟨w, x, rfl, hv, q⟩ := h
  refine ev_ret (ev_and (ev_str rfl hv ⟨_, rfl, ?_⟩))
  cases w with
  | str s =>
    refine ifT ⟨_, rfl, _, rfl, ?_⟩
    rcases q with ⟨xs, rfl, hf, q⟩ | ⟨k, kvs, rfl, hk, q⟩
    · exact .inl ⟨xs, .inl rfl, rfl, hf, q⟩
    · exact .inr ⟨k, kvs, _, rfl, hk, rfl, q⟩
  | _ =>
    refine ifF ?_
    rcases q with ⟨xs, rfl, hf, q⟩ | ⟨k, kvs, rfl, hk, q⟩
    · exact q
    · exact q
theorem len_cps (s : Str) : s.length = s.cps.toList.length := rfl
theorem rd_is_variable (ws : List W) (O : Sto) (S : WK) (h : sp_is_variable ws O S) : d_is_variable (outB S) (startD n_is_variable ws) O := by
  obtain ⟨w, rfl, hv, q⟩ := h
  refine ev_ret (ev_and (ev_str rfl hv ⟨_, rfl, ?_⟩))
  cases w with
  | str s =>
    refine ifT ⟨_, rfl, s, rfl, sz_le (hv.2 s rfl), decide ((s.length : Int) = 1), rfl, _, rfl, ?_⟩
    unfold mVar varOk at q
    dsimp only at q
    by_cases h1 : s.length = 1
    · rw [decide_eq_true (by omega)]
      rw [len_cps] at h1
      obtain ⟨c, hc⟩ := List.length_eq_one_iff.mp h1
      rw [hc] at q
      have es : s = ⟨#[c]⟩ := by
        obtain ⟨a⟩ := s
        congr 1
        exact Array.toList_inj.mp hc
      refine ifT ⟨_, rfl, c, grtS, by rw [es], rfl, q⟩
    · rw [decide_eq_false (by omega)]
      refine ifF ?_
      cases hc : s.cps.toList with
      | nil => rw [hc] at q; exact q
      | cons c r =>
        cases r with
        | nil => exact absurd (by rw [len_cps, hc]; rfl) h1
        | cons d r => rw [hc] at q; exact q
  | _ => exact ifF q
theorem rd_is_name (ws : List W) (O : Sto) (S : WK) (h : sp_is_name ws O S) : d_is_name (outB S) (startD n_is_name ws) O := by
  obtain ⟨w, rfl, hv, q⟩ := h
  refine ev_seq (ev_if (ev_or (ev_not (ev_test (ev_str rfl hv ⟨_, rfl, ?_⟩)))))
  cases w with
  | str s =>
    have q0 := q O Sm.refl
    unfold mName nameOk at q
    unfold mName nameOk at q0
    dsimp only at q q0
    have hl := hv.2 s rfl
    refine ifF ⟨_, rfl, s, rfl, sz_le hl, _, _, rfl, rfl, _, rfl, ?_⟩
    by_cases h1 : 1 ≤ s.length
    · rw [decide_eq_true (show (1 : Int) ≤ (s.length : Int) by omega)]
      rw [decide_eq_true h1] at q q0
      refine ifT ⟨_, _, rfl, rfl, _, rfl, ?_⟩
      by_cases h2 : s.length ≤ 12
      · rw [decide_eq_true (show (s.length : Int) ≤ 12 by omega)]
        rw [decide_eq_true h2] at q q0
        have hc0 : ∃ c r, s.cps.toList = c :: r := by
          cases hc : s.cps.toList with
          | nil =>
            rw [len_cps, hc] at h1
            exact absurd h1 (by decide)
          | cons c r => exact ⟨c, r, rfl⟩
        obtain ⟨c, r, hc⟩ := hc0
        have i0 : atI s.cps.toList 0 = some c := by
          rw [hc]
          exact atI_nat (j := 0) rfl
        have hh : s.cps.toList.head?.any (fun c => decide (c ∈ lowS.cps.toList)) = decide (c ∈ lowS.cps.toList) := by rw [hc]; rfl
        rw [hh] at q q0
        refine ifF ⟨_, rfl, s, 0, c, rfl, rfl, sz_le hl, i0, c, lowS, rfl, rfl, _, rfl, ?_⟩
        cases h3 : decide (c ∈ lowS.cps.toList) with
        | false =>
          rw [h3] at q0
          exact ifF q0
        | true =>
          rw [h3] at q
          refine ifT (ev_all (ev_lcS (f := fun w => match w with
            | .str x => (match x.cps.toList with
              | [c] => .bl (decide (c ∈ alnS.cps.toList))
              | _ => .non)
            | _ => .non) rfl hl (fun i c hc O' hs S1 h => ⟨_, rfl, c, alnS, rfl, rfl, h O' Sm.refl⟩) fun O' hs hcell => ⟨_, s.cps.toList.map fun c => decide (c ∈ alnS.cps.toList), rfl, .inl ?_, ?_⟩))
          · rw [hcell, List.map_map]
            rfl
          · rw [List.all_map]
            exact q O' hs
      · rw [decide_eq_false (show ¬ (s.length : Int) ≤ 12 by omega)]
        rw [decide_eq_false h2] at q0
        exact ifT q0
    · rw [decide_eq_false (show ¬ (1 : Int) ≤ (s.length : Int) by omega)]
      rw [decide_eq_false h1] at q0
      exact ifF ⟨_, rfl, ifT q0⟩
  | _ => exact ifT (ifT (q O Sm.refl))
theorem rd_is_word (ws : List W) (O : Sto) (S : WK) (h : sp_is_word ws O S) : d_is_word (outB S) (startD n_is_word ws) O := by
  obtain ⟨w, rfl, hv, q⟩ := h
  exact ⟨_, rfl, w, rfl, hv, q⟩
theorem rd_is_side (ws : List W) (O : Sto) (S : WK) (h : sp_is_side ws O S) : d_is_side (outB S) (startD n_is_side ws) O := by
  obtain ⟨w, rfl, hv, q⟩ := h
  exact ⟨_, rfl, w, _, rfl, hv, .inl ⟨_, rfl, rfl, q⟩⟩
theorem tup_of {xs : List W} (h : xs.all mName = true) : xs = (xs.map strOf).map W.str := by
  rw [List.map_map]
  conv => lhs; rw [← List.map_id xs]
  refine List.map_congr_left fun x hx => ?_
  have q := List.all_eq_true.mp h x hx
  cases x <;> first | rfl | cases q
theorem rd_are_names (ws : List W) (O : Sto) (S : WK) (h : sp_are_names ws O S) : d_are_names (outB S) (startD n_are_names ws) O := by
  obtain ⟨w, a, b, rfl, hv, hb, q⟩ := h
  refine ev_seq (ev_if (ev_or (ev_not (ev_test ⟨_, rfl, _, rfl, _, rfl, w, a, b, rfl, hv.v, _, rfl, ?_⟩))))
  cases w with
  | tup xs =>
    unfold mNames at q
    dsimp only at q
    cases h1 : mTup (.tup xs) a b with
    | false =>
      rw [h1] at q
      exact ifT (ifT (q O Sm.refl))
    | true =>
      rw [h1] at q
      have hl : xs.length ≤ 1000 := by
        unfold mTup at h1
        dsimp only at h1
        have := of_decide_eq_true (Bool.and_eq_true_iff.mp h1).2
        omega
      refine ifF (ev_not (ev_test (ev_all (ev_lcT (f := fun w => .bl (mName w)) rfl (by omega) (fun i z hz O' hs S1 h => ⟨_, rfl, z, rfl, (hv.at_ (List.mem_of_getElem? hz)).v.mono hs, h⟩) fun O' hs hcell => ⟨_, xs.map mName, rfl, .inl ?_, _, rfl, ?_⟩))))
      · rw [hcell, List.map_map]
        rfl
      · rw [List.all_map]
        have e : (xs.all (id ∘ mName)) = xs.all mName := rfl
        rw [e]
        cases h2 : xs.all mName with
        | false =>
          rw [h2] at q
          exact ifT (q O' hs)
        | true =>
          rw [h2] at q
          have ex := tup_of h2
          refine ifF ⟨_, rfl, xs.map strOf, .inr (congrArg W.tup ex), by rw [List.length_map]; omega, _, rfl, .inl ⟨xs, rfl, decide (((nD (xs.map strOf) (xs.map strOf).length : Nat) : Int) = xs.length), rfl, ?_⟩⟩
          have e2 := nD_all (xs.map strOf)
          rw [List.length_map] at e2 ⊢
          rw [e2]
          exact q O' hs
  | _ => exact ifT (ifT (q O Sm.refl))
end Dm

set_option Elab.async false
set_option linter.all false
set_option maxRecDepth 100000
set_option maxHeartbeats 1000000
/-! categories: what its defs say. -/
namespace Dm
open PySem PySem.Spec PyProof.Rows L2
abbrev Kv := List (Key × W)
/-! ### the mirrors -/
def stepV (acc : Kv) (f : W) : Kv := match f with
  | .tup [.str n, v] => putW acc (.inr n) v
  | _ => acc
def valuesKv (fs : List W) : Kv := fs.foldl stepV []
def stepS (acc : Kv) (f : W) : Kv := match f with
  | .tup [.str n, k, l, r] => putW acc (.inr n) (.tup [k, l, r])
  | _ => acc
def sortsKv (fs : List W) : Kv := fs.foldl stepS []
def strOr (w : Option W) (f : Str) : Bool := match w with
  | some (.str g) => decide (g = f)
  | _ => false
def mStands (t : W) (f : Str) (vals vs : Kv) : Bool := match valW vals (.inr f) with
  | some (.tup xs) => mOf t xs || (mVar t && (if (valW vs (.inr (strOf t))).isSome = true then strOr (valW vs (.inr (strOf t))) f else decide (vs.length < 3)))
  | _ => false
def mNote (t : W) (f : Str) (vs : Kv) : Kv := if mVar t = true then putW vs (.inr (strOf t)) (.str f) else vs
def mTermsGo : List W → List Str → Kv → Kv → Bool × Kv
  | t :: ts, f :: fs, vals, vs => if mStands t f vals vs = true then mTermsGo ts fs vals (mNote t f vs) else (false, vs)
  | _, _, _, vs => (true, vs)
def mTerms (w : W) (fs : List Str) (vals vs : Kv) : Bool × Kv := match w with
  | .tup ts => if ts.length = fs.length then mTermsGo ts fs vals vs else (false, vs)
  | _ => (false, vs)
def mCat2 (l r : W) (lf rf : List Str) (vals vs : Kv) : Bool × Kv := if (mTerms l lf vals vs).1 = true then mTerms r rf vals (mTerms l lf vals vs).2 else (false, (mTerms l lf vals vs).2)
def mCat (w : W) (vals sorts vs : Kv) : Bool × Kv := match w with
  | .tup [s, l, r] => (if mOfD s sorts = true then (match valW sorts (.inr (strOf s)) with
    | some (.tup [_, .tup lf, .tup rf]) => mCat2 l r (lf.map strOf) (rf.map strOf) vals vs
    | _ => (false, vs)) else (false, vs))
  | _ => (false, vs)
def mCatsGo : List W → Kv → Kv → Kv → Bool
  | c :: cs, vals, sorts, vs => if (mCat c vals sorts vs).1 = true then mCatsGo cs vals sorts (mCat c vals sorts vs).2 else false
  | [], _, _, _ => true
/-- a dict of texts -/
def SV (vs : Kv) : Prop := ∀ p ∈ vs, ∃ c f, p = ((.inr c : Key), W.str f)
/-- the features' values -/
def GoodV (vals : Kv) : Prop := ∀ k v, valW vals k = some v → ∃ xs : List Str, v = .tup (xs.map W.str)
def GoodS (vals sorts : Kv) : Prop := ∀ k v, valW sorts k = some v → ∃ (kd : Str) (l r : List Str), v = .tup [.str kd, .tup (l.map W.str), .tup (r.map W.str)] ∧ ∀ f ∈ l ++ r, (valW vals (.inr f)).isSome = true
/-! ### the promises -/
def sp_values_by_feature : SpD := fun ws O S => ∃ fs : List W, ws = [.tup fs] ∧ (∀ f ∈ fs, ∃ n v, f = .tup [.str n, v]) ∧ fs.length ≤ 1000 ∧ ∀ O', Sm O O' → O'[O.length]? = some (.dct (valuesKv fs)) → S (.cell O.length) O'
def sp_sorts_by_name : SpD := fun ws O S => ∃ fs : List W, ws = [.tup fs] ∧ (∀ f ∈ fs, ∃ n k l r, f = .tup [.str n, k, l, r]) ∧ fs.length ≤ 1000 ∧ ∀ O', Sm O O' → O'[O.length]? = some (.dct (sortsKv fs)) → S (.cell O.length) O'
def sp_stands_for : SpD := fun ws O S => ∃ t f kv kx vals vs, ws = [t, .str f, .cell kv, .cell kx] ∧ Vw O t ∧ O[kv]? = some (.dct vals) ∧ O[kx]? = some (.dct vs) ∧ GoodV vals ∧ (valW vals (.inr f)).isSome = true ∧ SV vs ∧ S (.bl (mStands t f vals vs)) O
def sp_note_variable : SpD := fun ws O S => ∃ t f k vs, ws = [t, .str f, .cell k] ∧ Vw O t ∧ O[k]? = some (.dct vs) ∧ vs.length ≤ 100000 ∧ ∀ O', SmB [k] O O' → O'[k]? = some (.dct (mNote t f vs)) → S .non O'
def sp_are_terms : SpD := fun ws O S => ∃ w fs kv kx vals vs, ws = [w, .tup (fs.map W.str), .cell kv, .cell kx] ∧ Vd O w ∧ kv ≠ kx ∧ O[kv]? = some (.dct vals) ∧ O[kx]? = some (.dct vs) ∧ GoodV vals ∧ (∀ f ∈ fs, (valW vals (.inr f)).isSome = true) ∧ SV vs ∧ fs.length ≤ 1000 ∧ vs.length ≤ 30000 ∧
  ∀ O', SmB [kx] O O' → O'[kx]? = some (.dct (mTerms w fs vals vs).2) → S (.bl (mTerms w fs vals vs).1) O'
def sp_is_category : SpD := fun ws O S => ∃ w kv ks kx vals sorts vs, ws = [w, .cell kv, .cell ks, .cell kx] ∧ Vd O w ∧ kv ≠ kx ∧ ks ≠ kx ∧ O[kv]? = some (.dct vals) ∧ O[ks]? = some (.dct sorts) ∧ O[kx]? = some (.dct vs) ∧ GoodV vals ∧ GoodS vals sorts ∧ (∀ k v, valW sorts k = some v → ∀ kd l r, v = .tup [kd, .tup l, .tup r] → l.length ≤ 1000 ∧ r.length ≤ 1000) ∧ SV vs ∧ vs.length ≤ 20000 ∧
  ∀ O', SmB [kx] O O' → O'[kx]? = some (.dct (mCat w vals sorts vs).2) → S (.bl (mCat w vals sorts vs).1) O'
def sp_are_categories : SpD := fun ws O S => ∃ cs kv ks vals sorts, ws = [.tup cs, .cell kv, .cell ks] ∧ (∀ c ∈ cs, Vd O c) ∧ O[kv]? = some (.dct vals) ∧ O[ks]? = some (.dct sorts) ∧ GoodV vals ∧ GoodS vals sorts ∧ (∀ k v, valW sorts k = some v → ∀ kd l r, v = .tup [kd, .tup l, .tup r] → l.length ≤ 1000 ∧ r.length ≤ 1000) ∧ cs.length ≤ 6 ∧
  ∀ O', Sm O O' → S (.bl (mCatsGo cs vals sorts [])) O'
def d_values_by_feature : DTS := (dRet (dDc (diT (dVar 0)) (dgTup 2 (dgCons (dgName 1) (dgCons (dgName 2) dgNil))) dYes (dVar 1) (dVar 2) [1, 2]))
abbrev n_values_by_feature : List Str := ["features", "name", "values"]
def d_sorts_by_name : DTS := (dRet (dDc (diT (dVar 0)) (dgTup 4 (dgCons (dgName 1) (dgCons (dgName 2) (dgCons (dgName 3) (dgCons (dgName 4) dgNil))))) dYes (dVar 1) (dTup (dCons (dVar 2) (dCons (dVar 3) (dCons (dVar 4) dNil)))) [1, 2, 3, 4]))
abbrev n_sorts_by_name : List Str := ["sorts", "name", "kind", "left", "right"]
def d_stands_for : DTS := (dSeq (dIf (dTest (dCall sp_is_one_of (dCons (dVar 0) (dCons (dOp rdIxD (dVar 2) (dVar 1)) dNil)))) (dRet (dC (.bl true))) dNext)
    (dSeq (dIf (dNot (dTest (dCall sp_is_variable (dCons (dVar 0) dNil)))) (dRet (dC (.bl false))) dNext)
    (dSeq (dIf (dTest (dOp rdInD (dVar 0) (dVar 3))) (dRet (dOp rdEq (dOp rdIxD (dVar 3) (dVar 0)) (dVar 1))) dNext)
    (dRet (dLt (dCB rdLenD (dCons (dVar 3) dNil)) (dC (.int 3)))))))
abbrev n_stands_for : List Str := ["term", "feature", "values", "variables"]
def d_note_variable : DTS := (dIf (dTest (dCall sp_is_variable (dCons (dVar 0) dNil))) (dDput (dVar 2) (dVar 0) (dVar 1)) dNext)
abbrev n_note_variable : List Str := ["term", "feature", "variables"]
def d_are_categories : DTS := (dSeq (dSet 3 dDnew)
    (dSeq (dFor (diT (dVar 0)) (dgName 4) (dIf (dNot (dTest (dCall sp_is_category (dCons (dVar 4) (dCons (dVar 1) (dCons (dVar 2) (dCons (dVar 3) dNil))))))) (dRet (dC (.bl false))) dNext))
    (dRet (dC (.bl true)))))
abbrev n_are_categories : List Str := ["things", "values", "sorts", "variables", "thing"]
def d_is_category : DTS := (dSeq (dIf (dOr (dNot (dTest (dCall sp_is_tuple (dCons (dVar 0) (dCons (dC (.int 3)) (dCons (dC (.int 3)) dNil)))))) (dNot (dTest (dCall sp_is_one_of (dCons (dOp rdIxT (dVar 0) (dC (.int 0))) (dCons (dVar 2) dNil)))))) (dRet (dC (.bl false))) dNext)
    (dSeq (dAsg (dVar 0) (dgTup 3 (dgCons (dgName 4) (dgCons (dgName 5) (dgCons (dgName 6) dgNil)))))
    (dSeq (dAsg (dOp rdIxD (dVar 2) (dVar 4)) (dgTup 3 (dgCons (dgName 7) (dgCons (dgName 8) (dgCons (dgName 9) dgNil)))))
    (dSeq (dIf (dNot (dTest (dCall sp_are_terms (dCons (dVar 5) (dCons (dVar 8) (dCons (dVar 1) (dCons (dVar 3) dNil))))))) (dRet (dC (.bl false))) dNext)
    (dRet (dCall sp_are_terms (dCons (dVar 6) (dCons (dVar 9) (dCons (dVar 1) (dCons (dVar 3) dNil))))))))))
abbrev n_is_category : List Str := ["thing", "values", "sorts", "variables", "sort", "left", "right", "_", "left_features", "right_features"]
def d_are_terms : DTS := (dSeq (dIf (dNot (dTest (dCall sp_is_tuple (dCons (dVar 0) (dCons (dCB rdLen (dCons (dVar 1) dNil)) (dCons (dCB rdLen (dCons (dVar 1) dNil)) dNil)))))) (dRet (dC (.bl false))) dNext)
    (dSeq (dFor (diZip (dCons (dVar 0) (dCons (dVar 1) dNil))) (dgTup 2 (dgCons (dgName 4) (dgCons (dgName 5) dgNil))) (dSeq (dIf (dNot (dTest (dCall sp_stands_for (dCons (dVar 4) (dCons (dVar 5) (dCons (dVar 2) (dCons (dVar 3) dNil))))))) (dRet (dC (.bl false))) dNext)
    (dDrop (dCall sp_note_variable (dCons (dVar 4) (dCons (dVar 5) (dCons (dVar 3) dNil)))))))
    (dRet (dC (.bl true)))))
abbrev n_are_terms : List Str := ["thing", "features", "values", "variables", "term", "feature"]
/-! ### dict comprehensions, dicts -/
theorem putW_len (kvs : Kv) (k : Key) (v : W) : (putW kvs k v).length ≤ kvs.length + 1 := by
  unfold putW
  split
  · rw [List.length_map]
    omega
  · rw [List.length_append]
    exact Nat.le_refl _
theorem dc_gen {w : Wk} {O1 : Sto} {δ : DS} {zs : List W} {st : Kv → W → Kv} {key : W → Key} {val : W → W} {g : DG} {wk wv : DE} {vs : List Nat} {S : WK} (hst : ∀ acc z, z ∈ zs → st acc z = putW acc (key z) (val z)) (hat : ∀ O', Sm O1 O' → w.ok O' ∧ ∀ i, w.at_ i O' = zs[i]?) (hl : zs.length ≤ 1000)
    (hel : ∀ (i : Nat) (z : W), zs[i]? = some z → ∀ O', ∀ (S1 : W → W → Sto → Prop), (∀ y, keyW y = some (key z) → S1 y (val z) O') → g z (wipeD δ vs) O' fun δ2 O2 => wk δ2 O2 fun y O4 => wv δ2 O4 fun u O5 => S1 y u O5)
    (fin : ∀ O', Sm O1 O' → O'[O1.length]? = some (.dct (zs.foldl st [])) → S (.cell O1.length) O') :
    ∃ (n : Nat) (Pv : Nat → Sto → Prop), Pv 0 (O1 ++ [.dct []]) ∧ ∀ i O, Pv i O → i ≤ n ∧ w.ok O ∧ (match w.at_ i O with
      | none => S (.cell O1.length) O
      | some z => i < n ∧ g z (wipeD δ vs) O fun δ2 O2 => dYes δ2 O2 fun b O3 => if b = true then wk δ2 O3 fun y O4 => wv δ2 O4 fun u O5 => ∃ kvs key, keyW y = some key ∧ O5[O1.length]? = some (.dct kvs) ∧ kvs.length < sizeLine ∧ Pv (i + 1) (O5.set O1.length (.dct (putW kvs key u))) else Pv (i + 1) O3) := by
  refine ⟨zs.length, fun i O' => i ≤ zs.length ∧ Sm O1 O' ∧ ((zs.take i).foldl st []).length ≤ i ∧ O'[O1.length]? = some (.dct ((zs.take i).foldl st [])), ⟨Nat.zero_le _, Sm.push, by simp, by simp⟩, fun i O' hi => ?_⟩
  obtain ⟨hi, hs, hle, hc⟩ := hi
  obtain ⟨ok, ha⟩ := hat O' hs
  refine ⟨hi, ok, ?_⟩
  rw [ha i]
  cases hz : zs[i]? with
  | none =>
    have hn := List.getElem?_eq_none_iff.mp hz
    rw [List.take_of_length_le hn] at hc
    exact fin O' hs hc
  | some z =>
    have hlt := (List.getElem?_eq_some_iff.mp hz).1
    have et : zs.take (i + 1) = zs.take i ++ [z] := by rw [List.take_succ, hz]; rfl
    refine ⟨hlt, ?_⟩
    show g z (wipeD δ vs) O' fun δ2 O2 => wk δ2 O2 fun y O4 => wv δ2 O4 fun u O5 => _
    refine hel i z hz O' _ fun y hy => ⟨_, _, hy, hc, sz_lt (by omega), hlt, hs.set (Nat.le_refl _), ?_, ?_⟩
    · rw [et, List.foldl_append]
      show (st _ z).length ≤ i + 1
      rw [hst _ z (List.mem_of_getElem? hz)]
      exact Nat.le_trans (putW_len _ _ _) (by omega)
    · rw [List.getElem?_set_self (List.getElem?_eq_some_iff.mp hc).1, et, List.foldl_append]
      show _ = some (Cell.dct (st _ z))
      rw [hst _ z (List.mem_of_getElem? hz)]
def keyOf (f : W) : Key := match f with
  | .tup (.str n :: _) => .inr n
  | _ => .inl 0
theorem rd_values_by_feature (ws : List W) (O : Sto) (S : WK) (h : sp_values_by_feature ws O S) : d_values_by_feature (outB S) (startD n_values_by_feature ws) O := by
  obtain ⟨fs, rfl, hf, hl, fin⟩ := h
  refine ⟨_, rfl, fs, rfl, dc_gen (st := stepV) (key := keyOf) (val := fun f => match f with
    | .tup [_, v] => v
    | _ => .non) (fun acc z hz => ?_) at_tup hl (fun i z hz O' S1 h => ?_) fin⟩
  · obtain ⟨n, v, rfl⟩ := hf z hz
    rfl
  · obtain ⟨n, v, rfl⟩ := hf z (List.mem_of_getElem? hz)
    exact ⟨_, rfl, rfl, _, _, rfl, _, _, rfl, rfl, _, rfl, _, rfl, h _ rfl⟩
theorem rd_sorts_by_name (ws : List W) (O : Sto) (S : WK) (h : sp_sorts_by_name ws O S) : d_sorts_by_name (outB S) (startD n_sorts_by_name ws) O := by
  obtain ⟨fs, rfl, hf, hl, fin⟩ := h
  refine ⟨_, rfl, fs, rfl, dc_gen (st := stepS) (key := keyOf) (val := fun f => match f with
    | .tup [_, k, l, r] => .tup [k, l, r]
    | _ => .non) (fun acc z hz => ?_) at_tup hl (fun i z hz O' S1 h => ?_) fin⟩
  · obtain ⟨n, k, l, r, rfl⟩ := hf z hz
    rfl
  · obtain ⟨n, k, l, r, rfl⟩ := hf z (List.mem_of_getElem? hz)
    exact ⟨_, rfl, rfl, _, _, rfl, _, _, rfl, _, _, rfl, _, _, rfl, rfl, _, rfl, _, rfl, _, rfl, _, rfl, sz_le (by show 3 ≤ 1000000; decide), h _ rfl⟩
theorem flat_strs (xs : List Str) : (xs.map W.str).all flatW = true := by
  rw [List.all_map]
  exact List.all_eq_true.mpr fun _ _ => rfl
theorem sv_val {vs : Kv} (h : SV vs) {k : Key} {v : W} (e : valW vs k = some v) : ∃ f, v = .str f := by
  unfold valW at e
  cases q : vs.find? fun kv => decide (kv.1 = k) with
  | none => rw [q] at e; cases e
  | some p =>
    rw [q] at e
    cases e
    obtain ⟨c, f, rfl⟩ := h p (List.mem_of_find?_eq_some q)
    exact ⟨f, rfl⟩
theorem rd_stands_for (ws : List W) (O : Sto) (S : WK) (h : sp_stands_for ws O S) : d_stands_for (outB S) (startD n_stands_for ws) O := by
  obtain ⟨t, f, kv, kx, vals, vs, rfl, hv, hkv, hkx, gv, hf, sv, q⟩ := h
  obtain ⟨v, hvf⟩ := Option.isSome_iff_exists.mp hf
  obtain ⟨xs, rfl⟩ := gv _ _ hvf
  unfold mStands at q
  rw [hvf] at q
  dsimp only at q
  refine ev_guard ((ev_test ⟨_, rfl, _, rfl, _, rfl, kv, vals, _, _, rfl, hkv, rfl, hvf, t, _, rfl, hv, .inl ⟨_, rfl, flat_strs xs, _, rfl, ?_⟩⟩))
  cases h1 : mOf t (xs.map W.str) with
  | true =>
    rw [h1] at q
    exact ifT q
  | false =>
    rw [h1] at q
    refine ifF (ev_guard ((ev_not (ev_test ⟨_, rfl, t, rfl, hv, _, rfl, ?_⟩))))
    cases h2 : mVar t with
    | false =>
      rw [h2] at q
      exact ifT q
    | true =>
      rw [h2] at q
      cases t with
      | str s =>
        refine ifF (ev_guard ((ev_test ⟨_, rfl, _, rfl, kx, vs, _, rfl, hkx, rfl, _, rfl, ?_⟩)))
        cases h3 : (valW vs (.inr s)).isSome with
        | true =>
          have q2 : S (.bl (strOr (valW vs (.inr s)) f)) O := by
            have e : strOf (.str s) = s := rfl
            rw [e, h3] at q
            exact q
          obtain ⟨v, hv2⟩ := Option.isSome_iff_exists.mp h3
          obtain ⟨g, rfl⟩ := sv_val sv hv2
          rw [hv2] at q2
          exact ifT ⟨_, rfl, _, rfl, kx, vs, _, _, rfl, hkx, rfl, hv2, _, rfl, _, rfl, q2⟩
        | false =>
          have q2 : S (.bl (decide (vs.length < 3))) O := by
            have e : strOf (.str s) = s := rfl
            rw [e, h3] at q
            exact q
          refine ifF ⟨_, rfl, kx, vs, rfl, hkx, _, _, rfl, rfl, ?_⟩
          have e : decide ((vs.length : Int) < 3) = decide (vs.length < 3) := decide_eq_decide.mpr (by omega)
          show S (.bl (decide ((vs.length : Int) < 3))) O
          rw [e]
          exact q2
      | _ => cases h2
theorem rd_note_variable (ws : List W) (O : Sto) (S : WK) (h : sp_note_variable ws O S) : d_note_variable (outB S) (startD n_note_variable ws) O := by
  obtain ⟨t, f, k, vs, rfl, hv, hk, hl, fin⟩ := h
  refine ev_if (ev_test ⟨_, rfl, t, rfl, hv, _, rfl, ?_⟩)
  unfold mNote at fin
  cases h1 : mVar t with
  | true =>
    rw [h1] at fin
    cases t with
    | str s =>
      refine ifT ⟨_, rfl, _, rfl, _, rfl, k, vs, _, rfl, hk, rfl, sz_lt (by omega), fin _ (SmB.refl.set (.inl List.mem_cons_self)) ?_⟩
      rw [List.getElem?_set_self (List.getElem?_eq_some_iff.mp hk).1]
      rfl
    | _ => cases h1
  | false =>
    rw [h1] at fin
    exact ifF (fin O SmB.refl hk)
theorem note_len (t : W) (f : Str) (vs : Kv) : (mNote t f vs).length ≤ vs.length + 1 := by
  unfold mNote
  split
  · exact putW_len _ _ _
  · omega
theorem put_sv {vs : Kv} (h : SV vs) (c f : Str) : SV (putW vs (.inr c) (.str f)) := by
  unfold putW
  split
  · intro p hp
    obtain ⟨q, hq, e⟩ := List.mem_map.mp hp
    obtain ⟨c', f', rfl⟩ := h q hq
    subst e
    dsimp only
    split
    · exact ⟨_, _, rfl⟩
    · exact ⟨_, _, rfl⟩
  · intro p hp
    rcases List.mem_append.mp hp with hp | hp
    · exact h p hp
    · rw [List.mem_singleton] at hp
      exact ⟨_, _, hp⟩
theorem note_sv {vs : Kv} (h : SV vs) (t : W) (f : Str) : SV (mNote t f vs) := by
  unfold mNote
  split
  · exact put_sv h _ _
  · exact h
theorem mTup_same {w : W} {n : Nat} : mTup w n n = true ↔ ∃ ts, w = .tup ts ∧ ts.length = n := by
  cases w with
  | tup ts =>
    unfold mTup
    dsimp only
    rw [Bool.and_eq_true, decide_eq_true_iff, decide_eq_true_iff]
    constructor
    · rintro ⟨h1, h2⟩
      exact ⟨ts, rfl, by omega⟩
    · rintro ⟨ts', e, h⟩
      cases e
      omega
  | _ =>
    unfold mTup
    constructor
    · intro h
      cases h
    · rintro ⟨ts, e, _⟩
      cases e
theorem tyB {O O' : Sto} {kx : Nat} {a b : Kv} (hs : SmB [kx] O O') (ha : O[kx]? = some (.dct a)) (hb : O'[kx]? = some (.dct b)) {w : W} {t : String} (e : tyW w O = some t) : tyW w O' = some t := by
  cases w with
  | cell k =>
    unfold tyW at e ⊢
    dsimp only at e ⊢
    by_cases h : k = kx
    · subst h
      rw [ha] at e
      rw [hb]
      exact e
    · cases q : O[k]? with
      | none => rw [q] at e; cases e
      | some c => rw [hs.2 k c (by simpa using h) q]; rw [q] at e; exact e
  | _ => exact e
theorem Vw.b {O O' : Sto} {kx : Nat} {a b : Kv} {w : W} (h : Vw O w) (hs : SmB [kx] O O') (ha : O[kx]? = some (.dct a)) (hb : O'[kx]? = some (.dct b)) : Vw O' w := ⟨let ⟨t, e⟩ := h.1; ⟨t, tyB hs ha hb e⟩, h.2⟩
theorem Vd.b {O O' : Sto} {kx : Nat} {a b : Kv} {w : W} (h : Vd O w) (hs : SmB [kx] O O') (ha : O[kx]? = some (.dct a)) (hb : O'[kx]? = some (.dct b)) : Vd O' w := by
  induction h with
  | mk a' _ ih => exact .mk (a'.b hs ha hb) ih
theorem ev_call {sp : SpD} {wa : DA} {δ : DS} {O : Sto} {S : WK} (h : wa δ O fun ws O1 => sp ws O1 S) : dCall sp wa δ O S := h
theorem rd_are_terms (ws : List W) (O : Sto) (S : WK) (h : sp_are_terms ws O S) : d_are_terms (outB S) (startD n_are_terms ws) O := by
  obtain ⟨w, fs, kv, kx, vals, vs, rfl, hv, hne, hkv, hkx, gv, hf, sv, hl1, hl2, fin⟩ := h
  have hlen : (fs.map W.str).length = fs.length := List.length_map ..
  refine ev_guard (ev_not (ev_test ⟨_, rfl, _, rfl, .inl ⟨_, rfl, _, rfl, .inl ⟨_, rfl, w, _, _, rfl, hv.v, _, rfl, ?_⟩⟩⟩))
  cases h1 : mTup w ((fs.map W.str).length : Nat) ((fs.map W.str).length : Nat) with
  | false =>
    have hw : ∀ ts, w = .tup ts → ¬ ts.length = fs.length := fun ts e h => by
      rw [hlen] at h1
      have := mTup_same.mpr ⟨ts, e, h⟩
      rw [h1] at this
      cases this
    have e : mTerms w fs vals vs = (false, vs) := by
      unfold mTerms
      cases w with
      | tup ts =>
        dsimp only
        rw [if_neg (hw ts rfl)]
      | _ => rfl
    rw [e] at fin
    exact ifT (fin O SmB.refl hkx)
  | true =>
    rw [hlen] at h1
    obtain ⟨ts, rfl, hts⟩ := mTup_same.mp h1
    have e : mTerms (.tup ts) fs vals vs = mTermsGo ts fs vals vs := by
      unfold mTerms
      dsimp only
      rw [if_pos hts]
    rw [e] at fin
    refine ifF (ev_seq ⟨_, rfl, _, rfl, .inl ⟨ts, _, rfl, fs.length, fun i δ' O' => i ≤ fs.length ∧ δ'.length = 6 ∧ δ'[2]? = some (some (.cell kv)) ∧ δ'[3]? = some (some (.cell kx)) ∧ SmB [kx] O O' ∧
      ∃ vi : Kv, O'[kx]? = some (.dct vi) ∧ mTermsGo ts fs vals vs = mTermsGo (ts.drop i) (fs.drop i) vals vi ∧ SV vi ∧ vi.length ≤ vs.length + i, ⟨Nat.zero_le _, rfl, rfl, rfl, SmB.refl, vs, hkx, rfl, sv, Nat.le_refl _⟩, fun i δ' O' hi => ?_⟩⟩)
    obtain ⟨hi, hd, d2, d3, hs, vi, hvi, hgo, svi, hli⟩ := hi
    have hkv' : O'[kv]? = some (.dct vals) := hs.2 kv _ (by simpa using hne) hkv
    refine ⟨hi, True.intro, ?_⟩
    by_cases hlt : i < fs.length
    · have ht : ts[i]? = some ts[i] := List.getElem?_eq_getElem (by omega)
      have hfi : fs[i]? = some fs[i] := List.getElem?_eq_getElem hlt
      have hT : ts.drop i = ts[i] :: ts.drop (i + 1) := List.drop_eq_getElem_cons (by omega)
      have hF : fs.drop i = fs[i] :: fs.drop (i + 1) := List.drop_eq_getElem_cons hlt
      have hm : ts[i] ∈ ts := List.getElem_mem _
      have hmf : fs[i] ∈ fs := List.getElem_mem _
      generalize ts[i] = t at ht hT hm
      generalize fs[i] = f at hfi hF hmf
      have ea : (wkZT ts (fs.map W.str)).at_ i O' = some (.tup [t, .str f]) := by
        show (match ts[i]?, (fs.map W.str)[i]? with
          | some x, some y => some (W.tup [x, y])
          | _, _ => none) = _
        rw [ht, List.getElem?_map, hfi]
        rfl
      rw [ea]
      rw [hT, hF] at hgo
      have vt : Vw O' t := (hv.at_ hm).v.b hs hkx hvi
      refine ⟨hlt, _, rfl, rfl, _, _, rfl, _, _, rfl, rfl, ?_⟩
      have e4 : ((δ'.set 4 (some t)).set 5 (some (.str f)))[4]? = some (some t) := by
        rw [List.getElem?_set_ne (by decide), List.getElem?_set_self (by omega)]
      have e5 : ((δ'.set 4 (some t)).set 5 (some (.str f)))[5]? = some (some (.str f)) := by
        rw [List.getElem?_set_self (by rw [List.length_set]; omega)]
      have e2 : ((δ'.set 4 (some t)).set 5 (some (.str f)))[2]? = some (some (.cell kv)) := by
        rw [List.getElem?_set_ne (by decide), List.getElem?_set_ne (by decide)]
        exact d2
      have e3 : ((δ'.set 4 (some t)).set 5 (some (.str f)))[3]? = some (some (.cell kx)) := by
        rw [List.getElem?_set_ne (by decide), List.getElem?_set_ne (by decide)]
        exact d3
      have el : ((δ'.set 4 (some t)).set 5 (some (.str f))).length = 6 := by
        rw [List.length_set, List.length_set]
        exact hd
      generalize ((δ'.set 4 (some t)).set 5 (some (.str f))) = δ2 at e2 e3 e4 e5 el
      refine ev_guard (ev_not (ev_test ⟨_, e4, _, e5, _, e2, _, e3, t, f, kv, kx, vals, vi, rfl, vt, hkv', hvi, gv, hf f hmf, svi, _, rfl, ?_⟩))
      have hst : mTermsGo (t :: ts.drop (i + 1)) (f :: fs.drop (i + 1)) vals vi = if mStands t f vals vi = true then mTermsGo (ts.drop (i + 1)) (fs.drop (i + 1)) vals (mNote t f vi) else (false, vi) := rfl
      rw [hst] at hgo
      cases h2 : mStands t f vals vi with
      | false =>
        rw [h2, if_neg (by decide)] at hgo
        rw [hgo] at fin
        exact ifT (fin O' hs hvi)
      | true =>
        rw [h2, if_pos rfl] at hgo
        refine ifF ⟨_, e4, _, e5, _, e3, t, f, kx, vi, rfl, vt, hvi, by omega, fun O2 h3 h4 => ⟨hlt, el, e2, e3, hs.trans h3, _, h4, hgo, note_sv svi t f, ?_⟩⟩
        exact Nat.le_trans (note_len _ _ _) (by omega)
    · have ei : i = fs.length := by omega
      subst ei
      have ea : (wkZT ts (fs.map W.str)).at_ fs.length O' = none := by
        show (match ts[fs.length]?, (fs.map W.str)[fs.length]? with
          | some x, some y => some (W.tup [x, y])
          | _, _ => none) = _
        rw [List.getElem?_eq_none (by omega)]
      rw [ea]
      rw [List.drop_of_length_le (by omega), List.drop_of_length_le (Nat.le_refl _)] at hgo
      have hgo2 : mTermsGo ts fs vals vs = (true, vi) := hgo
      rw [hgo2] at fin
      exact fin O' hs hvi
theorem go_sv : ∀ (ts : List W) (fs : List Str) (vals vs : Kv), SV vs → SV (mTermsGo ts fs vals vs).2 ∧ (mTermsGo ts fs vals vs).2.length ≤ vs.length + fs.length
  | [], fs, vals, vs, h => ⟨h, by show vs.length ≤ _; omega⟩
  | t :: ts, [], vals, vs, h => ⟨h, by show vs.length ≤ _; omega⟩
  | t :: ts, f :: fs, vals, vs, h => by
    show SV (if mStands t f vals vs = true then mTermsGo ts fs vals (mNote t f vs) else (false, vs)).2 ∧ (if mStands t f vals vs = true then mTermsGo ts fs vals (mNote t f vs) else (false, vs)).2.length ≤ _
    by_cases h1 : mStands t f vals vs = true
    · rw [if_pos h1]
      obtain ⟨a, b⟩ := go_sv ts fs vals (mNote t f vs) (note_sv h t f)
      have := note_len t f vs
      exact ⟨a, by rw [List.length_cons]; omega⟩
    · rw [if_neg h1]
      exact ⟨h, by show vs.length ≤ _; omega⟩
theorem terms_sv (w : W) (fs : List Str) (vals vs : Kv) (h : SV vs) : SV (mTerms w fs vals vs).2 ∧ (mTerms w fs vals vs).2.length ≤ vs.length + fs.length := by
  unfold mTerms
  cases w with
  | tup ts =>
    dsimp only
    split
    · exact go_sv ts fs vals vs h
    · exact ⟨h, by dsimp only; omega⟩
  | _ => exact ⟨h, by dsimp only; omega⟩
theorem strs_of (l : List Str) : (l.map W.str).map strOf = l := by
  rw [List.map_map]
  conv => rhs; rw [← List.map_id l]
  rfl
theorem ev_asg {we : DE} {g : DG} {w2 : DTS} {D : DEnds} {δ : DS} {O : Sto} (h : we δ O fun w O1 => g w δ O1 (w2 D)) : dSeq (dAsg we g) w2 D δ O := h
theorem rd_is_category (ws : List W) (O : Sto) (S : WK) (h : sp_is_category ws O S) : d_is_category (outB S) (startD n_is_category ws) O := by
  obtain ⟨w, kv, ks, kx, vals, sorts, vs, rfl, hv, n1, n2, hkv, hks, hkx, gv, gs, gl, sv, hl, fin⟩ := h
  refine ev_guard (ev_or (ev_not (ev_test ⟨_, rfl, w, 3, 3, rfl, hv.v, _, rfl, ?_⟩)))
  cases h1 : mTup w 3 3 with
  | false =>
    have e : mCat w vals sorts vs = (false, vs) := by
      unfold mCat
      split
      · rename_i s l r
        have z : mTup (.tup [s, l, r]) 3 3 = true := rfl
        rw [z] at h1
        cases h1
      · rfl
    rw [e] at fin
    exact ifT (ifT (fin O SmB.refl hkx))
  | true =>
    obtain ⟨ts, rfl, hts⟩ := (mTup_same (n := 3)).mp h1
    obtain ⟨s, l, r, rfl⟩ : ∃ s l r, ts = [s, l, r] := by
      match ts, hts with
      | [s, l, r], _ => exact ⟨s, l, r, rfl⟩
    have vS := hv.at_ (x := s) (by simp)
    have vL := hv.at_ (x := l) (by simp)
    have vR := hv.at_ (x := r) (by simp)
    refine ifF ⟨_, rfl, [s, l, r], 0, s, rfl, rfl, rfl, _, rfl, s, _, rfl, vS.v, .inr ⟨ks, sorts, rfl, hks, _, rfl, ?_⟩⟩
    cases h2 : mOfD s sorts with
    | false =>
      have e : mCat (.tup [s, l, r]) vals sorts vs = (false, vs) := by
        unfold mCat
        dsimp only
        rw [h2]
        rfl
      rw [e] at fin
      exact ifT (fin O SmB.refl hkx)
    | true =>
      cases s with
      | str n =>
        have h3 : (valW sorts (.inr n)).isSome = true := h2
        obtain ⟨v, hvn⟩ := Option.isSome_iff_exists.mp h3
        obtain ⟨kd, lf, rf, rfl, hf⟩ := gs _ _ hvn
        obtain ⟨ll, lr⟩ := gl _ _ hvn _ _ _ rfl
        rw [List.length_map] at ll lr
        have e : mCat (.tup [.str n, l, r]) vals sorts vs = mCat2 l r lf rf vals vs := by
          unfold mCat
          dsimp only
          rw [h2, if_pos rfl]
          show (match valW sorts (.inr n) with
            | some (.tup [_, .tup lf, .tup rf]) => mCat2 l r (lf.map strOf) (rf.map strOf) vals vs
            | _ => (false, vs)) = _
          rw [hvn]
          dsimp only
          rw [strs_of, strs_of]
        rw [e] at fin
        obtain ⟨s1, l1⟩ := terms_sv l lf vals vs sv
        refine ifF (ev_asg ⟨_, rfl, _, rfl, rfl, _, _, rfl, _, _, rfl, _, _, rfl, rfl, ev_asg ⟨_, rfl, _, rfl, ks, sorts, _, _, rfl, hks, rfl, hvn, _, rfl, rfl, _, _, rfl, _, _, rfl, _, _, rfl, rfl, ?_⟩⟩)
        refine ev_guard (ev_not (ev_test ⟨_, rfl, _, rfl, _, rfl, _, rfl, l, lf, kv, kx, vals, vs, rfl, vL, n1, hkv, hkx, gv, fun f hm => hf f (List.mem_append_left _ hm), sv, ll, by omega, fun O2 hs2 hx2 => ⟨_, rfl, ?_⟩⟩))
        unfold mCat2 at fin
        cases h4 : (mTerms l lf vals vs).1 with
        | false =>
          rw [h4] at fin
          exact ifT (fin O2 hs2 hx2)
        | true =>
          rw [h4] at fin
          refine ifF ⟨_, rfl, _, rfl, _, rfl, _, rfl, r, rf, kv, kx, vals, _, rfl, vR.b hs2 hkx hx2, n1, hs2.2 kv _ (by simpa using n1) hkv, hx2, gv, fun f hm => hf f (List.mem_append_right _ hm), s1, lr, by omega, fun O3 hs3 hx3 => fin O3 (hs2.trans hs3) hx3⟩
      | _ => cases h2
theorem cat_sv (w : W) (vals sorts vs : Kv) (h : SV vs) (gl : ∀ k v, valW sorts k = some v → ∀ kd l r, v = .tup [kd, .tup l, .tup r] → l.length ≤ 1000 ∧ r.length ≤ 1000) : SV (mCat w vals sorts vs).2 ∧ (mCat w vals sorts vs).2.length ≤ vs.length + 2000 := by
  have keep : SV ((false, vs) : Bool × Kv).2 ∧ ((false, vs) : Bool × Kv).2.length ≤ vs.length + 2000 := ⟨h, by dsimp only; omega⟩
  unfold mCat
  split
  · rename_i s l r
    split
    · split
      · rename_i kd lf rf hq
        obtain ⟨ll, lr⟩ := gl _ _ hq _ _ _ rfl
        unfold mCat2
        obtain ⟨a, b⟩ := terms_sv l (lf.map strOf) vals vs h
        rw [List.length_map] at b
        split
        · obtain ⟨c, d⟩ := terms_sv r (rf.map strOf) vals _ a
          rw [List.length_map] at d
          exact ⟨c, by omega⟩
        · exact ⟨a, by dsimp only; omega⟩
      · exact keep
    · exact keep
  · exact keep
theorem rd_are_categories (ws : List W) (O : Sto) (S : WK) (h : sp_are_categories ws O S) : d_are_categories (outB S) (startD n_are_categories ws) O := by
  obtain ⟨cs, kv, ks, vals, sorts, rfl, hc, hkv, hks, gv, gs, gl, hl, fin⟩ := h
  have lv : kv < O.length := (List.getElem?_eq_some_iff.mp hkv).1
  have ls : ks < O.length := (List.getElem?_eq_some_iff.mp hks).1
  have hS : Sm O (O ++ [Cell.dct []]) := Sm.push
  have ne1 : kv ≠ O.length := by omega
  have ne2 : ks ≠ O.length := by omega
  refine ev_seq (show dSet 3 dDnew _ _ _ from ?_)
  refine (show dSeq (dFor (diT (dVar 0)) (dgName 4) (dIf (dNot (dTest (dCall sp_is_category (dCons (dVar 4) (dCons (dVar 1) (dCons (dVar 2) (dCons (dVar 3) dNil))))))) (dRet (dC (.bl false))) dNext)) (dRet (dC (.bl true))) (outB S) ((startD n_are_categories [.tup cs, .cell kv, .cell ks]).set 3 (some (.cell O.length))) (O ++ [Cell.dct []]) from ?_)
  refine ⟨_, rfl, cs, rfl, cs.length, fun i δ' O' => i ≤ cs.length ∧ δ'.length = 5 ∧ δ'[1]? = some (some (.cell kv)) ∧ δ'[2]? = some (some (.cell ks)) ∧ δ'[3]? = some (some (.cell O.length)) ∧ Sm O O' ∧
    ∃ vi : Kv, O'[O.length]? = some (.dct vi) ∧ mCatsGo cs vals sorts [] = mCatsGo (cs.drop i) vals sorts vi ∧ SV vi ∧ vi.length ≤ 2000 * i, ⟨Nat.zero_le _, rfl, rfl, rfl, rfl, hS, [], push_at, rfl, (fun p hp => nomatch hp), by simp⟩, fun i δ' O' hi => ?_⟩
  obtain ⟨hi, hd, d1, d2, d3, hs, vi, hvi, hgo, svi, hli⟩ := hi
  refine ⟨hi, True.intro, ?_⟩
  by_cases hlt : i < cs.length
  · have ht : cs[i]? = some cs[i] := List.getElem?_eq_getElem hlt
    have hT : cs.drop i = cs[i] :: cs.drop (i + 1) := List.drop_eq_getElem_cons hlt
    have hm : cs[i] ∈ cs := List.getElem_mem _
    generalize cs[i] = c at ht hT hm
    have ea : (wkT cs).at_ i O' = some c := ht
    rw [ea]
    rw [hT] at hgo
    have el : (δ'.set 4 (some c)).length = 5 := by rw [List.length_set]; exact hd
    have e4 : (δ'.set 4 (some c))[4]? = some (some c) := by rw [List.getElem?_set_self (by omega)]
    have e1 : (δ'.set 4 (some c))[1]? = some (some (.cell kv)) := by rw [List.getElem?_set_ne (by decide)]; exact d1
    have e2 : (δ'.set 4 (some c))[2]? = some (some (.cell ks)) := by rw [List.getElem?_set_ne (by decide)]; exact d2
    have e3 : (δ'.set 4 (some c))[3]? = some (some (.cell O.length)) := by rw [List.getElem?_set_ne (by decide)]; exact d3
    refine ⟨hlt, ?_⟩
    show dIf _ _ _ _ (δ'.set 4 (some c)) O'
    generalize (δ'.set 4 (some c)) = δ2 at e1 e2 e3 e4 el
    obtain ⟨s2, l2⟩ := cat_sv c vals sorts vi svi gl
    refine ev_if (ev_not (ev_test ⟨_, e4, _, e1, _, e2, _, e3, c, kv, ks, O.length, vals, sorts, vi, rfl, (hc c hm).mono hs, ne1, ne2, hs _ _ hkv, hs _ _ hks, hvi, gv, gs, gl, svi, by omega, fun O2 hs2 hx2 => ⟨_, rfl, ?_⟩⟩))
    have hst : mCatsGo (c :: cs.drop (i + 1)) vals sorts vi = if (mCat c vals sorts vi).1 = true then mCatsGo (cs.drop (i + 1)) vals sorts (mCat c vals sorts vi).2 else false := rfl
    rw [hst] at hgo
    have hs3 : Sm O O2 := fun j d e => by
      have hj := (List.getElem?_eq_some_iff.mp e).1
      exact hs2.2 j d (by simp only [List.mem_singleton]; omega) (hs j d e)
    cases h4 : (mCat c vals sorts vi).1 with
    | false =>
      rw [h4] at hgo
      rw [hgo] at fin
      exact ifT (fin O2 hs3)
    | true =>
      rw [h4, if_pos rfl] at hgo
      exact ifF ⟨hlt, el, e1, e2, e3, hs3, _, hx2, hgo, s2, by omega⟩
  · have ei : i = cs.length := by omega
    subst ei
    have ea : (wkT cs).at_ cs.length O' = none := List.getElem?_eq_none (Nat.le_refl _)
    rw [ea]
    rw [List.drop_of_length_le (Nat.le_refl _)] at hgo
    rw [hgo] at fin
    exact fin O' hs
end Dm

set_option Elab.async false
set_option linter.all false
set_option maxRecDepth 100000
set_option maxHeartbeats 4000000
/-! The data machine: is None, tuples of the module, len(set(ints)). -/
namespace Dm
open PySem PySem.Spec PyProof.Rows L2
def isN : W → Bool
  | .non => true
  | _ => false
def dIsN (we : DE) : DE := fun δ O S => we δ O fun x O1 => S (.bl (isN x)) O1
/-- a name of the module that is a tuple -/
def GTup (K : PySem.W.Frag) (mg : Str → Option Value) (x : Str) (ws : List W) : Prop := ∃ (a : Addr) (vs : List V), mg x = some (.ref a) ∧ (∀ F, SqT K F a vs) ∧ ∀ F θ, RWs K F θ vs ws
section
variable {X : Cx} {a e : Expr} {wa we : DE} {pos : Pos}
theorem isN_rel {K : PySem.W.Frag} {F : Hp} {θ : List Addr} {v : V} {x : W} (r : RW K F θ v x) : decide (v = .non) = isN x := by cases r <;> rfl
theorem SE.isN {K : PySem.W.Frag} {ta : TE} (s : SE K ta wa) : SE K (tIsN ta) (dIsN wa) := fun F H θ O σ δ S j s' q Q k => by
  refine s F H θ O σ δ _ j s' q _ fun v x F1 H1 θ1 O1 g1 j1 r1 q1 => ?_
  rw [isN_rel r1]
  exact k _ _ F1 H1 θ1 O1 g1 j1 (.bl _) q1
theorem ed_isN {j pos'} (h : ED X a wa) : ED X (.Compare a [.Is] [.Constant .none j pos'] pos) (dIsN wa) := by
  obtain ⟨t, p, s⟩ := h.ex
  exact ⟨_, pe_cmp (pc_isN p), s.isN⟩
theorem et_isN {j pos'} (h : ED X a wa) : EDT X (.Compare a [.Is] [.Constant .none j pos'] pos) (dTest (dIsN wa)) := by
  obtain ⟨t, p, s⟩ := h.ex
  exact ⟨_, pt_cmp (pc_isN p), .test s.isN⟩
theorem ed_gtup {x : Str} {ws : List W} (hg : Gl X x) (g : GTup X.K X.mg x ws) (hd : (x == ("__debug__" : Str)) = false := by decide) : ED X (.Name x pos) (dC (.tup ws)) := by
  obtain ⟨a, vs, hm, hq, hr⟩ := g
  exact ⟨_, pe_glob (v := .ref a) hg hm rfl hd, SE.pure fun F θ => .tup (hq F) (hr F θ)⟩
/-- how many unlike ints -/
def nI (ns : List Int) : Nat := (PyProof.Rows.firstMet (fun i => ns.getD i 0) ns.length).length
def dLenSetI (wa : DE) : DE := fun δ O S => wa δ O fun x O1 => ∃ (k : Nat) (ns : List Int), x = .cell k ∧ LstC O1 k (ns.map W.int) ∧ ns.length ≤ 4000 ∧ S (.int (nI ns : Nat)) O1
def tLenI (K : PySem.W.Frag) (ta : TE) : TE := fun σ H Q => ta σ H fun x H1 => ∃ (l : Addr) (ns : List Int), x = .ref l ∧ SqL K H1 l (ns.map V.int) ∧ ns.length ≤ 4000 ∧ Q (.int (nI ns : Nat)) H1
theorem firstMet_le (f : Nat → Int) : ∀ n, (PyProof.Rows.firstMet f n).length ≤ n
  | 0 => Nat.le_refl _
  | n + 1 => by
    rw [PyProof.Rows.firstMet_succ]; unfold PyProof.Rows.step_dedup
    have h := firstMet_le f n
    split
    · omega
    · rw [List.length_append]
      show _ + 1 ≤ _
      omega
theorem firstMet_mem (f : Nat → Int) (x : Int) : ∀ n, x ∈ PyProof.Rows.firstMet f n ↔ ∃ i, i < n ∧ f i = x
  | 0 => ⟨(fun h => nomatch h), fun ⟨i, h, _⟩ => absurd h (Nat.not_lt_zero i)⟩
  | n + 1 => by
    rw [PyProof.Rows.firstMet_succ]; unfold PyProof.Rows.step_dedup
    have ih := firstMet_mem f x n
    split
    · rename_i h
      rw [ih]
      constructor
      · rintro ⟨i, hi, e⟩
        exact ⟨i, by omega, e⟩
      · rintro ⟨i, hi, e⟩
        by_cases q : i < n
        · exact ⟨i, q, e⟩
        · have : i = n := by omega
          subst this
          obtain ⟨y, hy, ey⟩ := List.any_eq_true.mp h
          have ey2 : y = f i := eq_of_beq ey
          rw [ey2, e] at hy
          exact ih.mp hy
    · rw [List.mem_append, ih, List.mem_singleton]
      constructor
      · rintro (⟨i, hi, e⟩ | e)
        · exact ⟨i, by omega, e⟩
        · exact ⟨n, Nat.lt_succ_self n, e.symm⟩
      · rintro ⟨i, hi, e⟩
        by_cases q : i < n
        · exact .inl ⟨i, q, e⟩
        · have : i = n := by omega
          subst this
          exact .inr e.symm
theorem nI_all (ns : List Int) : decide (((nI ns : Nat) : Int) = ns.length) = decide ns.Nodup := by
  have key : ∀ n, n ≤ ns.length → ((PyProof.Rows.firstMet (fun i => ns.getD i 0) n).length = n ↔ (ns.take n).Nodup) := by
    intro n
    induction n with
    | zero => intro _; exact ⟨fun _ => by simp, fun _ => rfl⟩
    | succ n ih =>
      intro hn
      have hlt : n < ns.length := hn
      have ih := ih (by omega)
      have hle := firstMet_le (fun i => ns.getD i 0) n
      have ed : ns.getD n 0 = ns[n] := by simp [List.getD, hlt]
      rw [PyProof.Rows.firstMet_succ, List.take_succ, List.getElem?_eq_getElem hlt]; unfold PyProof.Rows.step_dedup
      show _ ↔ (ns.take n ++ [ns[n]]).Nodup
      have hmem : ns.getD n 0 ∈ PyProof.Rows.firstMet (fun i => ns.getD i 0) n ↔ ns[n] ∈ ns.take n := by
        rw [firstMet_mem, ed]
        constructor
        · rintro ⟨i, hi, e⟩
          have : ns.getD i 0 = ns[i] := by simp [List.getD, show i < ns.length by omega]
          rw [← e, this]
          exact List.mem_take_iff_getElem.mpr ⟨i, by omega, rfl⟩
        · intro h
          obtain ⟨i, hi, e⟩ := List.mem_take_iff_getElem.mp h
          refine ⟨i, by omega, ?_⟩
          rw [← e]
          simp [List.getD, show i < ns.length by omega]
      rw [List.nodup_append]
      split
      · rename_i h
        obtain ⟨y, hy, ey⟩ := List.any_eq_true.mp h
        have ey2 : y = ns.getD n 0 := eq_of_beq ey
        rw [ey2] at hy
        have hin := hmem.mp hy
        constructor
        · intro q
          omega
        · rintro ⟨_, _, q⟩
          exact absurd rfl (q _ hin _ List.mem_cons_self)
      · rename_i h
        have hno : ns[n] ∉ ns.take n := fun z => h (List.any_eq_true.mpr ⟨_, hmem.mpr z, by simp⟩)
        rw [List.length_append]
        constructor
        · intro q
          have q2 : (PyProof.Rows.firstMet (fun i => ns.getD i 0) n).length = n := by
            have : ([ns.getD n 0] : List Int).length = 1 := rfl
            omega
          refine ⟨ih.mp q2, by simp, fun x hx y hy e => ?_⟩
          rw [List.mem_singleton] at hy
          subst hy
          subst e
          exact hno hx
        · rintro ⟨q, _, _⟩
          rw [ih.mpr q]
          rfl
  have k2 := key ns.length (Nat.le_refl _)
  rw [List.take_length] at k2
  unfold nI
  refine decide_eq_decide.mpr ?_
  rw [← k2]
  omega
theorem pe_lenI {a : Expr} {ta : TE} {p p2 q pos : Pos} (hc : X.calm = true) (hg : Gl X "len") (hm : X.mg "len" = none) (hg2 : Gl X "set") (hm2 : X.mg "set" = none) (ha : PE X a ta)
    (na : starEach [a] X.env = (false, eval a X.env) :: starEach [] X.env := by rfl) : PE X (.Call (.Name "len" p) [.Call (.Name "set" p2) [a] [] q] [] pos) (tLenI X.K ta) := by
  refine ⟨fun pins s σ H Q I h => Call_ (ld_blt I hg hm boot_len ?_)⟩
  refine PyProof.Rows.callWith_builtin1 (PyProof.Rows.args_cons (Call_ (ld_blt I hg2 hm2 boot_set ?_)) rfl) rfl rfl
  refine PyProof.Rows.callWith_type1 (PyProof.Rows.args_cons (thn (ha.run pins s σ H _ I h) fun v s1 ⟨x, H1, I1, r1, q1⟩ => PyProof.Rows.args_nil ?_) na) na rfl
  obtain ⟨l, ns, rfl, hq, hl, q1⟩ := q1
  cases r1
  obtain ⟨its, r, pl, hz⟩ := I1.list hq
  have en : its.toArray.size = ns.length := by rw [List.size_toArray, ← r.length, List.length_map]
  refine call_set_list (I1.ok.hd hc) pl.isList (by simpa using RZ.intsAre_vals r) (by rw [en]; unfold scanBound; omega) fun h' tk hS hk => PyProof.Rows.args_nil ?_
  rw [en] at hS
  obtain ⟨o, es, ep, t, ho, hex, hd, _, _, _, hf, hn⟩ := hS
  have I2 : Inv X pins σ H1 { s1 with heap := h', toks := tk } := I1.kept fun b o e => hk b o (Heap.lt_size e) e
  have hb := firstMet_le (fun i => ns.getD i 0) ns.length
  exact call_len_set ho hex hd hf (by rw [hn]; omega) ⟨.int (nI ns : Nat), H1, I2.tok _, ⟨_, by rw [hn]; rfl⟩, q1⟩
theorem ed_lenSetI {p p2 q pos : Pos} (hc : X.calm = true) (hg : Gl X "len") (hm : X.mg "len" = none) (hg2 : Gl X "set") (hm2 : X.mg "set" = none) (ha : ED X a wa)
    (na : starEach [a] X.env = (false, eval a X.env) :: starEach [] X.env := by rfl) : ED X (.Call (.Name "len" p) [.Call (.Name "set" p2) [a] [] q] [] pos) (dLenSetI wa) := by
  obtain ⟨t0, p0, s0⟩ := ha.ex
  refine ⟨_, pe_lenI hc hg hm hg2 hm2 p0 na, fun F H θ O σ δ S j s q Q k => ?_⟩
  refine s0 F H θ O σ δ _ j s q _ fun v x F1 H1 θ1 O1 g1 j1 r1 q1 => ?_
  obtain ⟨c, ns, rfl, hc', hl, q1⟩ := q1
  obtain ⟨p, rfl, hp⟩ := r1.cell_inv
  obtain ⟨xs, hx, rr⟩ := j1.lstC hp hc'
  exact ⟨p, ns, rfl, by rw [← ints_rel rr]; exact hx, hl, k _ _ F1 H1 θ1 O1 g1 j1 (.int _) q1⟩
/-- PARTS.get((kind, word)): the table's rows -/
def dParts (tab : List ((Str × Str) × List Str)) (wa : DA) : DE := fun δ O S => wa δ O fun ws O1 => ∃ k x, ws = [.str k, .str x] ∧ S (match tab.lookup (k, x) with
  | some ps => .tup (ps.map W.str)
  | none => .non) O1
end
end Dm

set_option Elab.async false
set_option linter.all false
set_option maxRecDepth 100000
set_option maxHeartbeats 1000000
/-! terms: what its defs say. -/
namespace Dm
open PySem PySem.Spec PyProof.Rows L2
/-- the parts that a term's word wants, by the kind that is wanted -/
def partsTab : List ((Str × Str) × List Str) := [(("set", "none"), []), (("set", "mark"), []), (("set", "not"), ["set"]), (("set", "both"), ["set", "set"]), (("set", "either"), ["set", "set"]), (("part", "all"), ["set"]), (("part", "some"), ["set"]), (("part", "no"), ["set"]), (("part", "more"), ["set"]), (("part", "and"), ["part", "part"]), (("part", "or"), ["part", "part"]), (("truth", "is"), ["part", "set"]), (("truth", "and"), ["truth", "truth"]), (("truth", "or"), ["truth", "truth"]), (("truth", "deny"), ["truth"])]
def partsOf (k x : Str) : Option (List Str) := partsTab.lookup (k, x)
abbrev kindsW : List W := [.str "set", .str "part", .str "truth"]
def mHole (w : W) (kd : Str) (hk : List Str) : Bool := match w with
  | .int i => decide (0 ≤ i) && (decide (i < (hk.length : Int)) && (match hk[i.toNat]? with
    | some g => decide (g = kd)
    | none => false))
  | _ => false
def mMark (rest : List W) (mk : List Str) : Bool := match rest with
  | [h] => mOf h (mk.map W.str)
  | _ => false
def mHole1 (rest : List W) (kd : Str) (hk : List Str) : Bool := match rest with
  | [h] => mHole h kd hk
  | _ => false
def mNode2 (x : Str) (rest : List W) (kd : Str) (mk hk : List Str) : Bool := if x = "hole" then mHole1 rest kd hk else (match partsOf kd x with
    | none => false
    | some ps => if x = "mark" then mMark rest mk else decide (rest.length = ps.length))
def mNode (w : W) (kd : Str) (mk hk : List Str) : Bool := match w with
  | .tup (.str x :: rest) => mNode2 x rest kd mk hk
  | _ => false
/-- what is still to be looked at: a thing, the kind that is wanted, how deep it lies -/
abbrev Stk := List (W × Str × Int)
def tailsOf (w : W) (kd : Str) (d : Int) : Stk := match w with
  | .tup (.str x :: rest) => (match partsOf kd x with
    | some ps => (rest.zip ps).map fun p => (p.1, p.2, d + 1)
    | none => [])
  | _ => []
def holeOf (w : W) : Option Int := match w with
  | .tup [.str x, .int i] => if x = "hole" then some i else none
  | _ => none
def mLoop (mk hk : List Str) (dp : Int) : Nat → Stk → List Int → Option (List Int)
  | n, st, hs => match st.getLast? with
    | none => some hs
    | some (t, kd, d) => match n with
      | 0 => none
      | n + 1 => if (decide (d ≤ dp) && mNode t kd mk hk) = true then (match holeOf t with
          | some i => mLoop mk hk dp n st.dropLast (hs ++ [i])
          | none => mLoop mk hk dp n (st.dropLast ++ tailsOf t kd d) hs) else none
def ndO : Option (List Int) → Bool
  | some hs => decide hs.Nodup
  | none => false
def mTerm (w : W) (kd : Str) (mk hk : List Str) (mo : Nat) (dp : Int) : Bool := ndO (mLoop mk hk dp mo [(w, kd, 1)] [])
def mMean (w : W) (kd : Str) (mk hk : List Str) : Bool := mTerm w kd mk hk 12 5
def mClosed (w : W) (kd : Str) (mk : List Str) : Bool := mTerm w kd mk [] 300 80
/-- the kinds of the holes: a list, or nothing at all -/
def HkW (O : Sto) (x : W) (hk : List Str) : Prop := (∃ k, x = .cell k ∧ LstC O k (hk.map W.str)) ∨ (x = .tup [] ∧ hk = [])
theorem HkW.sm {O O' : Sto} {x : W} {hk : List Str} (h : HkW O x hk) (s : Sm O O') : HkW O' x hk := h.elim (fun ⟨k, e, c⟩ => .inl ⟨k, e, s.lstC c⟩) .inr
def sp_is_kind : SpD := fun ws O S => ∃ w, ws = [w] ∧ Vw O w ∧ S (.bl (mOf w kindsW)) O
def sp_parts_of : SpD := fun ws O S => ∃ k x, ws = [.str k, .str x] ∧ S (match partsOf k x with
  | some ps => .tup (ps.map W.str)
  | none => .non) O
def sp_is_hole : SpD := fun ws O S => ∃ w kd x hk, ws = [w, .str kd, x] ∧ Vw O w ∧ HkW O x hk ∧ S (.bl (mHole w kd hk)) O
def sp_is_node : SpD := fun ws O S => ∃ w kd mk x hk, ws = [w, .str kd, .tup (mk.map W.str), x] ∧ Vd O w ∧ HkW O x hk ∧ S (.bl (mNode w kd mk hk)) O
def sp_is_term : SpD := fun ws O S => ∃ w kd mk x hk, ∃ (mo : Nat) (dp : Int), ws = [w, .str kd, .tup (mk.map W.str), x, .int (mo : Int), .int dp] ∧ Vd O w ∧ HkW O x hk ∧ mo ≤ 1000 ∧ ∀ O', Sm O O' → S (.bl (mTerm w kd mk hk mo dp)) O'
def sp_is_meaning : SpD := fun ws O S => ∃ w kd mk k hk, ws = [w, .str kd, .tup (mk.map W.str), .cell k] ∧ Vd O w ∧ LstC O k (hk.map W.str) ∧ ∀ O', Sm O O' → S (.bl (mMean w kd mk hk)) O'
def sp_is_closed_term : SpD := fun ws O S => ∃ w kd mk, ws = [w, .str kd, .tup (mk.map W.str)] ∧ Vd O w ∧ ∀ O', Sm O O' → S (.bl (mClosed w kd mk)) O'
def d_is_kind : DTS := (dRet (dCall sp_is_one_of (dCons (dVar 0) (dCons (dC (.tup [.str "set", .str "part", .str "truth"])) dNil))))
abbrev n_is_kind : List Str := ["thing"]
def d_parts_of : DTS := (dRet (dParts partsTab (dCons (dVar 0) (dCons (dVar 1) dNil))))
abbrev n_parts_of : List Str := ["kind", "word"]
def d_is_hole : DTS := (dRet (dAndV (dCall sp_is_integer (dCons (dVar 0) dNil)) (dAndV (dChain cle clt (dC (.int 0)) (dVar 0) (dCB rdLen (dCons (dVar 2) dNil))) (dOp rdEq (dOp rdIxL (dVar 2) (dVar 0)) (dVar 1)))))
abbrev n_is_hole : List Str := ["thing", "kind", "hole_kinds"]
def d_is_node : DTS := (dSeq (dIf (dOr (dNot (dTest (dCB rdIsi (dCons (dVar 0) (dCons (dC (.ty "tuple")) dNil))))) (dOr (dTest (dOp rdEq (dCB rdLen (dCons (dVar 0) dNil)) (dC (.int 0)))) (dNot (dTest (dCB rdIsi (dCons (dOp rdIxT (dVar 0) (dC (.int 0))) (dCons (dC (.ty "str")) dNil))))))) (dRet (dC (.bl false))) dNext)
    (dSeq (dIf (dTest (dOp rdEq (dOp rdIxT (dVar 0) (dC (.int 0))) (dC (.str "hole")))) (dRet (dAndV (dOp rdEq (dCB rdLen (dCons (dVar 0) dNil)) (dC (.int 2))) (dCall sp_is_hole (dCons (dOp rdIxT (dVar 0) (dC (.int 1))) (dCons (dVar 1) (dCons (dVar 3) dNil)))))) dNext)
    (dSeq (dSet 4 (dCall sp_parts_of (dCons (dVar 1) (dCons (dOp rdIxT (dVar 0) (dC (.int 0))) dNil))))
    (dSeq (dIf (dTest (dIsN (dVar 4))) (dRet (dC (.bl false))) dNext)
    (dSeq (dIf (dTest (dOp rdEq (dOp rdIxT (dVar 0) (dC (.int 0))) (dC (.str "mark")))) (dRet (dAndV (dOp rdEq (dCB rdLen (dCons (dVar 0) dNil)) (dC (.int 2))) (dCall sp_is_one_of (dCons (dOp rdIxT (dVar 0) (dC (.int 1))) (dCons (dVar 2) dNil))))) dNext)
    (dRet (dOp rdEq (dCB rdLen (dCons (dVar 0) dNil)) (dAdd (dC (.int 1)) (dCB rdLen (dCons (dVar 4) dNil))))))))))
abbrev n_is_node : List Str := ["thing", "kind", "marks", "hole_kinds", "parts"]
def d_is_term : DTS := (dSeq (dSet 6 (dLst (dCons (dTup (dCons (dVar 0) (dCons (dVar 1) (dCons (dC (.int 1)) dNil)))) dNil)))
    (dSeq (dSet 7 (dC (.int 0)))
    (dSeq (dSet 8 (dLst dNil))
    (dSeq (dWhile (dTru (dVar 6)) (dSeq (dAsg (dBM0 okL rdPop (dVar 6)) (dgTup 3 (dgCons (dgName 9) (dgCons (dgName 10) (dgCons (dgName 11) dgNil)))))
    (dSeq (dAug 7 (dC (.int 1)) fun n m => n + m)
    (dSeq (dIf (dOr (dTest (dGt (dVar 7) (dVar 4))) (dOr (dTest (dGt (dVar 11) (dVar 5))) (dNot (dTest (dCall sp_is_node (dCons (dVar 9) (dCons (dVar 10) (dCons (dVar 2) (dCons (dVar 3) dNil))))))))) (dRet (dC (.bl false))) dNext)
    (dIf (dTest (dOp rdEq (dOp rdIxT (dVar 9) (dC (.int 0))) (dC (.str "hole")))) (dDrop (dBM okL rdAppend (dVar 8) (dCons (dOp rdIxT (dVar 9) (dC (.int 1))) dNil))) (dSeq (dSet 12 (dCall sp_parts_of (dCons (dVar 10) (dCons (dOp rdIxT (dVar 9) (dC (.int 0))) dNil))))
    (dDrop (dBM okL rdExtend (dVar 6) (dCons (dLc (diZip (dCons (dSlT (dVar 9) (dPart (dC (.int 1))) dNoPart) (dCons (dVar 12) dNil))) (dgTup 2 (dgCons (dgName 13) (dgCons (dgName 14) dgNil))) dYes (dTup (dCons (dVar 13) (dCons (dVar 14) (dCons (dAdd (dVar 11) (dC (.int 1))) dNil)))) [13, 14]) dNil)))))))))
    (dRet (dOp rdEq (dLenSetI (dVar 8)) (dCB rdLen (dCons (dVar 8) dNil))))))))
abbrev n_is_term : List Str := ["thing", "kind", "marks", "hole_kinds", "most", "deepest", "waiting", "seen", "holes", "term", "wanted", "depth", "inner", "part", "part_kind"]
def d_is_meaning : DTS := (dRet (dCall sp_is_term (dCons (dVar 0) (dCons (dVar 1) (dCons (dVar 2) (dCons (dVar 3) (dCons (dC (.int 12)) (dCons (dC (.int 5)) dNil))))))))
abbrev n_is_meaning : List Str := ["thing", "kind", "marks", "hole_kinds"]
def d_is_closed_term : DTS := (dRet (dCall sp_is_term (dCons (dVar 0) (dCons (dVar 1) (dCons (dVar 2) (dCons (dTup dNil) (dCons (dC (.int 300)) (dCons (dC (.int 80)) dNil))))))))
abbrev n_is_closed_term : List Str := ["thing", "kind", "marks"]
theorem rd_is_kind (ws : List W) (O : Sto) (S : WK) (h : sp_is_kind ws O S) : d_is_kind (outB S) (startD n_is_kind ws) O := by
  obtain ⟨w, rfl, hv, q⟩ := h
  exact ⟨_, rfl, w, _, rfl, hv, .inl ⟨_, rfl, rfl, q⟩⟩
theorem rd_parts_of (ws : List W) (O : Sto) (S : WK) (h : sp_parts_of ws O S) : d_parts_of (outB S) (startD n_parts_of ws) O := by
  obtain ⟨k, x, rfl, q⟩ := h
  exact ⟨_, rfl, _, rfl, k, x, rfl, q⟩
theorem rd_is_hole (ws : List W) (O : Sto) (S : WK) (h : sp_is_hole ws O S) : d_is_hole (outB S) (startD n_is_hole ws) O := by
  obtain ⟨w, kd, x, hk, rfl, hv, hc, q⟩ := h
  refine ev_ret (ev_and ⟨_, rfl, w, rfl, hv, _, rfl, ?_⟩)
  rcases hc with ⟨k, rfl, hc⟩ | ⟨rfl, rfl⟩
  case inr =>
    cases w with
    | int i =>
      unfold mHole at q
      dsimp only at q
      refine ifT ⟨_, rfl, _, _, rfl, rfl, _, rfl, ?_⟩
      by_cases h1 : 0 ≤ i
      · rw [decide_eq_true h1] at q ⊢
        refine ifT ⟨_, rfl, .inl ⟨_, rfl, _, _, rfl, rfl, _, rfl, ?_⟩⟩
        rw [decide_eq_false (show ¬ i < (([] : List Str).length : Int) by simp; omega)] at q
        have : decide (i < (([] : List W).length : Int)) = false := decide_eq_false (by simp; omega)
        rw [this]
        exact ifF q
      · rw [decide_eq_false h1] at q ⊢
        exact ifF ⟨_, rfl, ifF q⟩
    | _ => exact ifF q
  cases w with
  | int i =>
    have hl : (hk.map W.str).length = hk.length := List.length_map ..
    unfold mHole at q
    dsimp only at q
    refine ifT ⟨_, rfl, _, _, rfl, rfl, _, rfl, ?_⟩
    by_cases h1 : 0 ≤ i
    · rw [decide_eq_true h1] at q ⊢
      refine ifT ⟨_, rfl, .inr ⟨k, _, rfl, hc, _, _, rfl, rfl, _, rfl, ?_⟩⟩
      rw [hl]
      by_cases h2 : i < (hk.length : Int)
      · rw [decide_eq_true h2] at q ⊢
        have hlt : i.toNat < hk.length := by omega
        have hg := List.getElem?_eq_getElem hlt
        generalize hk[i.toNat] = g at hg
        rw [hg] at q
        have ha : atI (hk.map W.str) i = some (.str g) := by
          have := atI_nat (j := i.toNat) (xs := hk.map W.str) (v := .str g) (by rw [List.getElem?_map, hg]; rfl)
          rwa [Int.toNat_of_nonneg h1] at this
        exact ifT ⟨_, rfl, _, rfl, k, _, i, _, rfl, rfl, hc, ha, _, rfl, _, rfl, q⟩
      · rw [decide_eq_false h2] at q ⊢
        exact ifF q
    · rw [decide_eq_false h1] at q ⊢
      exact ifF ⟨_, rfl, ifF q⟩
  | _ => exact ifF q
theorem ev_guardT {we : DE} {wt : DT} {w2 : DTS} {D : DEnds} {δ : DS} {O : Sto} (h : wt δ O fun b O1 => if b = true then we δ O1 D.rt else w2 D δ O1) : dSeq (dIf wt (dRet we) dNext) w2 D δ O := h
theorem ev_set {i : Nat} {we : DE} {w2 : DTS} {D : DEnds} {δ : DS} {O : Sto} (h : we δ O fun w O1 => w2 D (δ.set i (some w)) O1) : dSeq (dSet i we) w2 D δ O := h
theorem ev_len1 {O : Sto} {ws : List W} {S : WK} (n : Int) (h : S (.bl (decide ((ws.length : Int) = n))) O) : rdLen [.tup ws] O fun x O1 => rdEq x (.int n) O1 S := .inl ⟨ws, rfl, _, rfl, h⟩
theorem at0 {x : W} {r : List W} : atI (x :: r) 0 = some x := atI_nat (j := 0) rfl
theorem at1 {x y : W} {r : List W} : atI (x :: y :: r) 1 = some y := atI_nat (j := 1) rfl
theorem ev_strIx {i : Nat} {xs : List W} {n : Int} {x : W} {δ : DS} {O : Sto} {S : WK} (h : δ[i]? = some (some (.tup xs))) (ha : atI xs n = some x) (hv : Vw O x) (q : S (.bl (tStr x)) O) : dCB rdIsi (dCons (dOp rdIxT (dVar i) (dC (.int n))) (dCons (dC (.ty "str")) dNil)) δ O S := ⟨_, h, xs, n, x, rfl, rfl, ha, isi_str hv q⟩
theorem rd_is_node (ws : List W) (O : Sto) (S : WK) (h : sp_is_node ws O S) : d_is_node (outB S) (startD n_is_node ws) O := by
  obtain ⟨w, kd, mk, hx0, hk, rfl, hv, hc, q⟩ := h
  refine ev_guardT (ev_or (ev_not (ev_test (ev_tuple rfl hv.v ⟨_, rfl, ?_⟩))))
  cases w with
  | tup xs =>
    refine ifF (ev_or (ev_test ⟨_, rfl, .inl ⟨xs, rfl, decide ((xs.length : Int) = 0), rfl, _, rfl, ?_⟩⟩))
    cases xs with
    | nil => exact ifT (ifT q)
    | cons x rest =>
      have hx := hv.at_ (x := x) List.mem_cons_self
      rw [decide_eq_false (show ¬ (((x :: rest).length : Nat) : Int) = 0 by rw [List.length_cons]; omega)]
      refine ifF (ev_not (ev_test (ev_strIx rfl at0 hx.v ⟨_, rfl, ?_⟩)))
      cases x with
      | str x =>
        have q : S (.bl (mNode2 x rest kd mk hk)) O := q
        refine ifF (ev_guardT (ev_test ⟨_, rfl, _, 0, _, rfl, rfl, at0, decide (x = "hole"), rfl, _, rfl, ?_⟩))
        unfold mNode2 at q
        by_cases h1 : x = "hole"
        · rw [if_pos h1] at q
          rw [decide_eq_true h1]
          refine ifT (ev_and ⟨_, rfl, .inl ⟨_, rfl, decide ((((W.str x :: rest).length : Nat) : Int) = 2), rfl, _, rfl, ?_⟩⟩)
          match rest with
          | [] => exact ifF q
          | [h] =>
            exact ifT ⟨_, rfl, _, 1, h, rfl, rfl, at1, _, rfl, _, rfl, h, kd, hx0, hk, rfl, (hv.at_ (x := h) (by simp)).v, hc, q⟩
          | a :: b :: c =>
            rw [decide_eq_false (show ¬ (((W.str x :: a :: b :: c).length : Nat) : Int) = 2 by simp only [List.length_cons]; omega)]
            exact ifF q
        · rw [if_neg h1] at q
          rw [decide_eq_false h1]
          refine ifF (ev_set ⟨_, rfl, _, rfl, _, 0, _, rfl, rfl, at0, kd, x, rfl, ?_⟩)
          cases hp : partsOf kd x with
          | none =>
            rw [hp] at q
            show dSeq _ _ _ (List.set _ 4 (some W.non)) O
            exact ev_guardT (ev_test ⟨_, rfl, _, rfl, ifT q⟩)
          | some ps =>
            rw [hp] at q
            have q : S (.bl (if x = "mark" then mMark rest mk else decide (rest.length = ps.length))) O := q
            show dSeq _ _ _ (List.set _ 4 (some (W.tup (ps.map W.str)))) O
            refine ev_guardT (ev_test ⟨_, rfl, _, rfl, ifF ?_⟩)
            refine ev_guardT (ev_test ⟨_, rfl, _, 0, _, rfl, rfl, at0, decide (x = "mark"), rfl, _, rfl, ?_⟩)
            by_cases h2 : x = "mark"
            · rw [if_pos h2] at q
              rw [decide_eq_true h2]
              refine ifT (ev_and ⟨_, rfl, .inl ⟨_, rfl, decide ((((W.str x :: rest).length : Nat) : Int) = 2), rfl, _, rfl, ?_⟩⟩)
              match rest with
              | [] => exact ifF q
              | [h] =>
                exact ifT ⟨_, rfl, _, 1, h, rfl, rfl, at1, _, rfl, h, _, rfl, (hv.at_ (x := h) (by simp)).v, .inl ⟨_, rfl, flat_strs mk, q⟩⟩
              | a :: b :: c =>
                rw [decide_eq_false (show ¬ (((W.str x :: a :: b :: c).length : Nat) : Int) = 2 by simp only [List.length_cons]; omega)]
                exact ifF q
            · rw [if_neg h2] at q
              rw [decide_eq_false h2]
              have e : decide ((((W.str x :: rest).length : Nat) : Int) = 1 + ((ps.map W.str).length : Nat)) = decide (rest.length = ps.length) := decide_eq_decide.mpr (by rw [List.length_cons, List.length_map]; omega)
              refine ifF ⟨_, rfl, .inl ⟨_, rfl, _, rfl, .inl ⟨_, rfl, _, _, rfl, rfl, decide ((((W.str x :: rest).length : Nat) : Int) = 1 + ((ps.map W.str).length : Nat)), rfl, ?_⟩⟩⟩
              rw [e]
              exact q
      | _ => exact ifT q
  | _ => exact ifT q
theorem parts_le {k x : Str} {ps : List Str} (h : partsOf k x = some ps) : ps.length ≤ 2 := by
  have t : partsTab.all (fun p => decide (p.2.length ≤ 2)) = true := by decide +kernel
  have m : ∀ l : List ((Str × Str) × List Str), l.lookup (k, x) = some ps → ∃ q, (q, ps) ∈ l := by
    intro l
    induction l with
    | nil => intro h; cases h
    | cons p l ih =>
      intro h
      obtain ⟨q, r⟩ := p
      rw [List.lookup_cons] at h
      split at h
      · cases h
        exact ⟨q, List.mem_cons_self⟩
      · obtain ⟨q2, h2⟩ := ih h
        exact ⟨q2, List.mem_cons_of_mem _ h2⟩
  obtain ⟨q, hq⟩ := m partsTab h
  exact of_decide_eq_true (List.all_eq_true.mp t (q, ps) hq)
theorem at_zip {xs : List W} {ys : List Str} {O1 : Sto} : ∀ O', Sm O1 O' → (wkZT xs (ys.map W.str)).ok O' ∧ ∀ i, (wkZT xs (ys.map W.str)).at_ i O' = ((xs.zip ys).map fun p => W.tup [p.1, .str p.2])[i]? := fun _ _ => ⟨True.intro, fun i => by
  show (match xs[i]?, (ys.map W.str)[i]? with
    | some x, some y => some (W.tup [x, y])
    | _, _ => none) = _
  rw [List.getElem?_map, List.getElem?_map]
  show _ = Option.map _ ((List.zipWith Prod.mk xs ys)[i]?)
  rw [List.getElem?_zipWith]
  cases xs[i]? <;> cases ys[i]? <;> rfl⟩
theorem cut_tail (x : W) (r : List W) : cutW (x :: r) (some 1) none = r := by
  unfold cutW
  rw [HT.sIx_none, show (some (1 : Int)) = some ((1 : Nat) : Int) from rfl, HT.sIx_nat]
  have e : min 1 (x :: r).length = 1 := by rw [List.length_cons]; omega
  rw [e]
  show (r).take _ = r
  rw [List.take_of_length_le (by rw [List.length_cons]; omega)]
def enc (p : W × Str × Int) : W := .tup [p.1, .str p.2.1, .int p.2.2]
theorem last_split {α : Type} {l : List α} {x : α} (h : l.getLast? = some x) : l = l.dropLast ++ [x] := by
  cases l with
  | nil => cases h
  | cons y r =>
    rw [List.getLast?_eq_some_getLast (by simp)] at h
    have e := List.dropLast_concat_getLast (l := y :: r) (by simp)
    rw [Option.some.inj h] at e
    exact e.symm
/-- what holds at each turn of is_meaning's loop: n terms may still be met -/
structure MnS (O : Sto) (w : W) (kd : Str) (mk hk : List Str) (hkx : W) (mo : Nat) (dp : Int) (n : Nat) (st : Stk) (hs : List Int) (δ : DS) (O' : Sto) : Prop where
  n12 : n ≤ mo
  mo1 : mo ≤ 1000
  dl : δ.length = 15
  dm : δ[4]? = some (some (.int (mo : Int)))
  dd : δ[5]? = some (some (.int dp))
  d2 : δ[2]? = some (some (.tup (mk.map W.str)))
  d3 : δ[3]? = some (some hkx)
  d4 : δ[6]? = some (some (.cell O.length))
  d5 : δ[7]? = some (some (.int ((mo : Int) - n)))
  d6 : δ[8]? = some (some (.cell (O.length + 1)))
  sm : Sm O O'
  ca : O'[O.length]? = some (.lst (st.map enc))
  cb : O'[O.length + 1]? = some (.lst (hs.map W.int))
  lp : mLoop mk hk dp mo [(w, kd, 1)] [] = mLoop mk hk dp n st hs
  vd : ∀ p ∈ st, Vd O p.1
  sl : st.length + 2 * n ≤ 2 * mo + 1
  hl : hs.length + n ≤ mo
theorem node_str {t : W} {kd : Str} {mk hk : List Str} (h : mNode t kd mk hk = true) : ∃ x rest, t = .tup (.str x :: rest) ∧ mNode2 x rest kd mk hk = true := by
  unfold mNode at h
  split at h
  · exact ⟨_, _, rfl, h⟩
  · cases h
theorem mean_of {w : W} {kd : Str} {mk hk : List Str} {mo : Nat} {dp : Int} {r : Option (List Int)} (h : mLoop mk hk dp mo [(w, kd, 1)] [] = r) : mTerm w kd mk hk mo dp = ndO r := by
  unfold mTerm
  rw [h]
def d_mean_body : DTS := (dSeq (dAsg (dBM0 okL rdPop (dVar 6)) (dgTup 3 (dgCons (dgName 9) (dgCons (dgName 10) (dgCons (dgName 11) dgNil)))))
    (dSeq (dAug 7 (dC (.int 1)) fun n m => n + m)
    (dSeq (dIf (dOr (dTest (dGt (dVar 7) (dVar 4))) (dOr (dTest (dGt (dVar 11) (dVar 5))) (dNot (dTest (dCall sp_is_node (dCons (dVar 9) (dCons (dVar 10) (dCons (dVar 2) (dCons (dVar 3) dNil))))))))) (dRet (dC (.bl false))) dNext)
    (dIf (dTest (dOp rdEq (dOp rdIxT (dVar 9) (dC (.int 0))) (dC (.str "hole")))) (dDrop (dBM okL rdAppend (dVar 8) (dCons (dOp rdIxT (dVar 9) (dC (.int 1))) dNil))) (dSeq (dSet 12 (dCall sp_parts_of (dCons (dVar 10) (dCons (dOp rdIxT (dVar 9) (dC (.int 0))) dNil))))
    (dDrop (dBM okL rdExtend (dVar 6) (dCons (dLc (diZip (dCons (dSlT (dVar 9) (dPart (dC (.int 1))) dNoPart) (dCons (dVar 12) dNil))) (dgTup 2 (dgCons (dgName 13) (dgCons (dgName 14) dgNil))) dYes (dTup (dCons (dVar 13) (dCons (dVar 14) (dCons (dAdd (dVar 11) (dC (.int 1))) dNil)))) [13, 14]) dNil))))))))
theorem ev_aug {i : Nat} {we : DE} {f : Int → Int → Int} {w2 : DTS} {D : DEnds} {δ : DS} {O : Sto} {x : W} (h0 : δ[i]? = some (some x)) (h : we δ O fun y O1 => ∃ n m, x = .int n ∧ y = .int m ∧ w2 D (δ.set i (some (.int (f n m)))) O1) : dSeq (dAug i we f) w2 D δ O := ⟨x, h0, h⟩
theorem ev_lc {di : DS → Sto → (Wk → Sto → Prop) → Prop} {w : Wk} {O O1 : Sto} {δ : DS} {zs : List W} {f : W → W} {g : DG} {we : DE} {vs : List Nat} {S : WK} (hdi : ∀ S' : Wk → Sto → Prop, S' w O1 → di δ O S') (hat : ∀ O', Sm O1 O' → w.ok O' ∧ ∀ i, w.at_ i O' = zs[i]?) (hl : zs.length ≤ 1000000)
    (hel : ∀ (i : Nat) (z : W), zs[i]? = some z → ∀ O', Sm O1 O' → ∀ S1 : WK, (∀ O2, Sm O' O2 → S1 (f z) O2) → g z (wipeD δ vs) O' fun δ2 O2 => we δ2 O2 S1) (fin : ∀ O', Sm O1 O' → O'[O1.length]? = some (.lst (zs.map f)) → S (.cell O1.length) O') : dLc di g dYes we vs δ O S := hdi _ (lc_gen1 hat hl hel fin)
theorem rd_mean_body {O : Sto} {w : W} {kd : Str} {mk hk : List Str} {hkx : W} {mo : Nat} {dp : Int} {n : Nat} {st : Stk} {hs : List Int} {δ : DS} {O' : Sto} {D : DEnds} (hc : HkW O hkx hk) (m : MnS O w kd mk hk hkx mo dp n st hs δ O') {t : W} {k : Str} {d : Int} (hlast : st.getLast? = some (t, k, d))
    (bad : mTerm w kd mk hk mo dp = false → ∀ O2, Sm O O2 → D.rt (.bl false) O2) (nxt : ∀ n' st' hs' δ2 O2, n = n' + 1 → MnS O w kd mk hk hkx mo dp n' st' hs' δ2 O2 → D.nx δ2 O2) : d_mean_body D δ O' := by
  have esp := last_split hlast
  have la : O.length < O'.length := (List.getElem?_eq_some_iff.mp m.ca).1
  have hs1 : Sm O (O'.set O.length (.lst (st.dropLast.map enc))) := m.sm.set (Nat.le_refl _)
  have ca1 : (O'.set O.length (.lst (st.dropLast.map enc)))[O.length]? = some (.lst (st.dropLast.map enc)) := by rw [List.getElem?_set_self la]
  have cb1 : (O'.set O.length (.lst (st.dropLast.map enc)))[O.length + 1]? = some (.lst (hs.map W.int)) := by
    rw [List.getElem?_set_ne (by omega)]
    exact m.cb
  have hpop : (st.map enc)[(st.map enc).length - 1]? = some (enc (t, k, d)) := by
    rw [← List.getLast?_eq_getElem?, List.getLast?_map, hlast]
    rfl
  have edl : (st.map enc).dropLast = st.dropLast.map enc := List.map_dropLast.symm
  have vt : Vd O t := m.vd (t, k, d) (by rw [esp]; simp)
  have vrest : ∀ p ∈ st.dropLast, Vd O p.1 := fun p hp => m.vd p (List.dropLast_subset _ hp)
  have hlen : st.dropLast.length + 1 = st.length := by
    have e := congrArg List.length esp
    rw [List.length_append, List.length_singleton] at e
    omega
  refine ev_asg ⟨_, m.d4, ⟨_, _, rfl, .inl m.ca⟩, _, _, _, rfl, rfl, m.ca, hpop, _, rfl, rfl, _, _, rfl, _, _, rfl, _, _, rfl, rfl, ?_⟩
  rw [edl]
  generalize (O'.set O.length (.lst (st.dropLast.map enc))) = O1 at hs1 ca1 cb1
  have vt1 := vt.mono hs1
  have e5 : (((δ.set 9 (some t)).set 10 (some (.str k))).set 11 (some (.int d)))[7]? = some (some (.int ((mo : Int) - n))) := by
    rw [List.getElem?_set_ne (by decide), List.getElem?_set_ne (by decide), List.getElem?_set_ne (by decide)]
    exact m.d5
  refine ev_aug e5 ⟨_, _, rfl, rfl, ?_⟩
  have L : (((((δ.set 9 (some t)).set 10 (some (.str k))).set 11 (some (.int d))).set 7 (some (.int ((mo : Int) - n + 1))))).length = 15 := by
    simp only [List.length_set]
    exact m.dl
  have f5 : (((((δ.set 9 (some t)).set 10 (some (.str k))).set 11 (some (.int d))).set 7 (some (.int ((mo : Int) - n + 1)))))[7]? = some (some (.int ((mo : Int) - n + 1))) := by
    rw [List.getElem?_set_self (by simp only [List.length_set]; rw [m.dl]; decide)]
  have f7 : (((((δ.set 9 (some t)).set 10 (some (.str k))).set 11 (some (.int d))).set 7 (some (.int ((mo : Int) - n + 1)))))[9]? = some (some t) := by
    rw [List.getElem?_set_ne (by decide), List.getElem?_set_ne (by decide), List.getElem?_set_ne (by decide), List.getElem?_set_self (by rw [m.dl]; decide)]
  have f8 : (((((δ.set 9 (some t)).set 10 (some (.str k))).set 11 (some (.int d))).set 7 (some (.int ((mo : Int) - n + 1)))))[10]? = some (some (.str k)) := by
    rw [List.getElem?_set_ne (by decide), List.getElem?_set_ne (by decide), List.getElem?_set_self (by simp only [List.length_set]; rw [m.dl]; decide)]
  have f9 : (((((δ.set 9 (some t)).set 10 (some (.str k))).set 11 (some (.int d))).set 7 (some (.int ((mo : Int) - n + 1)))))[11]? = some (some (.int d)) := by
    rw [List.getElem?_set_ne (by decide), List.getElem?_set_self (by simp only [List.length_set]; rw [m.dl]; decide)]
  have keep : ∀ {i : Nat} {x : Option W}, i ≠ 7 → i ≠ 9 → i ≠ 10 → i ≠ 11 → δ[i]? = some x → (((((δ.set 9 (some t)).set 10 (some (.str k))).set 11 (some (.int d))).set 7 (some (.int ((mo : Int) - n + 1)))))[i]? = some x := fun h5 h7 h8 h9 e => by
    rw [List.getElem?_set_ne (Ne.symm h5), List.getElem?_set_ne (Ne.symm h9), List.getElem?_set_ne (Ne.symm h8), List.getElem?_set_ne (Ne.symm h7)]
    exact e
  have f2 := keep (by decide) (by decide) (by decide) (by decide) m.d2
  have f3 := keep (by decide) (by decide) (by decide) (by decide) m.d3
  have f4 := keep (by decide) (by decide) (by decide) (by decide) m.d4
  have fm := keep (by decide) (by decide) (by decide) (by decide) m.dm
  have fd := keep (by decide) (by decide) (by decide) (by decide) m.dd
  have f6 := keep (by decide) (by decide) (by decide) (by decide) m.d6
  generalize (((((δ.set 9 (some t)).set 10 (some (.str k))).set 11 (some (.int d))).set 7 (some (.int ((mo : Int) - n + 1))))) = δ1 at L f5 f7 f8 f9 f2 f3 f4 f6 fm fd
  refine ev_guardT (ev_or (ev_test ⟨_, f5, _, fm, _, _, rfl, rfl, _, rfl, ?_⟩))
  have lp := m.lp
  cases n with
  | zero =>
    have e0 : mLoop mk hk dp 0 st hs = none := by
      unfold mLoop
      rw [hlast]
    rw [e0] at lp
    rw [decide_eq_true (show (mo : Int) < mo - ((0 : Nat) : Int) + 1 by omega)]
    exact ifT (ifT (bad (mean_of lp) O1 hs1))
  | succ n =>
    have e1 : mLoop mk hk dp (n + 1) st hs = if (decide (d ≤ dp) && mNode t k mk hk) = true then (match holeOf t with
        | some i => mLoop mk hk dp n st.dropLast (hs ++ [i])
        | none => mLoop mk hk dp n (st.dropLast ++ tailsOf t k d) hs) else none := by
      conv => lhs; unfold mLoop
      rw [hlast]
    rw [e1] at lp
    have hn12 := m.n12
    rw [decide_eq_false (show ¬ (mo : Int) < mo - ((n + 1 : Nat) : Int) + 1 by omega)]
    refine ifF (ev_or (ev_test ⟨_, f9, _, fd, _, _, rfl, rfl, _, rfl, ?_⟩))
    by_cases hd : d ≤ dp
    · rw [decide_eq_false (show ¬ dp < d by omega)]
      rw [decide_eq_true hd, Bool.true_and] at lp
      refine ifF (ev_not (ev_test ⟨_, f7, _, f8, _, f2, _, f3, t, k, mk, hkx, hk, rfl, vt1, hc.sm hs1, _, rfl, ?_⟩))
      cases hnode : mNode t k mk hk with
      | false =>
        rw [hnode] at lp
        exact ifT (bad (mean_of lp) O1 hs1)
      | true =>
        rw [hnode, if_pos rfl] at lp
        obtain ⟨x, rest, rfl, h2⟩ := node_str hnode
        refine ifF (ev_if (ev_test ⟨_, f7, _, 0, _, rfl, rfl, at0, decide (x = "hole"), rfl, _, rfl, ?_⟩))
        unfold mNode2 at h2
        have e12 : (mo : Int) - ((n + 1 : Nat) : Int) + 1 = mo - (n : Int) := by omega
        rw [e12] at f5
        by_cases hx : x = "hole"
        · subst hx
          rw [if_pos rfl] at h2
          rw [decide_eq_true rfl]
          match rest, h2 with
          | [h], h2 =>
            cases h with
            | int i =>
              have eh : holeOf (.tup [.str "hole", .int i]) = some i := rfl
              rw [eh] at lp
              have hlb : O.length + 1 < O1.length := (List.getElem?_eq_some_iff.mp cb1).1
              refine ifT ⟨_, f6, ⟨_, _, rfl, .inl cb1⟩, _, f7, _, 1, .int i, rfl, rfl, at1, _, _, _, rfl, rfl, cb1, ?_, nxt n st.dropLast (hs ++ [i]) δ1 _ rfl ⟨by omega, m.mo1, L, fm, fd, f2, f3, f4, f5, f6, hs1.set (by omega), ?_, ?_, lp, vrest, ?_, ?_⟩⟩
              · rw [List.length_map]
                have := m.hl
                have := m.mo1
                exact sz_lt (by omega)
              · rw [List.getElem?_set_ne (by omega)]
                exact ca1
              · rw [List.getElem?_set_self hlb, List.map_append]
                rfl
              · have := m.sl
                omega
              · have := m.hl
                rw [List.length_append, List.length_singleton]
                omega
            | _ => cases h2
        · rw [if_neg hx] at h2
          rw [decide_eq_false hx]
          cases hp : partsOf k x with
          | none =>
            rw [hp] at h2
            cases h2
          | some ps =>
            have eh : holeOf (.tup (.str x :: rest)) = none := by
              unfold holeOf
              split
              · rename_i y i e
                cases e
                rw [if_neg hx]
              · rfl
            have et : tailsOf (.tup (.str x :: rest)) k d = (rest.zip ps).map fun p => (p.1, p.2, d + 1) := by
              unfold tailsOf
              dsimp only
              rw [hp]
            rw [eh, et] at lp
            have hps := parts_le hp
            refine ifF (ev_set ⟨_, f8, _, f7, _, 0, _, rfl, rfl, at0, k, x, rfl, ?_⟩)
            rw [hp]
            have L2 : (δ1.set 12 (some (.tup (ps.map W.str)))).length = 15 := by rw [List.length_set]; exact L
            have g10 : (δ1.set 12 (some (.tup (ps.map W.str))))[12]? = some (some (.tup (ps.map W.str))) := by rw [List.getElem?_set_self (by omega)]
            have gk : ∀ {i : Nat} {y : Option W}, i ≠ 12 → δ1[i]? = some y → (δ1.set 12 (some (.tup (ps.map W.str))))[i]? = some y := fun h e => by
              rw [List.getElem?_set_ne (Ne.symm h)]
              exact e
            have g2 := gk (by decide) f2
            have g3 := gk (by decide) f3
            have g4 := gk (by decide) f4
            have g5 := gk (by decide) f5
            have g6 := gk (by decide) f6
            have g7 := gk (by decide) f7
            have g9 := gk (by decide) f9
            have gm := gk (by decide) fm
            have gd := gk (by decide) fd
            show dDrop _ _ (δ1.set 12 (some (.tup (ps.map W.str)))) O1
            generalize (δ1.set 12 (some (.tup (ps.map W.str)))) = δ2 at L2 g10 g2 g3 g4 g5 g6 g7 g9 gm gd
            have hzl : (rest.zip ps).length ≤ 2 := by rw [List.length_zip]; omega
            have hno : ¬ (HT.sIx (W.str x :: rest).length 0 (some 1) = 0 ∧ HT.sIx (W.str x :: rest).length (W.str x :: rest).length none = (W.str x :: rest).length) := by
              rintro ⟨h, _⟩
              rw [show (some (1 : Int)) = some ((1 : Nat) : Int) from rfl, HT.sIx_nat, List.length_cons] at h
              omega
            have hdi : ∀ S' : Wk → Sto → Prop, S' (wkZT rest (ps.map W.str)) O1 → diZip (dCons (dSlT (dVar 9) (dPart (dC (.int 1))) dNoPart) (dCons (dVar 12) dNil)) δ2 O1 S' := fun S' h => ⟨_, g7, 1, rfl, _, rfl, hno, _, g10, .inl ⟨rest, ps.map W.str, by rw [cut_tail], h⟩⟩
            refine ⟨_, g4, ⟨_, _, rfl, .inl ca1⟩, ?_⟩
            show dLc _ _ _ _ _ δ2 O1 _
            refine ev_lc (f := fun z => match z with
              | .tup [a, b] => .tup [a, b, .int (d + 1)]
              | _ => .non) (zs := (rest.zip ps).map fun p => W.tup [p.1, .str p.2]) hdi at_zip (by rw [List.length_map]; omega) (fun i z hz O2 hs2 S1 h => ?_) fun O2 hs2 hc2 => ?_
            · rw [List.getElem?_map] at hz
              cases hq : (rest.zip ps)[i]? with
              | none => rw [hq] at hz; cases hz
              | some p =>
                rw [hq] at hz
                cases hz
                have w9 : ((((wipeD δ2 [13, 14]).set 13 (some p.1)).set 14 (some (.str p.2))))[11]? = some (some (.int d)) := by
                  rw [List.getElem?_set_ne (by decide), List.getElem?_set_ne (by decide)]
                  show ((δ2.set 14 none).set 13 none)[11]? = _
                  rw [List.getElem?_set_ne (by decide), List.getElem?_set_ne (by decide)]
                  exact g9
                have w11 : ((((wipeD δ2 [13, 14]).set 13 (some p.1)).set 14 (some (.str p.2))))[13]? = some (some p.1) := by
                  rw [List.getElem?_set_ne (by decide), List.getElem?_set_self (by rw [wipeD_len]; omega)]
                have w12 : ((((wipeD δ2 [13, 14]).set 13 (some p.1)).set 14 (some (.str p.2))))[14]? = some (some (.str p.2)) := by
                  rw [List.getElem?_set_self (by rw [List.length_set, wipeD_len]; omega)]
                exact ⟨_, rfl, rfl, _, _, rfl, _, _, rfl, rfl, _, w11, _, w12, _, w9, _, _, rfl, rfl, sz_le (by show 3 ≤ 1000000; decide), h O2 Sm.refl⟩
            · have hs3 := hs1.trans hs2
              have ca2 := hs2 _ _ ca1
              have lb2 := hs2 _ _ cb1
              have la1 : O.length < O1.length := (List.getElem?_eq_some_iff.mp ca1).1
              refine ⟨_, _, _, _, rfl, rfl, ca2, hc2, ?_, nxt n (st.dropLast ++ (rest.zip ps).map fun p => (p.1, p.2, d + 1)) hs δ2 _ rfl ⟨by omega, m.mo1, L2, gm, gd, g2, g3, g4, g5, g6, hs3.set (Nat.le_refl _), ?_, ?_, lp, ?_, ?_, ?_⟩⟩
              · have := m.sl
                have := m.mo1
                simp only [List.length_map]
                exact sz_le (by omega)
              · rw [List.getElem?_set_self (List.getElem?_eq_some_iff.mp ca2).1, List.map_append, List.map_map, List.map_map]
                rfl
              · rw [List.getElem?_set_ne (by omega)]
                exact lb2
              · intro p hp
                rcases List.mem_append.mp hp with hp | hp
                · exact vrest p hp
                · obtain ⟨q, hq, e⟩ := List.mem_map.mp hp
                  subst e
                  exact vt.at_ (List.mem_cons_of_mem _ (List.of_mem_zip hq).1)
              · have := m.sl
                rw [List.length_append, List.length_map]
                omega
              · have := m.hl
                omega
    · rw [decide_eq_true (show dp < d by omega)]
      rw [decide_eq_false hd] at lp
      exact ifT (ifT (bad (mean_of lp) O1 hs1))
theorem rd_is_term (ws : List W) (O : Sto) (S : WK) (h : sp_is_term ws O S) : d_is_term (outB S) (startD n_is_term ws) O := by
  obtain ⟨w, kd, mk, x, hk, mo, dp, rfl, hv, hc, hmo, fin⟩ := h
  refine ev_set ⟨_, rfl, _, rfl, sz_le (by show 3 ≤ 1000000; decide), sz_le (by show 1 ≤ 1000000; decide), ?_⟩
  refine ev_set ?_
  show dSeq (dSet 8 (dLst dNil)) _ _ _ _
  refine ev_set ⟨sz_le (by show 0 ≤ 1000000; decide), ?_⟩
  have m0 : MnS O w kd mk hk x mo dp mo [(w, kd, 1)] [] ((((startD n_is_term [w, .str kd, .tup (mk.map W.str), x, .int (mo : Int), .int dp]).set 6 (some (.cell O.length))).set 7 (some (.int 0))).set 8 (some (.cell (O ++ [Cell.lst [.tup [w, .str kd, .int 1]]]).length))) (O ++ [Cell.lst [.tup [w, .str kd, .int 1]]] ++ [Cell.lst []]) := by
    refine ⟨Nat.le_refl _, hmo, rfl, rfl, rfl, rfl, rfl, rfl, ?_, ?_, Sm.push.app _, ?_, ?_, rfl, ?_, ?_, ?_⟩
    · show some (some (W.int 0)) = _
      rw [Int.sub_self]
    · rw [List.length_append]
      rfl
    · simp [enc]
    · simp
    · intro p hp
      rw [List.mem_singleton] at hp
      subst hp
      exact hv
    · show 1 + 2 * mo ≤ 2 * mo + 1
      omega
    · show 0 + mo ≤ mo
      omega
  refine ev_seq ⟨fun n δ' O' => ∃ st hs, MnS O w kd mk hk x mo dp n st hs δ' O', ⟨mo, [(w, kd, 1)], [], m0⟩, fun n δ' O' hst => ?_⟩
  obtain ⟨st, hs, m⟩ := hst
  refine ⟨_, m.d4, st.map enc, .inr ⟨_, rfl, .inl m.ca⟩, ?_⟩
  cases hl : st.getLast? with
  | none =>
    have e : st = [] := List.getLast?_eq_none_iff.mp hl
    subst e
    have lp := m.lp
    have e0 : mLoop mk hk dp n [] hs = some hs := by
      unfold mLoop
      rfl
    rw [e0] at lp
    have hh := m.hl
    rw [mean_of lp] at fin
    refine ifF ⟨_, m.d6, _, hs, rfl, .inl m.cb, by omega, _, m.d6, .inr ⟨_, _, rfl, .inl m.cb, decide (((nI hs : Nat) : Int) = ((hs.map W.int).length : Nat)), rfl, ?_⟩⟩
    rw [List.length_map, nI_all]
    exact fin O' m.sm
  | some p =>
    obtain ⟨t, k2, d⟩ := p
    have ne : (!(st.map enc).isEmpty) = true := by
      cases st with
      | nil => cases hl
      | cons a b => rfl
    rw [ne]
    refine ifT ⟨fun δ2 O2 => ∃ n' st' hs', n = n' + 1 ∧ MnS O w kd mk hk x mo dp n' st' hs' δ2 O2, fun δ2 O2 h => ?_, rd_mean_body hc m hl (fun hb O2 h2 => ?_) fun n' st' hs' δ2 O2 en m' => ⟨n', st', hs', en, m'⟩⟩
    · obtain ⟨n', st', hs', en, m'⟩ := h
      exact ⟨n', by omega, st', hs', m'⟩
    · rw [hb] at fin
      exact fin O2 h2
theorem rd_is_meaning (ws : List W) (O : Sto) (S : WK) (h : sp_is_meaning ws O S) : d_is_meaning (outB S) (startD n_is_meaning ws) O := by
  obtain ⟨w, kd, mk, k, hk, rfl, hv, hc, fin⟩ := h
  exact ⟨_, rfl, _, rfl, _, rfl, _, rfl, w, kd, mk, _, hk, 12, 5, rfl, hv, .inl ⟨k, rfl, hc⟩, by decide, fin⟩
theorem rd_is_closed_term (ws : List W) (O : Sto) (S : WK) (h : sp_is_closed_term ws O S) : d_is_closed_term (outB S) (startD n_is_closed_term ws) O := by
  obtain ⟨w, kd, mk, rfl, hv, fin⟩ := h
  exact ⟨_, rfl, _, rfl, _, rfl, sz_le (by show 0 ≤ 1000000; decide), w, kd, mk, _, [], 300, 80, rfl, hv, .inr ⟨rfl, rfl⟩, by decide, fin⟩
end Dm

set_option Elab.async false
set_option linter.all false
set_option maxRecDepth 100000
set_option maxHeartbeats 4000000
/-! The data machine: the module's table by pairs of texts, looked up. -/
namespace Dm
open PySem PySem.Spec PyProof.Rows L2
abbrev Tab := List ((Str × Str) × List Str)
def rowKey (r : (Str × Str) × List Str) : List Str := [r.1.1, r.1.2]
/-- a known tuple of texts -/
def TupK (K : PySem.W.Frag) (v : Addr) (ss : List Str) : Prop := ∀ F, SqT K F v (ss.map V.str)
/-- the table stands in every heap that holds K -/
def PTab (P : Program) (w : World) (K : PySem.W.Frag) (mg : Str → Option Value) (x : Str) (tab : Tab) : Prop := ∃ a, mg x = some (.ref a) ∧ (a == sysModules) = false ∧ ∀ h : Heap, K.In h →
  ∃ xs : List (List Str × Addr × Value), h.DictOfH (tupleKind (strKind P w)) a xs ∧ Paired (fun (y : List Str × Addr × Value) r => y.1 = rowKey r ∧ ∃ v, y.2.2 = .ref v ∧ TupK K v r.2) xs tab
/-- what a look gives -/
def Got (K : PySem.W.Frag) (o : Option (List Str)) (z : V) : Prop := match o with
  | some ps => ∃ v, z = .ref v ∧ TupK K v ps
  | none => z = .non
theorem got_at {K : PySem.W.Frag} {k y : Str} : ∀ {xs : List (List Str × Addr × Value)} {tab : Tab}, Paired (fun (y : List Str × Addr × Value) r => y.1 = rowKey r ∧ ∃ v, y.2.2 = .ref v ∧ TupK K v r.2) xs tab → ∃ z : V, Got K (tab.lookup (k, y)) z ∧ RelV z (((atKey xs [k, y]).map (·.2)).getD .none)
  | [], [], .nil => ⟨.non, rfl, rfl⟩
  | x :: xs, r :: tab, .cons h t => by
    obtain ⟨e, v, hv, tk⟩ := h
    rw [List.lookup_cons]
    by_cases q : r.1 = (k, y)
    · have : ((k, y) == r.1) = true := by rw [q]; exact beq_self_eq_true _
      rw [this]
      refine ⟨.ref v, ⟨v, rfl, tk⟩, ?_⟩
      have e2 : x.1 = [k, y] := by rw [e]; unfold rowKey; rw [q]
      have : atKey (x :: xs) [k, y] = some x.2 := by
        unfold atKey
        rw [List.find?_cons, decide_eq_true e2]
        rfl
      rw [this]
      exact hv
    · have : ((k, y) == r.1) = false := by
        rw [Bool.eq_false_iff]
        intro z
        exact q (eq_of_beq z).symm
      rw [this]
      obtain ⟨z, h1, h2⟩ := got_at (k := k) (y := y) t
      refine ⟨z, h1, ?_⟩
      have e2 : ¬ x.1 = [k, y] := fun e3 => q (by
        rw [e] at e3
        unfold rowKey at e3
        have e4 : r.1.1 = k := by injection e3
        have e5 : r.1.2 = y := by
          injection e3 with _ e6
          injection e6
        exact Prod.ext e4 e5)
      have : atKey (x :: xs) [k, y] = atKey xs [k, y] := by
        unfold atKey
        rw [List.find?_cons, decide_eq_false e2]
      rw [this]
      exact h2
section
variable {X : Cx}
theorem str_items {prog : Program} {w : World} : ∀ {ss : List Str} {us : List Value}, Vals (ss.map V.str) us → ItemsAre (strKind prog w) ss us
  | [], [], .nil => .nil
  | s :: ss, u :: us, .cons r t => by
    obtain ⟨i, rfl⟩ := r
    exact .cons (by show Value.isStrOf s (.str s i) = true; simp [Value.isStrOf]) (str_items t)
theorem pe_parts {x : Str} {tab : Tab} {p apos cpos tpos : Pos} {es : List Expr} {kk : Nat} {ta : TA} (pt : PTab X.prog X.w X.K X.mg x tab) (hu : X.A.units + 1 < cLine) (hg : Gl X x) (hd : (x == ("__debug__" : Str)) = false) (ha : PA X [.Tuple es kk tpos] ta)
    (hbase : attributeBase (.Name x p) "get" X.env (eval (.Name x p) X.env) = eval (.Name x p) X.env)
    (hfew : ((backTo cpos (starEach [.Tuple es kk tpos] X.env)).all (fun x => !x.1) && (backToKw cpos (keywordEach [] X.env)).all (fun x => x.1.isSome)
      && decide (([Expr.Tuple es kk tpos] : List Expr).length + ([] : List Keyword).length + (if ([] : List Keyword).isEmpty then 0 else 1) < 30)) = true)
    (hline : (apos.endLine == cpos.line) = true) (hs : starEach [.Tuple es kk tpos] X.env = (false, eval (.Tuple es kk tpos) X.env) :: starEach [] X.env) (hplain : (backTo cpos (starEach [] X.env)).any (·.1) = false) :
    PE X (.Call (.Attribute (.Name x p) "get" apos) [.Tuple es kk tpos] [] cpos) (fun σ H Q => ta σ H fun vs H1 => ∃ b k y, vs = [V.ref b] ∧ SqT X.K H1 b [.str k, .str y] ∧ ∀ z, Got X.K (tab.lookup (k, y)) z → Q z H1) := by
  refine ⟨fun pins s σ H Q I h => ?_⟩
  obtain ⟨a, hm, hsm, hdict⟩ := pt
  refine wpAny_Call_method_late hbase hfew hline rfl ?_
  refine ld_glob I hg hm ?_ hd
  obtain ⟨xs, dd, pr⟩ := hdict s.heap I.kIn
  refine ⟨"dict", "dict.get", PySem.F.plainAttrs_dict, PySem.F.slot_dict_get, PySem.F.type_dict_get, dd.typeIs, fun b e => ?_, ?_⟩
  · cases e
    obtain ⟨o, _, _, ho, hc, _⟩ := dd
    exact ⟨o, ho, hc.2.1⟩
  have hA := ha.run cpos pins s σ H _ I h
  rw [hs] at hA ⊢
  refine Calls.callWith_builtin (by show (false || (backTo cpos (starEach [] X.env)).any (·.1)) = false; rw [hplain] <;> rfl) (Calls.evalArgs_plain ?_)
  refine thn hA fun us s2 ⟨vs, H2, I2, r2, q2⟩ => ?_
  obtain ⟨b, k, y, rfl, hb, q2⟩ := q2
  obtain rfl := r2.ref1
  obtain ⟨xs2, dd2, pr2⟩ := hdict s2.heap I2.kIn
  obtain ⟨its, ri, ⟨o, ho, hc, n, hdt⟩, _⟩ := I2.tuple hb
  refine call_meetsIn PySem.F.slot_dict_get dd2.typeIs PySem.F.entry_dict_get (PySem.F.args_dict_get_2 _ _) (meetsH_dict_get (tupleKind (strKind X.prog X.w)) a b hsm) ⟨tupleKind_room_in1 hu, [k, y], xs2, ⟨o, its.toArray, n, ho, hc, hdt, str_items ri⟩, dd2, ?_⟩
  obtain ⟨z, hz, rz⟩ := got_at (k := k) (y := y) pr2
  exact ⟨z, H2, I2.tok _, rz, q2 z hz⟩
theorem ed_parts {x : Str} {tab : Tab} {p apos cpos tpos : Pos} {es : List Expr} {kk : Nat} {wa : DA} (pt : PTab X.prog X.w X.K X.mg x tab) (hu : X.A.units + 1 < cLine) (hg : Gl X x) (ha : EDA X es wa) (hd : (x == ("__debug__" : Str)) = false := by decide)
    (hbase : attributeBase (.Name x p) "get" X.env (eval (.Name x p) X.env) = eval (.Name x p) X.env := by rfl)
    (hfew : ((backTo cpos (starEach [.Tuple es kk tpos] X.env)).all (fun x => !x.1) && (backToKw cpos (keywordEach [] X.env)).all (fun x => x.1.isSome)
      && decide (([Expr.Tuple es kk tpos] : List Expr).length + ([] : List Keyword).length + (if ([] : List Keyword).isEmpty then 0 else 1) < 30)) = true := by rfl)
    (hline : (apos.endLine == cpos.line) = true := by rfl) (hs : starEach [.Tuple es kk tpos] X.env = (false, eval (.Tuple es kk tpos) X.env) :: starEach [] X.env := by rfl) (hplain : (backTo cpos (starEach [] X.env)).any (·.1) = false := by rfl) :
    ED X (.Call (.Attribute (.Name x p) "get" apos) [.Tuple es kk tpos] [] cpos) (dParts tab wa) := by
  obtain ⟨t0, p0, s0⟩ := ha.ex
  refine ⟨_, pe_parts pt hu hg hd (pa_cons (pe_tup p0) pa_nil hs) hbase hfew hline hs hplain, fun F H θ O σ δ S j s q Q k => ?_⟩
  refine s0 F H θ O σ δ _ j s q _ fun vs ws F1 H1 θ1 O1 g1 j1 r1 q1 => ?_
  obtain ⟨a, b, rfl, q1⟩ := q1
  obtain ⟨v, u, rfl, rv, ru⟩ := r1.two_inv
  rw [rv.str_inv, ru.str_inv]
  refine ⟨by show 2 ≤ _; rw [sizeLine_eq]; decide, fun p hp => ?_⟩
  have g2 : Gr F1 θ1 (L2.upd F1 p (.tup [.str a, .str b])) θ1 := Gr.upd (j1.freeF hp)
  have j2 := j1.newT (vs := [.str a, .str b]) hp
  refine ⟨p, a, b, rfl, .inl (.inl upd_same), fun z hz => ?_⟩
  cases hl : tab.lookup (a, b) with
  | none =>
    rw [hl] at hz q1
    obtain rfl : z = V.non := hz
    exact k _ _ _ _ _ _ (g1.trans g2) j2 .non q1
  | some ps =>
    rw [hl] at hz q1
    obtain ⟨v, rfl, tk⟩ := hz
    refine k _ _ _ _ _ _ (g1.trans g2) j2 (.tup (tk _) ?_) q1
    clear tk hl q1
    induction ps with
    | nil => exact .nil
    | cons x ps ih => exact .cons (.str x) ih
end
/-! ### what is asked of K, in one look -/
def strsB : List Value → List Str → Bool
  | [], [] => true
  | .str y _ :: us, x :: xs => decide (y = x) && strsB us xs
  | _, _ => false
theorem strsB_ok : ∀ {us : List Value} {xs : List Str}, strsB us xs = true → Vals (xs.map V.str) us
  | [], [], _ => .nil
  | .str y t :: us, x :: xs, h => by
    obtain ⟨h1, h2⟩ := He.ba h
    obtain rfl := of_decide_eq_true h1
    exact .cons ⟨t, rfl⟩ (strsB_ok h2)
def tupB (K : PySem.W.Frag) (a : Addr) (xs : List Str) : Bool := match K.lookup a with
  | some o => (match o.cls, o.data with
    | .type ty, .seq its _ => decide (ty = "tuple") && (decide (its.size ≤ 1000) && strsB its.toList xs)
    | _, _ => false)
  | none => false
theorem tupB_at {K : PySem.W.Frag} {a : Addr} {xs : List Str} (h : tupB K a xs = true) : ∃ (o : Obj) (its : Array Value) (n : Nat), K.lookup a = some o ∧ o.cls = .type "tuple" ∧ o.data = .seq its n ∧ its.size ≤ sizeLine ∧ Vals (xs.map V.str) its.toList := by
  unfold tupB at h
  split at h
  case h_2 => cases h
  rename_i o ho
  split at h
  case h_2 => cases h
  rename_i ty its n hc hd
  obtain ⟨h1, h⟩ := He.ba h
  obtain ⟨h2, h3⟩ := He.ba h
  obtain rfl := of_decide_eq_true h1
  refine ⟨o, its, n, ho, hc, hd, ?_, strsB_ok h3⟩
  have := of_decide_eq_true h2
  rw [sizeLine_eq]
  omega
theorem tupB_ok {K : PySem.W.Frag} {a : Addr} {xs : List Str} (h : tupB K a xs = true) : TupK K a xs := fun F => .inr (tupB_at h)
theorem rws_strs {K : PySem.W.Frag} (F : Hp) (θ : List Addr) : ∀ xs : List Str, RWs K F θ (xs.map V.str) (xs.map W.str)
  | [] => .nil
  | x :: xs => .cons (.str x) (rws_strs F θ xs)
theorem gtup_ok {K : PySem.W.Frag} {mg : Str → Option Value} {x : Str} {xs : List Str} (hm : mg x = some (.ref (He.ga K x))) (h : tupB K (He.ga K x) xs = true) : GTup K mg x (xs.map W.str) := ⟨_, _, hm, fun F => .inr (tupB_at h), fun F θ => rws_strs F θ xs⟩
def rowB (K : PySem.W.Frag) (e : DictEntry) (r : (Str × Str) × List Str) : Bool := match e.key, e.val with
  | .ref t, .ref v => tupB K t (rowKey r) && tupB K v r.2
  | _, _ => false
def rowsB (K : PySem.W.Frag) : List DictEntry → Tab → Bool
  | [], [] => true
  | e :: es, r :: tab => rowB K e r && rowsB K es tab
  | _, _ => false
def ptabB (K : PySem.W.Frag) (x : Str) (tab : Tab) : Bool := decide (He.ga K x ≠ sysModules) && (match K.lookup (He.ga K x) with
  | some o => (match o.cls, o.dict, o.data, o.slots.toList with
    | .type ty, none, .dict es _, [] => decide (ty = "dict") && rowsB K es.toList tab
    | _, _, _, _ => false)
  | none => false)
def hashesK (K : PySem.W.Frag) (x : Str) : List Int := match K.lookup (He.ga K x) with
  | some o => (match o.data with
    | .dict es _ => es.toList.map (·.hash)
    | _ => [])
  | none => []
theorem rows_ok {P : Program} {w : World} {K : PySem.W.Frag} {h : Heap} (X : K.In h) : ∀ {es : List DictEntry} {tab : Tab}, rowsB K es tab = true → es.map (·.hash) = tab.map (fun r => tupleKeyHash (strKind P w) (rowKey r)) →
    ∃ xs : List (List Str × Addr × Value), es = xs.map (entryOfKey (tupleKind (strKind P w))) ∧ (∀ x ∈ xs, (tupleKind (strKind P w)).is h x.1 x.2.1) ∧ xs.map (·.1) = tab.map rowKey ∧ Paired (fun (y : List Str × Addr × Value) r => y.1 = rowKey r ∧ ∃ v, y.2.2 = .ref v ∧ TupK K v r.2) xs tab
  | [], [], _, _ => ⟨[], rfl, (fun x hx => absurd hx List.not_mem_nil), rfl, .nil⟩
  | e :: es, r :: tab, hb, hh => by
    obtain ⟨h1, h2⟩ := He.ba hb
    rw [List.map_cons, List.map_cons] at hh
    injection hh with hh1 hh2
    obtain ⟨xs, e1, e2, e3, e4⟩ := rows_ok X h2 hh2
    unfold rowB at h1
    split at h1
    case h_2 => cases h1
    rename_i t v hk hv
    obtain ⟨k1, k2⟩ := He.ba h1
    refine ⟨(rowKey r, t, .ref v) :: xs, ?_, ?_, ?_, .cons ⟨rfl, v, rfl, tupB_ok k2⟩ e4⟩
    · rw [List.map_cons, ← e1]
      congr 1
      obtain ⟨eh, ek, ev⟩ := e
      unfold entryOfKey
      dsimp only at hh1 hk hv
      subst hh1 hk hv
      rfl
    · intro x hx
      rcases List.mem_cons.mp hx with rfl | hx
      · obtain ⟨o, its, n, ho, hc, hd, _, hv⟩ := tupB_at k1
        exact ⟨o, its, n, X _ _ ho, hc, hd, str_items hv⟩
      · exact e2 x hx
    · rw [List.map_cons, List.map_cons, e3]
theorem ptab_ok {P : Program} {w : World} {K : PySem.W.Frag} {mg : Str → Option Value} {x : Str} {tab : Tab} (hm : mg x = some (.ref (He.ga K x))) (hb : ptabB K x tab = true) (hh : hashesK K x = tab.map fun r => tupleKeyHash (strKind P w) (rowKey r)) (nd : (tab.map rowKey).Nodup) : PTab P w K mg x tab := by
  unfold ptabB at hb
  obtain ⟨h1, hb⟩ := He.ba hb
  split at hb
  case h_2 => cases hb
  rename_i o ho
  split at hb
  case h_2 => cases hb
  rename_i ty es ep hc hd hdt hs
  obtain ⟨h2, h3⟩ := He.ba hb
  obtain rfl := of_decide_eq_true h2
  refine ⟨He.ga K x, hm, by simpa using of_decide_eq_true h1, fun h X => ?_⟩
  unfold hashesK at hh
  rw [ho] at hh
  dsimp only at hh
  rw [hdt] at hh
  obtain ⟨xs, e1, e2, e3, e4⟩ := rows_ok (P := P) (w := w) X h3 hh
  refine ⟨xs, ⟨o, es, ep, X _ _ ho, ⟨hc, hd, ?_⟩, hdt, e1, e2, by rw [e3]; exact nd⟩, e4⟩
  exact Array.toList_inj.mp (by rw [hs])
end Dm

set_option Elab.async false
set_option linter.all false
set_option maxRecDepth 100000
set_option maxHeartbeats 4000000
/-! A hook that knows a table by pairs of texts, its hashes too. -/
noncomputable section
namespace Dm
open PySem PySem.Spec PyProof.Rows L2
/-- what the keys of the module's tables name -/
def keyRefs (g : Addr → Option Obj) (as : List Addr) : List Addr := as.flatMap fun a => match g a with
  | some o => (match o.data with
    | .dict es _ => es.toList.flatMap fun e => He.refV e.key
    | _ => [])
  | none => []
def asP (g : Addr → Option Obj) (n : Nat) : List Addr := He.asD g n ++ keyRefs g (He.asD g 1)
def obsPG (xs : PySem.W.Frag → Bool) (n : Nat) (fa : List He.Fa) (fn : List He.DefD) (x : Str) (g : Addr → Option Obj) : (Bool × He.AlD) × List Int := (obsX xs fa fn (He.frG g (asP g n)), hashesK (He.frG g (asP g n)) x)
def valP (P : Program) (w : World) (tab : Tab) : List Int := tab.map fun r => tupleKeyHash (strKind P w) (rowKey r)
def hookP (xs : PySem.W.Frag → Bool) (n : Nat) (fa : List He.Fa) (fn : List He.DefD) (x : Str) (tab : Tab) (P : Program) : PySem.W.Hook where
  α := (Bool × He.AlD) × List Int
  obs := fun s => obsPG xs n fa fn x s.heap.get?
  val := fun w => ((true, He.valD fn), valP P w tab)
  says := fun w h => ∃ K : PySem.W.Frag, K.In h ∧ SaysX xs fa fn K ∧ hashesK K x = valP P w tab
  of := fun _ _ e => ⟨_, He.frG_in, congrArg Prod.fst e, congrArg Prod.snd e⟩
  keeps := fun _ _ _ ⟨K, hK, c⟩ k => ⟨K, PySem.W.Frag.In.keeps hK k, c⟩
theorem obsPG_eq {xs : PySem.W.Frag → Bool} {n : Nat} {fa : List He.Fa} {fn : List He.DefD} {x : Str} {tab : Tab} {P : Program} {g : Addr → Option Obj} {s : Shared} (h : ∀ a, g a = s.heap.get? a) : obsPG xs n fa fn x g = (hookP xs n fa fn x tab P).obs s := by
  have e : g = s.heap.get? := funext h
  rw [e] <;> rfl
theorem tab_nodup : (partsTab.map rowKey).Nodup := by decide +kernel
end Dm

set_option Elab.async false
set_option linter.all false
set_option maxRecDepth 100000
set_option maxHeartbeats 0
/-! k62: the head: what the top leaves. -/
noncomputable section
namespace K62
open PySem PySem.Spec PyProof.Rows L2 Dm
def topS (i : Nat) : Stmt := PySem.Challenge.pw_pairedtongues_k62_cells_of_set_terms.main.body.getD i (.Pass ⟨0, 0, 0, 0⟩)
def xs (K : PySem.W.Frag) : Bool := noLst K && (ptabB K "PARTS" partsTab && (tupB K (He.ga K "KINDS") ["set", "part", "truth"]))
def eis_integer : He.DefD := ⟨("is_integer", none), "is_integer", "is_integer", defArgs (topS 18), defBody (topS 18), defScope (topS 18), [], []⟩
def eis_tuple : He.DefD := ⟨("is_tuple", none), "is_tuple", "is_tuple", defArgs (topS 19), defBody (topS 19), defScope (topS 19), [], []⟩
def eis_one_of : He.DefD := ⟨("is_one_of", none), "is_one_of", "is_one_of", defArgs (topS 20), defBody (topS 20), defScope (topS 20), [], []⟩
def eis_name : He.DefD := ⟨("is_name", none), "is_name", "is_name", defArgs (topS 21), defBody (topS 21), defScope (topS 21), [], []⟩
def eis_word : He.DefD := ⟨("is_word", none), "is_word", "is_word", defArgs (topS 22), defBody (topS 22), defScope (topS 22), [], []⟩
def eis_variable : He.DefD := ⟨("is_variable", none), "is_variable", "is_variable", defArgs (topS 23), defBody (topS 23), defScope (topS 23), [], []⟩
def eare_names : He.DefD := ⟨("are_names", none), "are_names", "are_names", defArgs (topS 24), defBody (topS 24), defScope (topS 24), [], []⟩
def evalues_by_feature : He.DefD := ⟨("values_by_feature", none), "values_by_feature", "values_by_feature", defArgs (topS 26), defBody (topS 26), defScope (topS 26), [], []⟩
def esorts_by_name : He.DefD := ⟨("sorts_by_name", none), "sorts_by_name", "sorts_by_name", defArgs (topS 27), defBody (topS 27), defScope (topS 27), [], []⟩
def estands_for : He.DefD := ⟨("stands_for", none), "stands_for", "stands_for", defArgs (topS 28), defBody (topS 28), defScope (topS 28), [], []⟩
def enote_variable : He.DefD := ⟨("note_variable", none), "note_variable", "note_variable", defArgs (topS 29), defBody (topS 29), defScope (topS 29), [], []⟩
def eare_terms : He.DefD := ⟨("are_terms", none), "are_terms", "are_terms", defArgs (topS 32), defBody (topS 32), defScope (topS 32), [], []⟩
def eis_category : He.DefD := ⟨("is_category", none), "is_category", "is_category", defArgs (topS 31), defBody (topS 31), defScope (topS 31), [], []⟩
def eare_categories : He.DefD := ⟨("are_categories", none), "are_categories", "are_categories", defArgs (topS 30), defBody (topS 30), defScope (topS 30), [], []⟩
def eis_kind : He.DefD := ⟨("is_kind", none), "is_kind", "is_kind", defArgs (topS 40), defBody (topS 40), defScope (topS 40), [], []⟩
def eparts_of : He.DefD := ⟨("parts_of", none), "parts_of", "parts_of", defArgs (topS 41), defBody (topS 41), defScope (topS 41), [], []⟩
def eis_hole : He.DefD := ⟨("is_hole", none), "is_hole", "is_hole", defArgs (topS 46), defBody (topS 46), defScope (topS 46), [], []⟩
def eis_node : He.DefD := ⟨("is_node", none), "is_node", "is_node", defArgs (topS 45), defBody (topS 45), defScope (topS 45), [], []⟩
def eis_term : He.DefD := ⟨("is_term", none), "is_term", "is_term", defArgs (topS 44), defBody (topS 44), defScope (topS 44), [], []⟩
def eis_meaning : He.DefD := ⟨("is_meaning", none), "is_meaning", "is_meaning", defArgs (topS 42), defBody (topS 42), defScope (topS 42), [], []⟩
def eis_closed_term : He.DefD := ⟨("is_closed_term", none), "is_closed_term", "is_closed_term", defArgs (topS 43), defBody (topS 43), defScope (topS 43), [], []⟩
def enames_differ : He.DefD := ⟨("names_differ", none), "names_differ", "names_differ", defArgs (topS 50), defBody (topS 50), defScope (topS 50), [], []⟩
def eis_feature : He.DefD := ⟨("is_feature", none), "is_feature", "is_feature", defArgs (topS 52), defBody (topS 52), defScope (topS 52), [], []⟩
def eare_features : He.DefD := ⟨("are_features", none), "are_features", "are_features", defArgs (topS 51), defBody (topS 51), defScope (topS 51), [], []⟩
def eare_sort_features : He.DefD := ⟨("are_sort_features", none), "are_sort_features", "are_sort_features", defArgs (topS 55), defBody (topS 55), defScope (topS 55), [], []⟩
def eis_sort : He.DefD := ⟨("is_sort", none), "is_sort", "is_sort", defArgs (topS 54), defBody (topS 54), defScope (topS 54), [], []⟩
def eare_sorts : He.DefD := ⟨("are_sorts", none), "are_sorts", "are_sorts", defArgs (topS 53), defBody (topS 53), defScope (topS 53), [], []⟩
def eare_items : He.DefD := ⟨("are_items", none), "are_items", "are_items", defArgs (topS 58), defBody (topS 58), defScope (topS 58), [], []⟩
def eis_rule : He.DefD := ⟨("is_rule", none), "is_rule", "is_rule", defArgs (topS 57), defBody (topS 57), defScope (topS 57), [], []⟩
def eare_rules : He.DefD := ⟨("are_rules", none), "are_rules", "are_rules", defArgs (topS 56), defBody (topS 56), defScope (topS 56), [], []⟩
def eis_book : He.DefD := ⟨("is_book", none), "is_book", "is_book", defArgs (topS 48), defBody (topS 48), defScope (topS 48), [], []⟩
def eneed_book : He.DefD := ⟨("need_book", none), "need_book", "need_book", defArgs (topS 49), defBody (topS 49), defScope (topS 49), [], []⟩
def efull_mask : He.DefD := ⟨("full_mask", none), "full_mask", "full_mask", defArgs (topS 60), defBody (topS 60), defScope (topS 60), [], []⟩
def ehas_bit : He.DefD := ⟨("has_bit", none), "has_bit", "has_bit", defArgs (topS 61), defBody (topS 61), defScope (topS 61), [], []⟩
def ebits_in : He.DefD := ⟨("bits_in", none), "bits_in", "bits_in", defArgs (topS 62), defBody (topS 62), defScope (topS 62), [], []⟩
def emarked_cells : He.DefD := ⟨("marked_cells", none), "marked_cells", "marked_cells", defArgs (topS 64), defBody (topS 64), defScope (topS 64), [], []⟩
def ecells_of : He.DefD := ⟨("cells_of", none), "cells_of", "cells_of", defArgs (topS 65), defBody (topS 65), defScope (topS 65), [], []⟩
def eneed_term : He.DefD := ⟨("need_term", none), "need_term", "need_term", defArgs (topS 67), defBody (topS 67), defScope (topS 67), [], []⟩
def ecells_in : He.DefD := ⟨("cells_in", none), "cells_in", "cells_in", defArgs (topS 68), defBody (topS 68), defScope (topS 68), [], []⟩
def e_law_feed : He.DefD := ⟨("_law_feed", none), "_law_feed", "_law_feed", defArgs (topS 70), defBody (topS 70), defScope (topS 70), [], []⟩
def e_law_draw : He.DefD := ⟨("_law_draw", none), "_law_draw", "_law_draw", defArgs (topS 71), defBody (topS 71), defScope (topS 71), [], []⟩
def e_law_one : He.DefD := ⟨("_law_one", none), "_law_one", "_law_one", defArgs (topS 72), defBody (topS 72), defScope (topS 72), [], []⟩
def e_law_in : He.DefD := ⟨("_law_in", none), "_law_in", "_law_in", defArgs (topS 73), defBody (topS 73), defScope (topS 73), [], []⟩
def e_law_marks : He.DefD := ⟨("_law_marks", none), "_law_marks", "_law_marks", defArgs (topS 74), defBody (topS 74), defScope (topS 74), [], []⟩
def e_law_small_book : He.DefD := ⟨("_law_small_book", none), "_law_small_book", "_law_small_book", defArgs (topS 75), defBody (topS 75), defScope (topS 75), [], []⟩
def e_law_set_term : He.DefD := ⟨("_law_set_term", none), "_law_set_term", "_law_set_term", defArgs (topS 76), defBody (topS 76), defScope (topS 76), [], []⟩
def elaw : He.DefD := ⟨("law", none), "law", "law", defArgs (topS 77), defBody (topS 77), defScope (topS 77), [], []⟩
def fnD : List He.DefD := [eis_integer, eis_tuple, eis_one_of, eis_name, eis_word, eis_variable, eare_names, evalues_by_feature, esorts_by_name, estands_for, enote_variable, eare_terms, eis_category, eare_categories, eis_kind, eparts_of, eis_hole, eis_node, eis_term, eis_meaning, eis_closed_term, enames_differ, eis_feature, eare_features, eare_sort_features, eis_sort, eare_sorts, eare_items, eis_rule, eare_rules, eis_book, eneed_book, efull_mask, ehas_bit, ebits_in, emarked_cells, ecells_of, eneed_term, ecells_in, e_law_feed, e_law_draw, e_law_one, e_law_in, e_law_marks, e_law_small_book, e_law_set_term, elaw]
def fa : List He.Fa := [.glo "is_integer", .glo "is_tuple", .glo "is_one_of", .glo "is_name", .glo "is_word", .glo "is_variable", .glo "are_names", .glo "values_by_feature", .glo "sorts_by_name", .glo "stands_for", .glo "note_variable", .glo "are_terms", .glo "is_category", .glo "are_categories", .glo "is_kind", .glo "parts_of", .glo "is_hole", .glo "is_node", .glo "is_term", .glo "is_meaning", .glo "is_closed_term", .glo "names_differ", .glo "is_feature", .glo "are_features", .glo "are_sort_features", .glo "is_sort", .glo "are_sorts", .glo "are_items", .glo "is_rule", .glo "are_rules", .glo "is_book", .glo "need_book", .glo "full_mask", .glo "has_bit", .glo "bits_in", .glo "marked_cells", .glo "cells_of", .glo "need_term", .glo "cells_in", .glo "_law_feed", .glo "_law_draw", .glo "_law_one", .glo "_law_in", .glo "_law_marks", .glo "_law_small_book", .glo "_law_set_term", .glo "law", .glo "KINDS", .glo "PARTS", .free "isinstance", .free "int", .free "bool", .free "tuple", .free "len", .free "str", .free "all", .free "set", .free "zip", .free "sorted", .free "list", .free "range", .free "sum", .free "max", .free "min", .free "repr", .int "MOST_LETTERS" 12, .int "MOST_VARIABLES" 3, .int "MOST_TERMS" 12, .int "MOST_DEPTH" 5, .int "MOST_CLOSED_TERMS" 300, .int "MOST_CLOSED_DEPTH" 80, .int "MOST_VALUES" 3, .int "MOST_FEATURES" 3, .int "MOST_SORT_FEATURES" 3, .int "MOST_SORTS" 8, .int "MOST_ITEMS" 6, .int "MOST_HOLES" 4, .int "MOST_RULES" 24, .int "MOST_MARKS" 2, .str "SMALL_LETTERS" "abcdefghijklmnopqrstuvwxyz", .str "NAME_LETTERS" "abcdefghijklmnopqrstuvwxyz0123456789", .str "GREAT_LETTERS" "ABCDEFGHIJKLMNOPQRSTUVWXYZ"]
def loose0 : List Str := ["__name__", "MOST_LETTERS", "MOST_FEATURES", "MOST_VALUES", "MOST_MARKS", "MOST_SORTS", "MOST_SORT_FEATURES", "MOST_RULES", "MOST_HOLES", "MOST_VARIABLES", "MOST_ITEMS", "MOST_TERMS", "MOST_DEPTH", "MOST_CLOSED_TERMS", "MOST_CLOSED_DEPTH", "SMALL_LETTERS", "NAME_LETTERS", "GREAT_LETTERS", "is_integer", "is_tuple", "is_one_of", "is_name", "is_word", "is_variable", "are_names", "values_by_feature", "sorts_by_name", "stands_for", "note_variable", "are_categories"]
def loose1 : List Str := ["is_category", "are_terms", "TongueError", "BadBook", "BadTerm", "KINDS", "PARTS", "is_kind", "parts_of", "is_meaning", "is_closed_term", "is_term", "is_node", "is_hole", "is_book", "need_book", "names_differ", "are_features", "is_feature", "are_sorts", "is_sort", "are_sort_features", "are_rules", "is_rule", "are_items", "full_mask", "has_bit", "bits_in", "marked_cells", "cells_of"]
def loose2 : List Str := ["need_term", "cells_in", "_law_feed", "_law_draw", "_law_one", "_law_in", "_law_marks", "_law_small_book", "_law_set_term"]
def loose : List Str := loose0 ++ (loose1 ++ (loose2))
abbrev R : PySem.W.OpenRow := PySem.W.OpenLaw.row PySem.Challenge.rw_pairedtongues_k62_cells_of_set_terms
def hk : PySem.W.Hook := hookP xs 2 fa fnD "PARTS" partsTab R.prog
def ob (s : PySem.W.SharedT) : (Bool × He.AlD) × List Int := obsPG xs 2 fa fnD "PARTS" (HandSHeadRun.getT s)
theorem ob_eq (s : PySem.W.SharedT) : ob s = hk.obs s.abs := obsPG_eq (tab := partsTab) (P := R.prog) (HandSHeadRun.getT_eq s)
theorem runF (w : World) : Hh.RunEqH R (PySem.W.view R.prog [77]) hk ob 9000 1000000 loose (w.withFollow "special-get-raises" false) := by
  intro os
  kernel_rfl
theorem runT (w : World) : Hh.RunEqH R (PySem.W.view R.prog [77]) hk ob 9000 1000000 loose (w.withFollow "special-get-raises" true) := by
  intro os
  kernel_rfl
theorem run (w : World) (b : Bool) : Hh.RunEqH R (PySem.W.view R.prog [77]) hk ob 9000 1000000 loose (w.withFollow "special-get-raises" b) := by
  cases b with
  | false => exact runF w
  | true => exact runT w
end K62


set_option Elab.async false
set_option linter.all false
set_option maxRecDepth 100000
set_option maxHeartbeats 4000000
/-! Rules over the heap: a chain of three, a range held by a name, max and min of a tuple. -/
namespace Dm
open PySem PySem.Spec PyProof.Rows L2
def tChain3 (r1 r2 r3 : R2) (ta tb tc td : TE) : TE := fun σ H Q => ta σ H fun x H1 => tb σ H1 fun y H2 => r1 x y H2 fun z H3 => ∃ k, z = .bl k ∧ if k = true then tc σ H3 fun v H4 => r2 y v H4 fun z2 H5 => ∃ k2, z2 = .bl k2 ∧ if k2 = true then td σ H5 fun u H6 => r3 v u H6 Q else Q (.bl false) H5 else Q (.bl false) H3
theorem pe_chain3 {X : Cx} {a b c d : Expr} {ta tb tc td : TE} {pos : Pos} {o1 o2 o3 : CmpOp} {r1 r2 r3 : R2} (h1 : OpR X (compareOp o1) r1) (h2 : OpR X (compareOp o2) r2) (h3 : OpR X (compareOp o3) r3) (pa : PE X a ta) (pb : PE X b tb) (pc : PE X c tc) (pd : PE X d td)
    (hm : lastMarks [o1, o2, o3] [b, c, d] = false) : PE X (.Compare a [o1, o2, o3] [b, c, d] pos) (tChain3 r1 r2 r3 ta tb tc td) := by
  refine ⟨fun pins s σ H Q I h => Compare_chain (thn (pa.run pins s σ H _ I h) fun va s1 ⟨x, H1, I1, rx, q1⟩ => ?_) hm⟩
  refine chain_link (thn (pb.run pins s1 σ H1 _ I1 q1) fun vb s2 ⟨y, H2, I2, ry, q2⟩ => ?_)
  refine thn (h1 pins s2 σ H2 x y va vb _ I2 rx ry q2) fun vc s3 ⟨z, H3, I3, rz, k, hz, q3⟩ => ?_
  subst hz
  obtain rfl : vc = Value.bool k := rz
  refine wpAny_truthy_bool ?_
  cases k with
  | false => exact ⟨.bl false, H3, I3, rfl, q3⟩
  | true =>
    refine chain_link (thn (pc.run pins s3 σ H3 _ I3 q3) fun ve s4 ⟨w, H4, I4, rw4, q4⟩ => ?_)
    refine thn (h2 pins s4 σ H4 y w vb ve _ I4 ry rw4 q4) fun vf s5 ⟨z2, H5, I5, rz5, k2, hz, q5⟩ => ?_
    subst hz
    obtain rfl : vf = Value.bool k2 := rz5
    refine wpAny_truthy_bool ?_
    cases k2 with
    | false => exact ⟨.bl false, H5, I5, rfl, q5⟩
    | true =>
      refine chain_last (thn (pd.run pins s5 σ H5 _ I5 q5) fun vg s6 ⟨u, H6, I6, ru, q6⟩ => ?_)
      exact h3 pins s6 σ H6 w u ve vg _ I6 rw4 ru q6
/-- a range that a value holds -/
def iRngV (te : TE) : TI := fun σ H R => te σ H fun x H1 => ∃ p lo hi, x = .ref p ∧ H1 p = some (.rng lo hi) ∧ (-(2 ^ 62) ≤ lo ∧ lo < 2 ^ 62 ∧ -(2 ^ 62) ≤ hi ∧ hi < 2 ^ 62) ∧ R (Itr lo (hi - lo).toNat) H1
theorem small_one {a b : Int} (h1 : -(2 ^ 62) ≤ a) (h2 : a < 2 ^ 62) (h3 : -(2 ^ 62) ≤ b) (h4 : b < 2 ^ 62) : Builtin.Range.small a b 1 = true ∧ Builtin.Range.rangeSize a b 1 = ((b - a).toNat : Int) := by
  refine ⟨PySem.small_one h1 h2 h3 h4, ?_⟩
  unfold Builtin.Range.rangeSize
  rw [if_pos (by decide)]
  split
  · rw [Int.ediv_one]
    omega
  · omega
theorem pi_rngV {X : Cx} {tg e : Expr} {te : TE} (he : PE X e te) : PI X tg e (iRngV te) := by
  refine ⟨fun pins s σ H R I h => thn (he.run pins s σ H _ I h) fun v s1 ⟨x, H1, I1, r1, p, lo, hi, hx, hp, ⟨b1, b2, b3, b4⟩, q⟩ => ?_⟩
  subst hx
  obtain rfl : v = Value.ref p := r1
  obtain ⟨t, u, z, hq⟩ := (show ∃ t u v, s1.heap.get? p = some { cls := Value.type "range", data := Data.fields #[Value.int lo t, Value.int hi u, Value.int 1 v] } from I1.hok p _ hp)
  obtain ⟨hs, hn⟩ := small_one b1 b2 b3 b4
  refine wpAny_pyIter_range hq hs ?_
  rw [hn]
  have I2 : L2.Inv X pins σ H1 { heap := s1.heap.push { cls := Value.type "range_iterator", data := Data.fields #[rawInt lo, rawInt ((hi - lo).toNat : Int), rawInt 1] }, gens := s1.gens, drawn := s1.drawn, toks := s1.toks, os := s1.os } :=
    I1.kept fun b o e => Heap.get?_push_of_some _ e
  refine ⟨_, [s1.heap.objs.size], _, _, H1, rfl, I2, turn_range s1.heap.objs.size lo (hi - lo).toNat, ?_, fun b hb => ?_, q⟩
  · have e : lo + ((0 : Nat) : Int) * 1 = lo := by simp
    have e2 : (((hi - lo).toNat : Nat) : Int) - ((0 : Nat) : Int) = ((hi - lo).toNat : Int) := by simp
    show IsRangeIter _ _ _ _ _
    rw [e, e2]
    exact Heap.get?_push_size _ rfl
  · rw [List.mem_singleton] at hb
    subst hb
    exact I1.fpOk (Nat.le_refl _) I1.fresh
/-- sorted, of a tuple of ints -/
def rSortT (K : PySem.W.Frag) (vs : List V) (H : Hp) (Q : VK) : Prop := ∃ (a : Addr) (ns : List Int), vs = [V.ref a] ∧ SqT K H a (ns.map V.int) ∧ ns.length < 64 ∧ ∀ (ns' : List Int) (p : Addr), ns'.Perm ns → List.Pairwise (fun x y => x ≤ y) ns' → H p = none → Q (.ref p) (upd H p (.lst (ns'.map V.int)))
theorem cr_sortT1 {X : Cx} : CallR X (.builtin "sorted") (rSortT X.K) := by
  intro pins s σ H xs us Q I hv h
  obtain ⟨a, ns, rfl, hq, hl, q⟩ := h
  obtain rfl := hv.ref1
  obtain ⟨its, r, ⟨o, ho, hc, n, hd⟩, hz⟩ := I.tuple hq
  have hi := r.ints
  have hlen : its.length = ns.length := by
    have := r.length
    rw [List.length_map] at this
    exact this.symm
  refine Calls.call_function_entry kind_sorted plain_sorted entry_sorted (args_sorted1 _) ?_
  show wpAny _ _ (do
    checkCount "sorted" 1 1 1
    let l0 ← collect (Value.ref a)
    let l ← newList l0
    let _ ← holding [l] (call (Value.builtin "list.sort") [l] [])
    ret l) _ _ _
  refine wpAny_bind (wpAny_pure (wpAny_bind (wpAny_collect_seq a (T := "tuple") (.inr rfl) ho hc hd (fun h1 k1 => ?_) (by rw [List.size_toArray, hlen, sizeLine_eq]; omega))))
  refine wpAny_bind (wpAny_newList ?_ (by rw [show its.toArray.toList = its from rfl, hlen, sizeLine_eq]; omega))
  have hget : (h1.push { cls := Value.type "list", data := Data.seq its.toArray }).get? h1.objs.size = some (seqObj "list" its.toArray 0) := Heap.get?_push_size _ rfl
  refine wpAny_bind (wpAny_holding (wpAny_call_entry (T := "list") slot_list_sort ⟨_, hget, rfl⟩ entry_list_sort ?_ (args_list_sort _)))
  refine list_sort_tree hget hi (by rw [hlen]; exact hl) fun out ns' ho' hp hs => ⟨_, rfl, wpAny_pure ⟨_, rfl, ?_⟩⟩
  have I2 := I.kept (t' := s.toks) k1
  obtain ⟨e, he⟩ := sortedHeap_at (out := out) hget
  have old : ∀ (b : Addr) (u : Obj), h1.get? b = some u → (sortedHeap (h1.push { cls := Value.type "list", data := Data.seq its.toArray }) h1.objs.size its out).get? b = some u := fun b u hb => by
    have hlt := Heap.lt_size hb
    rw [sortedHeap_old (Nat.ne_of_lt hlt) (by rw [size_push']; exact Nat.lt_trans hlt (Nat.lt_succ_self _))]
    exact Heap.get?_push_of_some _ hb
  have hp0 : H h1.objs.size = none := I2.fresh
  have hl' : ns'.length = ns.length := hp.length_eq
  have hok : ObjOk X.prog X.w (upd H h1.objs.size (.lst (ns'.map V.int))) (sortedHeap (h1.push { cls := Value.type "list", data := Data.seq its.toArray }) h1.objs.size its out) h1.objs.size (.lst (ns'.map V.int)) := by
    refine ⟨by rw [List.length_map, hl', sizeLine_eq]; omega, out.toList, e, vals_of_ints ho', ?_⟩
    rw [he]
  exact ⟨.ref h1.objs.size, _, I2.laid old (Nat.le_refl _) hok, rfl, q ns' _ hp hs hp0⟩
theorem vals_at {xs : List V} {us : List Value} (h : Vals xs us) {i : Nat} {v : Value} (e : us[i]? = some v) : ∃ x, xs[i]? = some x ∧ RelV x v := by
  induction h generalizing i with
  | nil => simp at e
  | cons r t ih =>
    cases i with
    | zero => simp at e; subst e; exact ⟨_, rfl, r⟩
    | succ i => simpa using ih (by simpa using e)
/-- max, min of a tuple of ints -/
def rMaxT (K : PySem.W.Frag) (vs : List V) (H : Hp) (Q : VK) : Prop := ∃ (a : Addr) (ns : List Int), vs = [V.ref a] ∧ SqT K H a (ns.map V.int) ∧ 0 < ns.length ∧ ∀ m, m ∈ ns → (∀ y, y ∈ ns → y ≤ m) → Q (.int m) H
def rMinT (K : PySem.W.Frag) (vs : List V) (H : Hp) (Q : VK) : Prop := ∃ (a : Addr) (ns : List Int), vs = [V.ref a] ∧ SqT K H a (ns.map V.int) ∧ 0 < ns.length ∧ ∀ m, m ∈ ns → (∀ y, y ∈ ns → m ≤ y) → Q (.int m) H
theorem cr_minT {X : Cx} (hc : X.calm = true) : CallR X (.builtin "min") (rMinT X.K) := by
  intro pins s σ H xs us Q I hv h
  obtain ⟨a, ns, rfl, hq, hl, q⟩ := h
  obtain rfl := hv.ref1
  obtain ⟨its, r, tup, hz⟩ := I.tuple hq
  have hlen : its.length = ns.length := by
    have := r.length
    rw [List.length_map] at this
    exact this.symm
  have hP : ∀ (i : Nat) (v : Value), its.toArray[i]? = some v → ∃ t, v = Value.int (ns.getD i 0) t := fun i v e => by
    obtain ⟨x, hx, rx⟩ := vals_at r (by simpa using e)
    rw [List.getElem?_map] at hx
    cases h : ns[i]? with
    | none => rw [h] at hx; cases hx
    | some z =>
      rw [h] at hx
      cases hx
      obtain ⟨t, rfl⟩ := rx
      refine ⟨t, ?_⟩
      rw [List.getD, h]
      rfl
  have hlt : a < s.heap.objs.size := by
    obtain ⟨o, ho, _⟩ := tup
    exact Heap.lt_size ho
  refine call_min_walk (wpAny_pyIter_tuple tup ?_)
  have kp : ∀ (b : Addr) (o : Obj), s.heap.get? b = some o → (s.heap.push { cls := Value.type "tuple_iterator", data := Data.fields #[Value.ref a, Value.int 0 0] }).get? b = some o := fun b o e => Heap.get?_push_of_some _ e
  refine ⟨_, _, _, _, _, _, _, rfl, Walks.tuple (A := X.A.in1) (show X.A.in1.handled = none from I.ok.hd hc) s.heap.objs.size a (Nat.ne_of_lt hlt) its.toArray, ⟨?_, ?_⟩, ?_, ?_, CmpOf.ints_lt (fun i => ns.getD i 0) hP, fun v h' tk hv kp2 => ?_⟩
  · exact ⟨_, Heap.get?_push_size _ rfl, rfl, rfl⟩
  · obtain ⟨o, ho, r⟩ := tup
    exact ⟨o, kp _ _ ho, r⟩
  · intro b hb
    rw [size_push']
    simp only [List.mem_cons, List.not_mem_nil, or_false] at hb
    rcases hb with rfl | rfl
    · exact Nat.lt_succ_self _
    · exact Nat.lt_trans hlt (Nat.lt_succ_self _)
  · rw [List.size_toArray, hlen]
    exact hl
  · obtain ⟨t, rfl⟩ := hP _ v hv
    rw [List.size_toArray, hlen] at *
    obtain ⟨b1, b2⟩ := argBest_lt (fun i => ns.getD i 0) (ns.length - 1)
    refine ⟨.int _, H, I.kept (fun b o e => kp2 b o ?_ (kp b o e)), ⟨t, rfl⟩, q _ ?_ fun y hy => ?_⟩
    · intro z
      rw [List.mem_singleton] at z
      have := Heap.lt_size e
      exact Nat.ne_of_lt this z
    · have hb : argBest _ (ns.length - 1) < ns.length := Nat.lt_of_le_of_lt b1 (by omega)
      rw [List.getD, List.getElem?_eq_getElem hb]
      exact List.getElem_mem _
    · obtain ⟨j, hj, rfl⟩ := List.getElem_of_mem hy
      have := b2 j (by omega)
      simp only [List.getD, List.getElem?_eq_getElem hj, Option.getD_some] at this ⊢
      exact this
theorem cr_maxT {X : Cx} (hc : X.calm = true) : CallR X (.builtin "max") (rMaxT X.K) := by
  intro pins s σ H xs us Q I hv h
  obtain ⟨a, ns, rfl, hq, hl, q⟩ := h
  obtain rfl := hv.ref1
  obtain ⟨its, r, tup, hz⟩ := I.tuple hq
  have hlen : its.length = ns.length := by
    have := r.length
    rw [List.length_map] at this
    exact this.symm
  have hP : ∀ (i : Nat) (v : Value), its.toArray[i]? = some v → ∃ t, v = Value.int (ns.getD i 0) t := fun i v e => by
    obtain ⟨x, hx, rx⟩ := vals_at r (by simpa using e)
    rw [List.getElem?_map] at hx
    cases h : ns[i]? with
    | none => rw [h] at hx; cases hx
    | some z =>
      rw [h] at hx
      cases hx
      obtain ⟨t, rfl⟩ := rx
      refine ⟨t, ?_⟩
      rw [List.getD, h]
      rfl
  have hlt : a < s.heap.objs.size := by
    obtain ⟨o, ho, _⟩ := tup
    exact Heap.lt_size ho
  refine call_max_walk (wpAny_pyIter_tuple tup ?_)
  have kp : ∀ (b : Addr) (o : Obj), s.heap.get? b = some o → (s.heap.push { cls := Value.type "tuple_iterator", data := Data.fields #[Value.ref a, Value.int 0 0] }).get? b = some o := fun b o e => Heap.get?_push_of_some _ e
  refine ⟨_, _, _, _, _, _, _, rfl, Walks.tuple (A := X.A.in1) (show X.A.in1.handled = none from I.ok.hd hc) s.heap.objs.size a (Nat.ne_of_lt hlt) its.toArray, ⟨?_, ?_⟩, ?_, ?_, CmpOf.ints_gt (fun i => ns.getD i 0) hP, fun v h' tk hv kp2 => ?_⟩
  · exact ⟨_, Heap.get?_push_size _ rfl, rfl, rfl⟩
  · obtain ⟨o, ho, r⟩ := tup
    exact ⟨o, kp _ _ ho, r⟩
  · intro b hb
    rw [size_push']
    simp only [List.mem_cons, List.not_mem_nil, or_false] at hb
    rcases hb with rfl | rfl
    · exact Nat.lt_succ_self _
    · exact Nat.lt_trans hlt (Nat.lt_succ_self _)
  · rw [List.size_toArray, hlen]
    exact hl
  · obtain ⟨t, rfl⟩ := hP _ v hv
    rw [List.size_toArray, hlen] at *
    obtain ⟨b1, b2⟩ := argBest_gt (fun i => ns.getD i 0) (ns.length - 1)
    refine ⟨.int _, H, I.kept (fun b o e => kp2 b o ?_ (kp b o e)), ⟨t, rfl⟩, q _ ?_ fun y hy => ?_⟩
    · intro z
      rw [List.mem_singleton] at z
      have := Heap.lt_size e
      exact Nat.ne_of_lt this z
    · have hb : argBest _ (ns.length - 1) < ns.length := Nat.lt_of_le_of_lt b1 (by omega)
      rw [List.getD, List.getElem?_eq_getElem hb]
      exact List.getElem_mem _
    · obtain ⟨j, hj, rfl⟩ := List.getElem_of_mem hy
      have := b2 j (by omega)
      simp only [List.getD, List.getElem?_eq_getElem hj, Option.getD_some] at this ⊢
      exact this
end Dm

set_option Elab.async false
set_option linter.all false
set_option maxRecDepth 100000
set_option maxHeartbeats 4000000
/-! Rules over the heap: repr of data. -/
namespace Dm
open PySem PySem.Spec PyProof.Rows L2
def rRepr (K : PySem.W.Frag) (vs : List V) (H : Hp) (Q : VK) : Prop := ∃ (x : V) (d : PyData), vs = [x] ∧ Dp K H x d ∧ (x = .non ∨ ∃ a, x = .ref a) ∧ d.showable = true ∧ d.hasDict = false ∧ d.depth ≤ 64 ∧ d.shown.length ≤ sizeLine ∧ Q (.str d.shown) H
theorem cr_repr {X : Cx} (hg : X.A.guards = some []) (hu : X.A.units + 65 < cLine) : CallR X (.builtin "repr") (rRepr X.K) := by
  intro pins s σ H xs us Q I hv h
  obtain ⟨x, d, rfl, hd, hx, h1, h2, h3, h4, q⟩ := h
  obtain ⟨u, rfl, ru⟩ := vals1 hv
  rcases hx with rfl | ⟨a, rfl⟩
  · obtain rfl : u = Value.none := ru
    cases hd
    exact P.repr_of_none ⟨.str (PyData.shown .none), H, I.tok _, ⟨_, rfl⟩, q⟩
  · obtain rfl : u = Value.ref a := ru
    obtain ⟨as, hr⟩ := Dp.reads I d _ _ hd (show RelV (.ref a) (Value.ref a) from rfl)
    exact PySem.repr_of_reads' hr h1 (PyData.noDict_hsm h2) hg (by omega) (fun b o e => e) (fun h' t tk k => ⟨.str d.shown, H, I.kept k, ⟨_, rfl⟩, q⟩) h4
end Dm

set_option Elab.async false
set_option linter.all false
set_option maxRecDepth 100000
set_option maxHeartbeats 4000000
/-! Rules over the heap: min of a list of tuples of ints. -/
namespace Dm
open PySem PySem.Spec PyProof.Rows L2
theorem rich_lt_tup {prog : Program} {w : World} {A : Around} {E : Value → Shared → Prop} {s : Shared} {a b : Addr} {ia ib : Array Value} {ns ms : List Int} {Q : Value → Shared → Prop} (ha : s.heap.IsTuple a ia) (hb : s.heap.IsTuple b ib) (na : IntsAre ia.toList ns) (nb : IntsAre ib.toList ms) (hu : A.units < cLine)
    (q : Q (.bool (HT.lexLt ns ms)) s) : wpAny (model prog w) A (richCompare .Lt (.ref a) (.ref b)) Q E s := by
  obtain ⟨o, ho, hc, n, hd⟩ := ha
  obtain ⟨o2, ho2, hc2, n2, hd2⟩ := hb
  obtain ⟨cls, dict, data, slots⟩ := o
  obtain ⟨cls2, dict2, data2, slots2⟩ := o2
  cases hc; cases hd; cases hc2; cases hd2
  refine richCompare_meets_room (T := "tuple") ⟨_, ho, rfl⟩ ⟨_, ho2, rfl⟩ F.slot_tuple_lt F.entry_tuple_lt (F.args_tuple_lt_2 _ _) (HT.tuple_lt_ints a b ia ib n n2 dict dict2 slots slots2 ns ms na nb) ⟨ho, ho2, ?_⟩ hu
  exact ⟨(fun z => nomatch z), q⟩
theorem min_loopX {prog : Program} {w : World} {A : Around} {R : Result → Shared → Prop} {I : Addr} {fp wr : List Addr} {n : Nat} {P : Nat → Value → Prop} {St : Nat → Heap → Prop} {G : Heap → Prop} (W : Walks prog w A.in1 I fp wr n P St) (bt : Nat → Nat → Bool)
    (hcmp : ∀ (i j : Nat) (vi vj : Value) (s : Shared) (Q E : Value → Shared → Prop), G s.heap → P i vi → P j vj → Q (.bool (bt i j)) s → wpAny (model prog w) A.in1 (richCompare .Lt vi vj) Q E s) (S : Addr)
    (hG : ∀ h h' : Heap, G h → (∀ b o, b ∉ wr → b ≠ S → h.get? b = some o → h'.get? b = some o) → G h') (hS : S ∉ fp) : ∀ (k j : Nat) (s : Shared) (vb : Value) (c : Nat), n - (j + 1) = k → j + 1 ≤ n → St (j + 1) s.heap → G s.heap → P (argBest bt j) vb →
      s.heap.get? S = some { cls := Value.type "list", data := Data.seq #[vb, vb] c } →
      (∀ (v : Value) (h' : Heap) (tk : Nat), P (argBest bt (n - 1)) v → (∀ b o, b ∉ wr → b ≠ S → s.heap.get? b = some o → h'.get? b = some o) → R (.ok (.ret v)) { heap := h', gens := s.gens, drawn := s.drawn, toks := tk, os := s.os }) →
      codeAny (model prog w) A (.builtin "min.loop" { pos := [.ref I, .none, .ref S] }) R s := by
  intro k
  induction k with
  | zero =>
    intro j s vb c hk hj hst hg hp hs fin
    have ej : j + 1 = n := by omega
    refine codeAny_builtin F.entry_min_loop ?_
    rw [Around.under_plainId F.plain_min_loop]
    refine wpAny_bind (wpAny_seqItems hs rfl ?_)
    refine wpAny_bind (wpAny_tryCatch ?_)
    rw [ej] at hst
    refine W.done s _ _ hst fun h' tk kp => ?_
    have hs' : h'.get? S = some { cls := Value.type "list", data := Data.seq #[vb, vb] c } := kp S _ (fun z => hS (W.sub S z)) hs
    refine wpAny_bind (wpAny_updateSeq hs' rfl (wpAny_bind (wpAny_letGo (wpAny_pure ?_))) (by show 2 ≤ _; rw [sizeLine_eq]; omega) (by show 0 ≤ _; omega))
    have e : n - 1 = j := by omega
    rw [e] at fin
    exact fin vb _ _ hp fun b o n1 n2 e => by
      exact (Heap.get?_update_other _ _ n2.symm).trans (kp b o n1 e)
  | succ k ih =>
    intro j s vb c hk hj hst hg hp hs fin
    refine codeAny_builtin F.entry_min_loop ?_
    rw [Around.under_plainId F.plain_min_loop]
    refine wpAny_bind (wpAny_seqItems hs rfl ?_)
    refine wpAny_bind (wpAny_tryCatch ?_)
    refine W.item (j + 1) s _ _ (by omega) hst fun v h' tk pv st' kp => ?_
    have hg' : G h' := hG _ _ hg fun b o n1 n2 e => kp b o n1 e
    have hs' : h'.get? S = some { cls := Value.type "list", data := Data.seq #[vb, vb] c } := kp S _ (fun z => hS (W.sub S z)) hs
    refine wpAny_bind (wpAny_pure ?_)
    refine wpAny_bind (wpAny_tryCatch (wpAny_holding (wpAny_bind (hcmp (j + 1) (argBest bt j) v vb _ _ _ hg' pv hp ?_))))
    refine wpAny_bind (wpAny_holding (wpAny_truthy_bool (wpAny_bind (wpAny_letGo (wpAny_pure ?_)))))
    cases hb : bt (j + 1) (argBest bt j) with
    | true =>
      have hp' : P (argBest bt (j + 1)) v := by
        rw [argBest, hb, if_pos rfl]
        exact pv
      refine wpAny_bind (wpAny_updateSeq hs' rfl (wpAny_bind (wpAny_letGo (wpAny_pure ⟨plainId_quiet F.plain_min_loop _, ?_⟩))) (by show 2 ≤ _; rw [sizeLine_eq]; omega) (by show 2 ≤ _; rw [sizeLine_eq]; omega))
      have sz : (Obj.mapSeq (fun _ => #[v, v]) { cls := Value.type "list", data := Data.seq #[vb, vb] c }) = { cls := Value.type "list", data := Data.seq #[v, v] c } := rfl
      have keep : ∀ b o, b ∉ wr → b ≠ S → s.heap.get? b = some o → (h'.update S (Obj.mapSeq fun _ => #[v, v])).get? b = some o := fun b o n1 n2 e => (Heap.get?_update_other _ _ n2.symm).trans (kp b o n1 e)
      refine ih (j + 1) { heap := h'.update S (Obj.mapSeq fun _ => #[v, v]), gens := s.gens, drawn := s.drawn, toks := tk, os := s.os } v c (by omega) (by omega) ?_ (hG _ _ hg keep) hp' ?_ fun v2 h2 tk2 pv2 k2 => ?_
      · exact W.frame (j + 1 + 1) _ _ st' fun b hb2 o e => (Heap.get?_update_other _ _ (fun z => hS (by rw [z]; exact hb2))).trans e
      · exact (Heap.get?_update_self _ hs' rfl).trans (by rw [sz])
      · exact fin v2 h2 tk2 pv2 fun b o n1 n2 e => k2 b o n1 n2 (keep b o n1 n2 e)
    | false =>
      have hp' : P (argBest bt (j + 1)) vb := by
        rw [argBest, hb, if_neg (by decide)]
        exact hp
      refine wpAny_bind (wpAny_letGo (wpAny_pure ⟨plainId_quiet F.plain_min_loop _, ?_⟩))
      refine ih (j + 1) { heap := h', gens := s.gens, drawn := s.drawn, toks := tk, os := s.os } vb c (by omega) (by omega) st' hg' hp' hs' fun v h2 tk2 pv2 k2 => ?_
      exact fin v h2 tk2 pv2 fun b o n1 n2 e => k2 b o n1 n2 (kp b o n1 e)
theorem min_firstX {prog : Program} {w : World} {A : Around} {R : Result → Shared → Prop} {I : Addr} {fp wr : List Addr} {n : Nat} {P : Nat → Value → Prop} {St : Nat → Heap → Prop} {G : Heap → Prop} (W : Walks prog w A.in1 I fp wr n P St) (bt : Nat → Nat → Bool)
    (hcmp : ∀ (i j : Nat) (vi vj : Value) (s : Shared) (Q E : Value → Shared → Prop), G s.heap → P i vi → P j vj → Q (.bool (bt i j)) s → wpAny (model prog w) A.in1 (richCompare .Lt vi vj) Q E s) (S : Addr)
    (hG : ∀ h h' : Heap, G h → (∀ b o, b ∉ wr → b ≠ S → h.get? b = some o → h'.get? b = some o) → G h') (hS : S ∉ fp) (hn : 0 < n) {s : Shared} {c : Nat} (hst : St 0 s.heap) (hg : G s.heap) (hs : s.heap.get? S = some { cls := Value.type "list", data := Data.seq #[] c })
    (fin : ∀ (v : Value) (h' : Heap) (tk : Nat), P (argBest bt (n - 1)) v → (∀ b o, b ∉ wr → b ≠ S → s.heap.get? b = some o → h'.get? b = some o) → R (.ok (.ret v)) { heap := h', gens := s.gens, drawn := s.drawn, toks := tk, os := s.os }) :
      codeAny (model prog w) A (.builtin "min.loop" { pos := [.ref I, .none, .ref S] }) R s := by
  refine codeAny_builtin F.entry_min_loop ?_
  rw [Around.under_plainId F.plain_min_loop]
  refine wpAny_bind (wpAny_seqItems hs rfl ?_)
  refine wpAny_bind (wpAny_tryCatch ?_)
  refine W.item 0 s _ _ hn hst fun v h' tk pv st' kp => ?_
  have hs' : h'.get? S = some { cls := Value.type "list", data := Data.seq #[] c } := kp S _ (fun z => hS (W.sub S z)) hs
  refine wpAny_bind (wpAny_pure ?_)
  refine wpAny_bind (wpAny_updateSeq hs' rfl (wpAny_pure ⟨plainId_quiet F.plain_min_loop _, ?_⟩) (by show 0 ≤ _; omega) (by show 2 ≤ _; rw [sizeLine_eq]; omega))
  have sz : (Obj.mapSeq (fun _ => #[v, v]) { cls := Value.type "list", data := Data.seq #[] c }) = { cls := Value.type "list", data := Data.seq #[v, v] (c + 1) } := rfl
  have keep : ∀ b o, b ∉ wr → b ≠ S → s.heap.get? b = some o → (h'.update S (Obj.mapSeq fun _ => #[v, v])).get? b = some o := fun b o n1 n2 e => (Heap.get?_update_other _ _ n2.symm).trans (kp b o n1 e)
  refine min_loopX W bt hcmp S hG hS (n - 1) 0 { heap := h'.update S (Obj.mapSeq fun _ => #[v, v]), gens := s.gens, drawn := s.drawn, toks := tk, os := s.os } v (c + 1) rfl (by omega) ?_ (hG _ _ hg keep) pv ?_ fun v2 h2 tk2 pv2 k2 => ?_
  · exact W.frame (0 + 1) _ _ st' fun b hb2 o e => (Heap.get?_update_other _ _ (fun z => hS (by rw [z]; exact hb2))).trans e
  · exact (Heap.get?_update_self _ hs' rfl).trans (by rw [sz])
  · exact fin v2 h2 tk2 pv2 fun b o n1 n2 e => k2 b o n1 n2 (keep b o n1 n2 e)
theorem call_minX {prog : Program} {w : World} {A : Around} {E : Value → Shared → Prop} {s : Shared} {x : Value} {Q : Value → Shared → Prop} (h : wpAny (model prog w) A.in1 (pyIter x) (fun it s₂ => ∃ (I : Addr) (fp wr : List Addr) (n : Nat) (P : Nat → Value → Prop) (St : Nat → Heap → Prop) (bt : Nat → Nat → Bool) (G : Heap → Prop), it = .ref I ∧ Walks prog w A.in1 I fp wr n P St ∧ St 0 s₂.heap ∧ (∀ b, b ∈ fp → b < s₂.heap.objs.size) ∧ 0 < n ∧
      (∀ (i j : Nat) (vi vj : Value) (s : Shared) (Q E : Value → Shared → Prop), G s.heap → P i vi → P j vj → Q (.bool (bt i j)) s → wpAny (model prog w) A.in1 (richCompare .Lt vi vj) Q E s) ∧
      (∀ h h' : Heap, G h → (∀ b o, b ∉ wr → b < s₂.heap.objs.size → h.get? b = some o → h'.get? b = some o) → G h') ∧ G s₂.heap ∧
      ∀ (v : Value) (h' : Heap) (tk : Nat), P (argBest bt (n - 1)) v → (∀ b o, b ∉ wr → s₂.heap.get? b = some o → h'.get? b = some o) → Q v { heap := h', gens := s₂.gens, drawn := s₂.drawn, toks := tk, os := s₂.os }) E s) : wpAny (model prog w) A (call (.builtin "min") [x]) Q E s := by
  refine call_function_tree F.kind_min F.plain_min F.entry_min (F.args_min1 _) ?_
  refine wpAny_bind (wpAny_of_eq (a := [none, none]) rfl (wpAny_bind (wpAny_pure (wpAny_bind (wpAny_mono h (fun it s2 hs => ?_) fun e s' z => z)))))
  obtain ⟨I, fp, wr, n, P, St, bt, G, rfl, W, hst, hfp, hn, hcmp, hG, hg, fin⟩ := hs
  refine wpAny_bind (wpAny_newList ?_ (by show 0 ≤ _; omega))
  refine wpAny_pure ⟨plainId_quiet F.plain_min_loop _, ?_⟩
  have hp : ∀ b o, s2.heap.get? b = some o → (s2.heap.push { cls := Value.type "list", data := Data.seq #[] }).get? b = some o := fun b o e => Heap.get?_push_of_some _ e
  refine min_firstX (G := fun h => ∃ h0, G h0 ∧ ∀ b o, b ∉ wr → b < s2.heap.objs.size → h0.get? b = some o → h.get? b = some o) W bt (fun i j vi vj s Q E hg pi pj q => ?_) s2.heap.objs.size (fun h h' hg k => ?_) (fun z => Nat.lt_irrefl _ (hfp _ z)) hn (W.frame 0 _ _ hst fun b _ o e => hp b o e) ⟨_, hg, fun b o _ _ e => hp b o e⟩ (Heap.get?_push_size _ rfl) fun v h' tk pv k => ?_
  · obtain ⟨h0, g0, k0⟩ := hg
    exact hcmp i j vi vj s Q E (hG _ _ g0 k0) pi pj q
  · obtain ⟨h0, g0, k0⟩ := hg
    exact ⟨h0, g0, fun b o n1 n2 e => k b o n1 (Nat.ne_of_lt n2) (k0 b o n1 n2 e)⟩
  · exact fin v h' tk pv fun b o n1 e => k b o n1 (Nat.ne_of_lt (Heap.lt_size e)) (hp b o e)
theorem lexLt_nil (ys : List Int) : HT.lexLt [] ys = !ys.isEmpty := by cases ys <;> rfl
theorem lexLt_nil2 (xs : List Int) : HT.lexLt xs [] = false := by cases xs <;> rfl
theorem lexLt_cons (x y : Int) (xs ys : List Int) : HT.lexLt (x :: xs) (y :: ys) = if x = y then HT.lexLt xs ys else decide (x < y) := rfl
theorem lexLt_trans : ∀ (a b c : List Int), HT.lexLt a b = true → HT.lexLt b c = true → HT.lexLt a c = true
  | _, _, [], _, h => by rw [lexLt_nil2] at h; cases h
  | _, [], _ :: _, h, _ => by rw [lexLt_nil2] at h; cases h
  | [], _ :: _, _ :: _, _, _ => rfl
  | x :: a, y :: b, z :: c, h, h' => by
    rw [lexLt_cons] at h h' ⊢
    split at h
    · split at h'
      · rw [if_pos (by omega)]
        exact lexLt_trans a b c h h'
      · have := of_decide_eq_true h'
        rw [if_neg (by omega)]
        exact decide_eq_true (by omega)
    · have := of_decide_eq_true h
      split at h'
      · rw [if_neg (by omega)]
        exact decide_eq_true (by omega)
      · have := of_decide_eq_true h'
        rw [if_neg (by omega)]
        exact decide_eq_true (by omega)
theorem lexLt_irr : ∀ a : List Int, HT.lexLt a a = false
  | [] => rfl
  | x :: a => by rw [lexLt_cons, if_pos rfl, lexLt_irr a]
theorem argBest_lex (L : Nat → List Int) (k : Nat) : argBest (fun i j => HT.lexLt (L i) (L j)) k ≤ k ∧ ∀ j, j ≤ k → HT.lexLt (L j) (L (argBest (fun i j => HT.lexLt (L i) (L j)) k)) = false := by
  induction k with
  | zero => exact ⟨Nat.le_refl _, fun j h => by
      have : j = 0 := by omega
      subst this
      exact lexLt_irr _⟩
  | succ k ih =>
    obtain ⟨h1, h2⟩ := ih
    rw [argBest]
    cases hb : HT.lexLt (L (k + 1)) (L (argBest (fun i j => HT.lexLt (L i) (L j)) k)) with
    | true =>
      rw [if_pos rfl]
      refine ⟨Nat.le_refl _, fun j hj => ?_⟩
      by_cases e : j = k + 1
      · subst e
        exact lexLt_irr _
      · cases h : HT.lexLt (L j) (L (k + 1)) with
        | false => rfl
        | true =>
          have := lexLt_trans _ _ _ h hb
          rw [h2 j (by omega)] at this
          cases this
    | false =>
      rw [if_neg (by decide)]
      refine ⟨by omega, fun j hj => ?_⟩
      by_cases e : j = k + 1
      · subst e
        exact hb
      · exact h2 j (by omega)
/-- min of a list of tuples of ints -/
def rMinTs (K : PySem.W.Frag) (vs : List V) (H : Hp) (Q : VK) : Prop := ∃ (a : Addr) (xs : List V) (L : List (List Int)), vs = [V.ref a] ∧ SqL K H a xs ∧ xs.length = L.length ∧ (∀ (i : Nat) (x : V) (ns : List Int), xs[i]? = some x → L[i]? = some ns → ∃ t, x = .ref t ∧ SqT K H t (ns.map V.int)) ∧ 0 < L.length ∧
  ∀ (i : Nat) (x : V) (ns : List Int), xs[i]? = some x → L[i]? = some ns → (∀ ms ∈ L, HT.lexLt ms ns = false) → Q x H
theorem cr_minTs {X : Cx} (hc : X.calm = true) (hu : X.A.units + 3 < cLine) : CallR X (.builtin "min") (rMinTs X.K) := by
  intro pins s σ H xs us Q I hv h
  obtain ⟨a, ys, L, rfl, hq, hL, hT, hl, q⟩ := h
  obtain rfl := hv.ref1
  obtain ⟨its, r, pl, hz⟩ := I.list hq
  have hlen : its.length = L.length := r.length.symm.trans hL
  have pl' := pl.isList
  have hlt : a < s.heap.objs.size := by
    obtain ⟨o, n, ho, _⟩ := pl
    exact Heap.lt_size ho
  have hI : ∀ (i : Nat) (v : Value), its.toArray[i]? = some v → ∃ t ia, v = .ref t ∧ s.heap.IsTuple t ia ∧ IntsAre ia.toList (L.getD i []) := fun i v e => by
    obtain ⟨x, hx, rx⟩ := vals_at r (by simpa using e)
    have hi : i < L.length := by
      rw [← hL]
      exact (List.getElem?_eq_some_iff.mp hx).1
    obtain ⟨t, rfl, ht⟩ := hT i x _ hx (List.getElem?_eq_getElem hi)
    obtain ⟨ta, rt, tt, _⟩ := I.tuple ht
    refine ⟨t, ta.toArray, rx, tt, ?_⟩
    have := rt.ints
    rw [List.getD, List.getElem?_eq_getElem hi]
    exact this
  refine call_minX (wpAny_pyIter_list pl' ?_)
  have kp : ∀ (b : Addr) (o : Obj), s.heap.get? b = some o → (s.heap.push { cls := Value.type "list_iterator", data := Data.fields #[Value.ref a, Value.int 0 0] }).get? b = some o := fun b o e => Heap.get?_push_of_some _ e
  refine ⟨_, _, _, _, _, _, fun i j => HT.lexLt (L.getD i []) (L.getD j []), fun h => ∀ (t : Addr) (ia : Array Value), s.heap.IsTuple t ia → h.IsTuple t ia, rfl, Walks.list (A := X.A.in1) (show X.A.in1.handled = none from I.ok.hd hc) s.heap.objs.size a (Nat.ne_of_lt hlt) its.toArray, ⟨?_, ?_⟩, ?_, ?_, fun i j vi vj s2 Q E hg pi pj q => ?_, fun h h' hg k t ia ht => ?_, fun t ia ht => ?_, fun v h' tk pv k => ?_⟩
  · exact ⟨_, Heap.get?_push_size _ rfl, rfl, rfl⟩
  · obtain ⟨o, n, ho, h1, h2, h3⟩ := pl
    exact PlainL.isList ⟨o, n, kp _ _ ho, h1, h2, h3⟩
  · intro b hb
    rw [size_push']
    simp only [List.mem_cons, List.not_mem_nil, or_false] at hb
    rcases hb with rfl | rfl
    · exact Nat.lt_succ_self _
    · exact Nat.lt_trans hlt (Nat.lt_succ_self _)
  · rw [List.size_toArray, hlen]
    exact hl
  · obtain ⟨t, ia, rfl, h1, h2⟩ := hI i vi pi
    obtain ⟨u, ib, rfl, h3, h4⟩ := hI j vj pj
    exact rich_lt_tup (hg t ia h1) (hg u ib h3) h2 h4 (by show X.A.units + 1 < cLine; omega) q
  · obtain ⟨o, ho, r1⟩ := hg t ia ht
    obtain ⟨o0, ho0, _⟩ := ht
    have hlt0 := Heap.lt_size ho0
    refine ⟨o, k t o ?_ ?_ ho, r1⟩
    · intro z
      rw [List.mem_singleton] at z
      exact Nat.ne_of_lt hlt0 z
    · rw [size_push']
      exact Nat.lt_trans hlt0 (Nat.lt_succ_self _)
  · obtain ⟨o, ho, r1⟩ := ht
    exact ⟨o, kp _ _ ho, r1⟩
  · have hn : its.toArray.size = L.length := by rw [List.size_toArray, hlen]
    rw [hn] at pv
    obtain ⟨b1, b2⟩ := argBest_lex (fun i => L.getD i []) (L.length - 1)
    have hb : argBest (fun i j => HT.lexLt (L.getD i []) (L.getD j [])) (L.length - 1) < L.length := Nat.lt_of_le_of_lt b1 (by omega)
    obtain ⟨x, hx, rx⟩ := vals_at r (by simpa using pv)
    refine ⟨x, H, I.kept (fun b o e => k b o ?_ (kp b o e)), rx, q _ x _ hx (List.getElem?_eq_getElem hb) fun ms hm => ?_⟩
    · intro z
      rw [List.mem_singleton] at z
      exact Nat.ne_of_lt (Heap.lt_size e) z
    · obtain ⟨j, hj, rfl⟩ := List.getElem_of_mem hm
      have := b2 j (by omega)
      have ge : ∀ {i : Nat} (hi : i < L.length), L.getD i [] = L[i] := fun {i} hi => by rw [List.getD, List.getElem?_eq_getElem hi]; rfl
      rw [ge hj, ge hb] at this
      exact this
end Dm

set_option Elab.async false
set_option linter.all false
set_option maxRecDepth 100000
set_option maxHeartbeats 4000000
/-! The data machine: ranges as values, ranges with a step, a chain of three, sorted/max/min of tuples, in of data, repr, min of tuples. -/
namespace Dm
open PySem PySem.Spec PyProof.Rows L2
theorem Jn.newF {K : PySem.W.Frag} {F H : Hp} {θ : List Addr} {O : Sto} (j : Jn K F H θ O) {p : Addr} {o : HO} (h : H p = none) : Jn K (L2.upd F p o) (L2.upd H p o) θ O := by
  refine ⟨fun a o e => ?_, j.len, j.nd, fun k a c e1 e2 => ?_, fun k a e => ?_⟩
  · by_cases q : a = p
    · subst q
      rw [upd_same] at e ⊢
      exact e
    · rw [upd_ne q] at e ⊢
      exact j.sub a o e
  · have q := j.nin h e1
    exact (j.ok k a c e1 e2).stay (Gr.upd (j.freeF h)) (fun f _ => by rw [upd_ne q]; exact f) fun o e => by rw [upd_ne q]; exact e
  · rw [upd_ne (j.nin h e)]
    exact j.kno k a e
theorem RW.rng_inv {K : PySem.W.Frag} {F : Hp} {θ : List Addr} {v : V} {lo hi : Int} (r : RW K F θ v (.rng lo hi)) : ∃ a, v = .ref a ∧ F a = some (.rng lo hi) := by
  cases r with
  | rng h => exact ⟨_, rfl, h⟩
/-! ### ranges -/
theorem cr_range1 {X : Cx} : CallR X (.type "range") (fun vs H Q => ∃ j, vs = [V.int j] ∧ ∀ p, H p = none → Q (.ref p) (L2.upd H p (.rng 0 j))) := by
  intro pins s σ H xs us Q I hv h
  obtain ⟨j, rfl, q⟩ := h
  obtain ⟨u, rfl, t, rfl⟩ := vals1 hv
  refine call_range_1 ?_
  have hp := I.fresh
  refine ⟨.ref s.heap.objs.size, _, I.laid (fun b u e => Heap.get?_push_of_some _ e) (Nat.le_refl _) ?_, rfl, q _ hp⟩
  exact ⟨_, _, _, Heap.get?_push_size _ rfl⟩
def rdRng1 : RCD := fun ws O S => ∃ j, ws = [.int j] ∧ S (.rng 0 j) O
theorem src_rng1 {K : PySem.W.Frag} : SRC K (fun vs H Q => ∃ j, vs = [V.int j] ∧ ∀ p, H p = none → Q (.ref p) (L2.upd H p (.rng 0 j))) rdRng1 := by
  intro F H θ O vs ws S j r q Q k
  obtain ⟨i, rfl, q⟩ := q
  obtain ⟨v, rfl, rv⟩ := r.one_inv
  refine ⟨i, by rw [rv.int_inv], fun p hp => ?_⟩
  exact k _ _ _ _ _ _ (Gr.upd (j.freeF hp)) (j.newF hp) (.rng upd_same) q
def diRv (we : DE) : DS → Sto → (Wk → Sto → Prop) → Prop := fun δ O S => we δ O fun w O1 => ∃ lo hi : Int, w = .rng lo hi ∧ (-(2 ^ 62) ≤ lo ∧ lo < 2 ^ 62 ∧ -(2 ^ 62) ≤ hi ∧ hi < 2 ^ 62) ∧ S (wkR lo (hi - lo).toNat) O1
def wkC (lo c : Int) (n : Nat) : Wk := ⟨fun i _ => if i < n then some (.int (lo + i * c)) else none, fun _ => True⟩
def diR3 (wa : DA) : DS → Sto → (Wk → Sto → Prop) → Prop := fun δ O S => wa δ O fun ws O1 => ∃ (i j c : Int) (n : Nat), ws = [.int i, .int j, .int c] ∧ RgC i j c n ∧ S (wkC i c n) O1
theorem RWs.three_inv {K : PySem.W.Frag} {F : Hp} {θ : List Addr} {vs : List V} {w z y : W} (r : RWs K F θ vs [w, z, y]) : ∃ v u t, vs = [v, u, t] ∧ RW K F θ v w ∧ RW K F θ u z ∧ RW K F θ t y := by
  cases r with
  | cons a b =>
    obtain ⟨u, t, e, c, d⟩ := b.two_inv
    subst e
    exact ⟨_, _, _, rfl, a, c, d⟩
theorem turnC {K : PySem.W.Frag} {lo c : Int} {n : Nat} {i : Nat} {F2 H2 : Hp} {θ2 : List Addr} {O2 : Sto} (j2 : Jn K F2 H2 θ2 O2) :
    ((wkC lo c n).at_ i O2 = none ∧ (Itc lo c n).stop i H2) ∨ ∃ z, (wkC lo c n).at_ i O2 = some z ∧ (Itc lo c n).go i H2 ∧ ∀ x H3, (Itc lo c n).yld i H2 x H3 → ∃ F3 θ3, Gr F2 θ2 F3 θ3 ∧ Jn K F3 H3 θ3 O2 ∧ RW K F3 θ3 x z := by
  by_cases h : i < n
  · refine .inr ⟨.int (lo + i * c), if_pos h, h, fun x H3 hy => ?_⟩
    obtain ⟨rfl, rfl⟩ := hy
    exact ⟨F2, θ2, Gr.refl, j2, .int _⟩
  · exact .inl ⟨if_neg h, by show n ≤ i; omega⟩
section
variable {X : Cx} {tg a b c d e : Expr} {es : List Expr} {wa : DA} {we wx wb wc wd : DE} {p pos : Pos}
theorem ei_rngV (h : ED X e we) : EDI X tg e (diRv we) := by
  obtain ⟨t0, p0, s0⟩ := h.ex
  refine ⟨_, pi_rngV p0, fun F H θ O σ δ S j s q R k => ?_⟩
  refine s0 F H θ O σ δ _ j s q _ fun v w F1 H1 θ1 O1 g1 j1 r1 q1 => ?_
  obtain ⟨lo, hi, rfl, hb, q1⟩ := q1
  obtain ⟨a, rfl, ha⟩ := r1.rng_inv
  exact ⟨a, lo, hi, rfl, j1.sub _ _ ha, hb, k _ _ F1 H1 θ1 O1 g1 j1 q1 fun i F2 H2 θ2 O2 _ j2 _ => turnR j2⟩
theorem ei_range3 (hg : Gl X "range") (hm : X.mg "range" = none) (ha : EDA X [a, b, c] wa) (hs : starEach [a, b, c] X.env = (false, eval a X.env) :: starEach [b, c] X.env := by rfl) (hpl : (backTo pos (starEach [b, c] X.env)).any (·.1) = false := by rfl) : EDI X tg (.Call (.Name "range" p) [a, b, c] [] pos) (diR3 wa) := by
  obtain ⟨t0, p0, s0⟩ := ha.ex
  refine ⟨_, pi_range3 hg hm p0 hs hpl, fun F H θ O σ δ S j s q R k => ?_⟩
  refine s0 F H θ O σ δ _ j s q _ fun vs ws F1 H1 θ1 O1 g1 j1 r1 q1 => ?_
  obtain ⟨n, m, l, num, rfl, h1, q1⟩ := q1
  obtain ⟨v, u, t, rfl, r, r', r''⟩ := r1.three_inv
  rw [r.int_inv, r'.int_inv, r''.int_inv]
  exact ⟨n, m, l, num, rfl, h1, k _ _ F1 H1 θ1 O1 g1 j1 q1 fun i F2 H2 θ2 O2 _ j2 _ => turnC j2⟩
/-! ### a chain of three -/
def dChain3 (r1 r2 r3 : R2D) (wa wb wc wd : DE) : DE := fun δ O S => wa δ O fun x O1 => wb δ O1 fun y O2 => r1 x y O2 fun z O3 => ∃ k, z = .bl k ∧ if k = true then wc δ O3 fun v O4 => r2 y v O4 fun z2 O5 => ∃ k2, z2 = .bl k2 ∧ if k2 = true then wd δ O5 fun u O6 => r3 v u O6 S else S (.bl false) O5 else S (.bl false) O3
theorem chain3_sound {K : PySem.W.Frag} {r1 r2 r3 : R2} {d1 d2 d3 : R2D} {ta tb tc td : TE} (h1 : SR2 K r1 d1) (h2 : SR2 K r2 d2) (h3 : SR2 K r3 d3) (sa : SE K ta wx) (sb : SE K tb wb) (sc : SE K tc wc) (sd : SE K td wd) : SE K (tChain3 r1 r2 r3 ta tb tc td) (dChain3 d1 d2 d3 wx wb wc wd) := fun F H θ O σ δ S j s q Q k => by
  refine sa F H θ O σ δ _ j s q _ fun v x F1 H1 θ1 O1 g1 j1 r1' q1 => ?_
  refine sb F1 H1 θ1 O1 σ δ _ j1 (s.mono g1) q1 _ fun u y F2 H2 θ2 O2 g2 j2 r2' q2 => ?_
  refine h1 F2 H2 θ2 O2 x y v u _ j2 (r1'.mono g2) r2' q2 _ fun z w F3 H3 θ3 O3 g3 j3 r3' q3 => ?_
  obtain ⟨t, rfl, q3⟩ := q3
  have g := (g1.trans g2).trans g3
  refine ⟨t, r3'.bl_inv, ?_⟩
  cases t with
  | false => exact k _ _ F3 H3 θ3 O3 g j3 (.bl false) q3
  | true =>
    refine sc F3 H3 θ3 O3 σ δ _ j3 (s.mono g) q3 _ fun v2 y2 F4 H4 θ4 O4 g4 j4 r4 q4 => ?_
    refine h2 F4 H4 θ4 O4 y y2 u v2 _ j4 ((r2'.mono g3).mono g4) r4 q4 _ fun z w F5 H5 θ5 O5 g5 j5 r5 q5 => ?_
    obtain ⟨t, rfl, q5⟩ := q5
    have gg := (g.trans g4).trans g5
    refine ⟨t, r5.bl_inv, ?_⟩
    cases t with
    | false => exact k _ _ F5 H5 θ5 O5 gg j5 (.bl false) q5
    | true =>
      refine sd F5 H5 θ5 O5 σ δ _ j5 (s.mono gg) q5 _ fun v3 y3 F6 H6 θ6 O6 g6 j6 r6 q6 => ?_
      exact h3 F6 H6 θ6 O6 y2 y3 v2 v3 S j6 ((r4.mono g5).mono g6) r6 q6 Q fun z w F7 H7 θ7 O7 g7 => k z w F7 H7 θ7 O7 ((gg.trans g6).trans g7)
theorem ed_chain3 {o1 o2 o3 : CmpOp} {r1 r2 r3 : R2} {d1 d2 d3 : R2D} (ho1 : OpR X (compareOp o1) r1) (ho2 : OpR X (compareOp o2) r2) (ho3 : OpR X (compareOp o3) r3) (h1 : SR2 X.K r1 d1) (h2 : SR2 X.K r2 d2) (h3 : SR2 X.K r3 d3) (ha : ED X a wx) (hb : ED X b wb) (hc : ED X c wc) (hd : ED X d wd)
    (hm : lastMarks [o1, o2, o3] [b, c, d] = false := by with_unfolding_all rfl) : ED X (.Compare a [o1, o2, o3] [b, c, d] pos) (dChain3 d1 d2 d3 wx wb wc wd) := by
  obtain ⟨ta, pa, sa⟩ := ha.ex
  obtain ⟨tb, pb, sb⟩ := hb.ex
  obtain ⟨tc, pc, sc⟩ := hc.ex
  obtain ⟨td, pd, sd⟩ := hd.ex
  exact ⟨_, pe_chain3 ho1 ho2 ho3 pa pb pc pd hm, chain3_sound h1 h2 h3 sa sb sc sd⟩
end
/-! ### is not None -/
def dNotN (we : DE) : DE := fun δ O S => we δ O fun x O1 => S (.bl (!isN x)) O1
section
variable {X : Cx} {a : Expr} {wa : DE} {pos : Pos}
theorem SE.notN {K : PySem.W.Frag} {ta : TE} (s : SE K ta wa) : SE K (tNotN ta) (dNotN wa) := fun F H θ O σ δ S j s' q Q k => by
  refine s F H θ O σ δ _ j s' q _ fun v x F1 H1 θ1 O1 g1 j1 r1 q1 => ?_
  rw [isN_rel r1]
  exact k _ _ F1 H1 θ1 O1 g1 j1 (.bl _) q1
theorem ed_notN {j pos'} (h : ED X a wa) : ED X (.Compare a [.IsNot] [.Constant .none j pos'] pos) (dNotN wa) := by
  obtain ⟨t, p, s⟩ := h.ex
  exact ⟨_, pe_cmp (pc_notN p), s.notN⟩
theorem et_notN {j pos'} (h : ED X a wa) : EDT X (.Compare a [.IsNot] [.Constant .none j pos'] pos) (dTest (dNotN wa)) := by
  obtain ⟨t, p, s⟩ := h.ex
  exact ⟨_, pt_cmp (pc_notN p), .test s.notN⟩
end
/-! ### - of an int -/
def dNeg (we : DE) : DE := fun δ O S => we δ O fun x O1 => ∃ i : Int, x = .int i ∧ S (.int (-i)) O1
section
variable {X : Cx} {a : Expr} {wa : DE} {pos : Pos}
theorem ed_neg (h : ED X a wa) : ED X (.UnaryOp .USub a pos) (dNeg wa) := by
  obtain ⟨t, p, s⟩ := h.ex
  refine ⟨_, pe_un un_neg p, fun F H θ O σ δ S j s' q Q k => ?_⟩
  refine s F H θ O σ δ _ j s' q _ fun v x F1 H1 θ1 O1 g1 j1 r1 q1 => ?_
  obtain ⟨i, rfl, q1⟩ := q1
  exact ⟨i, r1.int_inv, k _ _ F1 H1 θ1 O1 g1 j1 (.int _) q1⟩
end
/-! ### of tuples of ints -/
theorem tints {K : PySem.W.Frag} {F : Hp} {θ : List Addr} {v : V} {ns : List Int} (r : RW K F θ v (.tup (ns.map W.int))) : ∃ a, v = .ref a ∧ SqT K F a (ns.map V.int) := by
  obtain ⟨a, vs, rfl, hq, rr⟩ := r.tup_inv
  exact ⟨a, rfl, by rw [← ints_rel rr]; exact hq⟩
def rdSortT : RCD := fun ws O S => ∃ ns : List Int, ws = [.tup (ns.map W.int)] ∧ ns.length < 64 ∧ ∀ ns' : List Int, ns'.Perm ns → List.Pairwise (fun x y => x ≤ y) ns' → S (.cell O.length) (O ++ [.lst (ns'.map W.int)])
theorem src_sortT {K : PySem.W.Frag} : SRC K (rSortT K) rdSortT := by
  intro F H θ O vs ws S j r q Q k
  obtain ⟨ns, rfl, hl, q⟩ := q
  obtain ⟨v, rfl, rv⟩ := r.one_inv
  obtain ⟨a, rfl, ha⟩ := tints rv
  refine ⟨a, ns, rfl, sqT_sub j ha, hl, fun ns' p h1 h2 hp => ?_⟩
  exact k _ _ _ _ _ _ Gr.push (j.newL hp RWs.ints) (.cell (by rw [← j.len]; simp)) (q ns' h1 h2)
def rdMaxT : RCD := fun ws O S => ∃ ns : List Int, ws = [.tup (ns.map W.int)] ∧ 0 < ns.length ∧ ∀ m, m ∈ ns → (∀ y, y ∈ ns → y ≤ m) → S (.int m) O
def rdMinT : RCD := fun ws O S => ∃ ns : List Int, ws = [.tup (ns.map W.int)] ∧ 0 < ns.length ∧ ∀ m, m ∈ ns → (∀ y, y ∈ ns → m ≤ y) → S (.int m) O
theorem src_maxT {K : PySem.W.Frag} : SRC K (rMaxT K) rdMaxT := by
  intro F H θ O vs ws S j r q Q k
  obtain ⟨ns, rfl, hl, q⟩ := q
  obtain ⟨v, rfl, rv⟩ := r.one_inv
  obtain ⟨a, rfl, ha⟩ := tints rv
  exact ⟨a, ns, rfl, sqT_sub j ha, hl, fun m h1 h2 => k _ _ F H θ O Gr.refl j (.int m) (q m h1 h2)⟩
theorem src_minT {K : PySem.W.Frag} : SRC K (rMinT K) rdMinT := by
  intro F H θ O vs ws S j r q Q k
  obtain ⟨ns, rfl, hl, q⟩ := q
  obtain ⟨v, rfl, rv⟩ := r.one_inv
  obtain ⟨a, rfl, ha⟩ := tints rv
  exact ⟨a, ns, rfl, sqT_sub j ha, hl, fun m h1 h2 => k _ _ F H θ O Gr.refl j (.int m) (q m h1 h2)⟩
def tupW (ns : List Int) : W := .tup (ns.map W.int)
def rdMinTs : RCD := fun ws O S => ∃ (k : Nat) (L : List (List Int)), ws = [.cell k] ∧ LstC O k (L.map tupW) ∧ 0 < L.length ∧ ∀ ns, ns ∈ L → (∀ ms ∈ L, HT.lexLt ms ns = false) → S (tupW ns) O
theorem src_minTs {K : PySem.W.Frag} : SRC K (rMinTs K) rdMinTs := by
  intro F H θ O vs ws S j r q Q k
  obtain ⟨c, L, rfl, hc, hl, q⟩ := q
  obtain ⟨v, rfl, rv⟩ := r.one_inv
  obtain ⟨a, rfl, ha⟩ := rv.cell_inv
  obtain ⟨xs, hx, rr⟩ := j.lstC ha hc
  have hat : ∀ (i : Nat) (x : V) (ns : List Int), xs[i]? = some x → L[i]? = some ns → RW K F θ x (tupW ns) := fun i x ns e1 e2 => by
    obtain ⟨w, hw, rw'⟩ := rr.getV e1
    rw [List.getElem?_map, e2] at hw
    cases hw
    exact rw'
  refine ⟨a, xs, L, rfl, hx, by rw [rr.length, List.length_map], fun i x ns e1 e2 => ?_, hl, fun i x ns e1 e2 h => ?_⟩
  · obtain ⟨t, rfl, ht⟩ := tints (hat i x ns e1 e2)
    exact ⟨t, rfl, sqT_sub j ht⟩
  · exact k _ _ F H θ O Gr.refl j (hat i x ns e1 e2) (q ns (List.mem_of_getElem? e2) h)
/-! ### in, of data; repr -/
def rdInL : R2D := fun x y O S => ∃ d ds, DW O x d ∧ DW O y (.list ds) ∧ SeqAt.shaped d = true ∧ SeqAt.shaped (.list ds) = true ∧ S (.bl (ds.any fun z => PyData.eqv z d)) O
theorem sr_inL {K : PySem.W.Frag} : SR2 K (L2.rInD K) rdInL := by
  intro F H θ O x y v u S j rx ry q Q k
  obtain ⟨d, ds, hd, he, h1, h2, q⟩ := q
  exact ⟨d, ds, hd.dp j rx, he.dp j ry, h1, h2, k _ _ F H θ O Gr.refl j (.bl _) q⟩
def rdRepr : RCD := fun ws O S => ∃ (x : W) (d : PyData), ws = [x] ∧ DW O x d ∧ (x = .non ∨ (∃ us, x = .tup us) ∨ ∃ k, x = .cell k) ∧ d.showable = true ∧ d.hasDict = false ∧ d.depth ≤ 64 ∧ d.shown.length ≤ sizeLine ∧ S (.str d.shown) O
theorem src_repr {K : PySem.W.Frag} : SRC K (rRepr K) rdRepr := by
  intro F H θ O vs ws S j r q Q k
  obtain ⟨x, d, rfl, hd, hx, h1, h2, h3, h4, q⟩ := q
  obtain ⟨v, rfl, rv⟩ := r.one_inv
  refine ⟨v, d, rfl, hd.dp j rv, ?_, h1, h2, h3, h4, k _ _ F H θ O Gr.refl j (.str _) q⟩
  rcases hx with rfl | ⟨us, rfl⟩ | ⟨c, rfl⟩
  · exact .inl rv.non_inv
  · obtain ⟨a, _, rfl, _⟩ := rv.tup_inv
    exact .inr ⟨a, rfl⟩
  · obtain ⟨a, rfl, _⟩ := rv.cell_inv
    exact .inr ⟨a, rfl⟩
section
variable {X : Cx} {a b : Expr} {wa wb : DE} {pos : Pos}
theorem et_inL (hu : X.A.units + 65 < cLine) (ha : ED X a wa) (hb : ED X b wb) (hm : behindInMarks .In b = false := by with_unfolding_all rfl) : EDT X (.Compare a [.In] [b] pos) (dTest (dOp rdInL wa wb)) := et_cmp (L2.op_inD hu) sr_inL ha hb hm
theorem hu65 {k : Nat} (hr : RoomG k X.A) : X.A.units + 65 < cLine := by
  have h := hr.r.un
  omega
theorem hu3 {k : Nat} (hr : RoomG k X.A) : X.A.units + 3 < cLine := by
  have h := hr.r.un
  omega
end
/-! ### calls by keywords alone, in the sequence of the parameters -/
section
variable {X : Cx} {k : Nat} {f : Addr} {fd : FuncData} {ps : List Str} {sp : SpD} {x : Str} {p pos : Pos} {kws : List Keyword} {wk : DA} {tk : TA}
def kg0 {α : Type} : List α → List α → List α
  | [], ws => ws
  | _ :: _, _ => []
abbrev KId (K : PySem.W.Frag) (fd : FuncData) (ps : List Str) : Prop := KBinds K fd ps ps kg0 kg0
theorem kg0_rel {vs : List V} {us : List Value} {zs : List V} {ws : List Value} (r : Vals vs us) (rz : Vals zs ws) : Vals (kg0 vs zs) (kg0 us ws) := by
  cases r with
  | nil => exact rz
  | cons _ _ => exact .nil
theorem pe_callGK (F : FnG X.prog X.w X.K X.mg X.base k f fd ps sp) (hr : RoomG k X.A) (hg : Gl X x) (hm : X.mg x = some (.ref f)) (hk : PySem.W.keepIn X.K (.ref f) = true) (hb : KId X.K fd ps) (hkw : PK X kws tk)
    (hall : (backToKw pos (keywordEach kws X.env)).all (·.1.isSome) = true := by rfl) (hks : (backToKw pos (keywordEach kws X.env)).filterMap (·.1) = ps := by rfl) (hdb : (x == ("__debug__" : Str)) = false := by decide)
    (hpl : ((backTo pos (starEach [] X.env)).any (·.1) || (backToKw pos (keywordEach kws X.env)).any (·.1.isNone)) = false := by rfl) :
    PE X (.Call (.Name x p) [] kws pos) (fun σ H Q => tk σ H fun zs H1 => lift X.K sp zs H1 Q) := by
  refine ⟨fun pins s σ H Q I h => ?_⟩
  refine wpAny_Call_Name_kw (ld_glob I hg hm ?_ hdb)
  refine PySem.W.callWith_KW0 (h₀ := X.base) I.ok.mod.kin hk hall (thn (hkw.run pos pins s σ H _ I h) fun ws s1 ⟨vs, H1, I1, r1, q1⟩ => ⟨I1.kIn, ?_⟩) hpl
  rw [hks]
  have hl := lift_len F q1
  exact runG F hr (show BindsTo s1 fd ⟨[], ps.zip ws⟩ (ps.zip ws) from hb.to s1 [] ws I1.kIn (by show ws.length = _; rw [← r1.length]; exact hl)) I1 r1 q1
def dCallK0 (sp : SpD) (wk : DA) : DE := fun δ O S => wk δ O fun ws O1 => sp ws O1 S
theorem ed_callK0 (F : FnG X.prog X.w X.K X.mg X.base k f fd ps sp) (hr : RoomG k X.A) (hg : Gl X x) (hm : X.mg x = some (.ref f)) (hk : PySem.W.keepIn X.K (.ref f) = true) (hb : KId X.K fd ps) (hkw : EDK X kws wk)
    (hall : (backToKw pos (keywordEach kws X.env)).all (·.1.isSome) = true := by rfl) (hks : (backToKw pos (keywordEach kws X.env)).filterMap (·.1) = ps := by rfl) (hdb : (x == ("__debug__" : Str)) = false := by decide)
    (hpl : ((backTo pos (starEach [] X.env)).any (·.1) || (backToKw pos (keywordEach kws X.env)).any (·.1.isNone)) = false := by rfl) :
    ED X (.Call (.Name x p) [] kws pos) (dCallK0 sp wk) := by
  obtain ⟨t0, p0, s0⟩ := hkw.ex
  refine ⟨_, pe_callGK F hr hg hm hk hb p0 hall hks hdb hpl, fun F0 H θ O σ δ S j s q Q kk => ?_⟩
  exact s0 F0 H θ O σ δ _ j s q _ fun vs ws F1 H1 θ1 O1 g1 j1 r1 q1 => ⟨F1, θ1, O1, ws, S, j1, r1, q1, fun v w F2 H2 θ2 O2 g2 j2 r2 q2 => kk v w F2 H2 θ2 O2 (g1.trans g2) j2 r2 q2⟩
end
end Dm

set_option Elab.async false
set_option linter.all false
set_option maxRecDepth 100000
set_option maxHeartbeats 4000000
/-! The data machine: defs that let exceptions out, their calls. -/
namespace Dm
open PySem PySem.Spec PyProof.Rows L2
abbrev XD := Value → Option Nat → Sto → Prop
/-- a promise over the data: the arguments, the store, what is wanted of the answer, of what is raised -/
abbrev SpX := List W → Sto → WK → XD → Prop
def liftX (K : PySem.W.Frag) (sp : SpX) (vs : List V) (H : Hp) (Q : VK) (E : XK) : Prop :=
  ∃ F θ O ws S T, Jn K F H θ O ∧ RWs K F θ vs ws ∧ sp ws O S T ∧ (∀ v w F' H' θ' O', Gr F θ F' θ' → Jn K F' H' θ' O' → RW K F' θ' v w → S w O' → Q v H') ∧
    ∀ cls dk d F' H' θ' O', Gr F θ F' θ' → Jn K F' H' θ' O' → dkR θ' dk d → T cls dk O' → E cls d H'
structure FnX (P : Program) (w : World) (K : PySem.W.Frag) (mg : Str → Option Value) (base : Heap) (k : Nat) (f : Addr) (fd : FuncData) (ps : List Str) (sp : SpX) : Prop where
  len : ∀ ws O S T, sp ws O S T → ws.length = ps.length
  run : ∀ (A : Around) (outer : List Env) (s : Shared) (H : Hp) (args : Args) (us : List Value) (vs : List V) (Q : VK) (E : XK), RoomG k A → Env0 P w K mg base A outer s H → BindsTo s fd args (ps.zip us) → Vals vs us → liftX K sp vs H Q E →
    codeAny (model P w) A (.call (.ref f) args) (CR (L2N.CX P w) outer P w H s Q E) s
theorem FnX.mono {P : Program} {w : World} {K : PySem.W.Frag} {mg : Str → Option Value} {base : Heap} {j k : Nat} {f : Addr} {fd : FuncData} {ps : List Str} {sp : SpX} (F : FnX P w K mg base j f fd ps sp) (h : j ≤ k) : FnX P w K mg base k f fd ps sp :=
  ⟨F.len, fun A outer s H args us vs Q E hr => F.run A outer s H args us vs Q E (hr.mono h)⟩
/-- where nothing is raised -/
theorem FnX.g {P : Program} {w : World} {K : PySem.W.Frag} {mg : Str → Option Value} {base : Heap} {k : Nat} {f : Addr} {fd : FuncData} {ps : List Str} {sp : SpX} {sp' : SpD} (F : FnX P w K mg base k f fd ps sp) (h : ∀ ws O S, sp' ws O S → sp ws O S fun _ _ _ => False) : FnG P w K mg base k f fd ps sp' := by
  refine ⟨fun ws O S q => F.len ws O S _ (h ws O S q), fun A outer s H args us vs Q hr e0 hb hv hl => ?_⟩
  obtain ⟨F0, θ, O, ws, S, j, r, q, fin⟩ := hl
  refine codeAny_mono (F.run A outer s H args us vs Q (fun _ _ _ => False) hr e0 hb hv ⟨F0, θ, O, ws, S, _, j, r, h ws O S q, fin, fun _ _ _ _ _ _ _ _ _ _ z => z.elim⟩) fun r s' hq => ?_
  cases r with
  | error e =>
    obtain ⟨_, _, _, _, _, _, _, _, _, _, _, _, z⟩ := (show L2N.CX P w outer H s (fun _ _ _ => False) e s' from hq)
    exact z.elim
  | ok fl =>
    cases fl with
    | ret u => exact hq
    | next => exact False.elim hq
    | brk => exact False.elim hq
    | cont => exact False.elim hq
section
variable {P : Program} {w : World} {K : PySem.W.Frag} {mg : Str → Option Value} {base : Heap}
/-- the context of such a def's body -/
abbrev cxX (P : Program) (w : World) (K : PySem.W.Frag) (mg : Str → Option Value) (base : Heap) (N : List Str) (qual : Str) (scope : Scope) (f : Addr) (cd : Value) (A : Around) (outer : List Env) (s : Shared) (H : Hp) (E : XK) : Cx :=
  cxOf (L2N.CX P w) P w K mg base N qual scope f cd A outer s H E
abbrev wxE (E : XK) : WX := fun cls d _ H => E cls d H
theorem takesX {N : List Str} {qual : Str} {scope : Scope} {f : Addr} {cd : Value} {A : Around} {outer : List Env} {s : Shared} {H : Hp} {E : XK} : L2N.Takes (cxX P w K mg base N qual scope f cd A outer s H E) (wxE E) :=
  L2N.takes_of (X := cxX P w K mg base N qual scope f cd A outer s H E) (E := E) rfl rfl rfl rfl
/-- THE RULE: such a def by its body -/
theorem FunX {x qual : Str} {params : Arguments} {body : List Stmt} {scope : Scope} {dvs : List V} {kws : List (Str × V)} {f : Addr} {fd : FuncData} {N ps : List Str} {k : Nat} {sp : SpX} (F : FunD K x qual params body scope dvs kws f fd) (S : FnScope N ps scope)
    (len : ∀ ws O S T, sp ws O S T → ws.length = ps.length)
    (hbody : ∀ (cdv : Value) (A : Around) (outer : List Env) (s : Shared) (H : Hp) (E : XK), RoomG k (A.deeper (envOfC qual scope s.heap.objs.size f cdv)) →
      ∃ wb, EDXB (cxX P w K mg base N qual scope f cdv A outer s H E) (wxE E) body wb ∧ ∀ ws O S T, sp ws O S T → wb { nx := fun _ O' => S .non O', rt := S, ex := fun cls dk _ O' => T cls dk O' } (startD N ws) O) : FnX P w K mg base (k + 1) f fd ps sp := by
  obtain ⟨oc, od, dV, kV, doc, pm, an, cdv, ct, osl, rfl, lk, hcd, _, _⟩ := F.ex
  refine ⟨len, fun A outer s H args us vs Q E hr e0 hb r hsp => ?_⟩
  obtain ⟨F0, θ, O, ws, S', T', jn, rr, q, fin, finx⟩ := hsp
  have hl : vs.length = ps.length := rr.length.trans (len _ _ _ _ q)
  have KX : K.In s.heap := e0.mod.kin.keeps fun b o e => (e0.bs b o e).1
  have lim : s.heap.NoLimit := e0.mod.nolimit.keeps fun b o e => (e0.bs b o e).1
  have hkind : ∀ y ∈ ps.zip us, scope.names.lookup y.1 = some .local ∨ (scope.names.lookup y.1 = some .cell ∧ ((cellsFrom (s.heap.objs.size + 1) scope.names []).lookup y.1).isSome = true) := by
    rintro ⟨n, v⟩ hy
    rcases S.par n (List.of_mem_zip hy).1 with q | q
    · exact .inl q
    · exact .inr ⟨q, PySem.W.cellsFrom_some _ _ _ (.inl q)⟩
  refine codeAny_call_function hr.r.depth (KX _ _ lk) rfl S.co S.gen rfl (PySem.W.codeRec_of KX hcd) (hb _ _ _ _ ?_)
  refine wpAny_newFunctionEnv_cells S.kind hkind fun env he s1 x => ?_
  subst he
  refine ⟨lim.keeps x.toInCall.keep, codeAny_func ?_⟩
  obtain ⟨wb, hB, hW⟩ := hbody cdv A outer s H E (hr.deeper _)
  obtain ⟨t, ht, hs⟩ := hB.ex
  have I := inv_start (CX := L2N.CX P w) (E := E) S hr.r.hd e0 hl r x
  have hq : t { nx := fun _ H' => Q .non H', rt := Q } (L2.start N vs) H := hs F0 H θ O _ _ _ _ jn (rs_start rr) (hW ws O S' T' q)
    ⟨⟨fun F' H' θ' O' σ δ g j' s' q' => fin _ _ F' H' θ' O' g j' .non q', fun F' H' θ' O' v w' g j' r' q' => fin v w' F' H' θ' O' g j' r' q', fun _ _ _ _ _ _ _ _ _ z => z, fun _ _ _ _ _ _ _ _ _ z => z⟩,
      fun F' H' θ' O' σ δ cls dk d g j' _ hd q' => finx cls dk d F' H' θ' O' g j' hd q'⟩
  refine wpAny_mono (ht.run [] s1 (L2.start N vs) H _ I hq) (fun fl s' hs' => ?_) fun e s' z => z
  cases fl with
  | ret u =>
    obtain ⟨v, σ', H', J, rv, q⟩ := hs'
    exact ⟨v, H', J.os, J.bare, J.base, J.hok, rv, q⟩
  | next =>
    obtain ⟨σ', H', J, q⟩ := hs'
    exact ⟨V.non, H', J.os, J.bare, J.base, J.hok, rfl, q⟩
  | brk =>
    obtain ⟨_, _, _, q⟩ := hs'
    exact q.elim
  | cont =>
    obtain ⟨_, _, _, q⟩ := hs'
    exact q.elim
end
/-! ### expressions that may raise -/
abbrev DEX := DS → Sto → WK → XD → Prop
def SEX (K : PySem.W.Frag) (W : WX) (te : TE) (we : DEX) : Prop := ∀ F H θ O σ δ S T, Jn K F H θ O → RS K F θ σ δ → we δ O S T → ∀ Q : VK,
  (∀ v w F' H' θ' O', Gr F θ F' θ' → Jn K F' H' θ' O' → RW K F' θ' v w → S w O' → Q v H') →
  (∀ cls dk d F' H' θ' O', Gr F θ F' θ' → Jn K F' H' θ' O' → dkR θ' dk d → T cls dk O' → W cls d σ H') → te σ H Q
structure EDE (X : Cx) (W : WX) (e : Expr) (we : DEX) : Prop where
  ex : ∃ te, PE X e te ∧ SEX X.K W te we
def dCallX (sp : SpX) (wa : DA) : DEX := fun δ O S T => wa δ O fun ws O1 => sp ws O1 S T
def dxDrop (we : DEX) : DTX := fun D δ O => we δ O (fun _ O1 => D.nx δ O1) fun cls dk O1 => D.ex cls dk δ O1
def dxSet (i : Nat) (we : DEX) : DTX := fun D δ O => we δ O (fun w O1 => D.nx (δ.set i (some w)) O1) fun cls dk O1 => D.ex cls dk δ O1
def dxRet (we : DEX) : DTX := fun D δ O => we δ O D.rt fun cls dk O1 => D.ex cls dk δ O1
section
variable {X : Cx} {W : WX} {k : Nat} {f : Addr} {fd : FuncData} {ps : List Str} {sp : SpX} {x : Str} {p pos : Pos} {e : Expr} {es : List Expr} {kws : List Keyword} {wa : DA} {we : DEX} {t : TA}
theorem ee_of {we : DE} (h : ED X e we) : EDE X W e (fun δ O S _ => we δ O S) := by
  obtain ⟨t, p, s⟩ := h.ex
  exact ⟨t, p, fun F H θ O σ δ S T j r q Q k _ => s F H θ O σ δ S j r q Q k⟩
theorem runX {pins : List (Addr × Obj)} {σ : L2.St} {H : Hp} {s : Shared} {Q : VK} {us bs : List Value} {kw : List (Str × Value)} {vs : List V} (F : FnX X.prog X.w X.K X.mg X.base k f fd ps sp) (hr : RoomG k X.A) (tk : L2N.Takes X W) (hb : BindsTo s fd ⟨us, kw⟩ (ps.zip bs))
    (I : Inv X pins σ H s) (r : Vals vs bs) (h : liftX X.K sp vs H Q (WE W σ)) : wpAny (model X.prog X.w) X.A (call (.ref f) us kw) (EP X pins σ Q) X.xe s := by
  refine wpAny_call (codeAny_mono (F.run X.A X.stack s H ⟨us, kw⟩ bs vs Q (WE W σ) hr I.env0 hb r h) fun r s' hq => ?_)
  cases r with
  | error e => exact L2N.passAt tk σ pins H s e s' I hq
  | ok fl =>
    cases fl with
    | ret u => exact I.after hq
    | next => exact False.elim hq
    | brk => exact False.elim hq
    | cont => exact False.elim hq
theorem liftX_len {K : PySem.W.Frag} {vs : List V} {H : Hp} {Q : VK} {E : XK} {P : Program} {w : World} {mg : Str → Option Value} {base : Heap} (F : FnX P w K mg base k f fd ps sp) (h : liftX K sp vs H Q E) : vs.length = ps.length := by
  obtain ⟨F0, θ, O, ws, S, T, j, r, q, _⟩ := h
  exact r.length.trans (F.len _ _ _ _ q)
theorem pe_callX (F : FnX X.prog X.w X.K X.mg X.base k f fd ps sp) (hr : RoomG k X.A) (tk : L2N.Takes X W) (hg : Gl X x) (hm : X.mg x = some (.ref f)) (hk : PySem.W.keepIn X.K (.ref f) = true) (hb : Binds X.K fd ps []) (ha : PA X (e :: es) t)
    (hdb : (x == ("__debug__" : Str)) = false := by decide) (he : starEach (e :: es) X.env = (false, eval e X.env) :: starEach es X.env := by rfl) (hpl : (backTo pos (starEach es X.env)).any (·.1) = false := by rfl) :
    PE X (.Call (.Name x p) (e :: es) [] pos) (fun σ H Q => t σ H fun vs H1 => liftX X.K sp vs H1 Q (WE W σ)) := by
  refine ⟨fun pins s σ H Q I h => ?_⟩
  refine wpAny_Call_Name_kw (ld_glob I hg hm ?_ hdb)
  refine PySem.W.callWith_K (h₀ := X.base) I.ok.mod.kin hk (thn (ha.run pos pins s σ H _ I h) fun us s1 ⟨vs, H1, I1, r, q⟩ => ⟨I1.kIn, ?_⟩) he hpl
  have hl := hb s1 us I1.kIn (by rw [List.append_nil, ← r.length]; exact liftX_len F q)
  rw [List.append_nil] at hl
  exact runX F hr tk hl I1 r q
theorem ee_call (F : FnX X.prog X.w X.K X.mg X.base k f fd ps sp) (hr : RoomG k X.A) (tk : L2N.Takes X W) (hg : Gl X x) (hm : X.mg x = some (.ref f)) (hk : PySem.W.keepIn X.K (.ref f) = true) (hb : Binds X.K fd ps []) (ha : EDA X (e :: es) wa)
    (hdb : (x == ("__debug__" : Str)) = false := by decide) (he : starEach (e :: es) X.env = (false, eval e X.env) :: starEach es X.env := by rfl) (hpl : (backTo pos (starEach es X.env)).any (·.1) = false := by rfl) :
    EDE X W (.Call (.Name x p) (e :: es) [] pos) (dCallX sp wa) := by
  obtain ⟨t0, p0, s0⟩ := ha.ex
  refine ⟨_, pe_callX F hr tk hg hm hk hb p0 hdb he hpl, fun F0 H θ O σ δ S T j s q Q kk kx => ?_⟩
  exact s0 F0 H θ O σ δ _ j s q _ fun vs ws F1 H1 θ1 O1 g1 j1 r1 q1 => ⟨F1, θ1, O1, ws, S, T, j1, r1, q1, fun v w F2 H2 θ2 O2 g2 j2 r2 q2 => kk v w F2 H2 θ2 O2 (g1.trans g2) j2 r2 q2, fun cls dk d F2 H2 θ2 O2 g2 j2 r2 q2 => kx cls dk d F2 H2 θ2 O2 (g1.trans g2) j2 r2 q2⟩
theorem ex_expr (h : EDE X W e we) (hs : swapsWith e none pos.line X.env = pure false := by rfl) : EDX X W (.Expr e pos) (dxDrop we) := by
  obtain ⟨t0, p0, s0⟩ := h.ex
  refine ⟨_, ps_expr p0 hs, fun F H θ O σ δ D D' j s q l => ?_⟩
  exact s0 F H θ O σ δ _ _ j s q _ (fun v w F1 H1 θ1 O1 g1 j1 r1 q1 => l.nx F1 H1 θ1 O1 σ δ g1 j1 (s.mono g1) q1) fun cls dk d F1 H1 θ1 O1 g1 j1 r1 q1 => l.ex F1 H1 θ1 O1 σ δ cls dk d g1 j1 (s.mono g1) r1 q1
theorem ex_ret (h : EDE X W e we) : EDX X W (.Return (some e) pos) (dxRet we) := by
  obtain ⟨t0, p0, s0⟩ := h.ex
  refine ⟨_, ps_ret p0, fun F H θ O σ δ D D' j s q l => ?_⟩
  exact s0 F H θ O σ δ _ _ j s q _ (fun v w F1 H1 θ1 O1 g1 j1 r1 q1 => l.rt F1 H1 θ1 O1 v w g1 j1 r1 q1) fun cls dk d F1 H1 θ1 O1 g1 j1 r1 q1 => l.ex F1 H1 θ1 O1 σ δ cls dk d g1 j1 (s.mono g1) r1 q1
theorem ex_set {i : Nat} {x : Str} {pos' : Pos} (hN : X.N.Nodup) (hi : X.N[i]? = some x) (hx : Loc X.env.scope x) (h : EDE X W e we) (hs : swapsWith e (some (.Name x pos')) pos.line X.env = pure false := by rfl)
    (hf : X.fn x = true ∨ X.env.scope.names.lookup x = some .local := by first | exact .inl rfl | exact .inr rfl | assumption) : EDX X W (.Assign [.Name x pos'] e pos) (dxSet i we) := by
  obtain ⟨t0, p0, s0⟩ := h.ex
  refine ⟨_, ps_set hN hi hx p0 hs hf, fun F H θ O σ δ D D' j s q l => ?_⟩
  exact s0 F H θ O σ δ _ _ j s q _ (fun v w F1 H1 θ1 O1 g1 j1 r1 q1 => l.nx F1 H1 θ1 O1 _ _ g1 j1 ((s.mono g1).set i r1) q1) fun cls dk d F1 H1 θ1 O1 g1 j1 r1 q1 => l.ex F1 H1 θ1 O1 σ δ cls dk d g1 j1 (s.mono g1) r1 q1
end
end Dm

set_option Elab.async false
set_option linter.all false
set_option maxRecDepth 100000
set_option maxHeartbeats 4000000
/-! The data machine: isinstance of two classes, sorted of pairs, a dict of one pair. -/
namespace Dm
open PySem PySem.Spec PyProof.Rows L2
/-! ### isinstance(x, (A, B)) -/
def dIsT2 (we : DE) (T1 T2 : String) : DE := fun δ O S => we δ O fun x O1 => ∃ t b1 b2, tyW x O1 = some t ∧ kitB t T1 = some b1 ∧ kitB t T2 = some b2 ∧ S (.bl (b1 || b2)) O1
theorem kit_any2 {K : PySem.W.Frag} {t T1 T2 : String} {b1 b2 : Bool} (h1 : kitB t T1 = some b1) (h2 : kitB t T2 = some b2) : PySem.W.kitAny K (.type t) [.type T1, .type T2] = some (b1 || b2) := by
  unfold PySem.W.kitAny
  rw [kit_ty h1]
  cases b1 with
  | true => rfl
  | false =>
    unfold PySem.W.kitAny
    rw [kit_ty h2]
    cases b2 with
    | true => rfl
    | false => rfl
section
variable {X : Cx} {e : Expr} {we : DE} {p pos tpos p1 p2 : Pos} {x1 x2 : Str} {T1 T2 : String} {kk : Nat}
theorem ed_isT2 (hg : Gl X "isinstance") (hm : X.mg "isinstance" = none) (g1 : Gl X x1) (m1 : X.mg x1 = none) (v1 : bootBuiltins x1 = some (.type T1)) (g2 : Gl X x2) (m2 : X.mg x2 = none) (v2 : bootBuiltins x2 = some (.type T2)) (he : ED X e we)
    (n1 : x1 ≠ "__name__" := by decide) (d1 : (x1 == ("__debug__" : Str)) = false := by decide) (n2 : x2 ≠ "__name__" := by decide) (d2 : (x2 == ("__debug__" : Str)) = false := by decide)
    (hst : starEach [e, .Tuple [.Name x1 p1, .Name x2 p2] kk tpos] X.env = (false, eval e X.env) :: starEach [.Tuple [.Name x1 p1, .Name x2 p2] kk tpos] X.env := by rfl) (hpl : (backTo pos (starEach [.Tuple [.Name x1 p1, .Name x2 p2] kk tpos] X.env)).any (·.1) = false := by rfl)
    (hs2 : starEach [.Tuple [.Name x1 p1, .Name x2 p2] kk tpos] X.env = (false, eval (.Tuple [.Name x1 p1, .Name x2 p2] kk tpos) X.env) :: starEach [] X.env := by rfl) (hs3 : starEach [.Name x1 p1, .Name x2 p2] X.env = (false, eval (.Name x1 p1) X.env) :: starEach [.Name x2 p2] X.env := by rfl)
    (hs4 : starEach [.Name x2 p2] X.env = (false, eval (.Name x2 p2) X.env) :: starEach [] X.env := by rfl) :
    ED X (.Call (.Name "isinstance" p) [e, .Tuple [.Name x1 p1, .Name x2 p2] kk tpos] [] pos) (dIsT2 we T1 T2) := by
  obtain ⟨t0, q0, s0⟩ := he.ex
  refine ⟨_, pe_callB call_isiT hg hm (by decide +kernel) (pa_cons q0 (pa_cons (pe_tup (pa_cons (pe_bltn (v := .ty T1) g1 m1 v1 rfl n1 d1) (pa_cons (pe_bltn (v := .ty T2) g2 m2 v2 rfl n2 d2) pa_nil hs4) hs3)) pa_nil hs2) hst) (by decide) (by decide) hst hpl, fun F H θ O σ δ S j s q Q k => ?_⟩
  refine s0 F H θ O σ δ _ j s q _ fun v x F1 H1 θ1 O1 g1 j1 r1 q1 => ?_
  obtain ⟨t, b1, b2, ht, hb1, hb2, q1⟩ := q1
  refine ⟨by show 2 ≤ _; rw [sizeLine_eq]; omega, fun a ha => ?_⟩
  have g2 : Gr F1 θ1 (L2.upd F1 a (.tup [.ty T1, .ty T2])) θ1 := Gr.upd (j1.freeF ha)
  have j2 := j1.newF (o := .tup [.ty T1, .ty T2]) ha
  exact ⟨v, a, [.ty T1, .ty T2], .type t, [.type T1, .type T2], b1 || b2, rfl, upd_same, .cons (.ty _) (.cons (.ty _) .nil), tyW_ok j2 (r1.mono g2) ht, kit_any2 hb1 hb2, k _ _ _ _ _ _ (g1.trans g2) j2 (.bl _) q1⟩
end
/-! ### dict([(k, v)]) -/
def rdDict1 : RCD := fun ws O S => ∃ k kw vw key, ws = [.cell k] ∧ LstC O k [.tup [kw, vw]] ∧ keyW kw = some key ∧ S (.cell O.length) (O ++ [.dct [(key, vw)]])
theorem src_dict1 {K : PySem.W.Frag} : SRC K (fun xs H Q => ∃ (a : Addr) (ps : List Addr) (kvs : List (Key × V)), xs = [V.ref a] ∧ SqL K H a (ps.map V.ref) ∧ Paired (fun p kv => SqT K H p [kV kv.1, kv.2]) ps kvs ∧ ∀ p, H p = none → Q (.ref p) (L2.upd H p (.dK (mergeK [] kvs)))) rdDict1 := by
  intro F H θ O vs ws S j r q Q k
  obtain ⟨c, kw, vw, key, rfl, hc, hk, q⟩ := q
  obtain ⟨v, rfl, rv⟩ := r.one_inv
  obtain ⟨a, rfl, ha⟩ := rv.cell_inv
  obtain ⟨xs, hx, rr⟩ := j.lstC ha hc
  obtain ⟨x, rfl, rx⟩ := rr.one_inv
  obtain ⟨t, us, rfl, hq, rt⟩ := rx.tup_inv
  obtain ⟨kv, vv, rfl, rk, rvv⟩ := rt.two_inv
  refine ⟨a, [t], [(key, vv)], rfl, hx, .cons (by rw [← key_rel rk hk]; exact sqT_sub j hq) .nil, fun p hp => ?_⟩
  have e : mergeK [] [(key, vv)] = [(key, vv)] := rfl
  rw [e]
  exact k _ _ _ _ _ _ Gr.push (j.newC (c := .dct [(key, vw)]) hp ⟨j.freeF hp, [(key, vv)], upd_same, .cons ⟨rfl, rvv.mono Gr.push⟩ .nil⟩) (.cell (by rw [← j.len]; simp)) q
/-! ### sorted, of pairs of ints -/
def rSortPrs (K : PySem.W.Frag) (vs : List V) (H : Hp) (Q : VK) : Prop := ∃ (a : Addr) (xs : List V) (ps : List (Int × Int)), vs = [V.ref a] ∧ (SqL K H a xs ∨ SqT K H a xs) ∧ Paired (fun x p => ∃ t, x = V.ref t ∧ SqT K H t [.int p.1, .int p.2]) xs ps ∧
  ∀ (ys : List V) (qs : List (Int × Int)) (p : Addr), Paired (fun y q => ∃ i : Nat, xs[i]? = some y ∧ ps[i]? = some q) ys qs → qs.Perm ps → List.Pairwise (fun x y => SrtO.lexB y x = false) qs → H p = none → Q (.ref p) (L2.upd H p (.lst ys))
theorem isPair_uniq {h : Heap} {v : Value} {x y x' y' : Int} (a : Srt.IsPair h v x y) (b : Srt.IsPair h v x' y') : x = x' ∧ y = y' := by
  obtain ⟨p, o, t, u, n, rfl, h1, h2, h3⟩ := a
  obtain ⟨p', o', t', u', n', e, h1', h2', h3'⟩ := b
  cases e
  rw [h1] at h1'
  cases h1'
  rw [h3] at h3'
  cases h3'
  exact ⟨rfl, rfl⟩
theorem paired_at {α β : Type} {R : α → β → Prop} : ∀ {xs : List α} {ys : List β} {i : Nat} {x : α}, Paired R xs ys → xs[i]? = some x → ∃ y, ys[i]? = some y ∧ R x y
  | _, _, _, _, .nil, e => by simp at e
  | _, _, 0, _, .cons r _, e => by simp at e; subst e; exact ⟨_, rfl, r⟩
  | _, _, i + 1, x, .cons _ t, e => by
    obtain ⟨y, h1, h2⟩ := paired_at (i := i) (x := x) t (by simpa using e)
    exact ⟨y, by simpa using h1, h2⟩
theorem paired_len {α β : Type} {R : α → β → Prop} : ∀ {xs : List α} {ys : List β}, Paired R xs ys → xs.length = ys.length
  | _, _, .nil => rfl
  | _, _, .cons _ t => by rw [List.length_cons, List.length_cons, paired_len t]
theorem paired_map {α β γ : Type} {R : β → γ → Prop} {f : α → β} {g : α → γ} : ∀ {l : List α}, (∀ x ∈ l, R (f x) (g x)) → Paired R (l.map f) (l.map g)
  | [], _ => .nil
  | x :: l, h => .cons (h x List.mem_cons_self) (paired_map fun y hy => h y (List.mem_cons_of_mem _ hy))
def backR : Value → V
  | .ref t => .ref t
  | _ => .non
theorem cr_sortPrs {X : Cx} : CallR X (.builtin "sorted") (rSortPrs X.K) := by
  classical
  intro pins s σ H zs us Q I hv h
  obtain ⟨a, xs, ps, rfl, hq, hp, q⟩ := h
  obtain rfl := hv.ref1
  have src : ∃ (its : List Value) (o : Obj) (T : String) (n : Nat), Vals xs its ∧ (T = "list" ∨ T = "tuple") ∧ s.heap.get? a = some o ∧ o.cls = Value.type T ∧ o.data = Data.seq its.toArray n ∧ its.length ≤ sizeLine := by
    rcases hq with hq | hq
    · obtain ⟨its, r, ⟨o, n, ho, hc, _, hd⟩, hz⟩ := I.list hq
      exact ⟨its, o, "list", n, r, .inl rfl, ho, hc, hd, by rw [← r.length]; exact hz⟩
    · obtain ⟨its, r, ⟨o, ho, hc, n, hd⟩, hz⟩ := I.tuple hq
      exact ⟨its, o, "tuple", n, r, .inr rfl, ho, hc, hd, by rw [← r.length]; exact hz⟩
  obtain ⟨its, o, T, n, r, hT, ho, hc, hd, hz⟩ := src
  have hpair : ∀ (i : Nat) (v : Value), its[i]? = some v → ∃ (x : V) (p : Int × Int) (t : Addr), xs[i]? = some x ∧ ps[i]? = some p ∧ x = .ref t ∧ v = .ref t ∧ Srt.IsPair s.heap v p.1 p.2 := fun i v e => by
    obtain ⟨x, hx, rx⟩ := vals_at r e
    obtain ⟨p, hpi, t, rfl, ht⟩ := paired_at hp hx
    obtain rfl : v = Value.ref t := rx
    obtain ⟨jt, rt, ⟨o2, ho2, hc2, n2, hd2⟩, _⟩ := I.tuple ht
    obtain ⟨u1, u2, e2, ⟨t1, rfl⟩, ⟨t2, rfl⟩⟩ := vals2 rt
    subst e2
    exact ⟨_, p, t, hx, hpi, rfl, rfl, t, o2, t1, t2, n2, rfl, ho2, hc2, hd2⟩
  let kf : Value → Int × Int := fun v => if h : ∃ p : Int × Int, Srt.IsPair s.heap v p.1 p.2 then Classical.choose h else (0, 0)
  have kfs : ∀ (v : Value) (p : Int × Int), Srt.IsPair s.heap v p.1 p.2 → kf v = p := fun v p hv => by
    have h : ∃ p : Int × Int, Srt.IsPair s.heap v p.1 p.2 := ⟨p, hv⟩
    have e : kf v = Classical.choose h := dif_pos h
    rw [e]
    obtain ⟨e1, e2⟩ := isPair_uniq (Classical.choose_spec h) hv
    exact Prod.ext e1 e2
  have kfp : ∀ v, v ∈ its → Srt.IsPair s.heap v (kf v).1 (kf v).2 := fun v hm => by
    obtain ⟨i, hi⟩ := List.getElem?_of_mem hm
    obtain ⟨x, p, t, _, _, _, _, hpr⟩ := hpair i v hi
    rw [kfs v p hpr]
    exact hpr
  have hlen : its.length = ps.length := r.length.symm.trans (paired_len hp)
  have hmap : its.map kf = ps := by
    refine List.ext_getElem? fun i => ?_
    rw [List.getElem?_map]
    cases e : its[i]? with
    | none =>
      have := List.getElem?_eq_none_iff.mp e
      rw [List.getElem?_eq_none_iff.mpr (by omega)]
      rfl
    | some v =>
      obtain ⟨x, p, t, _, h2, _, _, hpr⟩ := hpair i v e
      rw [h2, Option.map_some, kfs v p hpr]
  refine Calls.call_function_entry kind_sorted plain_sorted entry_sorted (args_sorted1 _) ?_
  show wpAny _ _ (do
    checkCount "sorted" 1 1 1
    let l0 ← collect (Value.ref a)
    let l ← newList l0
    let _ ← holding [l] (call (Value.builtin "list.sort") [l] [])
    ret l) _ _ _
  refine wpAny_bind (wpAny_pure (wpAny_bind (wpAny_collect_seq a (T := T) hT ho hc hd (fun h1 k1 => ?_) (by rw [List.size_toArray]; exact hz))))
  refine wpAny_bind (wpAny_newList ?_ (by rw [show its.toArray.toList = its from rfl]; exact hz))
  have hget : (h1.push { cls := Value.type "list", data := Data.seq its.toArray }).get? h1.objs.size = some (seqObj "list" its.toArray 0) := Heap.get?_push_size _ rfl
  refine wpAny_bind (wpAny_holding (wpAny_call_entry (T := "list") slot_list_sort ⟨_, hget, rfl⟩ entry_list_sort ?_ (args_list_sort _)))
  refine SrtO.list_sort_ord (SrtO.swo_lex kf) hget hz (fun h2 => SrtO.pairs_sortableO (by omega) (fun v hv => (kfp v hv).keeps fun b o e _ => Heap.get?_push_of_some _ (k1 b o e)) fun o2 e => ?_) fun out hs hst => ⟨_, rfl, wpAny_pure ⟨_, rfl, ?_⟩⟩
  · have e' : (h1.push { cls := Value.type "list", data := Data.seq its.toArray }).get? h1.objs.size = some o2 := e
    rw [hget] at e'
    cases e'
    intro z
    have z2 : ("list" : String) = "tuple" := Value.type.inj z
    exact absurd z2 (by decide)
  have I2 := I.kept (t' := s.toks) k1
  obtain ⟨e, he⟩ := sortedHeap_at (out := out.toArray) hget
  have old : ∀ (b : Addr) (u : Obj), h1.get? b = some u → (sortedHeap (h1.push { cls := Value.type "list", data := Data.seq its.toArray }) h1.objs.size its out.toArray).get? b = some u := fun b u hb => by
    have hlt := Heap.lt_size hb
    rw [sortedHeap_old (Nat.ne_of_lt hlt) (by rw [size_push']; exact Nat.lt_trans hlt (Nat.lt_succ_self _))]
    exact Heap.get?_push_of_some _ hb
  have hp0 : H h1.objs.size = none := I2.fresh
  have hmem : ∀ v, v ∈ out → ∃ (i : Nat) (t : Addr), xs[i]? = some (.ref t) ∧ ps[i]? = some (kf v) ∧ v = .ref t := fun v hv => by
    obtain ⟨i, hi⟩ := List.getElem?_of_mem (hst.perm.mem_iff.mp hv)
    obtain ⟨x, p, t, h1', h2', rfl, h4', hpr⟩ := hpair i v hi
    exact ⟨i, t, h1', by rw [kfs v p hpr]; exact h2', h4'⟩
  have hvals : Vals (out.map backR) out := by
    have : ∀ l : List Value, (∀ v ∈ l, ∃ t, v = Value.ref t) → Vals (l.map backR) l := by
      intro l
      induction l with
      | nil => intro _; exact .nil
      | cons v l ih =>
        intro h
        obtain ⟨t, rfl⟩ := h v List.mem_cons_self
        exact .cons rfl (ih fun y hy => h y (List.mem_cons_of_mem _ hy))
    exact this out fun v hv => by
      obtain ⟨_, t, _, _, e⟩ := hmem v hv
      exact ⟨t, e⟩
  have hol : out.length = its.length := hst.perm.length_eq
  have hok : ObjOk X.prog X.w (L2.upd H h1.objs.size (.lst (out.map backR))) (sortedHeap (h1.push { cls := Value.type "list", data := Data.seq its.toArray }) h1.objs.size its out.toArray) h1.objs.size (.lst (out.map backR)) := by
    refine ⟨by rw [List.length_map, hol]; exact hz, out, e, hvals, ?_⟩
    rw [he]
  refine ⟨.ref h1.objs.size, _, I2.laid old (Nat.le_refl _) hok, rfl, q (out.map backR) (out.map kf) _ (paired_map fun v hv => ?_) ?_ ?_ hp0⟩
  · obtain ⟨i, t, h1', h2', rfl⟩ := hmem v hv
    exact ⟨i, h1', h2'⟩
  · rw [← hmap]
    exact hst.perm.map kf
  · rw [List.pairwise_map]
    exact hs
def pairW (p : Int × Int) : W := .tup [.int p.1, .int p.2]
def rdSortPrs : RCD := fun ws O S => ∃ (x : W) (ps : List (Int × Int)), ws = [x] ∧ (x = .tup (ps.map pairW) ∨ ∃ k, x = .cell k ∧ LstC O k (ps.map pairW)) ∧ ∀ qs : List (Int × Int), qs.Perm ps → List.Pairwise (fun x y => SrtO.lexB y x = false) qs → S (.cell O.length) (O ++ [.lst (qs.map pairW)])
theorem src_sortPrs {K : PySem.W.Frag} : SRC K (rSortPrs K) rdSortPrs := by
  intro F H θ O vs ws S j r q Q k
  obtain ⟨x, ps, rfl, hx, q⟩ := q
  obtain ⟨v, rfl, rv⟩ := r.one_inv
  obtain ⟨a, xs, rfl, hq, rr⟩ := seq_rel j rv hx
  have hp : ∀ {xs : List V} {ps : List (Int × Int)}, RWs K F θ xs (ps.map pairW) → Paired (fun x p => ∃ t, x = V.ref t ∧ SqT K H t [.int p.1, .int p.2]) xs ps := by
    intro xs ps
    induction ps generalizing xs with
    | nil => intro h; cases h; exact .nil
    | cons p ps ih =>
      intro h
      rw [List.map_cons] at h
      cases h with
      | cons h1 h2 =>
        refine .cons ?_ (ih h2)
        obtain ⟨t, us, rfl, hq, rt⟩ := RW.tup_inv (show RW K F θ _ (.tup [.int p.1, .int p.2]) from h1)
        obtain ⟨u1, u2, rfl, ra, rb⟩ := rt.two_inv
        rw [ra.int_inv, rb.int_inv] at hq
        exact ⟨t, rfl, sqT_sub j hq⟩
  refine ⟨a, xs, ps, rfl, hq, hp rr, fun ys qs p hpr hperm hsort h0 => ?_⟩
  have ry : RWs K F θ ys (qs.map pairW) := by
    clear q hperm hsort
    induction hpr with
    | nil => exact .nil
    | cons h _ ih =>
      obtain ⟨i, h1, h2⟩ := h
      refine .cons ?_ ih
      obtain ⟨w, hw, rw'⟩ := rr.getV h1
      rw [List.getElem?_map, h2] at hw
      cases hw
      exact rw'
  exact k _ _ _ _ _ _ Gr.push (j.newL h0 ry) (.cell (by rw [← j.len]; simp)) (q qs hperm hsort)
end Dm

set_option Elab.async false
set_option linter.all false
set_option maxRecDepth 100000
set_option maxHeartbeats 4000000
set_option exponentiation.threshold 2000
/-! The draws of a law: the feed, a draw, one of some things. -/
namespace Dm
open PySem PySem.Spec PyProof.Rows L2

/-- all cells but k stand as they stood -/
structure Kp (k : Nat) (O O' : Sto) : Prop where
  len : O.length ≤ O'.length
  at_ : ∀ (i : Nat) (c : Cell), i ≠ k → O[i]? = some c → O'[i]? = some c
theorem Kp.refl {k : Nat} {O : Sto} : Kp k O O := ⟨Nat.le_refl _, fun _ _ _ h => h⟩
theorem Kp.trans {k : Nat} {O O1 O2 : Sto} (a : Kp k O O1) (b : Kp k O1 O2) : Kp k O O2 := ⟨Nat.le_trans a.len b.len, fun i c n h => b.at_ i c n (a.at_ i c n h)⟩
theorem Kp.set {k : Nat} {O : Sto} {c : Cell} : Kp k O (O.set k c) := ⟨by rw [List.length_set]; exact Nat.le_refl _, fun i d n h => by rw [List.getElem?_set_ne (Ne.symm n)]; exact h⟩
theorem Kp.push {k : Nat} {O : Sto} {c : Cell} : Kp k O (O ++ [c]) := ⟨by rw [List.length_append]; omega, fun i d n h => by rw [List.getElem?_append_left (List.getElem?_eq_some_iff.mp h).1]; exact h⟩
theorem log2_le {x y : Nat} (h : x ≤ y) : x.log2 ≤ y.log2 := by
  by_cases hx : x = 0
  · subst hx
    simp
  · have h1 : y < 2 ^ (y.log2 + 1) := Nat.lt_log2_self
    have h2 : x < 2 ^ (y.log2 + 1) := Nat.lt_of_le_of_lt h h1
    have h3 := (Nat.log2_lt hx).mpr h2
    omega
/-- the feed's three ints, n more draws allowed -/
structure FdI (a b c : Int) (n : Nat) : Prop where
  a0 : 0 ≤ a
  a1 : a.natAbs.log2 < 2000000
  b0 : 0 ≤ b
  b1 : b < 2 ^ 140
  c0 : 0 ≤ c
  c1 : c + n ≤ 2 ^ 40
def Fd (O : Sto) (k n : Nat) : Prop := ∃ a b c, O[k]? = some (.lst [.int a, .int b, .int c]) ∧ FdI a b c n
theorem Fd.mono {O : Sto} {k n m : Nat} (h : Fd O k n) (l : m ≤ n) : Fd O k m := by
  obtain ⟨a, b, c, e, q⟩ := h
  exact ⟨a, b, c, e, q.a0, q.a1, q.b0, q.b1, q.c0, by have := q.c1; omega⟩
theorem Fd.push {O : Sto} {k n : Nat} {c : Cell} (h : Fd O k n) : Fd (O ++ [c]) k n := by
  obtain ⟨x, y, z, e, q⟩ := h
  exact ⟨x, y, z, by rw [List.getElem?_append_left (List.getElem?_eq_some_iff.mp e).1]; exact e, q⟩
theorem Fd.set {O : Sto} {k n i : Nat} {c : Cell} (h : Fd O k n) (ne : i ≠ k) : Fd (O.set i c) k n := by
  obtain ⟨x, y, z, e, q⟩ := h
  exact ⟨x, y, z, by rw [List.getElem?_set_ne ne]; exact e, q⟩
theorem Fd.lt {O : Sto} {k n : Nat} (h : Fd O k n) : k < O.length := by
  obtain ⟨x, y, z, e, q⟩ := h
  exact (List.getElem?_eq_some_iff.mp e).1
/-- a draw below m -/
def sp_law_draw : SpD := fun ws O S => ∃ k m n, ws = [.cell k, .int m] ∧ 0 < m ∧ m < 2 ^ 300 ∧ Fd O k (n + 1) ∧ ∀ r O', 0 ≤ r → r < m → Kp k O O' → Fd O' k n → S (.int r) O'
/-- one of the things in a cell (a list that is no feed), in a tuple -/
def sp_law_one : SpD := fun ws O S => ∃ k x us n, ws = [.cell k, x] ∧ ((∃ j, x = .cell j ∧ j ≠ k ∧ LstC O j us) ∨ x = .tup us) ∧ us ≠ [] ∧ us.length < 100000 ∧ Fd O k (n + 1) ∧ ∀ w O', w ∈ us → Kp k O O' → Fd O' k n → S w O'

def d_law_draw : DTS := (dSeq (dIf (dTest (dGt (dOp rdIxL (dVar 0) (dC (.int 0))) (dC (.int 0)))) (dSeq (dSet 3 (dDiv (dOp rdIxL (dVar 0) (dC (.int 0))) (dVar 1)))
    (dSeq (dSet 4 (dSub (dOp rdIxL (dVar 0) (dC (.int 0))) (dMul (dVar 3) (dVar 1))))
    (dSeq (dAsg (dVar 3) (dgSubL (dVar 0) (dC (.int 0))))
    (dRet (dVar 4))))) dNext)
    (dSeq (dAsg (dAdd (dOp rdIxL (dVar 0) (dC (.int 2))) (dC (.int 1))) (dgSubL (dVar 0) (dC (.int 2))))
    (dSeq (dSet 2 (dAdd (dOp rdIxL (dVar 0) (dC (.int 1))) (dMul (dC (.int 6700417)) (dOp rdIxL (dVar 0) (dC (.int 2))))))
    (dSeq (dSet 2 (dMod (dCB rdInt1 (dCons (dAdd (dMul (dMul (dVar 2) (dVar 2)) (dVar 2)) (dMul (dC (.int 15485863)) (dOp rdIxL (dVar 0) (dC (.int 2))))) dNil)) (dAdd (dPow (dC (.int 10)) (dC (.int 43))) (dC (.int 57)))))
    (dSeq (dSet 2 (dMod (dCB rdInt1 (dCons (dAdd (dMul (dVar 2) (dVar 2)) (dC (.int 32452843))) dNil)) (dAdd (dPow (dC (.int 10)) (dC (.int 38))) (dC (.int 133)))))
    (dRet (dMod (dCB rdInt1 (dCons (dDiv (dVar 2) (dPow (dC (.int 10)) (dC (.int 9)))) dNil)) (dVar 1))))))))
abbrev outD (S : WK) : DEnds := { nx := fun _ O' => S .non O', rt := S }
theorem lcS {O : Sto} {k : Nat} {c d : Cell} (h : O[k]? = some c) : (O.set k d)[k]? = some d := by
  rw [List.getElem?_set_self (List.getElem?_eq_some_iff.mp h).1]
theorem mulB {i j : Int} {a b : Nat} (ha : i.natAbs < 2 ^ a) (hb : j.natAbs < 2 ^ b) (h0 : 0 < a) (h1 : 0 < b) (h : a + b ≤ 1000000) : CMulB i j := by
  have h2 := wide_mul ha hb h0 h1 h
  unfold CMulW at h2
  unfold CMulB
  omega
theorem rd_law_draw (ws : List W) (O : Sto) (S : WK) (h : sp_law_draw ws O S) : d_law_draw (outD S) (startD ["_law_feed_here", "_law_many", "_law_stir", "_law_rest", "_law_got"] ws) O := by
  obtain ⟨k, m, n, rfl, m0, m1, ⟨a, b, c, e, q⟩, fin⟩ := h
  obtain ⟨a0, a1, b0, b1, c0, c1⟩ := q
  refine ⟨_, rfl, _, _, _, _, rfl, rfl, .inl e, rfl, _, _, rfl, rfl, _, rfl, ite2 (fun h => ?_) (fun h => ?_)⟩
  · have hlog : (a / m).natAbs.log2 ≤ a.natAbs.log2 := log2_le (by
      have h1 : 0 ≤ a / m := Int.ediv_nonneg a0 (by omega)
      have h2 : a / m ≤ a := Int.ediv_le_self _ a0
      omega)
    have hm : m.natAbs.log2 < 300 := PySem.Flt.log2_lt_of (by decide) (show m.natAbs < 2 ^ 300 by omega)
    refine ⟨_, rfl, _, _, _, _, rfl, rfl, .inl e, rfl, _, rfl, _, _, rfl, rfl, ⟨m0, by omega⟩, ?_⟩
    refine ⟨_, rfl, _, _, _, _, rfl, rfl, .inl e, rfl, _, rfl, _, rfl, _, _, rfl, rfl, (show CMulB (a / m) m by unfold CMulB; omega), _, _, rfl, rfl, ?_⟩
    refine ⟨_, rfl, _, rfl, k, _, _, _, rfl, rfl, e, rfl, ?_⟩
    have hr := Int.emod_add_mul_ediv a m
    rw [Int.mul_comm] at hr
    have hr0 := Int.emod_nonneg a (show m ≠ 0 by omega)
    have hr1 := Int.emod_lt_of_pos a m0
    refine ⟨_, rfl, fin _ _ ?_ ?_ Kp.set ⟨a / m, b, c, lcS e, Int.ediv_nonneg a0 (by omega), by omega, b0, b1, c0, by omega⟩⟩
    · omega
    · omega
  · refine ⟨_, rfl, _, _, _, _, rfl, rfl, .inl e, rfl, _, _, rfl, rfl, _, rfl, k, _, _, _, rfl, rfl, e, rfl, ?_⟩
    have e2 := lcS (d := .lst [.int a, .int b, .int (c + 1)]) e
    have hc : (c + 1).natAbs < 2 ^ 41 := by omega
    have hs : (b + 6700417 * (c + 1)).natAbs < 2 ^ 141 := by omega
    have hss := wide_lt hs hs
    have big43 : (0 : Int) < 10 ^ 43 + 57 := by decide
    have big38 : (0 : Int) < 10 ^ 38 + 133 := by decide
    refine ⟨_, rfl, _, _, _, _, rfl, rfl, .inl e2, rfl, _, rfl, _, _, _, _, rfl, rfl, .inl e2, rfl, _, _, rfl, rfl, mulB (a := 23) (b := 41) (by decide) hc (by decide) (by decide) (by decide), _, _, rfl, rfl, ?_⟩
    show dSeq _ _ _ (List.set _ _ (some (W.int (b + 6700417 * (c + 1))))) _
    generalize b + 6700417 * (c + 1) = x at hs hss
    have hss3 := wide_lt hss hs
    refine ⟨_, rfl, _, rfl, _, _, rfl, rfl, mulB (a := 141) (b := 141) hs hs (by decide) (by decide) (by decide), _, rfl, _, _, rfl, rfl, mulB (a := 282) (b := 141) hss hs (by decide) (by decide) (by decide), _, rfl, _, _, _, _, rfl, rfl, .inl e2, rfl, _, _, rfl, rfl, mulB (a := 24) (b := 41) (by decide) hc (by decide) (by decide) (by decide), _, _, rfl, rfl, .inl ⟨_, rfl, ?_⟩⟩
    refine ⟨_, _, rfl, rfl, (by show CPow 10 43; unfold CPow; decide), _, _, rfl, rfl, _, _, rfl, rfl, big43, ?_⟩
    have y0 := Int.emod_nonneg (x * x * x + 15485863 * (c + 1)) (show (10 : Int) ^ 43 + 57 ≠ 0 by omega)
    have y1 := Int.emod_lt_of_pos (x * x * x + 15485863 * (c + 1)) big43
    have yb : ((x * x * x + 15485863 * (c + 1)) % (10 ^ 43 + 57)).natAbs < 2 ^ 144 := by omega
    show dSeq _ _ _ (List.set _ _ (some (W.int ((x * x * x + 15485863 * (c + 1)) % (10 ^ 43 + 57))))) _
    generalize (x * x * x + 15485863 * (c + 1)) % (10 ^ 43 + 57) = y at y0 y1 yb
    refine ⟨_, rfl, _, rfl, _, _, rfl, rfl, mulB (a := 144) (b := 144) yb yb (by decide) (by decide) (by decide), _, _, rfl, rfl, .inl ⟨_, rfl, ?_⟩⟩
    refine ⟨_, _, rfl, rfl, (by show CPow 10 38; unfold CPow; decide), _, _, rfl, rfl, _, _, rfl, rfl, big38, ?_⟩
    refine ⟨_, rfl, _, _, rfl, rfl, (by show CPow 10 9; unfold CPow; decide), _, _, rfl, rfl, ⟨by decide, by decide⟩, .inl ⟨_, rfl, ?_⟩⟩
    refine ⟨_, rfl, _, _, rfl, rfl, m0, ?_⟩
    exact fin _ _ (Int.emod_nonneg _ (by omega)) (Int.emod_lt_of_pos _ m0) Kp.set ⟨a, b, c + 1, lcS e, a0, a1, b0, b1, by omega, by omega⟩
def d_law_one : DTS := (dRet (dOp rdIxL (dVar 1) (dCall sp_law_draw (dCons (dVar 0) (dCons (dCB rdLen (dCons (dVar 1) dNil)) dNil)))))
def d_law_oneT : DTS := (dRet (dOp rdIxT (dVar 1) (dCall sp_law_draw (dCons (dVar 0) (dCons (dCB rdLen (dCons (dVar 1) dNil)) dNil)))))
theorem atI_in {us : List W} {r : Int} (h0 : 0 ≤ r) (h1 : r < us.length) : ∃ w, w ∈ us ∧ atI us r = some w := by
  have hl : r.toNat < us.length := by omega
  refine ⟨us[r.toNat], List.getElem_mem _, ?_⟩
  have e := atI_nat (j := r.toNat) (xs := us) (List.getElem?_eq_getElem hl)
  rwa [Int.toNat_of_nonneg h0] at e
theorem Kp.lstC {k : Nat} {O O' : Sto} (h : Kp k O O') {j : Nat} (ne : j ≠ k) {us : List W} (c : LstC O j us) : LstC O' j us := by
  rcases c with c | c
  · exact .inl (h.at_ j _ ne c)
  · exact .inr (h.at_ j _ ne c)
end Dm

set_option Elab.async false
set_option linter.all false
set_option maxRecDepth 100000
set_option maxHeartbeats 4000000
/-! The data machine: a list or a tuple walked; loops that count; what laws keep. -/
namespace Dm
open PySem PySem.Spec PyProof.Rows L2
section
variable {X : Cx} {tg e : Expr} {d1 d2 : DS → Sto → (Wk → Sto → Prop) → Prop}
theorem PI.or {w1 w2 : TI} (h1 : PI X tg e w1) (h2 : PI X tg e w2) : PI X tg e (fun σ H R => w1 σ H R ∨ w2 σ H R) := ⟨fun pins s σ H R I h => h.elim (h1.run pins s σ H R I) (h2.run pins s σ H R I)⟩
theorem ei_or (h1 : EDI X tg e d1) (h2 : EDI X tg e d2) : EDI X tg e (fun δ O S => d1 δ O S ∨ d2 δ O S) := by
  obtain ⟨t1, p1, s1⟩ := h1.ex
  obtain ⟨t2, p2, s2⟩ := h2.ex
  exact ⟨_, PI.or p1 p2, fun F H θ O σ δ S j s q R k => Or.elim q (fun q => Or.inl (s1 F H θ O σ δ S j s q R k)) fun q => Or.inr (s2 F H θ O σ δ S j s q R k)⟩
end
/-- over a name that holds a list or a tuple -/
abbrev diQ (i : Nat) : DS → Sto → (Wk → Sto → Prop) → Prop := fun δ O S => diT (dVar i) δ O S ∨ diL (dVar i) δ O S
/-- a loop that counts up -/
theorem for_up {s lo hi n : Nat} {L : Int} {D : DEnds} {δ : DS} {O : Sto} {wb : DTS} (P : Nat → DS → Sto → Prop) (hL : L = (lo : Int)) (hn : n = hi - lo) (hle : lo ≤ hi) (h0 : P lo δ O)
    (hs : ∀ i δ O, lo ≤ i → i < hi → P i δ O → wb { D with nx := P (i + 1), ct := P (i + 1), bk := D.nx } (δ.set s (some (.int (i : Int)))) O) (he : ∀ δ O, P hi δ O → D.nx δ O) :
    ∃ (m : Nat) (Pv : Nat → DS → Sto → Prop), Pv 0 δ O ∧ ∀ i δ O, Pv i δ O → i ≤ m ∧ (wkR L n).ok O ∧ (match (wkR L n).at_ i O with
      | none => D.nx δ O
      | some z => i < m ∧ dgName s z δ O fun δ2 O2 => wb { D with nx := Pv (i + 1), ct := Pv (i + 1), bk := D.nx } δ2 O2) := by
  refine ⟨n, fun i δ O => i ≤ n ∧ P (lo + i) δ O, ⟨Nat.zero_le _, h0⟩, fun i δ O h => ⟨h.1, True.intro, ?_⟩⟩
  obtain ⟨hi', hp⟩ := h
  by_cases q : i < n
  · have e : (wkR L n).at_ i O = some (.int ((lo + i : Nat) : Int)) := by
      show (if i < n then _ else _) = _
      rw [if_pos q, hL]
      congr 1
    rw [e]
    refine ⟨q, ?_⟩
    have := hs (lo + i) δ O (by omega) (by omega) hp
    have ef : (fun (δ : DS) (O : Sto) => i + 1 ≤ n ∧ P (lo + (i + 1)) δ O) = P (lo + i + 1) := by
      funext δ O
      apply propext
      exact ⟨fun h => h.2, fun h => ⟨by omega, h⟩⟩
    show wb { D with nx := fun δ O => i + 1 ≤ n ∧ P (lo + (i + 1)) δ O, ct := fun δ O => i + 1 ≤ n ∧ P (lo + (i + 1)) δ O, bk := D.nx } _ O
    rw [ef]
    exact this
  · have e : (wkR L n).at_ i O = none := by
      show (if i < n then _ else _) = _
      rw [if_neg q]
    rw [e]
    have : lo + i = hi := by omega
    rw [this] at hp
    exact he δ O hp
theorem log2_add (a b : Nat) : (a + b).log2 ≤ max a.log2 b.log2 + 1 := by
  by_cases h : a + b = 0
  · have : a = 0 := by omega
    have : b = 0 := by omega
    subst a; subst b
    exact Nat.zero_le _
  · have h1 : a < 2 ^ (a.log2 + 1) := Nat.lt_log2_self
    have h2 : b < 2 ^ (b.log2 + 1) := Nat.lt_log2_self
    have p1 : 2 ^ (a.log2 + 1) ≤ 2 ^ (max a.log2 b.log2 + 1) := Nat.pow_le_pow_right (by decide) (by omega)
    have p2 : 2 ^ (b.log2 + 1) ≤ 2 ^ (max a.log2 b.log2 + 1) := Nat.pow_le_pow_right (by decide) (by omega)
    have : a + b < 2 ^ (max a.log2 b.log2 + 1 + 1) := by
      rw [Nat.pow_succ]
      omega
    have := (Nat.log2_lt h).mpr this
    omega
theorem log2_iadd {x y : Int} {k : Nat} (hx : x.natAbs.log2 ≤ k) (hy : y.natAbs.log2 ≤ k) : (x + y).natAbs.log2 ≤ k + 1 := by
  have h1 : (x + y).natAbs ≤ x.natAbs + y.natAbs := Int.natAbs_add_le _ _
  have h2 := log2_le h1
  have h3 := log2_add x.natAbs y.natAbs
  omega
theorem bits_log {z : Int} (h : Builtin.Int.intBits z ≤ 1048576) : z.natAbs.log2 ≤ 1048576 := by
  unfold Builtin.Int.intBits at h
  split at h
  · rename_i e
    have e := eq_of_beq e
    rw [show z.natAbs = 0 by omega]
    exact Nat.zero_le _
  · omega
theorem small_log {x : Int} {n k : Nat} (h : x.natAbs < 2 ^ n) (hn : 0 < n) (hk : n ≤ k + 1) : x.natAbs.log2 ≤ k := by
  by_cases e : x.natAbs = 0
  · rw [e]
    exact Nat.zero_le _
  · have := (Nat.log2_lt e).mpr h
    omega
/-- a thing is the list or the tuple of these -/
def Items (O : Sto) (x : W) (us : List W) : Prop := x = .tup us ∨ ∃ k, x = .cell k ∧ LstC O k us
theorem Items.sm {O O' : Sto} {x : W} {us : List W} (h : Items O x us) (s : Sm O O') : Items O' x us := h.elim .inl fun ⟨k, e, c⟩ => .inr ⟨k, e, s.lstC c⟩
theorem Items.ty {O : Sto} {x : W} {us : List W} (h : Items O x us) : tyW x O = some "tuple" ∨ tyW x O = some "list" := by
  rcases h with rfl | ⟨k, rfl, c | c⟩
  · exact .inl rfl
  · refine .inr ?_
    show (match O[k]? with | some (.lst _) => some "list" | some (.rol _) => some "list" | some (.dct _) => some "dict" | _ => none) = _
    rw [c]
  · refine .inr ?_
    show (match O[k]? with | some (.lst _) => some "list" | some (.rol _) => some "list" | some (.dct _) => some "dict" | _ => none) = _
    rw [c]
/-- a comprehension over a list or a tuple -/
theorem ev_lcQ {δ : DS} {O : Sto} {S : WK} {i : Nat} {f : W → W} {g : DG} {we : DE} {vs : List Nat} {x : W} {zs : List W} (h : δ[i]? = some (some x)) (hk : Items O x zs) (hl : zs.length ≤ 1000000) (hel : ∀ (i : Nat) (z : W), zs[i]? = some z → ∀ O', Sm O O' → ∀ S1 : WK, (∀ O2, Sm O' O2 → S1 (f z) O2) → g z (wipeD δ vs) O' fun δ2 O2 => we δ2 O2 S1)
    (fin : ∀ O', Sm O O' → O'[O.length]? = some (.lst (zs.map f)) → S (.cell O.length) O') : dLc (diQ i) g dYes we vs δ O S := by
  rcases hk with rfl | ⟨k, rfl, c⟩
  · exact .inl (ev_lcT h hl hel fin)
  · exact .inr (ev_lcL h c hl hel fin)
theorem fd_sm {O O' : Sto} {k n : Nat} (h : Fd O k n) (s : Sm O O') : Fd O' k n := by
  obtain ⟨a, b, c, e, q⟩ := h
  exact ⟨a, b, c, s _ _ e, q⟩
theorem Sm.kp {k : Nat} {O O' : Sto} (s : Sm O O') : Kp k O O' := ⟨s.len, fun i c _ h => s i c h⟩
theorem ev_op {r : R2D} {wa wb : DE} {δ : DS} {O : Sto} {S : WK} (h : wa δ O fun x O1 => wb δ O1 fun y O2 => r x y O2 S) : dOp r wa wb δ O S := h
theorem ev_CB {rd : RCD} {wa : DA} {δ : DS} {O : Sto} {S : WK} (h : wa δ O fun ws O1 => rd ws O1 S) : dCB rd wa δ O S := h
theorem ev_cons1 {w : DE} {δ : DS} {O : Sto} {S : List W → Sto → Prop} (h : w δ O fun x O1 => S [x] O1) : dCons w dNil δ O S := h
/-- a loop over a list that the body leaves as it is -/
theorem for_lst {k : Nat} {zs : List W} {D : DEnds} {δ : DS} {O : Sto} {g : DG} {wb : DTS} (P : Nat → DS → Sto → Prop) (h0 : P 0 δ O) (hl : ∀ i δ O, P i δ O → LstC O k zs)
    (hs : ∀ i z δ O, zs[i]? = some z → P i δ O → g z δ O fun δ2 O2 => wb { D with nx := P (i + 1), ct := P (i + 1), bk := D.nx } δ2 O2) (he : ∀ δ O, P zs.length δ O → D.nx δ O) :
    ∃ (n : Nat) (Pv : Nat → DS → Sto → Prop), Pv 0 δ O ∧ ∀ i δ O, Pv i δ O → i ≤ n ∧ (wkL k).ok O ∧ (match (wkL k).at_ i O with
      | none => D.nx δ O
      | some z => i < n ∧ g z δ O fun δ2 O2 => wb { D with nx := Pv (i + 1), ct := Pv (i + 1), bk := D.nx } δ2 O2) := by
  refine ⟨zs.length, fun i δ O => i ≤ zs.length ∧ P i δ O, ⟨Nat.zero_le _, h0⟩, fun i δ O h => ⟨h.1, ⟨zs, hl i δ O h.2⟩, ?_⟩⟩
  obtain ⟨hi', hp⟩ := h
  rw [wkL_at (hl i δ O hp)]
  cases hz : zs[i]? with
  | none =>
    have hn := List.getElem?_eq_none_iff.mp hz
    have : i = zs.length := by omega
    subst this
    exact he δ O hp
  | some z =>
    have hlt := (List.getElem?_eq_some_iff.mp hz).1
    refine ⟨hlt, ?_⟩
    have ef : (fun (δ : DS) (O : Sto) => i + 1 ≤ zs.length ∧ P (i + 1) δ O) = P (i + 1) := by
      funext δ O
      apply propext
      exact ⟨fun h => h.2, fun h => ⟨hlt, h⟩⟩
    show g z δ O fun δ2 O2 => wb { D with nx := fun δ O => i + 1 ≤ zs.length ∧ P (i + 1) δ O, ct := fun δ O => i + 1 ≤ zs.length ∧ P (i + 1) δ O, bk := D.nx } δ2 O2
    rw [ef]
    exact hs i z δ O hz hp
theorem cut_upto {α : Type} (f : α → W) (xs : List α) (m : Nat) : cutW (xs.map f) none (some (m : Int)) = (xs.take m).map f := by
  unfold cutW
  rw [show HT.sIx (xs.map f).length 0 none = 0 from rfl, HT.sIx_nat, List.length_map, List.drop_zero, Nat.sub_zero, ← List.map_take]
  congr 1
  rw [List.take_eq_take_iff]
  omega
theorem cut_take {α : Type} (f : α → W) (xs : List α) {m : Nat} (hm : m ≤ xs.length) : cutW (xs.map f) none (some (m : Int)) = (xs.take m).map f := by
  unfold cutW
  rw [show HT.sIx (xs.map f).length 0 none = 0 from rfl, HT.sIx_nat, List.length_map, List.drop_zero, Nat.sub_zero, Nat.min_eq_left hm, ← List.map_take]
theorem cut_drop {α : Type} (f : α → W) (xs : List α) {m : Nat} (hm : m ≤ xs.length) : cutW (xs.map f) (some (m : Int)) none = (xs.drop m).map f := by
  unfold cutW
  rw [show HT.sIx (xs.map f).length (xs.map f).length none = (xs.map f).length from rfl, HT.sIx_nat, List.length_map, Nat.min_eq_left hm, ← List.map_drop]
  exact List.take_of_length_le (by rw [List.length_map, List.length_drop]; exact Nat.le_refl _)
theorem at_nat {α : Type} {xs : List α} {i : Nat} {x : α} (h : xs[i]? = some x) : atI xs (i : Int) = some x := atI_nat h
/-- one of the things of a list -/
def sp_law_oneL : SpD := fun ws O S => ∃ (k j : Nat) (us : List W) (n : Nat), ws = [.cell k, .cell j] ∧ j ≠ k ∧ LstC O j us ∧ us ≠ [] ∧ us.length < 100000 ∧ Fd O k (n + 1) ∧ ∀ w O', w ∈ us → Kp k O O' → Fd O' k n → S w O'
theorem rd_law_oneL (ws : List W) (O : Sto) (S : WK) (h : sp_law_oneL ws O S) : d_law_one (outB S) (startD ["_law_feed_here", "_law_things"] ws) O := by
  obtain ⟨k, j, us, n, rfl, ne, hc, hu, hl, hf, q⟩ := h
  have hp := List.length_pos_iff.mpr hu
  have big : (100000 : Int) < 2 ^ 300 := by decide +kernel
  refine ⟨_, rfl, _, rfl, _, rfl, .inr ⟨j, _, rfl, hc, k, (us.length : Int), n, rfl, by omega, by omega, hf, fun r O' r0 r1 kp fd => ?_⟩⟩
  obtain ⟨w, hw, ha⟩ := atI_in r0 r1
  exact ⟨j, us, r, w, rfl, rfl, kp.lstC ne hc, ha, q w O' hw kp fd⟩
end Dm

set_option Elab.async false
set_option linter.all false
set_option maxRecDepth 100000
set_option maxHeartbeats 4000000
/-! The data machine: known tuples (index, turned round), bits, what is never reached, keywords the other way round. -/
namespace Dm
open PySem PySem.Spec PyProof.Rows L2
/-! ### a known tuple is a tuple -/
mutual
def fg : W → W
  | .ktp ws => .tup (fgs ws)
  | .tup ws => .tup (fgs ws)
  | .non => .non
  | .bl b => .bl b
  | .int i => .int i
  | .str x => .str x
  | .ty n => .ty n
  | .cell k => .cell k
  | .ref a => .ref a
  | .xr a d k => .xr a d k
  | .rng l h => .rng l h
def fgs : List W → List W
  | [] => []
  | w :: ws => fg w :: fgs ws
end
mutual
theorem RW.fg {K : PySem.W.Frag} {F : Hp} {θ : List Addr} : ∀ {v : V} {w : W}, RW K F θ v w → RW K F θ v (Dm.fg w)
  | _, _, .non => .non
  | _, _, .bl b => .bl b
  | _, _, .int i => .int i
  | _, _, .str x => .str x
  | _, _, .ty n => .ty n
  | _, _, .tup h r => .tup h (RWs.fg r)
  | _, _, .cell h => .cell h
  | _, _, .ref a => .ref a
  | _, _, .xr h => .xr h
  | _, _, .rng h => .rng h
  | _, _, .ktp h d r => .tup (.inl (.inr ⟨_, h⟩)) (RWs.fg r)
theorem RWs.fg {K : PySem.W.Frag} {F : Hp} {θ : List Addr} : ∀ {v : List V} {w : List W}, RWs K F θ v w → RWs K F θ v (fgs w)
  | _, _, .nil => .nil
  | _, _, .cons r t => .cons (RW.fg r) (RWs.fg t)
end
theorem fgs_map (ws : List W) : fgs ws = ws.map fg := by
  induction ws with
  | nil => rfl
  | cons w ws ih =>
    unfold fgs
    rw [ih, List.map_cons]
theorem fgs_strs (xs : List Str) : fgs (xs.map W.str) = xs.map W.str := by
  rw [fgs_map, List.map_map]
  exact List.map_congr_left fun x _ => by
    show fg (.str x) = _
    unfold fg
    rfl
def dFg (we : DE) : DE := fun δ O S => we δ O fun w O1 => S (fg w) O1
theorem RW.ktp_inv {K : PySem.W.Frag} {F : Hp} {θ : List Addr} {v : V} {ws : List W} (r : RW K F θ v (.ktp ws)) : ∃ a o vs, v = .ref a ∧ F a = some (.frz o (.tup vs)) ∧ o.dict = none ∧ RWs K F θ vs ws := by
  cases r with
  | ktp h d r => exact ⟨_, _, _, rfl, h, d, r⟩
section
variable {X : Cx} {a e : Expr} {wa wb we : DE} {wr : DA} {es : List Expr} {p pos : Pos}
theorem ed_fg (h : ED X e we) : ED X e (dFg we) := by
  obtain ⟨t, p, s⟩ := h.ex
  exact ⟨t, p, fun F H θ O σ δ S j s' q Q k => s F H θ O σ δ _ j s' q Q fun v w F1 H1 θ1 O1 g1 j1 r1 q1 => k v _ F1 H1 θ1 O1 g1 j1 r1.fg q1⟩
/-! ### tuple(xs), a known tuple -/
theorem call_tuple_ofK : CallR X (.type "tuple") (fun xs H Q => ∃ p ys, xs = [V.ref p] ∧ SqL X.K H p ys ∧ ∀ (l : Addr) (o : Obj), o.dict = none → H l = none → Q (.ref l) (L2.upd H l (.frz o (.tup ys)))) := by
  intro pins s σ H xs us Q I r h
  obtain ⟨p, ys, rfl, hq, q⟩ := h
  obtain ⟨u, rfl, rx⟩ := vals1 r
  cases rx
  obtain ⟨its, r', pl, hz⟩ := I.list hq
  have hlen := r'.length
  refine call_tuple_list pl.isList (fun h' kp => ?_) (by simp only [List.size_toArray] <;> omega)
  have I1 : Inv X pins σ H { s with heap := h' } := I.kept (t' := s.toks) kp
  have I2 : Inv X pins σ (L2.upd H h'.objs.size (.frz { cls := .type "tuple", data := .seq its.toArray } (.tup ys))) { s with heap := h'.push { cls := .type "tuple", data := .seq its.toArray } } :=
    I1.laid (t' := s.toks) (fun b o e => Heap.get?_push_of_some _ e) (Nat.le_refl _) (show ObjOk X.prog X.w _ _ _ (.frz _ (.tup ys)) from ⟨Heap.get?_push_size _ rfl, hz, its, r', IsTup.new _ _⟩)
  exact ⟨.ref h'.objs.size, _, I2, rfl, q _ _ rfl (I1.hok.fresh (Nat.le_refl _))⟩
def rdTupK : RCD := fun ws O S => ∃ k us, ws = [.cell k] ∧ LstC O k us ∧ S (.ktp us) O
theorem src_tupK {K : PySem.W.Frag} : SRC K (fun xs H Q => ∃ p ys, xs = [V.ref p] ∧ SqL K H p ys ∧ ∀ (l : Addr) (o : Obj), o.dict = none → H l = none → Q (.ref l) (L2.upd H l (.frz o (.tup ys)))) rdTupK := by
  intro F H θ O vs ws S j r q Q k
  obtain ⟨c, us, rfl, hc, q⟩ := q
  obtain ⟨v, rfl, rv⟩ := r.one_inv
  obtain ⟨a, rfl, ha⟩ := rv.cell_inv
  obtain ⟨xs, hl, rr⟩ := j.lstC ha hc
  refine ⟨a, xs, rfl, hl, fun p o d hp => ?_⟩
  have g2 : Gr F θ (L2.upd F p (.frz o (.tup xs))) θ := Gr.upd (j.freeF hp)
  exact k _ _ _ _ _ _ g2 (j.newF hp) (.ktp upd_same d (rr.mono g2)) q
/-! ### t.index(x) -/
theorem pe_idxK {name : Str} {apos cpos : Pos} {id : String} {r : V → List V → Hp → VK → Prop} {to : TE} {t : TA} {o : Expr} (pa : PlainAttrs "tuple") (slot : Slot "tuple" name id) (hty : typeOf (.builtin id) = pure (.type "method_descriptor")) (hm : MtR X id r) (ho : PE X o to) (ha : PA X (e :: es) t)
    (hbase : attributeBase o name X.env (eval o X.env) = eval o X.env)
    (hfew : ((backTo cpos (starEach (e :: es) X.env)).all (fun x => !x.1) && (backToKw cpos (keywordEach [] X.env)).all (fun x => x.1.isSome)
      && decide ((e :: es).length + ([] : List Keyword).length + (if ([] : List Keyword).isEmpty then 0 else 1) < 30)) = true)
    (hline : (apos.endLine == cpos.line) = true) (hs : starEach (e :: es) X.env = (false, eval e X.env) :: starEach es X.env) (hplain : (backTo cpos (starEach es X.env)).any (·.1) = false) :
    PE X (.Call (.Attribute o name apos) (e :: es) [] cpos) (fun σ H Q => to σ H fun x H1 => (∃ a ob vs, x = .ref a ∧ H1 a = some (.frz ob (.tup vs)) ∧ ob.dict = none) ∧ t σ H1 fun xs H2 => r x xs H2 Q) := by
  refine ⟨fun pins s σ H Q I h => ?_⟩
  refine wpAny_Call_method_late hbase hfew hline rfl (thn (ho.run pins s σ H _ I h) fun v s1 ⟨x, H1, I1, r1, ty, q1⟩ => ?_)
  obtain ⟨a, ob, vs, rfl, hfz, hd⟩ := ty
  cases (show v = Value.ref a from r1)
  obtain ⟨hg, _, its, _, o2, ho2, hc2, n2, hd2⟩ := (show ObjOk X.prog X.w H1 s1.heap a (.frz ob (.tup vs)) from I1.hok a _ hfz)
  refine ⟨"tuple", id, pa, slot, hty, ⟨o2, ho2, hc2⟩, fun b e => ?_, ?_⟩
  · cases e
    exact ⟨ob, hg, hd⟩
  have hA := ha.run cpos pins s1 σ H1 _ I1 q1
  rw [hs] at hA ⊢
  refine Calls.callWith_builtin (by show (false || (backTo cpos (starEach es X.env)).any (·.1)) = false; rw [hplain] <;> rfl) (Calls.evalArgs_plain ?_)
  exact thn hA fun us s2 ⟨vs, H2, I2, r2, q2⟩ => hm pins s2 σ H2 (V.ref a) vs (Value.ref a) us Q I2 rfl r2 q2
def dIdxK (wo : DE) (wa : DA) : DE := fun δ O S => wo δ O fun x O1 => ∃ ss : List Str, x = .ktp (ss.map W.str) ∧ wa δ O1 fun ws O2 => ∃ z j, ws = [.str z] ∧ ss[j]? = some z ∧ (∀ m, m < j → ss[m]? ≠ some z) ∧ S (.int (j : Nat)) O2
theorem rws_strs_inv {K : PySem.W.Frag} {F : Hp} {θ : List Addr} : ∀ {ss : List Str} {vs : List V}, RWs K F θ vs (ss.map W.str) → vs = ss.map V.str
  | [], [], _ => rfl
  | s :: ss, v :: vs, h => by
    rw [List.map_cons] at h
    cases h with
    | cons r t =>
      rw [r.str_inv, rws_strs_inv t]
      rfl
theorem ed_idxK {apos cpos : Pos} (ho : ED X a wa) (ha : EDA X (e :: es) wr)
    (hbase : attributeBase a "index" X.env (eval a X.env) = eval a X.env := by rfl) (hline : (apos.endLine == cpos.line) = true := by rfl)
    (hplain : (((backTo cpos (starEach (e :: es) X.env)).all (!·.1)) && (backToKw cpos (keywordEach [] X.env)).all (·.1.isSome) && decide ((e :: es).length + ([] : List Keyword).length + (if ([] : List Keyword).isEmpty then 0 else 1) < 30)) = true := by rfl)
    (hst : starEach (e :: es) X.env = (false, eval e X.env) :: starEach es X.env := by rfl) (hpl : (backTo cpos (starEach es X.env)).any (·.1) = false := by rfl) : ED X (.Call (.Attribute a "index" apos) (e :: es) [] cpos) (dIdxK wa wr) := by
  obtain ⟨t0, p0, s0⟩ := ho.ex
  obtain ⟨t1, p1, s1⟩ := ha.ex
  refine ⟨_, pe_idxK PySem.F.plainAttrs_tuple PySem.F.slot_tuple_index PySem.F.type_tuple_index mt_tup_index p0 p1 hbase hplain hline hst hpl, fun F H θ O σ δ S j s q Q k => ?_⟩
  refine s0 F H θ O σ δ _ j s q _ fun v x F1 H1 θ1 O1 g1 j1 r1 q1 => ?_
  obtain ⟨ss, rfl, q1⟩ := q1
  obtain ⟨b, ob, vs, rfl, hfz, hd, rr⟩ := r1.ktp_inv
  have evs := rws_strs_inv rr
  refine ⟨⟨b, ob, vs, rfl, j1.sub _ _ hfz, hd⟩, ?_⟩
  refine s1 F1 H1 θ1 O1 σ δ _ j1 (s.mono g1) q1 _ fun us ws F2 H2 θ2 O2 g2 j2 r2 q2 => ?_
  obtain ⟨z, m, rfl, h1, h2, q2⟩ := q2
  obtain ⟨u, rfl, ru⟩ := r2.one_inv
  rw [ru.str_inv]
  refine ⟨b, ss, z, m, rfl, rfl, .inl (.inr ⟨ob, ?_⟩), h1, h2, k _ _ F2 H2 θ2 O2 (g1.trans g2) j2 (.int _) q2⟩
  rw [← evs]
  exact j2.sub _ _ (g2.fz _ _ hfz)
/-- xs.index(x), of texts -/
def rdIdxL : RMD := fun x ws O S => ∃ k, ∃ ss : List Str, ∃ z j, x = .cell k ∧ ws = [.str z] ∧ LstC O k (ss.map W.str) ∧ ss[j]? = some z ∧ (∀ m, m < j → ss[m]? ≠ some z) ∧ S (.int (j : Nat)) O
theorem srm_idxL {K : PySem.W.Frag} : SRM K "list" (rIndex K) rdIdxL := by
  intro F H θ O v x vs ws S j r rs q Q k
  obtain ⟨c, ss, z, m, rfl, rfl, hc, h1, h2, q⟩ := q
  obtain ⟨a, rfl, ha⟩ := r.cell_inv
  obtain ⟨u, rfl, ru⟩ := rs.one_inv
  obtain ⟨xs, hl, rr⟩ := j.lstC ha hc
  have exs := rws_strs_inv rr
  subst exs
  rw [ru.str_inv]
  refine ⟨a, _, .str z, m, .str z, rfl, rfl, hl, rfl, ?_, by rw [List.getElem?_map, h1]; rfl, by unfold eqV; exact beq_self_eq_true z, fun i z' hi hz' => ?_, k _ _ F H θ O Gr.refl j (.int _) q⟩
  · rw [List.all_map]
    exact List.all_eq_true.mpr fun _ _ => rfl
  · rw [List.getElem?_map] at hz'
    cases e : ss[i]? with
    | none => rw [e] at hz'; cases hz'
    | some y =>
      rw [e] at hz'
      cases hz'
      unfold eqV
      rw [beq_eq_false_iff_ne]
      rintro rfl
      exact h2 i hi e
/-! ### bits -/
abbrev dShl := dOp (rdI CPow fun i j => .int (i * 2 ^ j.toNat))
abbrev dShr := dOp (rdI (fun _ j => 0 ≤ j) fun i j => .int (i / 2 ^ j.toNat))
abbrev dBAnd := dOp (rdI0 fun i j => .int (Builtin.bitAnd i j))
abbrev dBOr := dOp (rdI0 fun i j => .int (Builtin.bitOr i j))
def dInv (we : DE) : DE := fun δ O S => we δ O fun x O1 => ∃ i : Int, x = .int i ∧ S (.int (Builtin.bitNot i)) O1
variable {b : Expr}
theorem ed_shl (ha : ED X a wa) (hb : ED X b wb) : ED X (.BinOp a .LShift b pos) (dShl wa wb) := ed_op op_shl (sr_I fun _ _ _ _ => .int _) ha hb
theorem ed_shr (ha : ED X a wa) (hb : ED X b wb) : ED X (.BinOp a .RShift b pos) (dShr wa wb) := ed_op op_shr (sr_I fun _ _ _ _ => .int _) ha hb
theorem ed_bAnd (ha : ED X a wa) (hb : ED X b wb) : ED X (.BinOp a .BitAnd b pos) (dBAnd wa wb) := ed_op op_and (sr_I0 fun _ _ _ _ => .int _) ha hb
theorem ed_bOr (ha : ED X a wa) (hb : ED X b wb) : ED X (.BinOp a .BitOr b pos) (dBOr wa wb) := ed_op op_or (sr_I0 fun _ _ _ _ => .int _) ha hb
theorem ed_inv (h : ED X a wa) : ED X (.UnaryOp .Invert a pos) (dInv wa) := by
  obtain ⟨t, p, s⟩ := h.ex
  refine ⟨_, pe_un un_inv p, fun F H θ O σ δ S j s' q Q k => ?_⟩
  refine s F H θ O σ δ _ j s' q _ fun v x F1 H1 θ1 O1 g1 j1 r1 q1 => ?_
  obtain ⟨i, rfl, q1⟩ := q1
  rw [r1.int_inv]
  exact ⟨i, rfl, k _ _ F1 H1 θ1 O1 g1 j1 (.int _) q1⟩
/-! ### never reached -/
def dNeverE : DE := fun _ _ _ => False
theorem ed_never : ED X e dNeverE := ⟨fun _ _ _ => False, ⟨fun _ _ _ _ _ _ h => h.elim⟩, fun _ _ _ _ _ _ _ _ _ q _ _ => q⟩
/-! ### t[::-1] -/
theorem rev_applied {prog : Program} {w : World} {A : Around} {E : Value → Shared → Prop} {s : Shared} {sl : Addr} {t : Tok} {n : Nat} {Q : Int × Int × Nat → Shared → Prop} (hs : s.heap.IsSliceOf sl .none .none (.int (-1) t))
    (h : Q ((n : Int) - 1, -1, n) s) : wpAny (model prog w) A (Builtin.Slice.sliceApplied (.ref sl) (pure (n : Int))) Q E s := by
  obtain ⟨os, hos, hcs, hds⟩ := id hs
  unfold Builtin.Slice.sliceApplied Builtin.Slice.sliceFields
  refine wpAny_bind (wpAny_bind (wpAny_field hos hds (x := .none) rfl (wpAny_bind (wpAny_field hos hds (x := .none) rfl (wpAny_bind (wpAny_field hos hds (x := .int (-1) t) rfl (wpAny_pure ?_)))))))
  refine wpAny_bind (slicePart_int ?_)
  show wpAny _ _ (if ((-1 : Int) == 0) = true then _ else _) _ _ s
  rw [if_neg (by decide)]
  refine wpAny_bind (slicePart_none (wpAny_bind (slicePart_none (wpAny_bind (wpAny_pure ?_)))))
  show wpAny _ _ (match Builtin.Slice.sliceAdjust none none (-1) (n : Int) with | (lo, hi) => pure (lo, (-1 : Int), Builtin.Slice.slicePlaces lo hi (-1))) _ _ s
  have e : Builtin.Slice.sliceAdjust none none (-1) (n : Int) = ((n : Int) - 1, -1) := by
    unfold Builtin.Slice.sliceAdjust
    simp
  rw [e]
  show wpAny _ _ (pure ((n : Int) - 1, (-1 : Int), Builtin.Slice.slicePlaces ((n : Int) - 1) (-1) (-1))) _ _ s
  have e2 : Builtin.Slice.slicePlaces ((n : Int) - 1) (-1) (-1) = n := by
    unfold Builtin.Slice.slicePlaces
    have h1 : ¬ ((-1 : Int) > 0) := by omega
    simp only [h1, if_false]
    split <;> simp <;> omega
  rw [e2]
  exact wpAny_pure h
theorem fm_congr {α β : Type} {f g : α → Option β} : ∀ {l : List α}, (∀ x ∈ l, f x = g x) → l.filterMap f = l.filterMap g
  | [], _ => rfl
  | x :: l, h => by rw [List.filterMap_cons, List.filterMap_cons, h x List.mem_cons_self, fm_congr fun y hy => h y (List.mem_cons_of_mem _ hy)]
theorem all_at {α : Type} : ∀ (n : Nat) (l : List α), l.length = n → (List.range n).filterMap (fun i => l[i]?) = l
  | 0, [], _ => rfl
  | n + 1, l, h => by
    have hl : l = l.take n ++ [l[n]] := by
      have := List.take_succ_eq_append_getElem (l := l) (i := n) (by omega)
      rw [List.take_of_length_le (by omega)] at this
      exact this
    rw [List.range_succ, List.filterMap_append]
    have h1 : (List.range n).filterMap (fun i => l[i]?) = l.take n := by
      have e : (List.range n).filterMap (fun i => l[i]?) = (List.range n).filterMap (fun i => (l.take n)[i]?) := by
        refine fm_congr fun i hi => ?_
        rw [List.mem_range] at hi
        rw [List.getElem?_take, if_pos hi]
      rw [e]
      exact all_at n (l.take n) (by rw [List.length_take]; omega)
    rw [h1]
    conv => rhs; rw [hl]
    congr 1
    rw [List.filterMap_cons, List.getElem?_eq_getElem (by omega)]
    rfl
theorem rev_pick (xs : Array Value) : ((List.range xs.size).filterMap fun (m : Nat) => xs[(((xs.size : Int) - 1) + (m : Int) * (-1)).toNat]?).toArray = xs.toList.reverse.toArray := by
  congr 1
  have e : (List.range xs.size).filterMap (fun (m : Nat) => xs[(((xs.size : Int) - 1) + (m : Int) * (-1)).toNat]?) = (List.range xs.size).filterMap (fun (m : Nat) => xs.toList.reverse[m]?) := by
    refine fm_congr fun m hm => ?_
    rw [List.mem_range] at hm
    rw [List.getElem?_reverse (by rw [Array.length_toList]; exact hm), Array.length_toList, Array.getElem?_toList]
    congr 1
    omega
  rw [e]
  exact all_at _ _ (by rw [List.length_reverse, Array.length_toList])
theorem rev_tuple {prog : Program} {w : World} {A : Around} {E : Value → Shared → Prop} {s : Shared} {t sl : Addr} {items : Array Value} {tk : Tok} {Q : Value → Shared → Prop} (ht : IsTup s.heap t items) (hs : s.heap.IsSliceOf sl .none .none (.int (-1) tk))
    (h : Q (.ref s.heap.objs.size) { s with heap := s.heap.push { cls := .type "tuple", data := .seq items.toList.reverse.toArray } })
    (hsz : items.size ≤ sizeLine) : wpAny (model prog w) A (getItem (.ref t) (.ref sl)) Q E s := by
  have htake : sizeOk (.seq items.toList.reverse.toArray) := by
    show items.toList.reverse.toArray.size ≤ sizeLine
    rw [List.size_toArray, List.length_reverse, Array.length_toList]
    exact hsz
  obtain ⟨os, hos, hcs, hds⟩ := id hs
  have hTs : s.TypeIs (.ref sl) "slice" := ⟨os, hos, hcs⟩
  unfold getItem
  try with_reducible refine wpAny_holding ?_
  first | refine wpAny_bind (wpAny_pure ?_) | skip
  refine wpAny_bind (wpAny_sequenceKey ht.typeIs (by decide) ?_)
  refine wpAny_bind (wpAny_callSpecial?_slot (name := Str.ofString "__getitem__") ht.typeIs PyProof.Rows.slot_tuple_getitem
    (wpAny_call_entry PyProof.Rows.slot_tuple_getitem ht.typeIs entry_tuple_getitem ?_ (args_tuple_getitem _ _)))
  show wpAny _ _ (Builtin.Tuple.tupleItemsOf (.ref t) >>= _) _ _ s
  refine wpAny_bind (tupleItemsOf_ ht ?_)
  refine wpAny_bind (wpAny_typeOf hTs ?_)
  rw [if_pos (by decide)]
  refine wpAny_bind (rev_applied hs ?_)
  have hno : ¬ ((((items.size : Int) - 1) == 0 && (-1 : Int) == 1 && items.size == items.size) = true) := by
    intro q
    rw [Bool.and_eq_true, Bool.and_eq_true] at q
    exact absurd q.1.2 (by decide)
  show wpAny _ _ (if (((items.size : Int) - 1) == 0 && (-1 : Int) == 1 && items.size == items.size) = true then _ else _) _ _ s
  rw [if_neg hno, rev_pick]
  first
    | exact wpAny_bind (m := Builtin.Tuple.tupleExact _) (wpAny_newObj_type (wpAny_pure ⟨_, rfl, wpAny_pure h⟩) htake)
    | exact wpAny_bind (m := Builtin.Tuple.tupleExact _) (wpAny_newObj_type (wpAny_bind (wpAny_pure (wpAny_pure ⟨_, rfl, wpAny_pure h⟩))) htake)
    | exact wpAny_bind (wpAny_bind (m := Builtin.Tuple.tupleExact _) (wpAny_newObj_type (wpAny_pure (wpAny_pure ⟨_, rfl, wpAny_pure h⟩)) htake))
    | exact wpAny_bind (wpAny_bind (m := Builtin.Tuple.tupleExact _) (wpAny_newObj_type (wpAny_pure ⟨_, rfl, wpAny_pure h⟩) htake))
theorem pe_revT {st : Expr} {p2 : Pos} {te : TE} {th : TO} (he : PE X e te) (hk : PO X (some st) th) {ops : Value → Value → List Value} (hsub : ∀ v w : Value, subscripted (.Slice none none (some st) p2) false v w = operate (ops v w) (getItem v w)) :
    PE X (.Subscript e (.Slice none none (some st) p2) pos) (fun σ H Q => te σ H fun x H1 => th σ H1 fun o H2 => o = some (-1) ∧ ∃ a xs, x = .ref a ∧ SqT X.K H2 a xs ∧ ∀ (l : Addr) (ob : Obj), ob.dict = none → H2 l = none → Q (.ref l) (L2.upd H2 l (.frz ob (.tup xs.reverse)))) := by
  refine ⟨fun pins s σ H Q I h => ?_⟩
  refine Subscript_ (thn (he.run pins s σ H _ I h) fun v s1 ⟨x, H1, I1, r1, q1⟩ => ?_)
  refine wpAny_Slice ?_
  rw [evalPart_none]
  refine wpAny_pure (wpAny_pure (thn (hk.run pins s1 σ H1 _ I1 q1) fun vk s3 ⟨o, H3, I3, pk, q3⟩ => ?_))
  obtain ⟨rfl, a, xs, rfl, hx, q⟩ := q3
  cases (show v = Value.ref a from r1)
  have I4 : Inv X pins σ H3 { s3 with heap := s3.heap.push { cls := .type "slice", data := .fields #[.none, .none, vk] } } := I3.kept (t' := s3.toks) fun b ob q => Heap.get?_push_of_some _ q
  obtain ⟨tk, rfl⟩ : ∃ t, vk = .int (-1) t := by
    cases pk with
    | int i t => exact ⟨t, rfl⟩
  obtain ⟨its, r, ht, hz⟩ := I4.tuple hx
  show wpAny (model X.prog X.w) X.A (subscriptTail e (.Slice none none (some st) p2) (.ref a) (.ref s3.heap.objs.size)) (EP X pins σ Q) X.xe { s3 with heap := s3.heap.push { cls := .type "slice", data := .fields #[.none, .none, .int (-1) tk] } }
  refine tail_any ht.typeIs PyProof.Rows.slot_tuple_getitem.lookup ?_ (hsub _ _)
  refine rev_tuple ht (Heap.IsSliceOf.new ..) ?_ (by rw [List.size_toArray, ← r.length]; exact hz)
  have e1 : its.toArray.toList.reverse = its.reverse := by simp
  rw [e1]
  refine ⟨.ref _, _, I4.laid (t' := s3.toks) (o := .frz { cls := .type "tuple", data := .seq its.reverse.toArray } (.tup xs.reverse)) (fun b ob q => Heap.get?_push_of_some _ q) (Nat.le_refl _) ⟨Heap.get?_push_size _ rfl, ?_, its.reverse, r.reverse, IsTup.new _ _⟩, rfl, q _ _ rfl (I4.hok.fresh (Nat.le_refl _))⟩
  rw [List.length_reverse]
  exact hz
def dRevK (we : DE) (wk : DS → Sto → (Option Int → Sto → Prop) → Prop) : DE := fun δ O S => we δ O fun x O1 => wk δ O1 fun o O2 => o = some (-1) ∧ ∃ ws, fg x = .tup ws ∧ (x = .ktp ws ∨ x = .tup ws) ∧ S (.ktp ws.reverse) O2
theorem RWs.reverse {K : PySem.W.Frag} {F : Hp} {θ : List Addr} : ∀ {vs : List V} {ws : List W}, RWs K F θ vs ws → RWs K F θ vs.reverse ws.reverse
  | _, _, .nil => .nil
  | _, _, .cons r t => by
    rw [List.reverse_cons, List.reverse_cons]
    exact (RWs.reverse t).append (.cons r .nil)
theorem ed_revK {st : Expr} {p2 : Pos} {wk : DS → Sto → (Option Int → Sto → Prop) → Prop} (he : ED X e we) (hk : EDO X (some st) wk) {ops : Value → Value → List Value} (hsub : ∀ v w : Value, subscripted (.Slice none none (some st) p2) false v w = operate (ops v w) (getItem v w)) :
    ED X (.Subscript e (.Slice none none (some st) p2) pos) (dRevK we wk) := by
  obtain ⟨t0, p0, s0⟩ := he.ex
  obtain ⟨t1, p1, s1⟩ := hk.ex
  refine ⟨_, pe_revT p0 p1 hsub, fun F H θ O σ δ S j s q Q k => ?_⟩
  refine s0 F H θ O σ δ _ j s q _ fun v x F1 H1 θ1 O1 g1 j1 r1 q1 => ?_
  refine s1 F1 H1 θ1 O1 σ δ _ j1 (s.mono g1) q1 _ fun o F2 H2 θ2 O2 g2 j2 q2 => ?_
  obtain ⟨rfl, ws, hx, hx2, q2⟩ := q2
  refine ⟨rfl, ?_⟩
  have fin : ∀ a vs, v = V.ref a → SqT X.K F1 a vs → RWs X.K F1 θ1 vs ws → ∃ a xs, v = V.ref a ∧ SqT X.K H2 a xs ∧ ∀ (l : Addr) (ob : Obj), ob.dict = none → H2 l = none → Q (.ref l) (L2.upd H2 l (.frz ob (.tup xs.reverse))) := fun a vs e hq rr => by
    refine ⟨a, vs, e, sqT_sub j2 (sqT_fz g2.fz hq), fun l ob d hl => ?_⟩
    have g3 : Gr F2 θ2 (L2.upd F2 l (.frz ob (.tup vs.reverse))) θ2 := Gr.upd (j2.freeF hl)
    exact k _ _ _ _ _ _ ((g1.trans g2).trans g3) (j2.newF hl) (.ktp upd_same d ((rr.mono g2).reverse.mono g3)) q2
  rcases hx2 with rfl | rfl
  · obtain ⟨a, ob, vs, rfl, hfz, hd, rr⟩ := r1.ktp_inv
    exact fin a vs rfl (.inl (.inr ⟨ob, hfz⟩)) rr
  · obtain ⟨a, vs, rfl, hq, rr⟩ := r1.tup_inv
    exact fin a vs rfl hq rr
/-! ### f(b=.., a=..) -/
def kgS {α : Type} : List α → List α → List α
  | [], [x, y] => [y, x]
  | _, _ => []
abbrev KSw (K : PySem.W.Frag) (fd : FuncData) (a b : Str) : Prop := KBinds K fd [a, b] [b, a] kgS kgS
theorem kgS_rel {vs : List V} {us : List Value} {zs : List V} {ws : List Value} (r : Vals vs us) (rz : Vals zs ws) : Vals (kgS vs zs) (kgS us ws) := by
  cases r with
  | cons _ _ => exact .nil
  | nil =>
    cases rz with
    | nil => exact .nil
    | cons r1 t =>
      cases t with
      | nil => exact .nil
      | cons r2 t2 =>
        cases t2 with
        | nil => exact .cons r2 (.cons r1 .nil)
        | cons _ _ => exact .nil
def dCallSw (sp : SpD) (wk : DA) : DE := fun δ O S => wk δ O fun ws O1 => ∃ x y, ws = [x, y] ∧ sp [y, x] O1 S
theorem ed_callSw {k : Nat} {f : Addr} {fd : FuncData} {n1 n2 : Str} {sp : SpD} {x : Str} {kws : List Keyword} {wk : DA} (F : FnG X.prog X.w X.K X.mg X.base k f fd [n1, n2] sp) (hr : RoomG k X.A) (hg : Gl X x) (hm : X.mg x = some (.ref f)) (hk : PySem.W.keepIn X.K (.ref f) = true) (hb : KSw X.K fd n1 n2) (hkw : EDK X kws wk)
    (hall : (backToKw pos (keywordEach kws X.env)).all (·.1.isSome) = true := by rfl) (hks : (backToKw pos (keywordEach kws X.env)).filterMap (·.1) = [n2, n1] := by rfl) (hdb : (x == ("__debug__" : Str)) = false := by decide)
    (hpl : ((backTo pos (starEach [] X.env)).any (·.1) || (backToKw pos (keywordEach kws X.env)).any (·.1.isNone)) = false := by rfl) :
    ED X (.Call (.Name x p) [] kws pos) (dCallSw sp wk) := by
  obtain ⟨t0, p0, s0⟩ := hkw.ex
  have pe : PE X (.Call (.Name x p) [] kws pos) (fun σ H Q => t0 σ H fun zs H1 => zs.length = 2 ∧ lift X.K sp (kgS [] zs) H1 Q) := by
    refine ⟨fun pins s σ H Q I h => ?_⟩
    refine wpAny_Call_Name_kw (ld_glob I hg hm ?_ hdb)
    refine PySem.W.callWith_KW0 (h₀ := X.base) I.ok.mod.kin hk hall (thn (p0.run pos pins s σ H _ I h) fun ws s1 ⟨vs, H1, I1, r1, l1, q1⟩ => ⟨I1.kIn, ?_⟩) hpl
    rw [hks]
    have r2 := hb.rel .nil r1
    have hl := lift_len F q1
    exact runG F hr (hb.to s1 [] ws I1.kIn (by rw [← r2.length]; exact hl)) I1 r2 q1
  refine ⟨_, pe, fun F0 H θ O σ δ S j s q Q kk => ?_⟩
  refine s0 F0 H θ O σ δ _ j s q _ fun vs ws F1 H1 θ1 O1 g1 j1 r1 q1 => ?_
  obtain ⟨x, y, rfl, q1⟩ := q1
  obtain ⟨v, u, rfl, rv, ru⟩ := r1.two_inv
  exact ⟨rfl, F1, θ1, O1, [y, x], S, j1, .cons ru (.cons rv .nil), q1, fun v w F2 H2 θ2 O2 g2 j2 r2 q2 => kk v w F2 H2 θ2 O2 (g1.trans g2) j2 r2 q2⟩
/-! ### of a list or a tuple -/
def rdIxQ : R2D := fun x y O S => rdIxL x y O S ∨ rdIxT x y O S
theorem ed_ixQ (ha : ED X a wa) (hb : ED X b wb) (hs : PlainIx b := by exact fun _ _ => rfl) : ED X (.Subscript a b pos) (dOp rdIxQ wa wb) := ed_ix (IxR.or ix_list ix_tup) (SR2.or sr_ixL sr_ixT) ha hb hs
def d_law_oneQ : DTS := (dRet (dOp rdIxQ (dVar 1) (dCall sp_law_draw (dCons (dVar 0) (dCons (dCB rdLen (dCons (dVar 1) dNil)) dNil)))))
theorem rd_law_oneQ (ws : List W) (O : Sto) (S : WK) (h : sp_law_one ws O S) : d_law_oneQ (outB S) (startD ["_law_feed_here", "_law_things"] ws) O := by
  obtain ⟨k, x, us, n, rfl, hx, hu, hl, hf, q⟩ := h
  have hp := List.length_pos_iff.mpr hu
  have big : (100000 : Int) < 2 ^ 300 := by decide +kernel
  rcases hx with ⟨j, rfl, ne, hc⟩ | rfl
  · refine ⟨_, rfl, _, rfl, _, rfl, .inr ⟨j, _, rfl, hc, k, (us.length : Int), n, rfl, by omega, by omega, hf, fun r O' r0 r1 kp fd => ?_⟩⟩
    obtain ⟨w, hw, ha⟩ := atI_in r0 r1
    exact .inl ⟨j, us, r, w, rfl, rfl, kp.lstC ne hc, ha, q w O' hw kp fd⟩
  · refine ⟨_, rfl, _, rfl, _, rfl, .inl ⟨_, rfl, k, (us.length : Int), n, rfl, by omega, by omega, hf, fun r O' r0 r1 kp fd => ?_⟩⟩
    obtain ⟨w, hw, ha⟩ := atI_in r0 r1
    exact .inr ⟨us, r, w, rfl, rfl, ha, q w O' hw kp fd⟩
variable {c : Expr} {wc : DE}
theorem et_chain {op op' : CmpOp} {r r' : R2} {rd rd' : R2D} (ho : OpR X (compareOp op) r) (ho' : OpR X (compareOp op') r') (h : SR2 X.K r rd) (h' : SR2 X.K r' rd') (ha : ED X a wa) (hb : ED X b wb) (hc : ED X c wc) (hm : lastMarks [op, op'] [b, c] = false := by with_unfolding_all rfl) :
    EDT X (.Compare a [op, op'] [b, c] pos) (dTest (dChain rd rd' wa wb wc)) := by
  obtain ⟨ta, pa, sa⟩ := ha.ex
  obtain ⟨tb, pb, sb⟩ := hb.ex
  obtain ⟨tc, pc, sc⟩ := hc.ex
  exact ⟨_, pt_chain ho ho' pa pb pc hm, .test (chain_sound h h' sa sb sc)⟩
end
end Dm

set_option Elab.async false
set_option linter.all false
set_option maxRecDepth 100000
set_option maxHeartbeats 1000000
/-! books: what its defs say. -/
namespace Dm
open PySem PySem.Spec PyProof.Rows L2
def headStr : W → Str
  | .tup (.str n :: _) => n
  | _ => Str.empty
def mFeature : W → Bool
  | .tup [n, v] => mName n && mNames v 1 3
  | _ => false
def mFeatures (w : W) : Bool := match w with
  | .tup fs => mTup w 0 3 && (fs.all mFeature && decide (fs.map headStr).Nodup)
  | _ => false
def mSF (w : W) (vals : Kv) : Bool := match w with
  | .tup fs => mTup w 0 3 && fs.all fun f => mOfD f vals
  | _ => false
def mSort (w : W) (vals : Kv) : Bool := match w with
  | .tup [n, k, l, r] => (mName n && mOf k kindsW) && (mSF l vals && mSF r vals)
  | _ => false
def mSorts (w : W) (vals : Kv) : Bool := match w with
  | .tup fs => mTup w 1 8 && (fs.all (fun f => mSort f vals) && decide (fs.map headStr).Nodup)
  | _ => false
def numsOf (xs : List W) : List W := xs.filter fun x => !mName x
def intOf : W → Int
  | .int i => i
  | _ => 0
def isZero : List W → Bool
  | [.int i] => decide (i = 0)
  | _ => false
def rangeI (n : Nat) : List Int := (List.range n).map fun i : Nat => (i : Int)
def mItems (w : W) (many : Nat) : Bool := match w with
  | .tup xs => mTup w 1 6 && ((numsOf xs).all mInt && (decide (((numsOf xs).map intOf).Perm (rangeI many)) && !isZero xs))
  | _ => false
def kindOf (sorts : Kv) (c : W) : Str := match c with
  | .tup (.str n :: _) => (match valW sorts (.inr n) with
    | some (.tup (.str kd :: _)) => kd
    | _ => Str.empty)
  | _ => Str.empty
def mRule2 (head left right lm rm : W) (hs : List W) (mk : List Str) (vals sorts : Kv) : Bool := mCatsGo (head :: hs) vals sorts [] && ((mItems left hs.length && mItems right hs.length) &&
  (mMean lm (kindOf sorts head) mk (hs.map (kindOf sorts)) && mMean rm (kindOf sorts head) mk (hs.map (kindOf sorts))))
def mRule (w : W) (mk : List Str) (vals sorts : Kv) : Bool := match w with
  | .tup [name, head, .tup hs, left, right, lm, rm] => (mName name && mTup (.tup hs) 0 4) && mRule2 head left right lm rm hs mk vals sorts
  | _ => false
def mRules (w : W) (mk : List Str) (vals sorts : Kv) : Bool := match w with
  | .tup fs => mTup w 1 24 && (fs.all (fun f => mRule f mk vals sorts) && decide (fs.map headStr).Nodup)
  | _ => false
def listOf : W → List W
  | .tup xs => xs
  | _ => []
def mBook : W → Bool
  | .tup [fs, mk, ss, st, rs] => (mFeatures fs && mNames mk 0 2) && (mSorts ss (valuesKv (listOf fs)) && (mOfD st (sortsKv (listOf ss)) && mRules rs ((listOf mk).map strOf) (valuesKv (listOf fs)) (sortsKv (listOf ss))))
  | _ => false
def sp_names_differ : SpD := fun ws O S => ∃ fs, ws = [.tup fs] ∧ (∀ f ∈ fs, ∃ n r, f = .tup (.str n :: r)) ∧ fs.length ≤ 1000 ∧ ∀ O', Sm O O' → S (.bl (decide (fs.map headStr).Nodup)) O'
def sp_is_feature : SpD := fun ws O S => ∃ w, ws = [w] ∧ Vd O w ∧ ∀ O', Sm O O' → S (.bl (mFeature w)) O'
def sp_are_features : SpD := fun ws O S => ∃ w, ws = [w] ∧ Vd O w ∧ ∀ O', Sm O O' → S (.bl (mFeatures w)) O'
def sp_are_sort_features : SpD := fun ws O S => ∃ w kv vals, ws = [w, .cell kv] ∧ Vd O w ∧ O[kv]? = some (.dct vals) ∧ ∀ O', Sm O O' → S (.bl (mSF w vals)) O'
def sp_is_sort : SpD := fun ws O S => ∃ w kv vals, ws = [w, .cell kv] ∧ Vd O w ∧ O[kv]? = some (.dct vals) ∧ ∀ O', Sm O O' → S (.bl (mSort w vals)) O'
def sp_are_sorts : SpD := fun ws O S => ∃ w kv vals, ws = [w, .cell kv] ∧ Vd O w ∧ O[kv]? = some (.dct vals) ∧ ∀ O', Sm O O' → S (.bl (mSorts w vals)) O'
def sp_are_items : SpD := fun ws O S => ∃ w n, ws = [w, .int (n : Nat)] ∧ Vd O w ∧ n ≤ 1000 ∧ ∀ O', Sm O O' → S (.bl (mItems w n)) O'
/-- the sorts' features are few -/
def SmallS (sorts : Kv) : Prop := ∀ k v, valW sorts k = some v → ∀ kd l r, v = .tup [kd, .tup l, .tup r] → l.length ≤ 1000 ∧ r.length ≤ 1000
def sp_is_rule : SpD := fun ws O S => ∃ w mk kv ks vals sorts, ws = [w, .tup (mk.map W.str), .cell kv, .cell ks] ∧ Vd O w ∧ O[kv]? = some (.dct vals) ∧ O[ks]? = some (.dct sorts) ∧ GoodV vals ∧ GoodS vals sorts ∧ SmallS sorts ∧ ∀ O', Sm O O' → S (.bl (mRule w mk vals sorts)) O'
def sp_are_rules : SpD := fun ws O S => ∃ w mk kv ks vals sorts, ws = [w, .tup (mk.map W.str), .cell kv, .cell ks] ∧ Vd O w ∧ O[kv]? = some (.dct vals) ∧ O[ks]? = some (.dct sorts) ∧ GoodV vals ∧ GoodS vals sorts ∧ SmallS sorts ∧ ∀ O', Sm O O' → S (.bl (mRules w mk vals sorts)) O'
def sp_is_book : SpD := fun ws O S => ∃ w, ws = [w] ∧ Vd O w ∧ ∀ O', Sm O O' → S (.bl (mBook w)) O'
def d_names_differ : DTS := (dRet (dOp rdEq (dLenSet (dLc (diT (dVar 0)) (dgName 1) dYes (dOp rdIxT (dVar 1) (dC (.int 0))) [1])) (dCB rdLen (dCons (dVar 0) dNil))))
abbrev n_names_differ : List Str := ["things", "thing"]
def d_is_feature : DTS := (dRet (dAndV (dCall sp_is_tuple (dCons (dVar 0) (dCons (dC (.int 2)) (dCons (dC (.int 2)) dNil)))) (dAndV (dCall sp_is_name (dCons (dOp rdIxT (dVar 0) (dC (.int 0))) dNil)) (dCall sp_are_names (dCons (dOp rdIxT (dVar 0) (dC (.int 1))) (dCons (dC (.int 1)) (dCons (dC (.int 3)) dNil)))))))
abbrev n_is_feature : List Str := ["thing"]
def d_are_features : DTS := (dSeq (dIf (dOr (dNot (dTest (dCall sp_is_tuple (dCons (dVar 0) (dCons (dC (.int 0)) (dCons (dC (.int 3)) dNil)))))) (dNot (dTest (dCB rdAll (dCons (dLc (diT (dVar 0)) (dgName 1) dYes (dCall sp_is_feature (dCons (dVar 1) dNil)) [1]) dNil))))) (dRet (dC (.bl false))) dNext)
    (dRet (dCall sp_names_differ (dCons (dVar 0) dNil))))
abbrev n_are_features : List Str := ["thing", "entry"]
def d_are_sort_features : DTS := (dRet (dAndV (dCall sp_is_tuple (dCons (dVar 0) (dCons (dC (.int 0)) (dCons (dC (.int 3)) dNil)))) (dCB rdAll (dCons (dLc (diT (dVar 0)) (dgName 2) dYes (dCall sp_is_one_of (dCons (dVar 2) (dCons (dVar 1) dNil))) [2]) dNil))))
abbrev n_are_sort_features : List Str := ["thing", "values", "entry"]
def d_is_sort : DTS := (dSeq (dIf (dNot (dTest (dCall sp_is_tuple (dCons (dVar 0) (dCons (dC (.int 4)) (dCons (dC (.int 4)) dNil)))))) (dRet (dC (.bl false))) dNext)
    (dSeq (dAsg (dVar 0) (dgTup 4 (dgCons (dgName 2) (dgCons (dgName 3) (dgCons (dgName 4) (dgCons (dgName 5) dgNil))))))
    (dSeq (dIf (dOr (dNot (dTest (dCall sp_is_name (dCons (dVar 2) dNil)))) (dNot (dTest (dCall sp_is_kind (dCons (dVar 3) dNil))))) (dRet (dC (.bl false))) dNext)
    (dRet (dAndV (dCall sp_are_sort_features (dCons (dVar 4) (dCons (dVar 1) dNil))) (dCall sp_are_sort_features (dCons (dVar 5) (dCons (dVar 1) dNil))))))))
abbrev n_is_sort : List Str := ["thing", "values", "name", "kind", "left", "right"]
def d_are_sorts : DTS := (dSeq (dIf (dOr (dNot (dTest (dCall sp_is_tuple (dCons (dVar 0) (dCons (dC (.int 1)) (dCons (dC (.int 8)) dNil)))))) (dNot (dTest (dCB rdAll (dCons (dLc (diT (dVar 0)) (dgName 2) dYes (dCall sp_is_sort (dCons (dVar 2) (dCons (dVar 1) dNil))) [2]) dNil))))) (dRet (dC (.bl false))) dNext)
    (dRet (dCall sp_names_differ (dCons (dVar 0) dNil))))
abbrev n_are_sorts : List Str := ["thing", "values", "entry"]
def d_are_items : DTS := (dSeq (dIf (dNot (dTest (dCall sp_is_tuple (dCons (dVar 0) (dCons (dC (.int 1)) (dCons (dC (.int 6)) dNil)))))) (dRet (dC (.bl false))) dNext)
    (dSeq (dSet 2 (dLc (diT (dVar 0)) (dgName 3) (dNot (dTest (dCall sp_is_word (dCons (dVar 3) dNil)))) (dVar 3) [3]))
    (dSeq (dIf (dNot (dTest (dCB rdAll (dCons (dLc (diL (dVar 2)) (dgName 4) dYes (dCall sp_is_integer (dCons (dVar 4) dNil)) [4]) dNil)))) (dRet (dC (.bl false))) dNext)
    (dRet (dAndV (dOp rdEqD (dCB rdSorted (dCons (dVar 2) dNil)) (dListR (dCons (dVar 1) dNil))) (dOp rdNeD (dVar 0) (dTup (dCons (dC (.int 0)) dNil))))))))
abbrev n_are_items : List Str := ["thing", "many", "numbers", "item", "number"]
def d_is_rule : DTS := (dSeq (dIf (dNot (dTest (dCall sp_is_tuple (dCons (dVar 0) (dCons (dC (.int 7)) (dCons (dC (.int 7)) dNil)))))) (dRet (dC (.bl false))) dNext)
    (dSeq (dAsg (dVar 0) (dgTup 7 (dgCons (dgName 6) (dgCons (dgName 7) (dgCons (dgName 8) (dgCons (dgName 9) (dgCons (dgName 10) (dgCons (dgName 11) (dgCons (dgName 12) dgNil)))))))))
    (dSeq (dIf (dOr (dNot (dTest (dCall sp_is_name (dCons (dVar 6) dNil)))) (dNot (dTest (dCall sp_is_tuple (dCons (dVar 8) (dCons (dC (.int 0)) (dCons (dC (.int 4)) dNil))))))) (dRet (dC (.bl false))) dNext)
    (dSeq (dIf (dNot (dTest (dCall sp_are_categories (dCons (dTup (dCons (dVar 7) (dStar (dVar 8) dNil))) (dCons (dVar 2) (dCons (dVar 3) dNil)))))) (dRet (dC (.bl false))) dNext)
    (dSeq (dIf (dOr (dNot (dTest (dCall sp_are_items (dCons (dVar 9) (dCons (dCB rdLen (dCons (dVar 8) dNil)) dNil))))) (dNot (dTest (dCall sp_are_items (dCons (dVar 10) (dCons (dCB rdLen (dCons (dVar 8) dNil)) dNil)))))) (dRet (dC (.bl false))) dNext)
    (dSeq (dSet 4 (dOp rdIxT (dOp rdIxD (dVar 3) (dOp rdIxT (dVar 7) (dC (.int 0)))) (dC (.int 0))))
    (dSeq (dSet 5 (dLc (diT (dVar 8)) (dgName 13) dYes (dOp rdIxT (dOp rdIxD (dVar 3) (dOp rdIxT (dVar 13) (dC (.int 0)))) (dC (.int 0))) [13]))
    (dSeq (dIf (dNot (dTest (dCall sp_is_meaning (dCons (dVar 11) (dCons (dVar 4) (dCons (dVar 1) (dCons (dVar 5) dNil))))))) (dRet (dC (.bl false))) dNext)
    (dRet (dCall sp_is_meaning (dCons (dVar 12) (dCons (dVar 4) (dCons (dVar 1) (dCons (dVar 5) dNil))))))))))))))
abbrev n_is_rule : List Str := ["thing", "marks", "values", "sorts", "kind", "hole_kinds", "name", "head", "holes", "left", "right", "left_meaning", "right_meaning", "hole"]
def d_are_rules : DTS := (dSeq (dIf (dOr (dNot (dTest (dCall sp_is_tuple (dCons (dVar 0) (dCons (dC (.int 1)) (dCons (dC (.int 24)) dNil)))))) (dNot (dTest (dCB rdAll (dCons (dLc (diT (dVar 0)) (dgName 4) dYes (dCall sp_is_rule (dCons (dVar 4) (dCons (dVar 1) (dCons (dVar 2) (dCons (dVar 3) dNil))))) [4]) dNil))))) (dRet (dC (.bl false))) dNext)
    (dRet (dCall sp_names_differ (dCons (dVar 0) dNil))))
abbrev n_are_rules : List Str := ["thing", "marks", "values", "sorts", "entry"]
def d_is_book : DTS := (dSeq (dIf (dNot (dTest (dCall sp_is_tuple (dCons (dVar 0) (dCons (dC (.int 5)) (dCons (dC (.int 5)) dNil)))))) (dRet (dC (.bl false))) dNext)
    (dSeq (dAsg (dVar 0) (dgTup 5 (dgCons (dgName 3) (dgCons (dgName 4) (dgCons (dgName 5) (dgCons (dgName 6) (dgCons (dgName 7) dgNil)))))))
    (dSeq (dIf (dOr (dNot (dTest (dCall sp_are_features (dCons (dVar 3) dNil)))) (dNot (dTest (dCall sp_are_names (dCons (dVar 4) (dCons (dC (.int 0)) (dCons (dC (.int 2)) dNil))))))) (dRet (dC (.bl false))) dNext)
    (dSeq (dSet 1 (dCall sp_values_by_feature (dCons (dVar 3) dNil)))
    (dSeq (dIf (dNot (dTest (dCall sp_are_sorts (dCons (dVar 5) (dCons (dVar 1) dNil))))) (dRet (dC (.bl false))) dNext)
    (dSeq (dSet 2 (dCall sp_sorts_by_name (dCons (dVar 5) dNil)))
    (dRet (dAndV (dCall sp_is_one_of (dCons (dVar 6) (dCons (dVar 2) dNil))) (dCall sp_are_rules (dCons (dVar 7) (dCons (dVar 4) (dCons (dVar 1) (dCons (dVar 2) dNil)))))))))))))
abbrev n_is_book : List Str := ["thing", "values", "known", "features", "marks", "sorts", "start", "rules"]
theorem ev_lenSet {wa : DE} {δ : DS} {O : Sto} {S : WK} (h : wa δ O fun x O1 => ∃ xs : List Str, ((∃ k, x = .cell k ∧ LstC O1 k (xs.map W.str)) ∨ x = .tup (xs.map W.str)) ∧ xs.length < 4000 ∧ S (.int (nD xs xs.length : Nat)) O1) : dLenSet wa δ O S := h
theorem rd_names_differ (ws : List W) (O : Sto) (S : WK) (h : sp_names_differ ws O S) : d_names_differ (outB S) (startD n_names_differ ws) O := by
  obtain ⟨fs, rfl, hf, hl, fin⟩ := h
  refine ev_ret (ev_op (ev_lenSet (ev_lcT (f := fun f => .str (headStr f)) rfl (by omega) (fun i z hz O' hs S1 h => ?_) fun O' hs hc => ⟨fs.map headStr, .inl ⟨_, rfl, .inl ?_⟩, by rw [List.length_map]; omega, _, rfl, .inl ⟨fs, rfl, decide (((nD (fs.map headStr) (fs.map headStr).length : Nat) : Int) = fs.length), rfl, ?_⟩⟩)))
  · obtain ⟨n, r, rfl⟩ := hf z (List.mem_of_getElem? hz)
    exact ⟨_, rfl, _, 0, .str n, rfl, rfl, at0, h O' Sm.refl⟩
  · rw [hc, List.map_map]
    rfl
  · have e2 := nD_all (fs.map headStr)
    rw [List.length_map] at e2 ⊢
    rw [e2]
    exact fin O' hs
theorem rd_is_feature (ws : List W) (O : Sto) (S : WK) (h : sp_is_feature ws O S) : d_is_feature (outB S) (startD n_is_feature ws) O := by
  obtain ⟨w, rfl, hv, fin⟩ := h
  refine ev_ret (ev_and ⟨_, rfl, w, 2, 2, rfl, hv.v, _, rfl, ?_⟩)
  cases h1 : mTup w 2 2 with
  | false =>
    have e : mFeature w = false := by
      unfold mFeature
      split
      · cases h1
      · rfl
    rw [e] at fin
    exact ifF (fin O Sm.refl)
  | true =>
    obtain ⟨ts, rfl, hts⟩ := (mTup_same (n := 2)).mp h1
    match ts, hts with
    | [n, v], _ =>
      have fin : ∀ O', Sm O O' → S (.bl (mName n && mNames v 1 3)) O' := fin
      refine ifT (ev_and ⟨_, rfl, _, 0, n, rfl, rfl, at0, n, rfl, (hv.at_ (x := n) (by simp)).v, fun O2 h2 => ⟨_, rfl, ?_⟩⟩)
      cases h3 : mName n with
      | false =>
        rw [h3] at fin
        exact ifF (fin O2 h2)
      | true =>
        rw [h3] at fin
        exact ifT ⟨_, rfl, _, 1, v, rfl, rfl, at1, v, 1, 3, rfl, (hv.at_ (x := v) (by simp)).mono h2, by decide, fun O3 h3 => fin O3 (h2.trans h3)⟩
/-- a tuple of so many things, each of which passes, no two of one name -/
def mMany (w : W) (a b : Int) (f : W → Bool) : Bool := match w with
  | .tup fs => mTup w a b && (fs.all f && decide (fs.map headStr).Nodup)
  | _ => false
theorem rd_many {a b : Int} {f : W → Bool} {spf : SpD} {i : Nat} {wa : DA} {w : W} {O : Sto} {S : WK} {δ : DS} (h0 : δ[0]? = some (some w)) (hv : Vd O w) (hb : b ≤ 1000) (hf : ∀ x, f x = true → ∃ n r, x = .tup (.str n :: r))
    (hel : ∀ x O', Vd O x → Sm O O' → ∀ S1 : WK, (∀ O2, Sm O' O2 → S1 (.bl (f x)) O2) → dCall spf wa ((wipeD δ [i]).set i (some x)) O' S1) (fin : ∀ O', Sm O O' → S (.bl (mMany w a b f)) O') :
    (dSeq (dIf (dOr (dNot (dTest (dCall sp_is_tuple (dCons (dVar 0) (dCons (dC (.int a)) (dCons (dC (.int b)) dNil)))))) (dNot (dTest (dCB rdAll (dCons (dLc (diT (dVar 0)) (dgName i) dYes (dCall spf wa) [i]) dNil))))) (dRet (dC (.bl false))) dNext)
      (dRet (dCall sp_names_differ (dCons (dVar 0) dNil)))) (outB S) δ O := by
  refine ev_guardT (ev_or (ev_not (ev_test ⟨_, h0, w, a, b, rfl, hv.v, _, rfl, ?_⟩)))
  cases w with
  | tup fs =>
    unfold mMany at fin
    dsimp only at fin
    cases h1 : mTup (.tup fs) a b with
    | false =>
      rw [h1] at fin
      exact ifT (ifT (fin O Sm.refl))
    | true =>
      rw [h1] at fin
      have hl : fs.length ≤ 1000 := by
        unfold mTup at h1
        dsimp only at h1
        have := of_decide_eq_true (Bool.and_eq_true_iff.mp h1).2
        omega
      refine ifF (ev_not (ev_test (ev_all (ev_lcT (f := fun x => .bl (f x)) h0 (by omega) (fun j z hz O' hs S1 h => hel z O' (hv.at_ (List.mem_of_getElem? hz)) hs S1 h) fun O' hs hc => ⟨_, fs.map f, rfl, .inl ?_, _, rfl, ?_⟩))))
      · rw [hc, List.map_map]
        rfl
      · rw [List.all_map]
        have e : (fs.all (id ∘ f)) = fs.all f := rfl
        rw [e]
        cases h2 : fs.all f with
        | false =>
          rw [h2] at fin
          exact ifT (fin O' hs)
        | true =>
          rw [h2] at fin
          exact ifF ⟨_, h0, fs, rfl, fun x hx => hf x (List.all_eq_true.mp h2 x hx), hl, fun O2 h3 => fin O2 (hs.trans h3)⟩
  | _ => exact ifT (ifT (fin O Sm.refl))
theorem name_str {n : W} (h : mName n = true) : ∃ s, n = .str s := by
  cases n <;> first | exact ⟨_, rfl⟩ | cases h
theorem rd_are_features (ws : List W) (O : Sto) (S : WK) (h : sp_are_features ws O S) : d_are_features (outB S) (startD n_are_features ws) O := by
  obtain ⟨w, rfl, hv, fin⟩ := h
  have fin : ∀ O', Sm O O' → S (.bl (mMany w 0 3 mFeature)) O' := fin
  refine rd_many rfl hv (by decide) (fun x hx => ?_) (fun x O' hx hs S1 h => ⟨_, rfl, x, rfl, hx.mono hs, h⟩) fin
  unfold mFeature at hx
  split at hx
  · obtain ⟨s, rfl⟩ := name_str (Bool.and_eq_true_iff.mp hx).1
    exact ⟨_, _, rfl⟩
  · cases hx
theorem rd_are_sort_features (ws : List W) (O : Sto) (S : WK) (h : sp_are_sort_features ws O S) : d_are_sort_features (outB S) (startD n_are_sort_features ws) O := by
  obtain ⟨w, kv, vals, rfl, hv, hk, fin⟩ := h
  refine ev_ret (ev_and ⟨_, rfl, w, 0, 3, rfl, hv.v, _, rfl, ?_⟩)
  cases w with
  | tup fs =>
    unfold mSF at fin
    dsimp only at fin
    cases h1 : mTup (.tup fs) 0 3 with
    | false =>
      rw [h1] at fin
      exact ifF (fin O Sm.refl)
    | true =>
      rw [h1] at fin
      have hl : fs.length ≤ 3 := by
        unfold mTup at h1
        dsimp only at h1
        have := of_decide_eq_true (Bool.and_eq_true_iff.mp h1).2
        omega
      refine ifT (ev_all (ev_lcT (f := fun x => .bl (mOfD x vals)) rfl (by omega) (fun j z hz O' hs S1 h => ⟨_, rfl, _, rfl, z, _, rfl, (hv.at_ (List.mem_of_getElem? hz)).v.mono hs, .inr ⟨kv, vals, rfl, hs _ _ hk, h O' Sm.refl⟩⟩) fun O' hs hc => ⟨_, fs.map fun x => mOfD x vals, rfl, .inl ?_, ?_⟩))
      · rw [hc, List.map_map]
        rfl
      · rw [List.all_map]
        exact fin O' hs
  | _ => exact ifF (fin O Sm.refl)
theorem rd_is_sort (ws : List W) (O : Sto) (S : WK) (h : sp_is_sort ws O S) : d_is_sort (outB S) (startD n_is_sort ws) O := by
  obtain ⟨w, kv, vals, rfl, hv, hk, fin⟩ := h
  refine ev_guardT (ev_not (ev_test ⟨_, rfl, w, 4, 4, rfl, hv.v, _, rfl, ?_⟩))
  cases h1 : mTup w 4 4 with
  | false =>
    have e : mSort w vals = false := by
      unfold mSort
      split
      · cases h1
      · rfl
    rw [e] at fin
    exact ifT (fin O Sm.refl)
  | true =>
    obtain ⟨ts, rfl, hts⟩ := (mTup_same (n := 4)).mp h1
    match ts, hts with
    | [n, k, l, r], _ =>
      have fin : ∀ O', Sm O O' → S (.bl ((mName n && mOf k kindsW) && (mSF l vals && mSF r vals))) O' := fin
      refine ifF (ev_asg ⟨_, rfl, _, rfl, rfl, _, _, rfl, _, _, rfl, _, _, rfl, _, _, rfl, rfl, ?_⟩)
      refine ev_guardT (ev_or (ev_not (ev_test ⟨_, rfl, n, rfl, (hv.at_ (x := n) (by simp)).v, fun O2 h2 => ⟨_, rfl, ?_⟩⟩)))
      cases h3 : mName n with
      | false =>
        rw [h3] at fin
        exact ifT (ifT (fin O2 h2))
      | true =>
        rw [h3] at fin
        refine ifF (ev_not (ev_test ⟨_, rfl, k, rfl, (hv.at_ (x := k) (by simp)).v.mono h2, _, rfl, ?_⟩))
        cases h4 : mOf k kindsW with
        | false =>
          rw [h4] at fin
          exact ifT (fin O2 h2)
        | true =>
          rw [h4] at fin
          refine ifF (ev_ret (ev_and ⟨_, rfl, _, rfl, l, kv, vals, rfl, (hv.at_ (x := l) (by simp)).mono h2, h2 _ _ hk, fun O3 h5 => ⟨_, rfl, ?_⟩⟩))
          cases h6 : mSF l vals with
          | false =>
            rw [h6] at fin
            exact ifF (fin O3 (h2.trans h5))
          | true =>
            rw [h6] at fin
            exact ifT ⟨_, rfl, _, rfl, r, kv, vals, rfl, (hv.at_ (x := r) (by simp)).mono (h2.trans h5), (h2.trans h5) _ _ hk, fun O4 h7 => fin O4 ((h2.trans h5).trans h7)⟩
theorem rd_are_sorts (ws : List W) (O : Sto) (S : WK) (h : sp_are_sorts ws O S) : d_are_sorts (outB S) (startD n_are_sorts ws) O := by
  obtain ⟨w, kv, vals, rfl, hv, hk, fin⟩ := h
  have fin : ∀ O', Sm O O' → S (.bl (mMany w 1 8 fun f => mSort f vals)) O' := fin
  refine rd_many rfl hv (by decide) (fun x hx => ?_) (fun x O' hx hs S1 h => ⟨_, rfl, _, rfl, x, kv, vals, rfl, hx.mono hs, hs _ _ hk, h⟩) fin
  unfold mSort at hx
  split at hx
  · obtain ⟨s, rfl⟩ := name_str (Bool.and_eq_true_iff.mp (Bool.and_eq_true_iff.mp hx).1).1
    exact ⟨_, _, rfl⟩
  · cases hx
theorem eqvAll_ints : ∀ a b : List Int, PyData.eqvAll (a.map PyData.int) (b.map PyData.int) = decide (a = b)
  | [], [] => rfl
  | [], _ :: _ => rfl
  | _ :: _, [] => rfl
  | x :: a, y :: b => by
    show (PyData.eqv (.int x) (.int y) && PyData.eqvAll (a.map PyData.int) (b.map PyData.int)) = _
    rw [eqvAll_ints a b]
    show ((x == y) && decide (a = b)) = decide (x :: a = y :: b)
    by_cases h : x = y
    · subst h
      simp
    · simp [h]
theorem dws_ints : ∀ {O : Sto} (l : List Int), DWs O (l.map W.int) (l.map PyData.int)
  | _, [] => .nil
  | _, x :: l => .cons (.int _) (dws_ints l)
theorem plain_ints : ∀ l : List Int, PyData.plainAll (l.map PyData.int) = true
  | [] => rfl
  | x :: l => by
    show (PyData.plain (.int x) && PyData.plainAll _) = true
    rw [plain_ints l]
    rfl
theorem depth_ints : ∀ l : List Int, PyData.depthAll (l.map PyData.int) = 0
  | [] => rfl
  | x :: l => by
    show max (PyData.depth (.int x)) (PyData.depthAll _) = 0
    rw [depth_ints l]
    rfl
theorem eq_ints {O : Sto} {k j : Nat} {a b : List Int} {S : WK} (hk : LstC O k (a.map W.int)) (hj : LstC O j (b.map W.int)) (h : S (.bl (decide (a = b))) O) : rdEqD (.cell k) (.cell j) O S := by
  refine ⟨.list (a.map .int), .list (b.map .int), .cell hk (dws_ints a), .cell hj (dws_ints b), plain_ints a, plain_ints b, ?_, ?_⟩
  · show min (PyData.depthAll _ + 1) (PyData.depthAll _ + 1) ≤ 64
    rw [depth_ints, depth_ints]
    decide
  · show S (.bl (PyData.eqvAll _ _)) O
    rw [eqvAll_ints]
    exact h
/-- ints and texts as data -/
def dat : W → PyData
  | .int i => .int i
  | .str s => .str s
  | _ => .none
def isIS : W → Bool
  | .int _ => true
  | .str _ => true
  | _ => false
theorem dws_is : ∀ {O : Sto} (l : List W), l.all isIS = true → DWs O l (l.map dat) ∧ PyData.plainAll (l.map dat) = true ∧ PyData.depthAll (l.map dat) = 0
  | _, [], _ => ⟨.nil, rfl, rfl⟩
  | O, x :: l, h => by
    rw [List.all_cons, Bool.and_eq_true] at h
    obtain ⟨a, b, c⟩ := dws_is (O := O) l h.2
    cases x with
    | int i =>
      refine ⟨.cons (.int i) a, ?_, ?_⟩
      · show (PyData.plain (.int i) && PyData.plainAll _) = true
        rw [b]
        rfl
      · show max (PyData.depth (.int i)) (PyData.depthAll _) = 0
        rw [c]
        rfl
    | str s =>
      refine ⟨.cons (.str s) a, ?_, ?_⟩
      · show (PyData.plain (.str s) && PyData.plainAll _) = true
        rw [b]
        rfl
      · show max (PyData.depth (.str s)) (PyData.depthAll _) = 0
        rw [c]
        rfl
    | _ => cases h.1
theorem ne_zero {O : Sto} {xs : List W} {S : WK} (h : xs.all isIS = true) (q : S (.bl (!isZero xs)) O) : rdNeD (.tup xs) (.tup [.int 0]) O S := by
  obtain ⟨a, b, c⟩ := dws_is (O := O) xs h
  refine ⟨.tuple (xs.map dat), .tuple [.int 0], .tup a, .tup (.cons (.int 0) .nil), b, rfl, ?_, ?_⟩
  · show min (PyData.depthAll _ + 1) _ ≤ 64
    rw [c]
    exact Nat.le_trans (Nat.min_le_left _ _) (by decide)
  · have e : PyData.eqv (.tuple (xs.map dat)) (.tuple [.int 0]) = isZero xs := by
      show PyData.eqvAll (xs.map dat) [.int 0] = isZero xs
      match xs, h with
      | [], _ => rfl
      | [.int i], _ =>
        show ((i == 0) && true) = decide (i = 0)
        rw [Bool.and_true]
        by_cases hi : i = 0
        · subst hi
          rfl
        · simp [hi]
      | [.str s], _ => rfl
      | [.non], h => cases h
      | [.bl _], h => cases h
      | [.ty _], h => cases h
      | [.tup _], h => cases h
      | [.cell _], h => cases h
      | [.ref _], h => cases h
      | [.xr _ _ _], h => cases h
      | x :: y :: r, _ =>
        have hz : isZero (x :: y :: r) = false := by
          unfold isZero
          split
          · rename_i e
            cases e
          · rfl
        rw [hz]
        show (PyData.eqv (dat x) (.int 0) && PyData.eqvAll (dat y :: r.map dat) []) = false
        rw [show PyData.eqvAll (dat y :: r.map dat) [] = false from rfl, Bool.and_false]
    rw [e]
    exact q
theorem ints_are : ∀ l : List W, l.all mInt = true → l = (l.map intOf).map W.int
  | [], _ => rfl
  | x :: l, h => by
    rw [List.all_cons, Bool.and_eq_true] at h
    cases x with
    | int i =>
      show W.int i :: l = W.int i :: (l.map intOf).map W.int
      rw [← ints_are l h.2]
    | _ => cases h.1
theorem rd_are_items (ws : List W) (O : Sto) (S : WK) (h : sp_are_items ws O S) : d_are_items (outB S) (startD n_are_items ws) O := by
  obtain ⟨w, n, rfl, hv, hn, fin⟩ := h
  refine ev_guardT (ev_not (ev_test ⟨_, rfl, w, 1, 6, rfl, hv.v, _, rfl, ?_⟩))
  cases w with
  | tup xs =>
    unfold mItems at fin
    dsimp only at fin
    cases h1 : mTup (.tup xs) 1 6 with
    | false =>
      rw [h1] at fin
      exact ifT (fin O Sm.refl)
    | true =>
      rw [h1] at fin
      have hl : xs.length ≤ 6 := by
        unfold mTup at h1
        dsimp only at h1
        have := of_decide_eq_true (Bool.and_eq_true_iff.mp h1).2
        omega
      refine ifF (ev_set (ev_lcTp (f := fun x => x) (p := fun x => !mName x) rfl (by omega) (fun j z hz O' hs S1 S0 h => ⟨_, rfl, z, rfl, (hv.at_ (List.mem_of_getElem? hz)).v.mono hs, fun O2 h2 => ⟨_, rfl, ?_⟩⟩) fun O1 hs1 hc1 => ?_))
      · have q := h O2 h2
        show if (!mName z) = true then _ else _
        cases hm : mName z with
        | true =>
          rw [hm] at q
          exact ifF q
        | false =>
          rw [hm] at q
          exact ifT ⟨_, rfl, q⟩
      · have hc1 : O1[O.length]? = some (.lst (numsOf xs)) := by
          rw [hc1, List.map_id' ]
          rfl
        have hnl : (numsOf xs).length ≤ 6 := Nat.le_trans (List.length_filter_le _ _) hl
        refine ev_guardT (ev_not (ev_test (ev_all (ev_lcL (f := fun x => .bl (mInt x)) rfl (.inl hc1) (by omega) (fun j z hz O' hs S1 h => ⟨_, rfl, z, rfl, (hv.at_ ((List.mem_filter.mp (List.mem_of_getElem? hz)).1)).v.mono (hs1.trans hs), h O' Sm.refl⟩) fun O2 hs2 hc2 => ⟨_, (numsOf xs).map mInt, rfl, .inl ?_, _, rfl, ?_⟩))))
        · rw [hc2, List.map_map]
          rfl
        · rw [List.all_map]
          have e : ((numsOf xs).all (id ∘ mInt)) = (numsOf xs).all mInt := rfl
          rw [e]
          have hs12 := hs1.trans hs2
          cases h2 : (numsOf xs).all mInt with
          | false =>
            rw [h2] at fin
            exact ifT (fin O2 hs12)
          | true =>
            rw [h2] at fin
            have en := ints_are _ h2
            have hcn : LstC O2 O.length (((numsOf xs).map intOf).map W.int) := .inl (by rw [← en]; exact hs2 _ _ hc1)
            refine ifF (ev_ret (ev_and ⟨_, rfl, _, (numsOf xs).map intOf, rfl, hcn, fun ns' hp hsort => ⟨_, rfl, _, rfl, by omega, by omega, eq_ints (a := ns') (b := rangeI n) (.inl ?_) (.inl ?_) ⟨_, rfl, ?_⟩⟩⟩))
            · rw [List.getElem?_append_left (by rw [List.length_append]; exact Nat.lt_succ_self _)]
              exact push_at
            · rw [push_at]
              unfold rangeI
              rw [List.map_map]
              rfl
            · have hr : (rangeI n).Pairwise (· ≤ ·) := by
                unfold rangeI
                rw [List.pairwise_map]
                exact List.pairwise_lt_range.imp fun h => by omega
              have ed : decide (ns' = rangeI n) = decide (((numsOf xs).map intOf).Perm (rangeI n)) := decide_eq_decide.mpr ⟨fun e => by rw [← e]; exact hp.symm, fun e => List.Perm.eq_of_pairwise (fun a b _ _ h1 h2 => Int.le_antisymm h1 h2) hsort hr (hp.trans e)⟩
              rw [ed]
              have hS : Sm O (O2 ++ [Cell.lst (ns'.map W.int)] ++ [Cell.lst ((List.range (n : Int).toNat).map fun i : Nat => W.int (i : Nat))]) := (hs12.app _).app _
              cases h3 : decide (((numsOf xs).map intOf).Perm (rangeI n)) with
              | false =>
                rw [h3] at fin
                exact ifF (fin _ hS)
              | true =>
                rw [h3] at fin
                have hall : xs.all isIS = true := by
                  refine List.all_eq_true.mpr fun x hx => ?_
                  cases hm : mName x with
                  | true =>
                    obtain ⟨s, rfl⟩ := name_str hm
                    rfl
                  | false =>
                    have hx2 : x ∈ numsOf xs := List.mem_filter.mpr ⟨hx, by rw [hm]; rfl⟩
                    have q := List.all_eq_true.mp h2 x hx2
                    cases x <;> first | rfl | cases q
                exact ifT ⟨_, rfl, sz_le (by show 1 ≤ 1000000; decide), ne_zero hall (fin _ hS)⟩
  | _ => exact ifT (fin O Sm.refl)
theorem cat_true {c : W} {vals sorts vs : Kv} (gs : GoodS vals sorts) (h : (mCat c vals sorts vs).1 = true) : ∃ n l r kd rest, c = .tup [.str n, l, r] ∧ valW sorts (.inr n) = some (.tup (.str kd :: rest)) ∧ kindOf sorts c = kd := by
  unfold mCat at h
  split at h
  · rename_i s l r
    split at h
    · rename_i h2
      cases s with
      | str n =>
        have h3 : (valW sorts (.inr n)).isSome = true := h2
        obtain ⟨v, hv⟩ := Option.isSome_iff_exists.mp h3
        obtain ⟨kd, lf, rf, rfl, _⟩ := gs _ _ hv
        refine ⟨n, l, r, kd, _, rfl, hv, ?_⟩
        unfold kindOf
        dsimp only
        rw [hv]
      | _ => cases h2
    · cases h
  · cases h
theorem cats_true {vals sorts : Kv} (gs : GoodS vals sorts) : ∀ (cs : List W) (vs : Kv), mCatsGo cs vals sorts vs = true → ∀ c ∈ cs, ∃ n l r kd rest, c = .tup [.str n, l, r] ∧ valW sorts (.inr n) = some (.tup (.str kd :: rest)) ∧ kindOf sorts c = kd
  | [], _, _, c, hc => by cases hc
  | c :: cs, vs, h, x, hx => by
    have h : (if (mCat c vals sorts vs).1 = true then mCatsGo cs vals sorts (mCat c vals sorts vs).2 else false) = true := h
    by_cases h1 : (mCat c vals sorts vs).1 = true
    · rw [if_pos h1] at h
      rcases List.mem_cons.mp hx with rfl | hx
      · exact cat_true gs h1
      · exact cats_true gs cs _ h x hx
    · rw [if_neg h1] at h
      cases h
theorem seven {w : W} (h : mTup w 7 7 = true) : ∃ a b c d e f g, w = .tup [a, b, c, d, e, f, g] := by
  obtain ⟨ts, rfl, hts⟩ := (mTup_same (n := 7)).mp h
  match ts, hts with
  | [a, b, c, d, e, f, g], _ => exact ⟨a, b, c, d, e, f, g, rfl⟩
theorem rd_is_rule (ws : List W) (O : Sto) (S : WK) (h : sp_is_rule ws O S) : d_is_rule (outB S) (startD n_is_rule ws) O := by
  obtain ⟨w, mk, kv, ks, vals, sorts, rfl, hv, hkv, hks, gv, gs, gl, fin⟩ := h
  refine ev_guardT (ev_not (ev_test ⟨_, rfl, w, 7, 7, rfl, hv.v, _, rfl, ?_⟩))
  cases h1 : mTup w 7 7 with
  | false =>
    have e : mRule w mk vals sorts = false := by
      unfold mRule
      split
      · cases h1
      · rfl
    rw [e] at fin
    exact ifT (fin O Sm.refl)
  | true =>
    obtain ⟨name, head, holes, left, right, lm, rm, rfl⟩ := seven h1
    have vN := hv.at_ (x := name) (by simp)
    have vH := hv.at_ (x := head) (by simp)
    have vHs := hv.at_ (x := holes) (by simp)
    have vL := hv.at_ (x := left) (by simp)
    have vR := hv.at_ (x := right) (by simp)
    have vLm := hv.at_ (x := lm) (by simp)
    have vRm := hv.at_ (x := rm) (by simp)
    refine ifF (ev_asg ⟨_, rfl, _, rfl, rfl, _, _, rfl, _, _, rfl, _, _, rfl, _, _, rfl, _, _, rfl, _, _, rfl, _, _, rfl, rfl, ?_⟩)
    refine ev_guardT (ev_or (ev_not (ev_test ⟨_, rfl, name, rfl, vN.v, fun O2 s2 => ⟨_, rfl, ?_⟩⟩)))
    cases h2 : mName name with
    | false =>
      have e : mRule (.tup [name, head, holes, left, right, lm, rm]) mk vals sorts = false := by
        unfold mRule
        cases holes with
        | tup hs =>
          dsimp only
          rw [h2]
          rfl
        | _ => rfl
      rw [e] at fin
      exact ifT (ifT (fin O2 s2))
    | true =>
      refine ifF (ev_not (ev_test ⟨_, rfl, holes, 0, 4, rfl, vHs.v.mono s2, _, rfl, ?_⟩))
      cases holes with
      | tup hs =>
        have em : mRule (.tup [name, head, .tup hs, left, right, lm, rm]) mk vals sorts = ((mName name && mTup (.tup hs) 0 4) && mRule2 head left right lm rm hs mk vals sorts) := rfl
        rw [em, h2, Bool.true_and] at fin
        cases h3 : mTup (.tup hs) 0 4 with
        | false =>
          rw [h3] at fin
          exact ifT (fin O2 s2)
        | true =>
          rw [h3, Bool.true_and] at fin
          unfold mRule2 at fin
          have hl : hs.length ≤ 4 := by
            unfold mTup at h3
            dsimp only at h3
            have := of_decide_eq_true (Bool.and_eq_true_iff.mp h3).2
            omega
          have hkv2 := s2 _ _ hkv
          have hks2 := s2 _ _ hks
          refine ifF (ev_guardT (ev_not (ev_test ⟨_, rfl, _, rfl, hs, .inl rfl, sz_le (by show (hs ++ []).length + 1 ≤ 1000000; rw [List.append_nil]; omega), _, rfl, _, rfl, head :: hs, kv, ks, vals, sorts, by rw [List.append_nil], fun c hc => ?_, hkv2, hks2, gv, gs, gl, by rw [List.length_cons]; omega, fun O3 s3 => ⟨_, rfl, ?_⟩⟩)))
          · rcases List.mem_cons.mp hc with rfl | hc
            · exact vH.mono s2
            · exact (vHs.at_ hc).mono s2
          · have s23 := s2.trans s3
            cases h4 : mCatsGo (head :: hs) vals sorts [] with
            | false =>
              rw [h4] at fin
              exact ifT (fin O3 s23)
            | true =>
              rw [h4, Bool.true_and] at fin
              have hct := cats_true gs (head :: hs) [] h4
              refine ifF (ev_guardT (ev_or (ev_not (ev_test ⟨_, rfl, _, rfl, .inl ⟨hs, rfl, left, hs.length, rfl, vL.mono s23, by omega, fun O4 s4 => ⟨_, rfl, ?_⟩⟩⟩))))
              have s24 := s23.trans s4
              cases h5 : mItems left hs.length with
              | false =>
                rw [h5] at fin
                exact ifT (ifT (fin O4 s24))
              | true =>
                rw [h5, Bool.true_and] at fin
                refine ifF (ev_not (ev_test ⟨_, rfl, _, rfl, .inl ⟨hs, rfl, right, hs.length, rfl, vR.mono s24, by omega, fun O5 s5 => ⟨_, rfl, ?_⟩⟩⟩))
                have s25 := s24.trans s5
                cases h6 : mItems right hs.length with
                | false =>
                  rw [h6] at fin
                  exact ifT (fin O5 s25)
                | true =>
                  rw [h6, Bool.true_and] at fin
                  have hks5 := s25 _ _ hks
                  obtain ⟨n, l, r, kd, rest, eh, hvn, hkd⟩ := hct head List.mem_cons_self
                  rw [hkd] at fin
                  subst eh
                  refine ifF (ev_set ⟨_, rfl, _, rfl, _, 0, _, rfl, rfl, at0, ks, sorts, _, _, rfl, hks5, rfl, hvn, _, 0, _, rfl, rfl, at0, ?_⟩)
                  refine ev_set (ev_lcT (f := fun c => .str (kindOf sorts c)) rfl (by omega) (fun j z hz O' hs' S1 h => ?_) fun O6 s6 hc6 => ?_)
                  · obtain ⟨n2, l2, r2, kd2, rest2, e2, hv2, hk2⟩ := hct z (List.mem_cons_of_mem _ (List.mem_of_getElem? hz))
                    have q := h O' Sm.refl
                    rw [hk2] at q
                    subst e2
                    exact ⟨_, rfl, _, rfl, _, 0, _, rfl, rfl, at0, ks, sorts, _, _, rfl, hs' _ _ hks5, rfl, hv2, _, 0, _, rfl, rfl, at0, q⟩
                  · have s26 := s25.trans s6
                    have hcell : LstC O6 O5.length ((hs.map (kindOf sorts)).map W.str) := .inl (by rw [hc6, List.map_map]; rfl)
                    refine ev_guardT (ev_not (ev_test ⟨_, rfl, _, rfl, _, rfl, _, rfl, lm, kd, mk, _, _, rfl, vLm.mono s26, hcell, fun O7 s7 => ⟨_, rfl, ?_⟩⟩))
                    have s27 := s26.trans s7
                    cases h7 : mMean lm kd mk (hs.map (kindOf sorts)) with
                    | false =>
                      rw [h7] at fin
                      exact ifT (fin O7 s27)
                    | true =>
                      rw [h7, Bool.true_and] at fin
                      exact ifF ⟨_, rfl, _, rfl, _, rfl, _, rfl, rm, kd, mk, _, _, rfl, vRm.mono s27, s7.lstC hcell, fun O8 s8 => fin O8 (s27.trans s8)⟩
      | _ => exact ifT (fin O2 s2)
end Dm

set_option Elab.async false
set_option linter.all false
set_option maxRecDepth 100000
set_option maxHeartbeats 1000000
/-! is_book, exactly. -/
namespace Dm
open PySem PySem.Spec PyProof.Rows L2
theorem put_val {kvs : Kv} {k k' : Key} {v u : W} (h : valW (putW kvs k v) k' = some u) : u = v ∨ valW kvs k' = some u := by
  unfold putW at h
  split at h
  · unfold valW at h ⊢
    induction kvs with
    | nil => cases h
    | cons p l ih =>
      rename_i ha
      rw [List.map_cons, List.find?_cons] at h
      rw [List.find?_cons]
      by_cases hp : p.1 = k
      · rw [if_pos hp] at h
        dsimp only at h
        by_cases hk : p.1 = k'
        · simp only [hk, decide_true, Option.map_some, Option.some.injEq] at h
          exact .inl h.symm
        · simp only [decide_eq_false hk] at h ⊢
          by_cases ha2 : (l.any fun kv => decide (kv.1 = k)) = true
          · exact ih ha2 h
          · have e : (l.map fun kv => if kv.1 = k then (kv.1, v) else kv) = l := by
              conv => rhs; rw [← List.map_id l]
              refine List.map_congr_left fun q hq => ?_
              have : ¬ q.1 = k := fun z => ha2 (List.any_eq_true.mpr ⟨q, hq, by simp [z]⟩)
              rw [if_neg this]
              rfl
            rw [e] at h
            exact .inr h
      · rw [if_neg hp] at h
        by_cases hk : p.1 = k'
        · simp only [hk, decide_true] at h ⊢
          exact .inr h
        · simp only [decide_eq_false hk] at h ⊢
          have ha2 : (l.any fun kv => decide (kv.1 = k)) = true := by
            rw [List.any_cons, decide_eq_false hp, Bool.false_or] at ha
            exact ha
          exact ih ha2 h
  · unfold valW at h ⊢
    rw [List.find?_append] at h
    cases hf : kvs.find? (fun kv => decide (kv.1 = k')) with
    | some p =>
      rw [hf] at h
      exact .inr h
    | none =>
      rw [hf] at h
      rw [Option.none_or, List.find?_cons] at h
      split at h
      · cases h
        exact .inl rfl
      · cases h
theorem fold_val {P : W → Prop} {st : Kv → W → Kv} {fs : List W} (hst : ∀ acc f, f ∈ fs → (∃ k v, st acc f = putW acc k v ∧ P v)) : ∀ (l : List W) (acc : Kv), (∀ f ∈ l, f ∈ fs) → (∀ k v, valW acc k = some v → P v) → ∀ k v, valW (l.foldl st acc) k = some v → P v
  | [], acc, _, h, k, v, e => h k v e
  | f :: l, acc, hl, h, k, v, e => by
    refine fold_val hst l (st acc f) (fun g hg => hl g (List.mem_cons_of_mem _ hg)) (fun k' v' e' => ?_) k v e
    obtain ⟨k0, v0, e0, p0⟩ := hst acc f (hl f List.mem_cons_self)
    rw [e0] at e'
    rcases put_val e' with rfl | e'
    · exact p0
    · exact h k' v' e'
theorem names_tup {w : W} {a b : Int} (h : mNames w a b = true) : ∃ xs : List Str, w = .tup (xs.map W.str) ∧ (xs.length : Int) ≤ b ∧ (listOf w).map strOf = xs := by
  unfold mNames at h
  cases w with
  | tup xs =>
    dsimp only at h
    obtain ⟨h1, h2⟩ := Bool.and_eq_true_iff.mp h
    obtain ⟨h2, _⟩ := Bool.and_eq_true_iff.mp h2
    refine ⟨xs.map strOf, congrArg W.tup (tup_of h2), ?_, rfl⟩
    unfold mTup at h1
    dsimp only at h1
    rw [List.length_map]
    exact of_decide_eq_true (Bool.and_eq_true_iff.mp h1).2
  | _ => cases h
theorem feats_good {fs : List W} (h : fs.all mFeature = true) : (∀ f ∈ fs, ∃ n v, f = .tup [.str n, v]) ∧ GoodV (valuesKv fs) := by
  have each : ∀ f ∈ fs, ∃ n v, f = .tup [.str n, v] ∧ ∃ xs : List Str, v = .tup (xs.map W.str) := fun f hf => by
    have q := List.all_eq_true.mp h f hf
    unfold mFeature at q
    split at q
    · obtain ⟨q1, q2⟩ := Bool.and_eq_true_iff.mp q
      obtain ⟨s, rfl⟩ := name_str q1
      obtain ⟨xs, e, _⟩ := names_tup q2
      exact ⟨s, _, rfl, xs, e⟩
    · cases q
  refine ⟨fun f hf => let ⟨n, v, e, _⟩ := each f hf; ⟨n, v, e⟩, ?_⟩
  exact fold_val (P := fun v => ∃ xs : List Str, v = .tup (xs.map W.str)) (st := stepV) (fs := fs) (fun acc f hf => by
    obtain ⟨n, v, rfl, xs, e⟩ := each f hf
    exact ⟨_, v, rfl, xs, e⟩) fs [] (fun _ h => h) (fun k v e => by cases e)
theorem sf_good {w : W} {vals : Kv} (h : mSF w vals = true) : ∃ l : List Str, w = .tup (l.map W.str) ∧ l.length ≤ 3 ∧ ∀ f ∈ l, (valW vals (.inr f)).isSome = true := by
  unfold mSF at h
  cases w with
  | tup fs =>
    dsimp only at h
    obtain ⟨h1, h2⟩ := Bool.and_eq_true_iff.mp h
    have each : ∀ f ∈ fs, ∃ s, f = .str s ∧ (valW vals (.inr s)).isSome = true := fun f hf => by
      have q := List.all_eq_true.mp h2 f hf
      cases f with
      | str s => exact ⟨s, rfl, q⟩
      | _ => cases q
    have e : fs = (fs.map strOf).map W.str := by
      rw [List.map_map]
      conv => lhs; rw [← List.map_id fs]
      refine List.map_congr_left fun x hx => ?_
      obtain ⟨s, rfl, _⟩ := each x hx
      rfl
    refine ⟨fs.map strOf, congrArg W.tup e, ?_, fun f hf => ?_⟩
    · unfold mTup at h1
      dsimp only at h1
      rw [List.length_map]
      have := of_decide_eq_true (Bool.and_eq_true_iff.mp h1).2
      omega
    · obtain ⟨x, hx, rfl⟩ := List.mem_map.mp hf
      obtain ⟨s, rfl, q⟩ := each x hx
      exact q
  | _ => cases h
theorem sorts_good {ss : List W} {vals : Kv} (h : (ss.all fun f => mSort f vals) = true) : (∀ f ∈ ss, ∃ n k l r, f = .tup [.str n, k, l, r]) ∧ GoodS vals (sortsKv ss) ∧ SmallS (sortsKv ss) := by
  have each : ∀ f ∈ ss, ∃ (n kd : Str) (l r : List Str), f = .tup [.str n, .str kd, .tup (l.map W.str), .tup (r.map W.str)] ∧ l.length ≤ 3 ∧ r.length ≤ 3 ∧ ∀ f ∈ l ++ r, (valW vals (.inr f)).isSome = true := fun f hf => by
    have q := List.all_eq_true.mp h f hf
    unfold mSort at q
    split at q
    · obtain ⟨q1, q2⟩ := Bool.and_eq_true_iff.mp q
      obtain ⟨qa, qb⟩ := Bool.and_eq_true_iff.mp q1
      obtain ⟨qc, qd⟩ := Bool.and_eq_true_iff.mp q2
      obtain ⟨s, rfl⟩ := name_str qa
      rename_i k l r
      obtain ⟨l', rfl, l3, hl⟩ := sf_good qc
      obtain ⟨r', rfl, r3, hr⟩ := sf_good qd
      have hk : tStr k = true := (Bool.and_eq_true_iff.mp qb).1
      cases k with
      | str kd => exact ⟨s, kd, l', r', rfl, l3, r3, fun f hf => (List.mem_append.mp hf).elim (hl f) (hr f)⟩
      | _ => cases hk
    · cases q
  have hP := fold_val (P := fun v => ∃ (kd : Str) (l r : List Str), v = .tup [.str kd, .tup (l.map W.str), .tup (r.map W.str)] ∧ l.length ≤ 3 ∧ r.length ≤ 3 ∧ ∀ f ∈ l ++ r, (valW vals (.inr f)).isSome = true) (st := stepS) (fs := ss) (fun acc f hf => by
    obtain ⟨n, kd, l, r, rfl, p⟩ := each f hf
    exact ⟨_, _, rfl, kd, l, r, rfl, p⟩) ss [] (fun _ h => h) (fun k v e => by cases e)
  refine ⟨fun f hf => let ⟨n, kd, l, r, e, _⟩ := each f hf; ⟨n, _, _, _, e⟩, fun k v e => ?_, fun k v e kd l r ev => ?_⟩
  · obtain ⟨kd, l, r, rfl, _, _, h⟩ := hP k v e
    exact ⟨kd, l, r, rfl, h⟩
  · obtain ⟨kd', l', r', e2, h1, h2, _⟩ := hP k v e
    rw [e2] at ev
    cases ev
    rw [List.length_map, List.length_map]
    exact ⟨by omega, by omega⟩
theorem rd_are_rules (ws : List W) (O : Sto) (S : WK) (h : sp_are_rules ws O S) : d_are_rules (outB S) (startD n_are_rules ws) O := by
  obtain ⟨w, mk, kv, ks, vals, sorts, rfl, hv, hkv, hks, gv, gs, gl, fin⟩ := h
  have fin : ∀ O', Sm O O' → S (.bl (mMany w 1 24 fun f => mRule f mk vals sorts)) O' := fin
  refine rd_many rfl hv (by decide) (fun x hx => ?_) (fun x O' hx hs S1 h => ⟨_, rfl, _, rfl, _, rfl, _, rfl, x, mk, kv, ks, vals, sorts, rfl, hx.mono hs, hs _ _ hkv, hs _ _ hks, gv, gs, gl, h⟩) fin
  unfold mRule at hx
  split at hx
  · obtain ⟨s, rfl⟩ := name_str (Bool.and_eq_true_iff.mp (Bool.and_eq_true_iff.mp hx).1).1
    exact ⟨_, _, rfl⟩
  · cases hx
theorem rd_is_book (ws : List W) (O : Sto) (S : WK) (h : sp_is_book ws O S) : d_is_book (outB S) (startD n_is_book ws) O := by
  obtain ⟨w, rfl, hv, fin⟩ := h
  refine ev_guardT (ev_not (ev_test ⟨_, rfl, w, 5, 5, rfl, hv.v, _, rfl, ?_⟩))
  cases h1 : mTup w 5 5 with
  | false =>
    have e : mBook w = false := by
      unfold mBook
      split
      · cases h1
      · rfl
    rw [e] at fin
    exact ifT (fin O Sm.refl)
  | true =>
    obtain ⟨ts, rfl, hts⟩ := (mTup_same (n := 5)).mp h1
    match ts, hts with
    | [f, m, s, st, r], _ =>
      have vF := hv.at_ (x := f) (by simp)
      have vM := hv.at_ (x := m) (by simp)
      have vS := hv.at_ (x := s) (by simp)
      have vSt := hv.at_ (x := st) (by simp)
      have vR := hv.at_ (x := r) (by simp)
      have fin : ∀ O', Sm O O' → S (.bl ((mFeatures f && mNames m 0 2) && (mSorts s (valuesKv (listOf f)) && (mOfD st (sortsKv (listOf s)) && mRules r ((listOf m).map strOf) (valuesKv (listOf f)) (sortsKv (listOf s)))))) O' := fin
      refine ifF (ev_asg ⟨_, rfl, _, rfl, rfl, _, _, rfl, _, _, rfl, _, _, rfl, _, _, rfl, _, _, rfl, rfl, ?_⟩)
      refine ev_guardT (ev_or (ev_not (ev_test ⟨_, rfl, f, rfl, vF, fun O2 s2 => ⟨_, rfl, ?_⟩⟩)))
      cases h2 : mFeatures f with
      | false =>
        rw [h2] at fin
        exact ifT (ifT (fin O2 s2))
      | true =>
        rw [h2, Bool.true_and] at fin
        refine ifF (ev_not (ev_test ⟨_, rfl, m, 0, 2, rfl, vM.mono s2, by decide, fun O3 s3 => ⟨_, rfl, ?_⟩⟩))
        have s23 := s2.trans s3
        cases h3 : mNames m 0 2 with
        | false =>
          rw [h3] at fin
          exact ifT (fin O3 s23)
        | true =>
          rw [h3, Bool.true_and] at fin
          obtain ⟨fs, rfl⟩ : ∃ fs, f = .tup fs := by
            cases f with
            | tup fs => exact ⟨fs, rfl⟩
            | _ => cases h2
          obtain ⟨ha, hb⟩ := Bool.and_eq_true_iff.mp (show (mTup (.tup fs) 0 3 && (fs.all mFeature && decide (fs.map headStr).Nodup)) = true from h2)
          have hfl : fs.length ≤ 3 := by
            unfold mTup at ha
            dsimp only at ha
            have := of_decide_eq_true (Bool.and_eq_true_iff.mp ha).2
            omega
          obtain ⟨hfe, gv⟩ := feats_good (Bool.and_eq_true_iff.mp hb).1
          obtain ⟨mk, rfl, _, emk⟩ := names_tup h3
          rw [emk] at fin
          have fin : ∀ O', Sm O O' → S (.bl (mSorts s (valuesKv fs) && (mOfD st (sortsKv (listOf s)) && mRules r mk (valuesKv fs) (sortsKv (listOf s))))) O' := fin
          refine ifF (ev_set ⟨_, rfl, fs, rfl, hfe, by omega, fun O4 s4 c4 => ?_⟩)
          have s24 := s23.trans s4
          refine ev_guardT (ev_not (ev_test ⟨_, rfl, _, rfl, s, _, valuesKv fs, rfl, vS.mono s24, c4, fun O5 s5 => ⟨_, rfl, ?_⟩⟩))
          have s25 := s24.trans s5
          cases h4 : mSorts s (valuesKv fs) with
          | false =>
            rw [h4] at fin
            exact ifT (fin O5 s25)
          | true =>
            rw [h4, Bool.true_and] at fin
            obtain ⟨ss, rfl⟩ : ∃ ss, s = .tup ss := by
              cases s with
              | tup ss => exact ⟨ss, rfl⟩
              | _ => cases h4
            obtain ⟨hc, hd⟩ := Bool.and_eq_true_iff.mp (show (mTup (.tup ss) 1 8 && ((ss.all fun f => mSort f (valuesKv fs)) && decide (ss.map headStr).Nodup)) = true from h4)
            have hsl : ss.length ≤ 8 := by
              unfold mTup at hc
              dsimp only at hc
              have := of_decide_eq_true (Bool.and_eq_true_iff.mp hc).2
              omega
            obtain ⟨hse, gs, gl⟩ := sorts_good (Bool.and_eq_true_iff.mp hd).1
            have fin : ∀ O', Sm O O' → S (.bl (mOfD st (sortsKv ss) && mRules r mk (valuesKv fs) (sortsKv ss))) O' := fin
            refine ifF (ev_set ⟨_, rfl, ss, rfl, hse, by omega, fun O6 s6 c6 => ?_⟩)
            have s26 := s25.trans s6
            refine ev_ret (ev_and ⟨_, rfl, _, rfl, st, _, rfl, (vSt.mono s26).v, .inr ⟨_, sortsKv ss, rfl, c6, _, rfl, ?_⟩⟩)
            cases h5 : mOfD st (sortsKv ss) with
            | false =>
              rw [h5] at fin
              exact ifF (fin O6 s26)
            | true =>
              rw [h5, Bool.true_and] at fin
              exact ifT ⟨_, rfl, _, rfl, _, rfl, _, rfl, r, mk, _, _, valuesKv fs, sortsKv ss, rfl, vR.mono s26, s6 _ _ (s5 _ _ c4), c6, gv, gs, gl, fun O7 s7 => fin O7 (s26.trans s7)⟩
/-! ### asked for -/
def sp_need_book : SpD := fun ws O S => ∃ w, ws = [w] ∧ Vd O w ∧ mBook w = true ∧ ∀ O', Sm O O' → S .non O'
def sp_need_side : SpD := fun ws O S => ∃ w, ws = [w] ∧ Vw O w ∧ mOf w [.str "left", .str "right"] = true ∧ S .non O
def d_need_book : DTS := (dIf (dNot (dTest (dCall sp_is_book (dCons (dVar 0) dNil)))) dNever dNext)
abbrev n_need_book : List Str := ["thing"]
def d_need_side : DTS := (dIf (dNot (dTest (dCall sp_is_side (dCons (dVar 0) dNil)))) dNever dNext)
abbrev n_need_side : List Str := ["thing"]
theorem rd_need_book (ws : List W) (O : Sto) (S : WK) (h : sp_need_book ws O S) : d_need_book (outB S) (startD n_need_book ws) O := by
  obtain ⟨w, rfl, hv, hb, fin⟩ := h
  refine ev_if (ev_not (ev_test ⟨_, rfl, w, rfl, hv, fun O2 s2 => ⟨_, rfl, ?_⟩⟩))
  rw [hb]
  exact ifF (fin O2 s2)
theorem rd_need_side (ws : List W) (O : Sto) (S : WK) (h : sp_need_side ws O S) : d_need_side (outB S) (startD n_need_side ws) O := by
  obtain ⟨w, rfl, hv, hb, fin⟩ := h
  refine ev_if (ev_not (ev_test ⟨_, rfl, w, rfl, hv, _, rfl, ?_⟩))
  rw [hb]
  exact ifF fin
end Dm

set_option Elab.async false
set_option linter.all false
set_option maxRecDepth 100000
set_option maxHeartbeats 4000000
/-! k62: the promises. -/
namespace K62
open PySem PySem.Spec PyProof.Rows L2 Dm
/-- set terms -/
inductive ST where
  | none | mark (x : Str) | not (a : ST) | both (a b : ST) | either (a b : ST)
def enc : ST → W
  | .none => .tup [.str "none"]
  | .mark x => .tup [.str "mark", .str x]
  | .not a => .tup [.str "not", enc a]
  | .both a b => .tup [.str "both", enc a, enc b]
  | .either a b => .tup [.str "either", enc a, enc b]
def dep : ST → Nat
  | .none => 1
  | .mark _ => 1
  | .not a => dep a + 1
  | .both a b => max (dep a) (dep b) + 1
  | .either a b => max (dep a) (dep b) + 1
def siz : ST → Nat
  | .none => 1
  | .mark _ => 1
  | .not a => siz a + 1
  | .both a b => siz a + siz b + 1
  | .either a b => siz a + siz b + 1
def wf (mk : List Str) : ST → Prop
  | .none => True
  | .mark x => x ∈ mk
  | .not a => wf mk a
  | .both a b => wf mk a ∧ wf mk b
  | .either a b => wf mk a ∧ wf mk b
/-- the place of a mark -/
def plc : List Str → Str → Nat
  | [], _ => 0
  | y :: ys, x => if y = x then 0 else plc ys x + 1
theorem plc_ok : ∀ {mk : List Str} {x : Str}, x ∈ mk → mk[plc mk x]? = some x ∧ ∀ m, m < plc mk x → mk[m]? ≠ some x
  | y :: ys, x, h => by
    unfold plc
    by_cases e : y = x
    · rw [if_pos e]
      subst e
      exact ⟨rfl, fun m hm => absurd hm (Nat.not_lt_zero _)⟩
    · rw [if_neg e]
      have hx : x ∈ ys := by
        rcases List.mem_cons.mp h with h | h
        · exact absurd h.symm e
        · exact h
      obtain ⟨h1, h2⟩ := plc_ok hx
      refine ⟨h1, fun m hm => ?_⟩
      cases m with
      | zero =>
        intro z
        exact e (Option.some.inj z)
      | succ m => exact h2 m (by omega)
theorem plc_lt {mk : List Str} {x : Str} (h : x ∈ mk) : plc mk x < mk.length := (List.getElem?_eq_some_iff.mp (plc_ok h).1).1
/-- does the term hold of a thing of that cell -/
def hld (mk : List Str) : ST → Nat → Bool
  | .none, _ => false
  | .mark x, c => decide (c / 2 ^ plc mk x % 2 = 1)
  | .not a, c => !hld mk a c
  | .both a b, c => hld mk a c && hld mk b c
  | .either a b, c => hld mk a c || hld mk b c
def mskL : List Bool → Int
  | [] => 0
  | b :: bs => (if b = true then 1 else 0) + 2 * mskL bs
/-- the bits of those below N for which f holds -/
def msk (N : Nat) (f : Nat → Bool) : Int := mskL ((List.range N).map f)
def hasBit (m c : Int) : Bool := decide (Builtin.bitAnd (m / 2 ^ c.toNat) 1 = 1)
def below (N : Nat) (f : Nat → Bool) : List Nat := (List.range N).filter f
def natW (ns : List Nat) : List W := ns.map fun (n : Nat) => W.int (n : Int)
def names9 : List Str := ["black", "cat", "none", "mark", "hole", "all", "a", "abcdefghijkl", "z9"]
structure Mk (mk : List Str) : Prop where
  len : mk.length ≤ 2
  nd : mk.Nodup
  mem : ∀ x ∈ mk, x ∈ names9
def sp_full : SpD := fun ws O S => ∃ N : Nat, ws = [.int (N : Int)] ∧ N ≤ 4 ∧ S (.int (2 ^ N - 1)) O
def sp_bit : SpD := fun ws O S => ∃ m c : Int, ws = [.int m, .int c] ∧ 0 ≤ c ∧ S (.bl (hasBit m c)) O
def sp_bits : SpD := fun ws O S => ∃ (N : Nat) (f : Nat → Bool), ws = [.int (msk N f), .int (N : Int)] ∧ (N = 1 ∨ N = 2 ∨ N = 4) ∧ ∀ (k : Nat) O', Sm O O' → O.length ≤ k → O'[k]? = some (.lst (natW (below N f))) → S (.cell k) O'
def sp_marked : SpD := fun ws O S => ∃ n j : Nat, ws = [.int (n : Int), .int (j : Int)] ∧ j < n ∧ n ≤ 2 ∧ ∀ O', Sm O O' → S (.int (msk (2 ^ n) fun c => decide (c / 2 ^ j % 2 = 1))) O'
def sp_cells (n : Nat) : SpD := fun ws O S => ∃ (mk : List Str) (t : ST), ws = [enc t, .ktp (mk.map W.str)] ∧ mk.length ≤ 2 ∧ wf mk t ∧ dep t < n ∧ ∀ O', Sm O O' → S (.int (msk (2 ^ mk.length) (hld mk t))) O'
def sp_need_term : SpD := fun ws O S => ∃ (bs : List W) (mk : List Str) (w : W) (kd : Str), ws = [.tup bs, w, .str kd] ∧ bs[1]? = some (.tup (mk.map W.str)) ∧ Vd O w ∧ mClosed w kd mk = true ∧ ∀ O', Sm O O' → S .non O'
def sp_cells_in : SpD := fun ws O S => ∃ (bs : List W) (mk : List Str) (t : ST), ws = [.tup bs, enc t] ∧ bs[1]? = some (.ktp (mk.map W.str)) ∧ mBook (.tup (fgs bs)) = true ∧ Vd O (.tup (fgs bs)) ∧ mk.length ≤ 2 ∧ (∀ x ∈ mk, x.length ≤ 1000000) ∧ wf mk t ∧ dep t ≤ 80 ∧ siz t ≤ 300 ∧
  ∀ (k : Nat) O', Sm O O' → O.length ≤ k → O'[k]? = some (.lst (natW (below (2 ^ mk.length) (hld mk t)))) → S (.cell k) O'
def sp_law_feed : SpD := fun ws O S => ∃ (k : Nat) (ns : List Int) (i : Int), ws = [.cell k, .int i] ∧ LstC O k (ns.map W.int) ∧ (∀ z ∈ ns, Builtin.Int.intBits z ≤ 1048576) ∧ ns.length ≤ 1000 ∧ 0 ≤ i ∧ i < 1000 ∧ ∀ m O', Sm O O' → O.length ≤ m → Fd O' m 1000000 → S (.cell m) O'
def sp_in (n : Nat) : SpD := fun ws O S => ∃ (mk : List Str) (t : ST) (c : Nat), ws = [enc t, .tup (mk.map W.str), .int (c : Int)] ∧ mk.length ≤ 2 ∧ wf mk t ∧ dep t < n ∧ c < 4 ∧ ∀ O', Sm O O' → S (.bl (hld mk t c)) O'
def sp_marks : SpD := fun ws O S => ∃ k n : Nat, ws = [.cell k] ∧ Fd O k (n + 3) ∧ ∀ (mk : List Str) O', Mk mk → Kp k O O' → Fd O' k n → S (.ktp (mk.map W.str)) O'
def bookL (a : W) (kd : Str) (tm : W) : List W := [.tup [], a, .tup [.tup [.str "s", .str kd, .tup [], .tup []]], .str "s", .tup [.tup [.str "r", .tup [.str "s", .tup [], .tup []], .tup [], .tup [.str "a"], .tup [.str "x"], tm, tm]]]
def someW : W := .tup [.str "some", .tup [.str "not", .tup [.str "none"]]]
def menu : List (Str × W) := [("set", .tup [.str "none"]), ("part", someW), ("truth", .tup [.str "is", someW, .tup [.str "none"]])]
def sp_small : SpD := fun ws O S => ∃ (k n : Nat) (a : W), ws = [.cell k, a] ∧ Fd O k (n + 1) ∧ ∀ (kd : Str) (tm : W) O', (kd, tm) ∈ menu → Kp k O O' → Fd O' k n → S (.tup (bookL a kd tm)) O'
def bud (d : Nat) : Nat := 4 * 2 ^ d - 4
def sp_st (n : Nat) : SpD := fun ws O S => ∃ (k m d : Nat) (mk : List Str), ws = [.cell k, .tup (mk.map W.str), .int (d : Int)] ∧ 1 ≤ d ∧ d < n ∧ d ≤ 7 ∧ mk.length ≤ 2 ∧ (∀ x ∈ mk, x.length ≤ 1000) ∧ Fd O k (m + bud d) ∧ ∀ (t : ST) O', wf mk t → dep t ≤ d → siz t + 1 ≤ 2 ^ d → Kp k O O' → Fd O' k m → S (enc t) O'
def sp_law : SpD := fun ws O S => ∃ ns : List Int, ws = [.cell 0] ∧ O = [.rol (ns.map W.int)] ∧ (∀ z ∈ ns, Builtin.Int.intBits z ≤ 1048576) ∧ ns.length ≤ 63 ∧ ∀ O', S (.bl true) O'
end K62

set_option Elab.async false
set_option linter.all false
set_option maxRecDepth 100000
set_option maxHeartbeats 4000000
/-! k62: the texts, the derivations. -/
namespace K62
open PySem PySem.Spec PyProof.Rows L2 Dm
abbrev FnP (K : PySem.W.Frag) (x : Str) (st : Stmt) (f : Addr) (fd : FuncData) : Prop := FunD K x x (defArgs st) (defBody st) (defScope st) [] [] f fd
section
variable {P : Program} {w : World} {K : PySem.W.Frag} {mg : Str → Option Value} {base : Heap}

abbrev sis_integer : Stmt := topS 18
theorem scis_integer : FnScope ["thing"] ["thing"] (defScope sis_integer) := ⟨rfl, rfl, rfl, by decide +kernel, rfl, by decide +kernel, by decide +kernel⟩
theorem okis_integer {f : Addr} {fd : FuncData} (F : FnP K "is_integer" sis_integer f fd) (z_isinstance : mg "isinstance" = none) (z_int : mg "int" = none) (z_bool : mg "bool" = none)   
    (len : ∀ ws O S, sp_is_integer ws O S → ws.length = 1) (rd : ∀ ws O S, sp_is_integer ws O S → Dm.d_is_integer (outB S) (startD ["thing"] ws) O) : FnG P w K mg base 1 f fd ["thing"] sp_is_integer := by
  refine FunG F scis_integer len fun cdv A outer s H hr => ?_
  have sc := scis_integer
  exact ⟨Dm.d_is_integer, (eb_one (es_ret (ed_and (ed_callB call_isi src_isi (by rfl) z_isinstance (by decide +kernel) (ea_cons (dv 0) (ea_cons (ed_bltn (by rfl) z_int (by decide +kernel)) ea_nil))) (ed_one (ed_not (ed_callB call_isi src_isi (by rfl) z_isinstance (by decide +kernel) (ea_cons (dv 0) (ea_cons (ed_bltn (by rfl) z_bool (by decide +kernel)) ea_nil)))))))), fun ws O S h => rd ws O S h⟩
abbrev sis_tuple : Stmt := topS 19
theorem scis_tuple : FnScope ["thing", "least", "most"] ["thing", "least", "most"] (defScope sis_tuple) := ⟨rfl, rfl, rfl, by decide +kernel, rfl, by decide +kernel, by decide +kernel⟩
theorem okis_tuple {f : Addr} {fd : FuncData} (F : FnP K "is_tuple" sis_tuple f fd) (z_isinstance : mg "isinstance" = none) (z_tuple : mg "tuple" = none) (z_len : mg "len" = none)   
    (len : ∀ ws O S, sp_is_tuple ws O S → ws.length = 3) (rd : ∀ ws O S, sp_is_tuple ws O S → Dm.d_is_tuple (outB S) (startD ["thing", "least", "most"] ws) O) : FnG P w K mg base 1 f fd ["thing", "least", "most"] sp_is_tuple := by
  refine FunG F scis_tuple len fun cdv A outer s H hr => ?_
  have sc := scis_tuple
  exact ⟨Dm.d_is_tuple, (eb_one (es_ret (ed_and (ed_callB call_isi src_isi (by rfl) z_isinstance (by decide +kernel) (ea_cons (dv 0) (ea_cons (ed_bltn (by rfl) z_tuple (by decide +kernel)) ea_nil))) (ed_one (ed_chain op_le op_le (sr_I0 fun _ _ _ _ => .bl _) (sr_I0 fun _ _ _ _ => .bl _) (dv 1) (ed_callB call_len_seq src_len (by rfl) z_len PySem.boot_len (ea_cons (dv 0) ea_nil)) (dv 2)))))), fun ws O S h => rd ws O S h⟩
abbrev sis_one_of : Stmt := topS 20
theorem scis_one_of : FnScope ["thing", "words"] ["thing", "words"] (defScope sis_one_of) := ⟨rfl, rfl, rfl, by decide +kernel, rfl, by decide +kernel, by decide +kernel⟩
theorem okis_one_of {f : Addr} {fd : FuncData} (F : FnP K "is_one_of" sis_one_of f fd) (z_isinstance : mg "isinstance" = none) (z_str : mg "str" = none)   
    (len : ∀ ws O S, sp_is_one_of ws O S → ws.length = 2) (rd : ∀ ws O S, sp_is_one_of ws O S → Dm.d_is_one_of (outB S) (startD ["thing", "words"] ws) O) : FnG P w K mg base 1 f fd ["thing", "words"] sp_is_one_of := by
  refine FunG F scis_one_of len fun cdv A outer s H hr => ?_
  have sc := scis_one_of
  exact ⟨Dm.d_is_one_of, (eb_one (es_ret (ed_and (ed_callB call_isi src_isi (by rfl) z_isinstance (by decide +kernel) (ea_cons (dv 0) (ea_cons (ed_bltn (by rfl) z_str (by decide +kernel)) ea_nil))) (ed_one (ed_inU (hu_of hr.r) (dv 0) (dv 1)))))), fun ws O S h => rd ws O S h⟩
abbrev sis_name : Stmt := topS 21
theorem scis_name : FnScope ["thing", "letter"] ["thing"] (defScope sis_name) := ⟨rfl, rfl, rfl, by decide +kernel, rfl, by decide +kernel, by decide +kernel⟩
theorem okis_name {f : Addr} {fd : FuncData} (F : FnP K "is_name" sis_name f fd) (z_all : mg "all" = none) (z_isinstance : mg "isinstance" = none) (z_str : mg "str" = none) (z_len : mg "len" = none) {tSMALL_LETTERS : Tok} (c_SMALL_LETTERS : mg "SMALL_LETTERS" = some (.str "abcdefghijklmnopqrstuvwxyz" tSMALL_LETTERS)) {tMOST_LETTERS : Tok} (c_MOST_LETTERS : mg "MOST_LETTERS" = some (.int 12 tMOST_LETTERS)) {tNAME_LETTERS : Tok} (c_NAME_LETTERS : mg "NAME_LETTERS" = some (.str "abcdefghijklmnopqrstuvwxyz0123456789" tNAME_LETTERS))  
    (len : ∀ ws O S, sp_is_name ws O S → ws.length = 1) (rd : ∀ ws O S, sp_is_name ws O S → Dm.d_is_name (outB S) (startD ["thing", "letter"] ws) O) : FnG P w K mg base 1 f fd ["thing"] sp_is_name := by
  refine FunG F scis_name len fun cdv A outer s H hr => ?_
  have sc := scis_name
  exact ⟨Dm.d_is_name, (eb_cons (es_if (ew_or (et_not (et_val (ed_callB call_isi src_isi (by rfl) z_isinstance (by decide +kernel) (ea_cons (dv 0) (ea_cons (ed_bltn (by rfl) z_str (by decide +kernel)) ea_nil))))) (ew_or1 (et_not (et_chain op_le op_le (sr_I0 fun _ _ _ _ => .bl _) (sr_I0 fun _ _ _ _ => .bl _) ed_int (ed_callB call_len_str src_lenS (by rfl) z_len PySem.boot_len (ea_cons (dv 0) ea_nil)) (ed_gint (by rfl) c_MOST_LETTERS))))).t (eb_one (es_ret ed_bl)) eb_nil)
      (eb_one (es_ret (ed_and (ed_inS (ed_ixS (dv 0) ed_int) (ed_gstr (by rfl) c_SMALL_LETTERS)) (ed_one (ed_callB (cr_all rfl) src_all (by rfl) z_all (by decide +kernel) (ea_cons (ed_lc rfl sc.nd (own := [("letter", 1)]) (ei_str (dv 0)) (blkOk_by (N := ["thing", "letter"]) (sc := defScope sis_name) (by decide +kernel)) (fun _ _ _ _ _ => (egc_name (i := 1) (by decide) sc.nd rfl (by first | exact Or.inl rfl | exact Or.inr rfl))) (fun _ _ _ _ _ => ets_nil) (fun _ _ _ _ _ => (ed_inS (dv 1) (ed_gstr (by rfl) c_NAME_LETTERS)))) ea_nil))))))), fun ws O S h => rd ws O S h⟩
abbrev sis_word : Stmt := topS 22
theorem scis_word : FnScope ["thing"] ["thing"] (defScope sis_word) := ⟨rfl, rfl, rfl, by decide +kernel, rfl, by decide +kernel, by decide +kernel⟩
theorem okis_word {f : Addr} {fd : FuncData} (F : FnP K "is_word" sis_word f fd)    {fis_name : Addr} {fdis_name : FuncData} (Gis_name : FnG P w K mg base 1 fis_name fdis_name ["thing"] sp_is_name) (gis_name : mg "is_name" = some (.ref fis_name)) (kis_name : PySem.W.keepIn K (.ref fis_name) = true) (bis_name : Binds K fdis_name ["thing"] []) 
    (len : ∀ ws O S, sp_is_word ws O S → ws.length = 1) (rd : ∀ ws O S, sp_is_word ws O S → Dm.d_is_word (outB S) (startD ["thing"] ws) O) : FnG P w K mg base 2 f fd ["thing"] sp_is_word := by
  refine FunG F scis_word len fun cdv A outer s H hr => ?_
  have sc := scis_word
  exact ⟨Dm.d_is_word, (eb_one (es_ret (ed_call Gis_name (hr.mono (by decide)) (by rfl) gis_name kis_name bis_name (ea_cons (dv 0) ea_nil)))), fun ws O S h => rd ws O S h⟩
abbrev sis_variable : Stmt := topS 23
theorem scis_variable : FnScope ["thing"] ["thing"] (defScope sis_variable) := ⟨rfl, rfl, rfl, by decide +kernel, rfl, by decide +kernel, by decide +kernel⟩
theorem okis_variable {f : Addr} {fd : FuncData} (F : FnP K "is_variable" sis_variable f fd) (z_isinstance : mg "isinstance" = none) (z_str : mg "str" = none) (z_len : mg "len" = none) {tGREAT_LETTERS : Tok} (c_GREAT_LETTERS : mg "GREAT_LETTERS" = some (.str "ABCDEFGHIJKLMNOPQRSTUVWXYZ" tGREAT_LETTERS))  
    (len : ∀ ws O S, sp_is_variable ws O S → ws.length = 1) (rd : ∀ ws O S, sp_is_variable ws O S → Dm.d_is_variable (outB S) (startD ["thing"] ws) O) : FnG P w K mg base 1 f fd ["thing"] sp_is_variable := by
  refine FunG F scis_variable len fun cdv A outer s H hr => ?_
  have sc := scis_variable
  exact ⟨Dm.d_is_variable, (eb_one (es_ret (ed_and (ed_callB call_isi src_isi (by rfl) z_isinstance (by decide +kernel) (ea_cons (dv 0) (ea_cons (ed_bltn (by rfl) z_str (by decide +kernel)) ea_nil))) (ed_and (ed_eq (ed_callB call_len_str src_lenS (by rfl) z_len PySem.boot_len (ea_cons (dv 0) ea_nil)) ed_int) (ed_one (ed_inS (dv 0) (ed_gstr (by rfl) c_GREAT_LETTERS))))))), fun ws O S h => rd ws O S h⟩
abbrev sare_names : Stmt := topS 24
theorem scare_names : FnScope ["thing", "least", "most", "entry"] ["thing", "least", "most"] (defScope sare_names) := ⟨rfl, rfl, rfl, by decide +kernel, rfl, by decide +kernel, by decide +kernel⟩
theorem okare_names {f : Addr} {fd : FuncData} (F : FnP K "are_names" sare_names f fd) (z_len : mg "len" = none) (z_all : mg "all" = none) (z_set : mg "set" = none) (z_tuple : mg "tuple" = none)   {fis_tuple : Addr} {fdis_tuple : FuncData} (Gis_tuple : FnG P w K mg base 1 fis_tuple fdis_tuple ["thing", "least", "most"] sp_is_tuple) (gis_tuple : mg "is_tuple" = some (.ref fis_tuple)) (kis_tuple : PySem.W.keepIn K (.ref fis_tuple) = true) (bis_tuple : Binds K fdis_tuple ["thing", "least", "most"] []) {fis_name : Addr} {fdis_name : FuncData} (Gis_name : FnG P w K mg base 1 fis_name fdis_name ["thing"] sp_is_name) (gis_name : mg "is_name" = some (.ref fis_name)) (kis_name : PySem.W.keepIn K (.ref fis_name) = true) (bis_name : Binds K fdis_name ["thing"] []) 
    (len : ∀ ws O S, sp_are_names ws O S → ws.length = 3) (rd : ∀ ws O S, sp_are_names ws O S → Dm.d_are_names (outB S) (startD ["thing", "least", "most", "entry"] ws) O) : FnG P w K mg base 2 f fd ["thing", "least", "most"] sp_are_names := by
  refine FunG F scare_names len fun cdv A outer s H hr => ?_
  have sc := scare_names
  exact ⟨Dm.d_are_names, (eb_cons (es_if (ew_or (et_not (et_val (ed_call Gis_tuple (hr.mono (by decide)) (by rfl) gis_tuple kis_tuple bis_tuple (ea_cons (dv 0) (ea_cons (dv 1) (ea_cons (dv 2) ea_nil)))))) (ew_or1 (et_not (et_val (ed_callB (cr_all rfl) src_all (by rfl) z_all (by decide +kernel) (ea_cons (ed_lc rfl sc.nd (own := [("entry", 3)]) (ei_tup (dv 0)) (blkOk_by (N := ["thing", "least", "most", "entry"]) (sc := defScope sare_names) (by decide +kernel)) (fun _ _ _ _ _ => (egc_name (i := 3) (by decide) sc.nd rfl (by first | exact Or.inl rfl | exact Or.inr rfl))) (fun _ _ _ _ _ => ets_nil) (fun _ _ _ _ _ => (ed_call Gis_name (hr.mono (by decide)) (by rfl) gis_name kis_name bis_name (ea_cons (dv 3) ea_nil)))) ea_nil)))))).t (eb_one (es_ret ed_bl)) eb_nil)
      (eb_one (es_ret (ed_eq (ed_lenSet rfl (by rfl) z_len (by rfl) z_set (dv 0)) (ed_callB call_len_seq src_len (by rfl) z_len PySem.boot_len (ea_cons (dv 0) ea_nil)))))), fun ws O S h => rd ws O S h⟩
abbrev svalues_by_feature : Stmt := topS 26
theorem scvalues_by_feature : FnScope ["features", "name", "values"] ["features"] (defScope svalues_by_feature) := ⟨rfl, rfl, rfl, by decide +kernel, rfl, by decide +kernel, by decide +kernel⟩
theorem okvalues_by_feature {f : Addr} {fd : FuncData} (F : FnP K "values_by_feature" svalues_by_feature f fd)    
    (len : ∀ ws O S, sp_values_by_feature ws O S → ws.length = 1) (rd : ∀ ws O S, sp_values_by_feature ws O S → Dm.d_values_by_feature (outB S) (startD ["features", "name", "values"] ws) O) : FnG P w K mg base 1 f fd ["features"] sp_values_by_feature := by
  refine FunG F scvalues_by_feature len fun cdv A outer s H hr => ?_
  have sc := scvalues_by_feature
  exact ⟨Dm.d_values_by_feature, (eb_one (es_ret (ed_dc rfl sc.nd (own := [("name", 1), ("values", 2)]) (ei_tup (dv 0)) (blkOk_by (N := ["features", "name", "values"]) (sc := defScope svalues_by_feature) (by decide +kernel)) (fun _ _ _ _ _ => (egc_tup rfl (egsc_cons (egc_name (i := 1) (by decide) sc.nd rfl (by first | exact Or.inl rfl | exact Or.inr rfl)) (egsc_cons (egc_name (i := 2) (by decide) sc.nd rfl (by first | exact Or.inl rfl | exact Or.inr rfl)) egsc_nil)))) (fun _ _ _ _ _ => ets_nil) (fun _ _ _ _ _ => (dv 1)) (fun _ _ _ _ _ => (dv 2))))), fun ws O S h => rd ws O S h⟩
abbrev ssorts_by_name : Stmt := topS 27
theorem scsorts_by_name : FnScope ["sorts", "name", "kind", "left", "right"] ["sorts"] (defScope ssorts_by_name) := ⟨rfl, rfl, rfl, by decide +kernel, rfl, by decide +kernel, by decide +kernel⟩
theorem oksorts_by_name {f : Addr} {fd : FuncData} (F : FnP K "sorts_by_name" ssorts_by_name f fd)    
    (len : ∀ ws O S, sp_sorts_by_name ws O S → ws.length = 1) (rd : ∀ ws O S, sp_sorts_by_name ws O S → Dm.d_sorts_by_name (outB S) (startD ["sorts", "name", "kind", "left", "right"] ws) O) : FnG P w K mg base 1 f fd ["sorts"] sp_sorts_by_name := by
  refine FunG F scsorts_by_name len fun cdv A outer s H hr => ?_
  have sc := scsorts_by_name
  exact ⟨Dm.d_sorts_by_name, (eb_one (es_ret (ed_dc rfl sc.nd (own := [("name", 1), ("kind", 2), ("left", 3), ("right", 4)]) (ei_tup (dv 0)) (blkOk_by (N := ["sorts", "name", "kind", "left", "right"]) (sc := defScope ssorts_by_name) (by decide +kernel)) (fun _ _ _ _ _ => (egc_tup rfl (egsc_cons (egc_name (i := 1) (by decide) sc.nd rfl (by first | exact Or.inl rfl | exact Or.inr rfl)) (egsc_cons (egc_name (i := 2) (by decide) sc.nd rfl (by first | exact Or.inl rfl | exact Or.inr rfl)) (egsc_cons (egc_name (i := 3) (by decide) sc.nd rfl (by first | exact Or.inl rfl | exact Or.inr rfl)) (egsc_cons (egc_name (i := 4) (by decide) sc.nd rfl (by first | exact Or.inl rfl | exact Or.inr rfl)) egsc_nil)))))) (fun _ _ _ _ _ => ets_nil) (fun _ _ _ _ _ => (dv 1)) (fun _ _ _ _ _ => (ed_tup (ea_cons (dv 2) (ea_cons (dv 3) (ea_cons (dv 4) ea_nil)))))))), fun ws O S h => rd ws O S h⟩
abbrev sstands_for : Stmt := topS 28
theorem scstands_for : FnScope ["term", "feature", "values", "variables"] ["term", "feature", "values", "variables"] (defScope sstands_for) := ⟨rfl, rfl, rfl, by decide +kernel, rfl, by decide +kernel, by decide +kernel⟩
theorem okstands_for {f : Addr} {fd : FuncData} (F : FnP K "stands_for" sstands_for f fd) (z_len : mg "len" = none) {tMOST_VARIABLES : Tok} (c_MOST_VARIABLES : mg "MOST_VARIABLES" = some (.int 3 tMOST_VARIABLES))  {fis_one_of : Addr} {fdis_one_of : FuncData} (Gis_one_of : FnG P w K mg base 1 fis_one_of fdis_one_of ["thing", "words"] sp_is_one_of) (gis_one_of : mg "is_one_of" = some (.ref fis_one_of)) (kis_one_of : PySem.W.keepIn K (.ref fis_one_of) = true) (bis_one_of : Binds K fdis_one_of ["thing", "words"] []) {fis_variable : Addr} {fdis_variable : FuncData} (Gis_variable : FnG P w K mg base 1 fis_variable fdis_variable ["thing"] sp_is_variable) (gis_variable : mg "is_variable" = some (.ref fis_variable)) (kis_variable : PySem.W.keepIn K (.ref fis_variable) = true) (bis_variable : Binds K fdis_variable ["thing"] []) 
    (len : ∀ ws O S, sp_stands_for ws O S → ws.length = 4) (rd : ∀ ws O S, sp_stands_for ws O S → Dm.d_stands_for (outB S) (startD ["term", "feature", "values", "variables"] ws) O) : FnG P w K mg base 2 f fd ["term", "feature", "values", "variables"] sp_stands_for := by
  refine FunG F scstands_for len fun cdv A outer s H hr => ?_
  have sc := scstands_for
  exact ⟨Dm.d_stands_for, (eb_cons (es_if (et_val (ed_call Gis_one_of (hr.mono (by decide)) (by rfl) gis_one_of kis_one_of bis_one_of (ea_cons (dv 0) (ea_cons (ed_ixD (hu_of hr.r) (dv 2) (dv 1)) ea_nil)))) (eb_one (es_ret ed_bl)) eb_nil)
      (eb_cons (es_if (et_not (et_val (ed_call Gis_variable (hr.mono (by decide)) (by rfl) gis_variable kis_variable bis_variable (ea_cons (dv 0) ea_nil)))) (eb_one (es_ret ed_bl)) eb_nil)
      (eb_cons (es_if (et_inD (hu_of hr.r) (dv 0) (dv 3)) (eb_one (es_ret (ed_eq (ed_ixD (hu_of hr.r) (dv 3) (dv 0)) (dv 1)))) eb_nil)
      (eb_one (es_ret (ed_lt (ed_callB call_lenD src_lenD (by rfl) z_len PySem.boot_len (ea_cons (dv 3) ea_nil)) (ed_gint (by rfl) c_MOST_VARIABLES))))))), fun ws O S h => rd ws O S h⟩
abbrev snote_variable : Stmt := topS 29
theorem scnote_variable : FnScope ["term", "feature", "variables"] ["term", "feature", "variables"] (defScope snote_variable) := ⟨rfl, rfl, rfl, by decide +kernel, rfl, by decide +kernel, by decide +kernel⟩
theorem oknote_variable {f : Addr} {fd : FuncData} (F : FnP K "note_variable" snote_variable f fd)    {fis_variable : Addr} {fdis_variable : FuncData} (Gis_variable : FnG P w K mg base 1 fis_variable fdis_variable ["thing"] sp_is_variable) (gis_variable : mg "is_variable" = some (.ref fis_variable)) (kis_variable : PySem.W.keepIn K (.ref fis_variable) = true) (bis_variable : Binds K fdis_variable ["thing"] []) 
    (len : ∀ ws O S, sp_note_variable ws O S → ws.length = 3) (rd : ∀ ws O S, sp_note_variable ws O S → Dm.d_note_variable (outB S) (startD ["term", "feature", "variables"] ws) O) : FnG P w K mg base 2 f fd ["term", "feature", "variables"] sp_note_variable := by
  refine FunG F scnote_variable len fun cdv A outer s H hr => ?_
  have sc := scnote_variable
  exact ⟨Dm.d_note_variable, (eb_one (es_if (et_val (ed_call Gis_variable (hr.mono (by decide)) (by rfl) gis_variable kis_variable bis_variable (ea_cons (dv 0) ea_nil))) (eb_one (es_dput (hu_of hr.r) (dv 2) (dv 0) (dv 1))) eb_nil)), fun ws O S h => rd ws O S h⟩
abbrev sare_terms : Stmt := topS 32
theorem scare_terms : FnScope ["thing", "features", "values", "variables", "term", "feature"] ["thing", "features", "values", "variables"] (defScope sare_terms) := ⟨rfl, rfl, rfl, by decide +kernel, rfl, by decide +kernel, by decide +kernel⟩
theorem okare_terms {f : Addr} {fd : FuncData} (F : FnP K "are_terms" sare_terms f fd) (z_zip : mg "zip" = none) (z_len : mg "len" = none) (z_tuple : mg "tuple" = none)   {fis_tuple : Addr} {fdis_tuple : FuncData} (Gis_tuple : FnG P w K mg base 1 fis_tuple fdis_tuple ["thing", "least", "most"] sp_is_tuple) (gis_tuple : mg "is_tuple" = some (.ref fis_tuple)) (kis_tuple : PySem.W.keepIn K (.ref fis_tuple) = true) (bis_tuple : Binds K fdis_tuple ["thing", "least", "most"] []) {fnote_variable : Addr} {fdnote_variable : FuncData} (Gnote_variable : FnG P w K mg base 2 fnote_variable fdnote_variable ["term", "feature", "variables"] sp_note_variable) (gnote_variable : mg "note_variable" = some (.ref fnote_variable)) (knote_variable : PySem.W.keepIn K (.ref fnote_variable) = true) (bnote_variable : Binds K fdnote_variable ["term", "feature", "variables"] []) {fstands_for : Addr} {fdstands_for : FuncData} (Gstands_for : FnG P w K mg base 2 fstands_for fdstands_for ["term", "feature", "values", "variables"] sp_stands_for) (gstands_for : mg "stands_for" = some (.ref fstands_for)) (kstands_for : PySem.W.keepIn K (.ref fstands_for) = true) (bstands_for : Binds K fdstands_for ["term", "feature", "values", "variables"] []) 
    (len : ∀ ws O S, sp_are_terms ws O S → ws.length = 4) (rd : ∀ ws O S, sp_are_terms ws O S → Dm.d_are_terms (outB S) (startD ["thing", "features", "values", "variables", "term", "feature"] ws) O) : FnG P w K mg base 3 f fd ["thing", "features", "values", "variables"] sp_are_terms := by
  refine FunG F scare_terms len fun cdv A outer s H hr => ?_
  have sc := scare_terms
  exact ⟨Dm.d_are_terms, (eb_cons (es_if (et_not (et_val (ed_call Gis_tuple (hr.mono (by decide)) (by rfl) gis_tuple kis_tuple bis_tuple (ea_cons (dv 0) (ea_cons (ed_callB call_len_seq src_len (by rfl) z_len PySem.boot_len (ea_cons (dv 1) ea_nil)) (ea_cons (ed_callB call_len_seq src_len (by rfl) z_len PySem.boot_len (ea_cons (dv 1) ea_nil)) ea_nil)))))) (eb_one (es_ret ed_bl)) eb_nil)
      (eb_cons (es_for PassesOwn.never rfl (ei_zip (by rfl) z_zip (ea_cons (dv 0) (ea_cons (dv 1) ea_nil))) (eg_tup rfl (egs_cons (eg_name (i := 4) sc.nd rfl (by first | exact Or.inl rfl | exact Or.inr rfl)) (egs_cons (eg_name (i := 5) sc.nd rfl (by first | exact Or.inl rfl | exact Or.inr rfl)) egs_nil))) (eb_cons (es_if (et_not (et_val (ed_call Gstands_for (hr.mono (by decide)) (by rfl) gstands_for kstands_for bstands_for (ea_cons (dv 4) (ea_cons (dv 5) (ea_cons (dv 2) (ea_cons (dv 3) ea_nil))))))) (eb_one (es_ret ed_bl)) eb_nil)
      (eb_one (es_expr (ed_call Gnote_variable (hr.mono (by decide)) (by rfl) gnote_variable knote_variable bnote_variable (ea_cons (dv 4) (ea_cons (dv 5) (ea_cons (dv 3) ea_nil))))))))
      (eb_one (es_ret ed_bl)))), fun ws O S h => rd ws O S h⟩
abbrev sis_category : Stmt := topS 31
theorem scis_category : FnScope ["thing", "values", "sorts", "variables", "sort", "left", "right", "_", "left_features", "right_features"] ["thing", "values", "sorts", "variables"] (defScope sis_category) := ⟨rfl, rfl, rfl, by decide +kernel, rfl, by decide +kernel, by decide +kernel⟩
theorem okis_category {f : Addr} {fd : FuncData} (F : FnP K "is_category" sis_category f fd) (z_tuple : mg "tuple" = none)   {fare_terms : Addr} {fdare_terms : FuncData} (Gare_terms : FnG P w K mg base 3 fare_terms fdare_terms ["thing", "features", "values", "variables"] sp_are_terms) (gare_terms : mg "are_terms" = some (.ref fare_terms)) (kare_terms : PySem.W.keepIn K (.ref fare_terms) = true) (bare_terms : Binds K fdare_terms ["thing", "features", "values", "variables"] []) {fis_tuple : Addr} {fdis_tuple : FuncData} (Gis_tuple : FnG P w K mg base 1 fis_tuple fdis_tuple ["thing", "least", "most"] sp_is_tuple) (gis_tuple : mg "is_tuple" = some (.ref fis_tuple)) (kis_tuple : PySem.W.keepIn K (.ref fis_tuple) = true) (bis_tuple : Binds K fdis_tuple ["thing", "least", "most"] []) {fis_one_of : Addr} {fdis_one_of : FuncData} (Gis_one_of : FnG P w K mg base 1 fis_one_of fdis_one_of ["thing", "words"] sp_is_one_of) (gis_one_of : mg "is_one_of" = some (.ref fis_one_of)) (kis_one_of : PySem.W.keepIn K (.ref fis_one_of) = true) (bis_one_of : Binds K fdis_one_of ["thing", "words"] []) 
    (len : ∀ ws O S, sp_is_category ws O S → ws.length = 4) (rd : ∀ ws O S, sp_is_category ws O S → Dm.d_is_category (outB S) (startD ["thing", "values", "sorts", "variables", "sort", "left", "right", "_", "left_features", "right_features"] ws) O) : FnG P w K mg base 4 f fd ["thing", "values", "sorts", "variables"] sp_is_category := by
  refine FunG F scis_category len fun cdv A outer s H hr => ?_
  have sc := scis_category
  exact ⟨Dm.d_is_category, (eb_cons (es_if (ew_or (et_not (et_val (ed_call Gis_tuple (hr.mono (by decide)) (by rfl) gis_tuple kis_tuple bis_tuple (ea_cons (dv 0) (ea_cons ed_int (ea_cons ed_int ea_nil)))))) (ew_or1 (et_not (et_val (ed_call Gis_one_of (hr.mono (by decide)) (by rfl) gis_one_of kis_one_of bis_one_of (ea_cons (ed_ixT (dv 0) ed_int) (ea_cons (dv 2) ea_nil))))))).t (eb_one (es_ret ed_bl)) eb_nil)
      (eb_cons (es_asg (dv 0) (eg_tup rfl (egs_cons (eg_name (i := 4) sc.nd rfl (by first | exact Or.inl rfl | exact Or.inr rfl)) (egs_cons (eg_name (i := 5) sc.nd rfl (by first | exact Or.inl rfl | exact Or.inr rfl)) (egs_cons (eg_name (i := 6) sc.nd rfl (by first | exact Or.inl rfl | exact Or.inr rfl)) egs_nil)))))
      (eb_cons (es_asg (ed_ixD (hu_of hr.r) (dv 2) (dv 4)) (eg_tup rfl (egs_cons (eg_name (i := 7) sc.nd rfl (by first | exact Or.inl rfl | exact Or.inr rfl)) (egs_cons (eg_name (i := 8) sc.nd rfl (by first | exact Or.inl rfl | exact Or.inr rfl)) (egs_cons (eg_name (i := 9) sc.nd rfl (by first | exact Or.inl rfl | exact Or.inr rfl)) egs_nil)))))
      (eb_cons (es_if (et_not (et_val (ed_call Gare_terms (hr.mono (by decide)) (by rfl) gare_terms kare_terms bare_terms (ea_cons (dv 5) (ea_cons (dv 8) (ea_cons (dv 1) (ea_cons (dv 3) ea_nil))))))) (eb_one (es_ret ed_bl)) eb_nil)
      (eb_one (es_ret (ed_call Gare_terms (hr.mono (by decide)) (by rfl) gare_terms kare_terms bare_terms (ea_cons (dv 6) (ea_cons (dv 9) (ea_cons (dv 1) (ea_cons (dv 3) ea_nil))))))))))), fun ws O S h => rd ws O S h⟩
abbrev sare_categories : Stmt := topS 30
theorem scare_categories : FnScope ["things", "values", "sorts", "variables", "thing"] ["things", "values", "sorts"] (defScope sare_categories) := ⟨rfl, rfl, rfl, by decide +kernel, rfl, by decide +kernel, by decide +kernel⟩
theorem okare_categories {f : Addr} {fd : FuncData} (F : FnP K "are_categories" sare_categories f fd)    {fis_category : Addr} {fdis_category : FuncData} (Gis_category : FnG P w K mg base 4 fis_category fdis_category ["thing", "values", "sorts", "variables"] sp_is_category) (gis_category : mg "is_category" = some (.ref fis_category)) (kis_category : PySem.W.keepIn K (.ref fis_category) = true) (bis_category : Binds K fdis_category ["thing", "values", "sorts", "variables"] []) 
    (len : ∀ ws O S, sp_are_categories ws O S → ws.length = 3) (rd : ∀ ws O S, sp_are_categories ws O S → Dm.d_are_categories (outB S) (startD ["things", "values", "sorts", "variables", "thing"] ws) O) : FnG P w K mg base 5 f fd ["things", "values", "sorts"] sp_are_categories := by
  refine FunG F scare_categories len fun cdv A outer s H hr => ?_
  have sc := scare_categories
  exact ⟨Dm.d_are_categories, (eb_cons (es_set (i := 3) sc.nd rfl (by first | exact Or.inl rfl | exact Or.inr rfl) ed_dnew)
      (eb_cons (es_for PassesOwn.never rfl (ei_tup (dv 0)) (eg_name (i := 4) sc.nd rfl (by first | exact Or.inl rfl | exact Or.inr rfl)) (eb_one (es_if (et_not (et_val (ed_call Gis_category (hr.mono (by decide)) (by rfl) gis_category kis_category bis_category (ea_cons (dv 4) (ea_cons (dv 1) (ea_cons (dv 2) (ea_cons (dv 3) ea_nil))))))) (eb_one (es_ret ed_bl)) eb_nil)))
      (eb_one (es_ret ed_bl)))), fun ws O S h => rd ws O S h⟩
abbrev sis_kind : Stmt := topS 40
theorem scis_kind : FnScope ["thing"] ["thing"] (defScope sis_kind) := ⟨rfl, rfl, rfl, by decide +kernel, rfl, by decide +kernel, by decide +kernel⟩
theorem okis_kind {f : Addr} {fd : FuncData} (F : FnP K "is_kind" sis_kind f fd)  (c_KINDS : GTup K mg "KINDS" [.str "set", .str "part", .str "truth"])  {fis_one_of : Addr} {fdis_one_of : FuncData} (Gis_one_of : FnG P w K mg base 1 fis_one_of fdis_one_of ["thing", "words"] sp_is_one_of) (gis_one_of : mg "is_one_of" = some (.ref fis_one_of)) (kis_one_of : PySem.W.keepIn K (.ref fis_one_of) = true) (bis_one_of : Binds K fdis_one_of ["thing", "words"] []) 
    (len : ∀ ws O S, sp_is_kind ws O S → ws.length = 1) (rd : ∀ ws O S, sp_is_kind ws O S → Dm.d_is_kind (outB S) (startD ["thing"] ws) O) : FnG P w K mg base 2 f fd ["thing"] sp_is_kind := by
  refine FunG F scis_kind len fun cdv A outer s H hr => ?_
  have sc := scis_kind
  exact ⟨Dm.d_is_kind, (eb_one (es_ret (ed_call Gis_one_of (hr.mono (by decide)) (by rfl) gis_one_of kis_one_of bis_one_of (ea_cons (dv 0) (ea_cons (ed_gtup (by rfl) c_KINDS) ea_nil))))), fun ws O S h => rd ws O S h⟩
abbrev sparts_of : Stmt := topS 41
theorem scparts_of : FnScope ["kind", "word"] ["kind", "word"] (defScope sparts_of) := ⟨rfl, rfl, rfl, by decide +kernel, rfl, by decide +kernel, by decide +kernel⟩
theorem okparts_of {f : Addr} {fd : FuncData} (F : FnP K "parts_of" sparts_of f fd)  (c_PARTS : PTab P w K mg "PARTS" partsTab)  
    (len : ∀ ws O S, sp_parts_of ws O S → ws.length = 2) (rd : ∀ ws O S, sp_parts_of ws O S → Dm.d_parts_of (outB S) (startD ["kind", "word"] ws) O) : FnG P w K mg base 1 f fd ["kind", "word"] sp_parts_of := by
  refine FunG F scparts_of len fun cdv A outer s H hr => ?_
  have sc := scparts_of
  exact ⟨Dm.d_parts_of, (eb_one (es_ret (ed_parts c_PARTS (hu_of hr.r) (by rfl) (ea_cons (dv 0) (ea_cons (dv 1) ea_nil))))), fun ws O S h => rd ws O S h⟩
abbrev sis_hole : Stmt := topS 46
theorem scis_hole : FnScope ["thing", "kind", "hole_kinds"] ["thing", "kind", "hole_kinds"] (defScope sis_hole) := ⟨rfl, rfl, rfl, by decide +kernel, rfl, by decide +kernel, by decide +kernel⟩
theorem okis_hole {f : Addr} {fd : FuncData} (F : FnP K "is_hole" sis_hole f fd) (z_len : mg "len" = none)   {fis_integer : Addr} {fdis_integer : FuncData} (Gis_integer : FnG P w K mg base 1 fis_integer fdis_integer ["thing"] sp_is_integer) (gis_integer : mg "is_integer" = some (.ref fis_integer)) (kis_integer : PySem.W.keepIn K (.ref fis_integer) = true) (bis_integer : Binds K fdis_integer ["thing"] []) 
    (len : ∀ ws O S, sp_is_hole ws O S → ws.length = 3) (rd : ∀ ws O S, sp_is_hole ws O S → Dm.d_is_hole (outB S) (startD ["thing", "kind", "hole_kinds"] ws) O) : FnG P w K mg base 2 f fd ["thing", "kind", "hole_kinds"] sp_is_hole := by
  refine FunG F scis_hole len fun cdv A outer s H hr => ?_
  have sc := scis_hole
  exact ⟨Dm.d_is_hole, (eb_one (es_ret (ed_and (ed_call Gis_integer (hr.mono (by decide)) (by rfl) gis_integer kis_integer bis_integer (ea_cons (dv 0) ea_nil)) (ed_and (ed_chain op_le op_lt (sr_I0 fun _ _ _ _ => .bl _) (sr_I0 fun _ _ _ _ => .bl _) ed_int (dv 0) (ed_callB call_len_seq src_len (by rfl) z_len PySem.boot_len (ea_cons (dv 2) ea_nil))) (ed_one (ed_eq (ed_ixL (dv 2) (dv 0)) (dv 1))))))), fun ws O S h => rd ws O S h⟩
abbrev sis_node : Stmt := topS 45
theorem scis_node : FnScope ["thing", "kind", "marks", "hole_kinds", "parts"] ["thing", "kind", "marks", "hole_kinds"] (defScope sis_node) := ⟨rfl, rfl, rfl, by decide +kernel, rfl, by decide +kernel, by decide +kernel⟩
theorem okis_node {f : Addr} {fd : FuncData} (F : FnP K "is_node" sis_node f fd) (z_len : mg "len" = none) (z_isinstance : mg "isinstance" = none) (z_tuple : mg "tuple" = none) (z_str : mg "str" = none)   {fparts_of : Addr} {fdparts_of : FuncData} (Gparts_of : FnG P w K mg base 1 fparts_of fdparts_of ["kind", "word"] sp_parts_of) (gparts_of : mg "parts_of" = some (.ref fparts_of)) (kparts_of : PySem.W.keepIn K (.ref fparts_of) = true) (bparts_of : Binds K fdparts_of ["kind", "word"] []) {fis_hole : Addr} {fdis_hole : FuncData} (Gis_hole : FnG P w K mg base 2 fis_hole fdis_hole ["thing", "kind", "hole_kinds"] sp_is_hole) (gis_hole : mg "is_hole" = some (.ref fis_hole)) (kis_hole : PySem.W.keepIn K (.ref fis_hole) = true) (bis_hole : Binds K fdis_hole ["thing", "kind", "hole_kinds"] []) {fis_one_of : Addr} {fdis_one_of : FuncData} (Gis_one_of : FnG P w K mg base 1 fis_one_of fdis_one_of ["thing", "words"] sp_is_one_of) (gis_one_of : mg "is_one_of" = some (.ref fis_one_of)) (kis_one_of : PySem.W.keepIn K (.ref fis_one_of) = true) (bis_one_of : Binds K fdis_one_of ["thing", "words"] []) 
    (len : ∀ ws O S, sp_is_node ws O S → ws.length = 4) (rd : ∀ ws O S, sp_is_node ws O S → Dm.d_is_node (outB S) (startD ["thing", "kind", "marks", "hole_kinds", "parts"] ws) O) : FnG P w K mg base 3 f fd ["thing", "kind", "marks", "hole_kinds"] sp_is_node := by
  refine FunG F scis_node len fun cdv A outer s H hr => ?_
  have sc := scis_node
  exact ⟨Dm.d_is_node, (eb_cons (es_if (ew_or (et_not (et_val (ed_callB call_isi src_isi (by rfl) z_isinstance (by decide +kernel) (ea_cons (dv 0) (ea_cons (ed_bltn (by rfl) z_tuple (by decide +kernel)) ea_nil))))) (ew_or (et_eq (ed_callB call_len_seq src_len (by rfl) z_len PySem.boot_len (ea_cons (dv 0) ea_nil)) ed_int) (ew_or1 (et_not (et_val (ed_callB call_isi src_isi (by rfl) z_isinstance (by decide +kernel) (ea_cons (ed_ixT (dv 0) ed_int) (ea_cons (ed_bltn (by rfl) z_str (by decide +kernel)) ea_nil)))))))).t (eb_one (es_ret ed_bl)) eb_nil)
      (eb_cons (es_if (et_eq (ed_ixT (dv 0) ed_int) ed_str) (eb_one (es_ret (ed_and (ed_eq (ed_callB call_len_seq src_len (by rfl) z_len PySem.boot_len (ea_cons (dv 0) ea_nil)) ed_int) (ed_one (ed_call Gis_hole (hr.mono (by decide)) (by rfl) gis_hole kis_hole bis_hole (ea_cons (ed_ixT (dv 0) ed_int) (ea_cons (dv 1) (ea_cons (dv 3) ea_nil)))))))) eb_nil)
      (eb_cons (es_set (i := 4) sc.nd rfl (by first | exact Or.inl rfl | exact Or.inr rfl) (ed_call Gparts_of (hr.mono (by decide)) (by rfl) gparts_of kparts_of bparts_of (ea_cons (dv 1) (ea_cons (ed_ixT (dv 0) ed_int) ea_nil))))
      (eb_cons (es_if (et_isN (dv 4)) (eb_one (es_ret ed_bl)) eb_nil)
      (eb_cons (es_if (et_eq (ed_ixT (dv 0) ed_int) ed_str) (eb_one (es_ret (ed_and (ed_eq (ed_callB call_len_seq src_len (by rfl) z_len PySem.boot_len (ea_cons (dv 0) ea_nil)) ed_int) (ed_one (ed_call Gis_one_of (hr.mono (by decide)) (by rfl) gis_one_of kis_one_of bis_one_of (ea_cons (ed_ixT (dv 0) ed_int) (ea_cons (dv 2) ea_nil))))))) eb_nil)
      (eb_one (es_ret (ed_eq (ed_callB call_len_seq src_len (by rfl) z_len PySem.boot_len (ea_cons (dv 0) ea_nil)) (ed_add ed_int (ed_callB call_len_seq src_len (by rfl) z_len PySem.boot_len (ea_cons (dv 4) ea_nil))))))))))), fun ws O S h => rd ws O S h⟩
abbrev sis_term : Stmt := topS 44
theorem scis_term : FnScope ["thing", "kind", "marks", "hole_kinds", "most", "deepest", "waiting", "seen", "holes", "term", "wanted", "depth", "inner", "part", "part_kind"] ["thing", "kind", "marks", "hole_kinds", "most", "deepest"] (defScope sis_term) := ⟨rfl, rfl, rfl, by decide +kernel, rfl, by decide +kernel, by decide +kernel⟩
theorem okis_term {f : Addr} {fd : FuncData} (F : FnP K "is_term" sis_term f fd) (z_len : mg "len" = none) (z_set : mg "set" = none) (z_zip : mg "zip" = none)   {fparts_of : Addr} {fdparts_of : FuncData} (Gparts_of : FnG P w K mg base 1 fparts_of fdparts_of ["kind", "word"] sp_parts_of) (gparts_of : mg "parts_of" = some (.ref fparts_of)) (kparts_of : PySem.W.keepIn K (.ref fparts_of) = true) (bparts_of : Binds K fdparts_of ["kind", "word"] []) {fis_node : Addr} {fdis_node : FuncData} (Gis_node : FnG P w K mg base 3 fis_node fdis_node ["thing", "kind", "marks", "hole_kinds"] sp_is_node) (gis_node : mg "is_node" = some (.ref fis_node)) (kis_node : PySem.W.keepIn K (.ref fis_node) = true) (bis_node : Binds K fdis_node ["thing", "kind", "marks", "hole_kinds"] []) 
    (len : ∀ ws O S, sp_is_term ws O S → ws.length = 6) (rd : ∀ ws O S, sp_is_term ws O S → Dm.d_is_term (outB S) (startD ["thing", "kind", "marks", "hole_kinds", "most", "deepest", "waiting", "seen", "holes", "term", "wanted", "depth", "inner", "part", "part_kind"] ws) O) : FnG P w K mg base 4 f fd ["thing", "kind", "marks", "hole_kinds", "most", "deepest"] sp_is_term := by
  refine FunG F scis_term len fun cdv A outer s H hr => ?_
  have sc := scis_term
  exact ⟨Dm.d_is_term, (eb_cons (es_set (i := 6) sc.nd rfl (by first | exact Or.inl rfl | exact Or.inr rfl) (ed_lst (ea_cons (ed_tup (ea_cons (dv 0) (ea_cons (dv 1) (ea_cons ed_int ea_nil)))) ea_nil)))
      (eb_cons (es_set (i := 7) sc.nd rfl (by first | exact Or.inl rfl | exact Or.inr rfl) ed_int)
      (eb_cons (es_set (i := 8) sc.nd rfl (by first | exact Or.inl rfl | exact Or.inr rfl) (ed_lst ea_nil))
      (eb_cons (es_while PassesOwn.never (et_tru (dv 6)) (eb_cons (es_asg (ed_bm0 PySem.F.plainAttrs_list PySem.F.slot_list_pop PySem.F.type_list_pop mt_pop sty_L srm_pop (dv 6)) (eg_tup rfl (egs_cons (eg_name (i := 9) sc.nd rfl (by first | exact Or.inl rfl | exact Or.inr rfl)) (egs_cons (eg_name (i := 10) sc.nd rfl (by first | exact Or.inl rfl | exact Or.inr rfl)) (egs_cons (eg_name (i := 11) sc.nd rfl (by first | exact Or.inl rfl | exact Or.inr rfl)) egs_nil)))))
      (eb_cons (es_augAdd (i := 7) sc.nd rfl (by first | exact Or.inl rfl | exact Or.inr rfl) ed_int)
      (eb_cons (es_if (ew_or (et_gt (dv 7) (dv 4)) (ew_or (et_gt (dv 11) (dv 5)) (ew_or1 (et_not (et_val (ed_call Gis_node (hr.mono (by decide)) (by rfl) gis_node kis_node bis_node (ea_cons (dv 9) (ea_cons (dv 10) (ea_cons (dv 2) (ea_cons (dv 3) ea_nil)))))))))).t (eb_one (es_ret ed_bl)) eb_nil)
      (eb_one (es_if (et_eq (ed_ixT (dv 9) ed_int) ed_str) (eb_one (es_expr (ed_bm PySem.F.plainAttrs_list PySem.F.slot_list_append PySem.F.type_list_append mt_append sty_L srm_append (dv 8) (ea_cons (ed_ixT (dv 9) ed_int) ea_nil)))) (eb_cons (es_set (i := 12) sc.nd rfl (by first | exact Or.inl rfl | exact Or.inr rfl) (ed_call Gparts_of (hr.mono (by decide)) (by rfl) gparts_of kparts_of bparts_of (ea_cons (dv 10) (ea_cons (ed_ixT (dv 9) ed_int) ea_nil))))
      (eb_one (es_expr (ed_bm PySem.F.plainAttrs_list PySem.F.slot_list_extend PySem.F.type_list_extend mt_extend sty_L srm_extend (dv 6) (ea_cons (ed_lc rfl sc.nd (own := [("part", 13), ("part_kind", 14)]) (ei_zip (by rfl) z_zip (ea_cons (ed_slT (dv 9) (eo_some ed_int) eo_none) (ea_cons (dv 12) ea_nil))) (blkOk_by (N := ["thing", "kind", "marks", "hole_kinds", "most", "deepest", "waiting", "seen", "holes", "term", "wanted", "depth", "inner", "part", "part_kind"]) (sc := defScope sis_term) (by decide +kernel)) (fun _ _ _ _ _ => (egc_tup rfl (egsc_cons (egc_name (i := 13) (by decide) sc.nd rfl (by first | exact Or.inl rfl | exact Or.inr rfl)) (egsc_cons (egc_name (i := 14) (by decide) sc.nd rfl (by first | exact Or.inl rfl | exact Or.inr rfl)) egsc_nil)))) (fun _ _ _ _ _ => ets_nil) (fun _ _ _ _ _ => (ed_tup (ea_cons (dv 13) (ea_cons (dv 14) (ea_cons (ed_add (dv 11) ed_int) ea_nil)))))) ea_nil)))))))))))
      (eb_one (es_ret (ed_eq (ed_lenSetI rfl (by rfl) z_len (by rfl) z_set (dv 8)) (ed_callB call_len_seq src_len (by rfl) z_len PySem.boot_len (ea_cons (dv 8) ea_nil))))))))), fun ws O S h => rd ws O S h⟩
abbrev sis_meaning : Stmt := topS 42
theorem scis_meaning : FnScope ["thing", "kind", "marks", "hole_kinds"] ["thing", "kind", "marks", "hole_kinds"] (defScope sis_meaning) := ⟨rfl, rfl, rfl, by decide +kernel, rfl, by decide +kernel, by decide +kernel⟩
theorem okis_meaning {f : Addr} {fd : FuncData} (F : FnP K "is_meaning" sis_meaning f fd)  {tMOST_TERMS : Tok} (c_MOST_TERMS : mg "MOST_TERMS" = some (.int 12 tMOST_TERMS)) {tMOST_DEPTH : Tok} (c_MOST_DEPTH : mg "MOST_DEPTH" = some (.int 5 tMOST_DEPTH))  {fis_term : Addr} {fdis_term : FuncData} (Gis_term : FnG P w K mg base 4 fis_term fdis_term ["thing", "kind", "marks", "hole_kinds", "most", "deepest"] sp_is_term) (gis_term : mg "is_term" = some (.ref fis_term)) (kis_term : PySem.W.keepIn K (.ref fis_term) = true) (bis_term : Binds K fdis_term ["thing", "kind", "marks", "hole_kinds", "most", "deepest"] []) 
    (len : ∀ ws O S, sp_is_meaning ws O S → ws.length = 4) (rd : ∀ ws O S, sp_is_meaning ws O S → Dm.d_is_meaning (outB S) (startD ["thing", "kind", "marks", "hole_kinds"] ws) O) : FnG P w K mg base 5 f fd ["thing", "kind", "marks", "hole_kinds"] sp_is_meaning := by
  refine FunG F scis_meaning len fun cdv A outer s H hr => ?_
  have sc := scis_meaning
  exact ⟨Dm.d_is_meaning, (eb_one (es_ret (ed_call Gis_term (hr.mono (by decide)) (by rfl) gis_term kis_term bis_term (ea_cons (dv 0) (ea_cons (dv 1) (ea_cons (dv 2) (ea_cons (dv 3) (ea_cons (ed_gint (by rfl) c_MOST_TERMS) (ea_cons (ed_gint (by rfl) c_MOST_DEPTH) ea_nil))))))))), fun ws O S h => rd ws O S h⟩
abbrev sis_closed_term : Stmt := topS 43
theorem scis_closed_term : FnScope ["thing", "kind", "marks"] ["thing", "kind", "marks"] (defScope sis_closed_term) := ⟨rfl, rfl, rfl, by decide +kernel, rfl, by decide +kernel, by decide +kernel⟩
theorem okis_closed_term {f : Addr} {fd : FuncData} (F : FnP K "is_closed_term" sis_closed_term f fd)  {tMOST_CLOSED_TERMS : Tok} (c_MOST_CLOSED_TERMS : mg "MOST_CLOSED_TERMS" = some (.int 300 tMOST_CLOSED_TERMS)) {tMOST_CLOSED_DEPTH : Tok} (c_MOST_CLOSED_DEPTH : mg "MOST_CLOSED_DEPTH" = some (.int 80 tMOST_CLOSED_DEPTH))  {fis_term : Addr} {fdis_term : FuncData} (Gis_term : FnG P w K mg base 4 fis_term fdis_term ["thing", "kind", "marks", "hole_kinds", "most", "deepest"] sp_is_term) (gis_term : mg "is_term" = some (.ref fis_term)) (kis_term : PySem.W.keepIn K (.ref fis_term) = true) (bis_term : Binds K fdis_term ["thing", "kind", "marks", "hole_kinds", "most", "deepest"] []) 
    (len : ∀ ws O S, sp_is_closed_term ws O S → ws.length = 3) (rd : ∀ ws O S, sp_is_closed_term ws O S → Dm.d_is_closed_term (outB S) (startD ["thing", "kind", "marks"] ws) O) : FnG P w K mg base 5 f fd ["thing", "kind", "marks"] sp_is_closed_term := by
  refine FunG F scis_closed_term len fun cdv A outer s H hr => ?_
  have sc := scis_closed_term
  exact ⟨Dm.d_is_closed_term, (eb_one (es_ret (ed_call Gis_term (hr.mono (by decide)) (by rfl) gis_term kis_term bis_term (ea_cons (dv 0) (ea_cons (dv 1) (ea_cons (dv 2) (ea_cons (ed_tup ea_nil) (ea_cons (ed_gint (by rfl) c_MOST_CLOSED_TERMS) (ea_cons (ed_gint (by rfl) c_MOST_CLOSED_DEPTH) ea_nil))))))))), fun ws O S h => rd ws O S h⟩
abbrev snames_differ : Stmt := topS 50
theorem scnames_differ : FnScope ["things", "thing"] ["things"] (defScope snames_differ) := ⟨rfl, rfl, rfl, by decide +kernel, rfl, by decide +kernel, by decide +kernel⟩
theorem oknames_differ {f : Addr} {fd : FuncData} (F : FnP K "names_differ" snames_differ f fd) (z_len : mg "len" = none) (z_set : mg "set" = none)   
    (len : ∀ ws O S, sp_names_differ ws O S → ws.length = 1) (rd : ∀ ws O S, sp_names_differ ws O S → Dm.d_names_differ (outB S) (startD ["things", "thing"] ws) O) : FnG P w K mg base 1 f fd ["things"] sp_names_differ := by
  refine FunG F scnames_differ len fun cdv A outer s H hr => ?_
  have sc := scnames_differ
  exact ⟨Dm.d_names_differ, (eb_one (es_ret (ed_eq (ed_lenSet rfl (by rfl) z_len (by rfl) z_set (ed_lc rfl sc.nd (own := [("thing", 1)]) (ei_tup (dv 0)) (blkOk_by (N := ["things", "thing"]) (sc := defScope snames_differ) (by decide +kernel)) (fun _ _ _ _ _ => (egc_name (i := 1) (by decide) sc.nd rfl (by first | exact Or.inl rfl | exact Or.inr rfl))) (fun _ _ _ _ _ => ets_nil) (fun _ _ _ _ _ => (ed_ixT (dv 1) ed_int)))) (ed_callB call_len_seq src_len (by rfl) z_len PySem.boot_len (ea_cons (dv 0) ea_nil))))), fun ws O S h => rd ws O S h⟩
abbrev sis_feature : Stmt := topS 52
theorem scis_feature : FnScope ["thing"] ["thing"] (defScope sis_feature) := ⟨rfl, rfl, rfl, by decide +kernel, rfl, by decide +kernel, by decide +kernel⟩
theorem okis_feature {f : Addr} {fd : FuncData} (F : FnP K "is_feature" sis_feature f fd) (z_tuple : mg "tuple" = none) {tMOST_VALUES : Tok} (c_MOST_VALUES : mg "MOST_VALUES" = some (.int 3 tMOST_VALUES))  {fis_tuple : Addr} {fdis_tuple : FuncData} (Gis_tuple : FnG P w K mg base 1 fis_tuple fdis_tuple ["thing", "least", "most"] sp_is_tuple) (gis_tuple : mg "is_tuple" = some (.ref fis_tuple)) (kis_tuple : PySem.W.keepIn K (.ref fis_tuple) = true) (bis_tuple : Binds K fdis_tuple ["thing", "least", "most"] []) {fis_name : Addr} {fdis_name : FuncData} (Gis_name : FnG P w K mg base 1 fis_name fdis_name ["thing"] sp_is_name) (gis_name : mg "is_name" = some (.ref fis_name)) (kis_name : PySem.W.keepIn K (.ref fis_name) = true) (bis_name : Binds K fdis_name ["thing"] []) {fare_names : Addr} {fdare_names : FuncData} (Gare_names : FnG P w K mg base 2 fare_names fdare_names ["thing", "least", "most"] sp_are_names) (gare_names : mg "are_names" = some (.ref fare_names)) (kare_names : PySem.W.keepIn K (.ref fare_names) = true) (bare_names : Binds K fdare_names ["thing", "least", "most"] []) 
    (len : ∀ ws O S, sp_is_feature ws O S → ws.length = 1) (rd : ∀ ws O S, sp_is_feature ws O S → Dm.d_is_feature (outB S) (startD ["thing"] ws) O) : FnG P w K mg base 3 f fd ["thing"] sp_is_feature := by
  refine FunG F scis_feature len fun cdv A outer s H hr => ?_
  have sc := scis_feature
  exact ⟨Dm.d_is_feature, (eb_one (es_ret (ed_and (ed_call Gis_tuple (hr.mono (by decide)) (by rfl) gis_tuple kis_tuple bis_tuple (ea_cons (dv 0) (ea_cons ed_int (ea_cons ed_int ea_nil)))) (ed_and (ed_call Gis_name (hr.mono (by decide)) (by rfl) gis_name kis_name bis_name (ea_cons (ed_ixT (dv 0) ed_int) ea_nil)) (ed_one (ed_call Gare_names (hr.mono (by decide)) (by rfl) gare_names kare_names bare_names (ea_cons (ed_ixT (dv 0) ed_int) (ea_cons ed_int (ea_cons (ed_gint (by rfl) c_MOST_VALUES) ea_nil))))))))), fun ws O S h => rd ws O S h⟩
abbrev sare_features : Stmt := topS 51
theorem scare_features : FnScope ["thing", "entry"] ["thing"] (defScope sare_features) := ⟨rfl, rfl, rfl, by decide +kernel, rfl, by decide +kernel, by decide +kernel⟩
theorem okare_features {f : Addr} {fd : FuncData} (F : FnP K "are_features" sare_features f fd) (z_all : mg "all" = none) (z_tuple : mg "tuple" = none) {tMOST_FEATURES : Tok} (c_MOST_FEATURES : mg "MOST_FEATURES" = some (.int 3 tMOST_FEATURES))  {fnames_differ : Addr} {fdnames_differ : FuncData} (Gnames_differ : FnG P w K mg base 1 fnames_differ fdnames_differ ["things"] sp_names_differ) (gnames_differ : mg "names_differ" = some (.ref fnames_differ)) (knames_differ : PySem.W.keepIn K (.ref fnames_differ) = true) (bnames_differ : Binds K fdnames_differ ["things"] []) {fis_tuple : Addr} {fdis_tuple : FuncData} (Gis_tuple : FnG P w K mg base 1 fis_tuple fdis_tuple ["thing", "least", "most"] sp_is_tuple) (gis_tuple : mg "is_tuple" = some (.ref fis_tuple)) (kis_tuple : PySem.W.keepIn K (.ref fis_tuple) = true) (bis_tuple : Binds K fdis_tuple ["thing", "least", "most"] []) {fis_feature : Addr} {fdis_feature : FuncData} (Gis_feature : FnG P w K mg base 3 fis_feature fdis_feature ["thing"] sp_is_feature) (gis_feature : mg "is_feature" = some (.ref fis_feature)) (kis_feature : PySem.W.keepIn K (.ref fis_feature) = true) (bis_feature : Binds K fdis_feature ["thing"] []) 
    (len : ∀ ws O S, sp_are_features ws O S → ws.length = 1) (rd : ∀ ws O S, sp_are_features ws O S → Dm.d_are_features (outB S) (startD ["thing", "entry"] ws) O) : FnG P w K mg base 4 f fd ["thing"] sp_are_features := by
  refine FunG F scare_features len fun cdv A outer s H hr => ?_
  have sc := scare_features
  exact ⟨Dm.d_are_features, (eb_cons (es_if (ew_or (et_not (et_val (ed_call Gis_tuple (hr.mono (by decide)) (by rfl) gis_tuple kis_tuple bis_tuple (ea_cons (dv 0) (ea_cons ed_int (ea_cons (ed_gint (by rfl) c_MOST_FEATURES) ea_nil)))))) (ew_or1 (et_not (et_val (ed_callB (cr_all rfl) src_all (by rfl) z_all (by decide +kernel) (ea_cons (ed_lc rfl sc.nd (own := [("entry", 1)]) (ei_tup (dv 0)) (blkOk_by (N := ["thing", "entry"]) (sc := defScope sare_features) (by decide +kernel)) (fun _ _ _ _ _ => (egc_name (i := 1) (by decide) sc.nd rfl (by first | exact Or.inl rfl | exact Or.inr rfl))) (fun _ _ _ _ _ => ets_nil) (fun _ _ _ _ _ => (ed_call Gis_feature (hr.mono (by decide)) (by rfl) gis_feature kis_feature bis_feature (ea_cons (dv 1) ea_nil)))) ea_nil)))))).t (eb_one (es_ret ed_bl)) eb_nil)
      (eb_one (es_ret (ed_call Gnames_differ (hr.mono (by decide)) (by rfl) gnames_differ knames_differ bnames_differ (ea_cons (dv 0) ea_nil))))), fun ws O S h => rd ws O S h⟩
abbrev sare_sort_features : Stmt := topS 55
theorem scare_sort_features : FnScope ["thing", "values", "entry"] ["thing", "values"] (defScope sare_sort_features) := ⟨rfl, rfl, rfl, by decide +kernel, rfl, by decide +kernel, by decide +kernel⟩
theorem okare_sort_features {f : Addr} {fd : FuncData} (F : FnP K "are_sort_features" sare_sort_features f fd) (z_all : mg "all" = none) (z_tuple : mg "tuple" = none) {tMOST_SORT_FEATURES : Tok} (c_MOST_SORT_FEATURES : mg "MOST_SORT_FEATURES" = some (.int 3 tMOST_SORT_FEATURES))  {fis_tuple : Addr} {fdis_tuple : FuncData} (Gis_tuple : FnG P w K mg base 1 fis_tuple fdis_tuple ["thing", "least", "most"] sp_is_tuple) (gis_tuple : mg "is_tuple" = some (.ref fis_tuple)) (kis_tuple : PySem.W.keepIn K (.ref fis_tuple) = true) (bis_tuple : Binds K fdis_tuple ["thing", "least", "most"] []) {fis_one_of : Addr} {fdis_one_of : FuncData} (Gis_one_of : FnG P w K mg base 1 fis_one_of fdis_one_of ["thing", "words"] sp_is_one_of) (gis_one_of : mg "is_one_of" = some (.ref fis_one_of)) (kis_one_of : PySem.W.keepIn K (.ref fis_one_of) = true) (bis_one_of : Binds K fdis_one_of ["thing", "words"] []) 
    (len : ∀ ws O S, sp_are_sort_features ws O S → ws.length = 2) (rd : ∀ ws O S, sp_are_sort_features ws O S → Dm.d_are_sort_features (outB S) (startD ["thing", "values", "entry"] ws) O) : FnG P w K mg base 2 f fd ["thing", "values"] sp_are_sort_features := by
  refine FunG F scare_sort_features len fun cdv A outer s H hr => ?_
  have sc := scare_sort_features
  exact ⟨Dm.d_are_sort_features, (eb_one (es_ret (ed_and (ed_call Gis_tuple (hr.mono (by decide)) (by rfl) gis_tuple kis_tuple bis_tuple (ea_cons (dv 0) (ea_cons ed_int (ea_cons (ed_gint (by rfl) c_MOST_SORT_FEATURES) ea_nil)))) (ed_one (ed_callB (cr_all rfl) src_all (by rfl) z_all (by decide +kernel) (ea_cons (ed_lc rfl sc.nd (own := [("entry", 2)]) (ei_tup (dv 0)) (blkOk_by (N := ["thing", "values", "entry"]) (sc := defScope sare_sort_features) (by decide +kernel)) (fun _ _ _ _ _ => (egc_name (i := 2) (by decide) sc.nd rfl (by first | exact Or.inl rfl | exact Or.inr rfl))) (fun _ _ _ _ _ => ets_nil) (fun _ _ _ _ _ => (ed_call Gis_one_of (hr.mono (by decide)) (by rfl) gis_one_of kis_one_of bis_one_of (ea_cons (dv 2) (ea_cons (dv 1) ea_nil))))) ea_nil)))))), fun ws O S h => rd ws O S h⟩
abbrev sis_sort : Stmt := topS 54
theorem scis_sort : FnScope ["thing", "values", "name", "kind", "left", "right"] ["thing", "values"] (defScope sis_sort) := ⟨rfl, rfl, rfl, by decide +kernel, rfl, by decide +kernel, by decide +kernel⟩
theorem okis_sort {f : Addr} {fd : FuncData} (F : FnP K "is_sort" sis_sort f fd) (z_tuple : mg "tuple" = none)   {fis_tuple : Addr} {fdis_tuple : FuncData} (Gis_tuple : FnG P w K mg base 1 fis_tuple fdis_tuple ["thing", "least", "most"] sp_is_tuple) (gis_tuple : mg "is_tuple" = some (.ref fis_tuple)) (kis_tuple : PySem.W.keepIn K (.ref fis_tuple) = true) (bis_tuple : Binds K fdis_tuple ["thing", "least", "most"] []) {fare_sort_features : Addr} {fdare_sort_features : FuncData} (Gare_sort_features : FnG P w K mg base 2 fare_sort_features fdare_sort_features ["thing", "values"] sp_are_sort_features) (gare_sort_features : mg "are_sort_features" = some (.ref fare_sort_features)) (kare_sort_features : PySem.W.keepIn K (.ref fare_sort_features) = true) (bare_sort_features : Binds K fdare_sort_features ["thing", "values"] []) {fis_name : Addr} {fdis_name : FuncData} (Gis_name : FnG P w K mg base 1 fis_name fdis_name ["thing"] sp_is_name) (gis_name : mg "is_name" = some (.ref fis_name)) (kis_name : PySem.W.keepIn K (.ref fis_name) = true) (bis_name : Binds K fdis_name ["thing"] []) {fis_kind : Addr} {fdis_kind : FuncData} (Gis_kind : FnG P w K mg base 2 fis_kind fdis_kind ["thing"] sp_is_kind) (gis_kind : mg "is_kind" = some (.ref fis_kind)) (kis_kind : PySem.W.keepIn K (.ref fis_kind) = true) (bis_kind : Binds K fdis_kind ["thing"] []) 
    (len : ∀ ws O S, sp_is_sort ws O S → ws.length = 2) (rd : ∀ ws O S, sp_is_sort ws O S → Dm.d_is_sort (outB S) (startD ["thing", "values", "name", "kind", "left", "right"] ws) O) : FnG P w K mg base 3 f fd ["thing", "values"] sp_is_sort := by
  refine FunG F scis_sort len fun cdv A outer s H hr => ?_
  have sc := scis_sort
  exact ⟨Dm.d_is_sort, (eb_cons (es_if (et_not (et_val (ed_call Gis_tuple (hr.mono (by decide)) (by rfl) gis_tuple kis_tuple bis_tuple (ea_cons (dv 0) (ea_cons ed_int (ea_cons ed_int ea_nil)))))) (eb_one (es_ret ed_bl)) eb_nil)
      (eb_cons (es_asg (dv 0) (eg_tup rfl (egs_cons (eg_name (i := 2) sc.nd rfl (by first | exact Or.inl rfl | exact Or.inr rfl)) (egs_cons (eg_name (i := 3) sc.nd rfl (by first | exact Or.inl rfl | exact Or.inr rfl)) (egs_cons (eg_name (i := 4) sc.nd rfl (by first | exact Or.inl rfl | exact Or.inr rfl)) (egs_cons (eg_name (i := 5) sc.nd rfl (by first | exact Or.inl rfl | exact Or.inr rfl)) egs_nil))))))
      (eb_cons (es_if (ew_or (et_not (et_val (ed_call Gis_name (hr.mono (by decide)) (by rfl) gis_name kis_name bis_name (ea_cons (dv 2) ea_nil)))) (ew_or1 (et_not (et_val (ed_call Gis_kind (hr.mono (by decide)) (by rfl) gis_kind kis_kind bis_kind (ea_cons (dv 3) ea_nil)))))).t (eb_one (es_ret ed_bl)) eb_nil)
      (eb_one (es_ret (ed_and (ed_call Gare_sort_features (hr.mono (by decide)) (by rfl) gare_sort_features kare_sort_features bare_sort_features (ea_cons (dv 4) (ea_cons (dv 1) ea_nil))) (ed_one (ed_call Gare_sort_features (hr.mono (by decide)) (by rfl) gare_sort_features kare_sort_features bare_sort_features (ea_cons (dv 5) (ea_cons (dv 1) ea_nil)))))))))), fun ws O S h => rd ws O S h⟩
abbrev sare_sorts : Stmt := topS 53
theorem scare_sorts : FnScope ["thing", "values", "entry"] ["thing", "values"] (defScope sare_sorts) := ⟨rfl, rfl, rfl, by decide +kernel, rfl, by decide +kernel, by decide +kernel⟩
theorem okare_sorts {f : Addr} {fd : FuncData} (F : FnP K "are_sorts" sare_sorts f fd) (z_all : mg "all" = none) (z_tuple : mg "tuple" = none) {tMOST_SORTS : Tok} (c_MOST_SORTS : mg "MOST_SORTS" = some (.int 8 tMOST_SORTS))  {fnames_differ : Addr} {fdnames_differ : FuncData} (Gnames_differ : FnG P w K mg base 1 fnames_differ fdnames_differ ["things"] sp_names_differ) (gnames_differ : mg "names_differ" = some (.ref fnames_differ)) (knames_differ : PySem.W.keepIn K (.ref fnames_differ) = true) (bnames_differ : Binds K fdnames_differ ["things"] []) {fis_tuple : Addr} {fdis_tuple : FuncData} (Gis_tuple : FnG P w K mg base 1 fis_tuple fdis_tuple ["thing", "least", "most"] sp_is_tuple) (gis_tuple : mg "is_tuple" = some (.ref fis_tuple)) (kis_tuple : PySem.W.keepIn K (.ref fis_tuple) = true) (bis_tuple : Binds K fdis_tuple ["thing", "least", "most"] []) {fis_sort : Addr} {fdis_sort : FuncData} (Gis_sort : FnG P w K mg base 3 fis_sort fdis_sort ["thing", "values"] sp_is_sort) (gis_sort : mg "is_sort" = some (.ref fis_sort)) (kis_sort : PySem.W.keepIn K (.ref fis_sort) = true) (bis_sort : Binds K fdis_sort ["thing", "values"] []) 
    (len : ∀ ws O S, sp_are_sorts ws O S → ws.length = 2) (rd : ∀ ws O S, sp_are_sorts ws O S → Dm.d_are_sorts (outB S) (startD ["thing", "values", "entry"] ws) O) : FnG P w K mg base 4 f fd ["thing", "values"] sp_are_sorts := by
  refine FunG F scare_sorts len fun cdv A outer s H hr => ?_
  have sc := scare_sorts
  exact ⟨Dm.d_are_sorts, (eb_cons (es_if (ew_or (et_not (et_val (ed_call Gis_tuple (hr.mono (by decide)) (by rfl) gis_tuple kis_tuple bis_tuple (ea_cons (dv 0) (ea_cons ed_int (ea_cons (ed_gint (by rfl) c_MOST_SORTS) ea_nil)))))) (ew_or1 (et_not (et_val (ed_callB (cr_all rfl) src_all (by rfl) z_all (by decide +kernel) (ea_cons (ed_lc rfl sc.nd (own := [("entry", 2)]) (ei_tup (dv 0)) (blkOk_by (N := ["thing", "values", "entry"]) (sc := defScope sare_sorts) (by decide +kernel)) (fun _ _ _ _ _ => (egc_name (i := 2) (by decide) sc.nd rfl (by first | exact Or.inl rfl | exact Or.inr rfl))) (fun _ _ _ _ _ => ets_nil) (fun _ _ _ _ _ => (ed_call Gis_sort (hr.mono (by decide)) (by rfl) gis_sort kis_sort bis_sort (ea_cons (dv 2) (ea_cons (dv 1) ea_nil))))) ea_nil)))))).t (eb_one (es_ret ed_bl)) eb_nil)
      (eb_one (es_ret (ed_call Gnames_differ (hr.mono (by decide)) (by rfl) gnames_differ knames_differ bnames_differ (ea_cons (dv 0) ea_nil))))), fun ws O S h => rd ws O S h⟩
abbrev sare_items : Stmt := topS 58
theorem scare_items : FnScope ["thing", "many", "numbers", "item", "number"] ["thing", "many"] (defScope sare_items) := ⟨rfl, rfl, rfl, by decide +kernel, rfl, by decide +kernel, by decide +kernel⟩
theorem okare_items {f : Addr} {fd : FuncData} (F : FnP K "are_items" sare_items f fd) (z_all : mg "all" = none) (z_sorted : mg "sorted" = none) (z_list : mg "list" = none) (z_range : mg "range" = none) (z_tuple : mg "tuple" = none) {tMOST_ITEMS : Tok} (c_MOST_ITEMS : mg "MOST_ITEMS" = some (.int 6 tMOST_ITEMS))  {fis_tuple : Addr} {fdis_tuple : FuncData} (Gis_tuple : FnG P w K mg base 1 fis_tuple fdis_tuple ["thing", "least", "most"] sp_is_tuple) (gis_tuple : mg "is_tuple" = some (.ref fis_tuple)) (kis_tuple : PySem.W.keepIn K (.ref fis_tuple) = true) (bis_tuple : Binds K fdis_tuple ["thing", "least", "most"] []) {fis_word : Addr} {fdis_word : FuncData} (Gis_word : FnG P w K mg base 2 fis_word fdis_word ["thing"] sp_is_word) (gis_word : mg "is_word" = some (.ref fis_word)) (kis_word : PySem.W.keepIn K (.ref fis_word) = true) (bis_word : Binds K fdis_word ["thing"] []) {fis_integer : Addr} {fdis_integer : FuncData} (Gis_integer : FnG P w K mg base 1 fis_integer fdis_integer ["thing"] sp_is_integer) (gis_integer : mg "is_integer" = some (.ref fis_integer)) (kis_integer : PySem.W.keepIn K (.ref fis_integer) = true) (bis_integer : Binds K fdis_integer ["thing"] []) 
    (len : ∀ ws O S, sp_are_items ws O S → ws.length = 2) (rd : ∀ ws O S, sp_are_items ws O S → Dm.d_are_items (outB S) (startD ["thing", "many", "numbers", "item", "number"] ws) O) : FnG P w K mg base 3 f fd ["thing", "many"] sp_are_items := by
  refine FunG F scare_items len fun cdv A outer s H hr => ?_
  have sc := scare_items
  exact ⟨Dm.d_are_items, (eb_cons (es_if (et_not (et_val (ed_call Gis_tuple (hr.mono (by decide)) (by rfl) gis_tuple kis_tuple bis_tuple (ea_cons (dv 0) (ea_cons ed_int (ea_cons (ed_gint (by rfl) c_MOST_ITEMS) ea_nil)))))) (eb_one (es_ret ed_bl)) eb_nil)
      (eb_cons (es_setLc (i := 2) rfl sc.nd rfl rfl (sw_true rfl rfl rfl (by decide +kernel)) (own := [("item", 3)]) (ei_tup (dv 0)) (blkOk_by (N := ["thing", "many", "numbers", "item", "number"]) (sc := defScope sare_items) (by decide +kernel)) (fun _ _ _ _ _ => (egc_name (i := 3) (by decide) sc.nd rfl (by first | exact Or.inl rfl | exact Or.inr rfl))) (fun _ _ _ _ _ => (ets_one (et_not (et_val (ed_call Gis_word (hr.mono (by decide)) (by rfl) gis_word kis_word bis_word (ea_cons (dv 3) ea_nil)))))) (fun _ _ _ _ _ => (dv 3)))
      (eb_cons (es_if (et_not (et_val (ed_callB (cr_all rfl) src_all (by rfl) z_all (by decide +kernel) (ea_cons (ed_lc rfl sc.nd (own := [("number", 4)]) (ei_lst (dv 2)) (blkOk_by (N := ["thing", "many", "numbers", "item", "number"]) (sc := defScope sare_items) (by decide +kernel)) (fun _ _ _ _ _ => (egc_name (i := 4) (by decide) sc.nd rfl (by first | exact Or.inl rfl | exact Or.inr rfl))) (fun _ _ _ _ _ => ets_nil) (fun _ _ _ _ _ => (ed_call Gis_integer (hr.mono (by decide)) (by rfl) gis_integer kis_integer bis_integer (ea_cons (dv 4) ea_nil)))) ea_nil)))) (eb_one (es_ret ed_bl)) eb_nil)
      (eb_one (es_ret (ed_and (ed_eqD (hu64 hr) (ed_callB cr_sortedI src_sorted (by rfl) z_sorted (by decide +kernel) (ea_cons (dv 2) ea_nil)) (ed_listR rfl (by rfl) z_list (by rfl) z_range (dv 1))) (ed_one (ed_neD (hu64 hr) (dv 0) (ed_tup (ea_cons ed_int ea_nil)))))))))), fun ws O S h => rd ws O S h⟩
abbrev sis_rule : Stmt := topS 57
theorem scis_rule : FnScope ["thing", "marks", "values", "sorts", "kind", "hole_kinds", "name", "head", "holes", "left", "right", "left_meaning", "right_meaning", "hole"] ["thing", "marks", "values", "sorts"] (defScope sis_rule) := ⟨rfl, rfl, rfl, by decide +kernel, rfl, by decide +kernel, by decide +kernel⟩
theorem okis_rule {f : Addr} {fd : FuncData} (F : FnP K "is_rule" sis_rule f fd) (z_len : mg "len" = none) (z_tuple : mg "tuple" = none) {tMOST_HOLES : Tok} (c_MOST_HOLES : mg "MOST_HOLES" = some (.int 4 tMOST_HOLES))  {fis_meaning : Addr} {fdis_meaning : FuncData} (Gis_meaning : FnG P w K mg base 5 fis_meaning fdis_meaning ["thing", "kind", "marks", "hole_kinds"] sp_is_meaning) (gis_meaning : mg "is_meaning" = some (.ref fis_meaning)) (kis_meaning : PySem.W.keepIn K (.ref fis_meaning) = true) (bis_meaning : Binds K fdis_meaning ["thing", "kind", "marks", "hole_kinds"] []) {fis_tuple : Addr} {fdis_tuple : FuncData} (Gis_tuple : FnG P w K mg base 1 fis_tuple fdis_tuple ["thing", "least", "most"] sp_is_tuple) (gis_tuple : mg "is_tuple" = some (.ref fis_tuple)) (kis_tuple : PySem.W.keepIn K (.ref fis_tuple) = true) (bis_tuple : Binds K fdis_tuple ["thing", "least", "most"] []) {fare_categories : Addr} {fdare_categories : FuncData} (Gare_categories : FnG P w K mg base 5 fare_categories fdare_categories ["things", "values", "sorts"] sp_are_categories) (gare_categories : mg "are_categories" = some (.ref fare_categories)) (kare_categories : PySem.W.keepIn K (.ref fare_categories) = true) (bare_categories : Binds K fdare_categories ["things", "values", "sorts"] []) {fis_name : Addr} {fdis_name : FuncData} (Gis_name : FnG P w K mg base 1 fis_name fdis_name ["thing"] sp_is_name) (gis_name : mg "is_name" = some (.ref fis_name)) (kis_name : PySem.W.keepIn K (.ref fis_name) = true) (bis_name : Binds K fdis_name ["thing"] []) {fare_items : Addr} {fdare_items : FuncData} (Gare_items : FnG P w K mg base 3 fare_items fdare_items ["thing", "many"] sp_are_items) (gare_items : mg "are_items" = some (.ref fare_items)) (kare_items : PySem.W.keepIn K (.ref fare_items) = true) (bare_items : Binds K fdare_items ["thing", "many"] []) 
    (len : ∀ ws O S, sp_is_rule ws O S → ws.length = 4) (rd : ∀ ws O S, sp_is_rule ws O S → Dm.d_is_rule (outB S) (startD ["thing", "marks", "values", "sorts", "kind", "hole_kinds", "name", "head", "holes", "left", "right", "left_meaning", "right_meaning", "hole"] ws) O) : FnG P w K mg base 6 f fd ["thing", "marks", "values", "sorts"] sp_is_rule := by
  refine FunG F scis_rule len fun cdv A outer s H hr => ?_
  have sc := scis_rule
  exact ⟨Dm.d_is_rule, (eb_cons (es_if (et_not (et_val (ed_call Gis_tuple (hr.mono (by decide)) (by rfl) gis_tuple kis_tuple bis_tuple (ea_cons (dv 0) (ea_cons ed_int (ea_cons ed_int ea_nil)))))) (eb_one (es_ret ed_bl)) eb_nil)
      (eb_cons (es_asg (dv 0) (eg_tup rfl (egs_cons (eg_name (i := 6) sc.nd rfl (by first | exact Or.inl rfl | exact Or.inr rfl)) (egs_cons (eg_name (i := 7) sc.nd rfl (by first | exact Or.inl rfl | exact Or.inr rfl)) (egs_cons (eg_name (i := 8) sc.nd rfl (by first | exact Or.inl rfl | exact Or.inr rfl)) (egs_cons (eg_name (i := 9) sc.nd rfl (by first | exact Or.inl rfl | exact Or.inr rfl)) (egs_cons (eg_name (i := 10) sc.nd rfl (by first | exact Or.inl rfl | exact Or.inr rfl)) (egs_cons (eg_name (i := 11) sc.nd rfl (by first | exact Or.inl rfl | exact Or.inr rfl)) (egs_cons (eg_name (i := 12) sc.nd rfl (by first | exact Or.inl rfl | exact Or.inr rfl)) egs_nil)))))))))
      (eb_cons (es_if (ew_or (et_not (et_val (ed_call Gis_name (hr.mono (by decide)) (by rfl) gis_name kis_name bis_name (ea_cons (dv 6) ea_nil)))) (ew_or1 (et_not (et_val (ed_call Gis_tuple (hr.mono (by decide)) (by rfl) gis_tuple kis_tuple bis_tuple (ea_cons (dv 8) (ea_cons ed_int (ea_cons (ed_gint (by rfl) c_MOST_HOLES) ea_nil)))))))).t (eb_one (es_ret ed_bl)) eb_nil)
      (eb_cons (es_if (et_not (et_val (ed_call Gare_categories (hr.mono (by decide)) (by rfl) gare_categories kare_categories bare_categories (ea_cons (ed_tup (ea_cons (dv 7) (ea_star (dv 8) ea_nil))) (ea_cons (dv 2) (ea_cons (dv 3) ea_nil)))))) (eb_one (es_ret ed_bl)) eb_nil)
      (eb_cons (es_if (ew_or (et_not (et_val (ed_call Gare_items (hr.mono (by decide)) (by rfl) gare_items kare_items bare_items (ea_cons (dv 9) (ea_cons (ed_callB call_len_seq src_len (by rfl) z_len PySem.boot_len (ea_cons (dv 8) ea_nil)) ea_nil))))) (ew_or1 (et_not (et_val (ed_call Gare_items (hr.mono (by decide)) (by rfl) gare_items kare_items bare_items (ea_cons (dv 10) (ea_cons (ed_callB call_len_seq src_len (by rfl) z_len PySem.boot_len (ea_cons (dv 8) ea_nil)) ea_nil))))))).t (eb_one (es_ret ed_bl)) eb_nil)
      (eb_cons (es_set (i := 4) sc.nd rfl (by first | exact Or.inl rfl | exact Or.inr rfl) (ed_ixT (ed_ixD (hu_of hr.r) (dv 3) (ed_ixT (dv 7) ed_int)) ed_int))
      (eb_cons (es_setLc (i := 5) rfl sc.nd rfl rfl (sw_true rfl rfl rfl (by decide +kernel)) (own := [("hole", 13)]) (ei_tup (dv 8)) (blkOk_by (N := ["thing", "marks", "values", "sorts", "kind", "hole_kinds", "name", "head", "holes", "left", "right", "left_meaning", "right_meaning", "hole"]) (sc := defScope sis_rule) (by decide +kernel)) (fun _ _ _ _ _ => (egc_name (i := 13) (by decide) sc.nd rfl (by first | exact Or.inl rfl | exact Or.inr rfl))) (fun _ _ _ _ _ => ets_nil) (fun _ _ _ _ _ => (ed_ixT (ed_ixD (hu_of hr.r) (dv 3) (ed_ixT (dv 13) ed_int)) ed_int)))
      (eb_cons (es_if (et_not (et_val (ed_call Gis_meaning (hr.mono (by decide)) (by rfl) gis_meaning kis_meaning bis_meaning (ea_cons (dv 11) (ea_cons (dv 4) (ea_cons (dv 1) (ea_cons (dv 5) ea_nil))))))) (eb_one (es_ret ed_bl)) eb_nil)
      (eb_one (es_ret (ed_call Gis_meaning (hr.mono (by decide)) (by rfl) gis_meaning kis_meaning bis_meaning (ea_cons (dv 12) (ea_cons (dv 4) (ea_cons (dv 1) (ea_cons (dv 5) ea_nil))))))))))))))), fun ws O S h => rd ws O S h⟩
abbrev sare_rules : Stmt := topS 56
theorem scare_rules : FnScope ["thing", "marks", "values", "sorts", "entry"] ["thing", "marks", "values", "sorts"] (defScope sare_rules) := ⟨rfl, rfl, rfl, by decide +kernel, rfl, by decide +kernel, by decide +kernel⟩
theorem okare_rules {f : Addr} {fd : FuncData} (F : FnP K "are_rules" sare_rules f fd) (z_all : mg "all" = none) (z_tuple : mg "tuple" = none) {tMOST_RULES : Tok} (c_MOST_RULES : mg "MOST_RULES" = some (.int 24 tMOST_RULES))  {fnames_differ : Addr} {fdnames_differ : FuncData} (Gnames_differ : FnG P w K mg base 1 fnames_differ fdnames_differ ["things"] sp_names_differ) (gnames_differ : mg "names_differ" = some (.ref fnames_differ)) (knames_differ : PySem.W.keepIn K (.ref fnames_differ) = true) (bnames_differ : Binds K fdnames_differ ["things"] []) {fis_tuple : Addr} {fdis_tuple : FuncData} (Gis_tuple : FnG P w K mg base 1 fis_tuple fdis_tuple ["thing", "least", "most"] sp_is_tuple) (gis_tuple : mg "is_tuple" = some (.ref fis_tuple)) (kis_tuple : PySem.W.keepIn K (.ref fis_tuple) = true) (bis_tuple : Binds K fdis_tuple ["thing", "least", "most"] []) {fis_rule : Addr} {fdis_rule : FuncData} (Gis_rule : FnG P w K mg base 6 fis_rule fdis_rule ["thing", "marks", "values", "sorts"] sp_is_rule) (gis_rule : mg "is_rule" = some (.ref fis_rule)) (kis_rule : PySem.W.keepIn K (.ref fis_rule) = true) (bis_rule : Binds K fdis_rule ["thing", "marks", "values", "sorts"] []) 
    (len : ∀ ws O S, sp_are_rules ws O S → ws.length = 4) (rd : ∀ ws O S, sp_are_rules ws O S → Dm.d_are_rules (outB S) (startD ["thing", "marks", "values", "sorts", "entry"] ws) O) : FnG P w K mg base 7 f fd ["thing", "marks", "values", "sorts"] sp_are_rules := by
  refine FunG F scare_rules len fun cdv A outer s H hr => ?_
  have sc := scare_rules
  exact ⟨Dm.d_are_rules, (eb_cons (es_if (ew_or (et_not (et_val (ed_call Gis_tuple (hr.mono (by decide)) (by rfl) gis_tuple kis_tuple bis_tuple (ea_cons (dv 0) (ea_cons ed_int (ea_cons (ed_gint (by rfl) c_MOST_RULES) ea_nil)))))) (ew_or1 (et_not (et_val (ed_callB (cr_all rfl) src_all (by rfl) z_all (by decide +kernel) (ea_cons (ed_lc rfl sc.nd (own := [("entry", 4)]) (ei_tup (dv 0)) (blkOk_by (N := ["thing", "marks", "values", "sorts", "entry"]) (sc := defScope sare_rules) (by decide +kernel)) (fun _ _ _ _ _ => (egc_name (i := 4) (by decide) sc.nd rfl (by first | exact Or.inl rfl | exact Or.inr rfl))) (fun _ _ _ _ _ => ets_nil) (fun _ _ _ _ _ => (ed_call Gis_rule (hr.mono (by decide)) (by rfl) gis_rule kis_rule bis_rule (ea_cons (dv 4) (ea_cons (dv 1) (ea_cons (dv 2) (ea_cons (dv 3) ea_nil))))))) ea_nil)))))).t (eb_one (es_ret ed_bl)) eb_nil)
      (eb_one (es_ret (ed_call Gnames_differ (hr.mono (by decide)) (by rfl) gnames_differ knames_differ bnames_differ (ea_cons (dv 0) ea_nil))))), fun ws O S h => rd ws O S h⟩
abbrev sis_book : Stmt := topS 48
theorem scis_book : FnScope ["thing", "values", "known", "features", "marks", "sorts", "start", "rules"] ["thing"] (defScope sis_book) := ⟨rfl, rfl, rfl, by decide +kernel, rfl, by decide +kernel, by decide +kernel⟩
theorem okis_book {f : Addr} {fd : FuncData} (F : FnP K "is_book" sis_book f fd) (z_tuple : mg "tuple" = none) {tMOST_MARKS : Tok} (c_MOST_MARKS : mg "MOST_MARKS" = some (.int 2 tMOST_MARKS))  {fvalues_by_feature : Addr} {fdvalues_by_feature : FuncData} (Gvalues_by_feature : FnG P w K mg base 1 fvalues_by_feature fdvalues_by_feature ["features"] sp_values_by_feature) (gvalues_by_feature : mg "values_by_feature" = some (.ref fvalues_by_feature)) (kvalues_by_feature : PySem.W.keepIn K (.ref fvalues_by_feature) = true) (bvalues_by_feature : Binds K fdvalues_by_feature ["features"] []) {fsorts_by_name : Addr} {fdsorts_by_name : FuncData} (Gsorts_by_name : FnG P w K mg base 1 fsorts_by_name fdsorts_by_name ["sorts"] sp_sorts_by_name) (gsorts_by_name : mg "sorts_by_name" = some (.ref fsorts_by_name)) (ksorts_by_name : PySem.W.keepIn K (.ref fsorts_by_name) = true) (bsorts_by_name : Binds K fdsorts_by_name ["sorts"] []) {fis_tuple : Addr} {fdis_tuple : FuncData} (Gis_tuple : FnG P w K mg base 1 fis_tuple fdis_tuple ["thing", "least", "most"] sp_is_tuple) (gis_tuple : mg "is_tuple" = some (.ref fis_tuple)) (kis_tuple : PySem.W.keepIn K (.ref fis_tuple) = true) (bis_tuple : Binds K fdis_tuple ["thing", "least", "most"] []) {fare_sorts : Addr} {fdare_sorts : FuncData} (Gare_sorts : FnG P w K mg base 4 fare_sorts fdare_sorts ["thing", "values"] sp_are_sorts) (gare_sorts : mg "are_sorts" = some (.ref fare_sorts)) (kare_sorts : PySem.W.keepIn K (.ref fare_sorts) = true) (bare_sorts : Binds K fdare_sorts ["thing", "values"] []) {fis_one_of : Addr} {fdis_one_of : FuncData} (Gis_one_of : FnG P w K mg base 1 fis_one_of fdis_one_of ["thing", "words"] sp_is_one_of) (gis_one_of : mg "is_one_of" = some (.ref fis_one_of)) (kis_one_of : PySem.W.keepIn K (.ref fis_one_of) = true) (bis_one_of : Binds K fdis_one_of ["thing", "words"] []) {fare_rules : Addr} {fdare_rules : FuncData} (Gare_rules : FnG P w K mg base 7 fare_rules fdare_rules ["thing", "marks", "values", "sorts"] sp_are_rules) (gare_rules : mg "are_rules" = some (.ref fare_rules)) (kare_rules : PySem.W.keepIn K (.ref fare_rules) = true) (bare_rules : Binds K fdare_rules ["thing", "marks", "values", "sorts"] []) {fare_features : Addr} {fdare_features : FuncData} (Gare_features : FnG P w K mg base 4 fare_features fdare_features ["thing"] sp_are_features) (gare_features : mg "are_features" = some (.ref fare_features)) (kare_features : PySem.W.keepIn K (.ref fare_features) = true) (bare_features : Binds K fdare_features ["thing"] []) {fare_names : Addr} {fdare_names : FuncData} (Gare_names : FnG P w K mg base 2 fare_names fdare_names ["thing", "least", "most"] sp_are_names) (gare_names : mg "are_names" = some (.ref fare_names)) (kare_names : PySem.W.keepIn K (.ref fare_names) = true) (bare_names : Binds K fdare_names ["thing", "least", "most"] []) 
    (len : ∀ ws O S, sp_is_book ws O S → ws.length = 1) (rd : ∀ ws O S, sp_is_book ws O S → Dm.d_is_book (outB S) (startD ["thing", "values", "known", "features", "marks", "sorts", "start", "rules"] ws) O) : FnG P w K mg base 8 f fd ["thing"] sp_is_book := by
  refine FunG F scis_book len fun cdv A outer s H hr => ?_
  have sc := scis_book
  exact ⟨Dm.d_is_book, (eb_cons (es_if (et_not (et_val (ed_call Gis_tuple (hr.mono (by decide)) (by rfl) gis_tuple kis_tuple bis_tuple (ea_cons (dv 0) (ea_cons ed_int (ea_cons ed_int ea_nil)))))) (eb_one (es_ret ed_bl)) eb_nil)
      (eb_cons (es_asg (dv 0) (eg_tup rfl (egs_cons (eg_name (i := 3) sc.nd rfl (by first | exact Or.inl rfl | exact Or.inr rfl)) (egs_cons (eg_name (i := 4) sc.nd rfl (by first | exact Or.inl rfl | exact Or.inr rfl)) (egs_cons (eg_name (i := 5) sc.nd rfl (by first | exact Or.inl rfl | exact Or.inr rfl)) (egs_cons (eg_name (i := 6) sc.nd rfl (by first | exact Or.inl rfl | exact Or.inr rfl)) (egs_cons (eg_name (i := 7) sc.nd rfl (by first | exact Or.inl rfl | exact Or.inr rfl)) egs_nil)))))))
      (eb_cons (es_if (ew_or (et_not (et_val (ed_call Gare_features (hr.mono (by decide)) (by rfl) gare_features kare_features bare_features (ea_cons (dv 3) ea_nil)))) (ew_or1 (et_not (et_val (ed_call Gare_names (hr.mono (by decide)) (by rfl) gare_names kare_names bare_names (ea_cons (dv 4) (ea_cons ed_int (ea_cons (ed_gint (by rfl) c_MOST_MARKS) ea_nil)))))))).t (eb_one (es_ret ed_bl)) eb_nil)
      (eb_cons (es_set (i := 1) sc.nd rfl (by first | exact Or.inl rfl | exact Or.inr rfl) (ed_call Gvalues_by_feature (hr.mono (by decide)) (by rfl) gvalues_by_feature kvalues_by_feature bvalues_by_feature (ea_cons (dv 3) ea_nil)))
      (eb_cons (es_if (et_not (et_val (ed_call Gare_sorts (hr.mono (by decide)) (by rfl) gare_sorts kare_sorts bare_sorts (ea_cons (dv 5) (ea_cons (dv 1) ea_nil))))) (eb_one (es_ret ed_bl)) eb_nil)
      (eb_cons (es_set (i := 2) sc.nd rfl (by first | exact Or.inl rfl | exact Or.inr rfl) (ed_call Gsorts_by_name (hr.mono (by decide)) (by rfl) gsorts_by_name ksorts_by_name bsorts_by_name (ea_cons (dv 5) ea_nil)))
      (eb_one (es_ret (ed_and (ed_call Gis_one_of (hr.mono (by decide)) (by rfl) gis_one_of kis_one_of bis_one_of (ea_cons (dv 6) (ea_cons (dv 2) ea_nil))) (ed_one (ed_call Gare_rules (hr.mono (by decide)) (by rfl) gare_rules kare_rules bare_rules (ea_cons (dv 7) (ea_cons (dv 4) (ea_cons (dv 1) (ea_cons (dv 2) ea_nil))))))))))))))), fun ws O S h => rd ws O S h⟩
abbrev sneed_book : Stmt := topS 49
theorem scneed_book : FnScope ["thing"] ["thing"] (defScope sneed_book) := ⟨rfl, rfl, rfl, by decide +kernel, rfl, by decide +kernel, by decide +kernel⟩
theorem okneed_book {f : Addr} {fd : FuncData} (F : FnP K "need_book" sneed_book f fd)    {fis_book : Addr} {fdis_book : FuncData} (Gis_book : FnG P w K mg base 8 fis_book fdis_book ["thing"] sp_is_book) (gis_book : mg "is_book" = some (.ref fis_book)) (kis_book : PySem.W.keepIn K (.ref fis_book) = true) (bis_book : Binds K fdis_book ["thing"] []) 
    (len : ∀ ws O S, sp_need_book ws O S → ws.length = 1) (rd : ∀ ws O S, sp_need_book ws O S → Dm.d_need_book (outB S) (startD ["thing"] ws) O) : FnG P w K mg base 9 f fd ["thing"] sp_need_book := by
  refine FunG F scneed_book len fun cdv A outer s H hr => ?_
  have sc := scneed_book
  exact ⟨Dm.d_need_book, (eb_one (es_if (et_not (et_val (ed_call Gis_book (hr.mono (by decide)) (by rfl) gis_book kis_book bis_book (ea_cons (dv 0) ea_nil)))) (eb_one es_never) eb_nil)), fun ws O S h => rd ws O S h⟩
abbrev sfull_mask : Stmt := topS 60
theorem scfull_mask : FnScope ["many"] ["many"] (defScope sfull_mask) := ⟨rfl, rfl, rfl, by decide +kernel, rfl, by decide +kernel, by decide +kernel⟩
abbrev nfull_mask : List Str := ["many"]
def dfull_mask : DTS := (dRet (dSub (dShl (dC (.int 1)) (dVar 0)) (dC (.int 1))))
theorem okfull_mask {f : Addr} {fd : FuncData} (F : FnP K "full_mask" sfull_mask f fd)    
    (len : ∀ ws O S, sp_full ws O S → ws.length = 1) (rd : ∀ ws O S, sp_full ws O S → dfull_mask (outB S) (startD ["many"] ws) O) : FnG P w K mg base 1 f fd ["many"] sp_full := by
  refine FunG F scfull_mask len fun cdv A outer s H hr => ?_
  have sc := scfull_mask
  exact ⟨dfull_mask, (eb_one (es_ret (ed_sub (ed_shl ed_int (dv 0)) ed_int))), fun ws O S h => rd ws O S h⟩
abbrev shas_bit : Stmt := topS 61
theorem schas_bit : FnScope ["mask", "number"] ["mask", "number"] (defScope shas_bit) := ⟨rfl, rfl, rfl, by decide +kernel, rfl, by decide +kernel, by decide +kernel⟩
abbrev nhas_bit : List Str := ["mask", "number"]
def dhas_bit : DTS := (dRet (dOp rdEq (dBAnd (dShr (dVar 0) (dVar 1)) (dC (.int 1))) (dC (.int 1))))
theorem okhas_bit {f : Addr} {fd : FuncData} (F : FnP K "has_bit" shas_bit f fd)    
    (len : ∀ ws O S, sp_bit ws O S → ws.length = 2) (rd : ∀ ws O S, sp_bit ws O S → dhas_bit (outB S) (startD ["mask", "number"] ws) O) : FnG P w K mg base 1 f fd ["mask", "number"] sp_bit := by
  refine FunG F schas_bit len fun cdv A outer s H hr => ?_
  have sc := schas_bit
  exact ⟨dhas_bit, (eb_one (es_ret (ed_eq (ed_bAnd (ed_shr (dv 0) (dv 1)) ed_int) ed_int))), fun ws O S h => rd ws O S h⟩
abbrev sbits_in : Stmt := topS 62
theorem scbits_in : FnScope ["mask", "many", "number"] ["mask", "many"] (defScope sbits_in) := ⟨rfl, rfl, rfl, by decide +kernel, rfl, by decide +kernel, by decide +kernel⟩
abbrev nbits_in : List Str := ["mask", "many", "number"]
def dbits_in : DTS := (dRet (dLc (diR1 (dCons (dVar 1) dNil)) (dgName 2) (dTest (dCall sp_bit (dCons (dVar 0) (dCons (dVar 2) dNil)))) (dVar 2) [2]))
theorem okbits_in {f : Addr} {fd : FuncData} (F : FnP K "bits_in" sbits_in f fd) (z_range : mg "range" = none)   {fhas_bit : Addr} {fdhas_bit : FuncData} (Ghas_bit : FnG P w K mg base 1 fhas_bit fdhas_bit ["mask", "number"] sp_bit) (ghas_bit : mg "has_bit" = some (.ref fhas_bit)) (khas_bit : PySem.W.keepIn K (.ref fhas_bit) = true) (bhas_bit : Binds K fdhas_bit ["mask", "number"] []) 
    (len : ∀ ws O S, sp_bits ws O S → ws.length = 2) (rd : ∀ ws O S, sp_bits ws O S → dbits_in (outB S) (startD ["mask", "many", "number"] ws) O) : FnG P w K mg base 2 f fd ["mask", "many"] sp_bits := by
  refine FunG F scbits_in len fun cdv A outer s H hr => ?_
  have sc := scbits_in
  exact ⟨dbits_in, (eb_one (es_ret (ed_lc rfl sc.nd (own := [("number", 2)]) (ei_range1 (by rfl) z_range (ea_cons (dv 1) ea_nil)) (blkOk_by (N := ["mask", "many", "number"]) (sc := defScope sbits_in) (by decide +kernel)) (fun _ _ _ _ _ => (egc_name (i := 2) (by decide) sc.nd rfl (by first | exact Or.inl rfl | exact Or.inr rfl))) (fun _ _ _ _ _ => (ets_one (et_val (ed_call Ghas_bit (hr.mono (by decide)) (by rfl) ghas_bit khas_bit bhas_bit (ea_cons (dv 0) (ea_cons (dv 2) ea_nil)))))) (fun _ _ _ _ _ => (dv 2))))), fun ws O S h => rd ws O S h⟩
abbrev smarked_cells : Stmt := topS 64
theorem scmarked_cells : FnScope ["many", "mark", "cell"] ["many", "mark"] (defScope smarked_cells) := ⟨rfl, rfl, rfl, by decide +kernel, rfl, by decide +kernel, by decide +kernel⟩
abbrev nmarked_cells : List Str := ["many", "mark", "cell"]
def dmarked_cells : DTS := (dRet (dCB rdSum (dCons (dLc (diR1 (dCons (dShl (dC (.int 1)) (dVar 0)) dNil)) (dgName 2) (dTest (dCall sp_bit (dCons (dVar 2) (dCons (dVar 1) dNil)))) (dShl (dC (.int 1)) (dVar 2)) [2]) dNil)))
theorem okmarked_cells {f : Addr} {fd : FuncData} (F : FnP K "marked_cells" smarked_cells f fd) (z_sum : mg "sum" = none) (z_range : mg "range" = none)   {fhas_bit : Addr} {fdhas_bit : FuncData} (Ghas_bit : FnG P w K mg base 1 fhas_bit fdhas_bit ["mask", "number"] sp_bit) (ghas_bit : mg "has_bit" = some (.ref fhas_bit)) (khas_bit : PySem.W.keepIn K (.ref fhas_bit) = true) (bhas_bit : Binds K fdhas_bit ["mask", "number"] []) 
    (len : ∀ ws O S, sp_marked ws O S → ws.length = 2) (rd : ∀ ws O S, sp_marked ws O S → dmarked_cells (outB S) (startD ["many", "mark", "cell"] ws) O) : FnG P w K mg base 2 f fd ["many", "mark"] sp_marked := by
  refine FunG F scmarked_cells len fun cdv A outer s H hr => ?_
  have sc := scmarked_cells
  exact ⟨dmarked_cells, (eb_one (es_ret (ed_callB (cr_sum rfl) src_sum (by rfl) z_sum (by decide +kernel) (ea_cons (ed_lc rfl sc.nd (own := [("cell", 2)]) (ei_range1 (by rfl) z_range (ea_cons (ed_shl ed_int (dv 0)) ea_nil)) (blkOk_by (N := ["many", "mark", "cell"]) (sc := defScope smarked_cells) (by decide +kernel)) (fun _ _ _ _ _ => (egc_name (i := 2) (by decide) sc.nd rfl (by first | exact Or.inl rfl | exact Or.inr rfl))) (fun _ _ _ _ _ => (ets_one (et_val (ed_call Ghas_bit (hr.mono (by decide)) (by rfl) ghas_bit khas_bit bhas_bit (ea_cons (dv 2) (ea_cons (dv 1) ea_nil)))))) (fun _ _ _ _ _ => (ed_shl ed_int (dv 2)))) ea_nil)))), fun ws O S h => rd ws O S h⟩
abbrev scells_of : Stmt := topS 65
theorem sccells_of : FnScope ["term", "marks", "word", "first", "second"] ["term", "marks"] (defScope scells_of) := ⟨rfl, rfl, rfl, by decide +kernel, rfl, by decide +kernel, by decide +kernel⟩
abbrev ncells_of : List Str := ["term", "marks", "word", "first", "second"]
def dcells_of (n : Nat) : DTS := (dSeq (dSet 2 (dOp rdIxT (dVar 0) (dC (.int 0))))
    (dSeq (dIf (dTest (dOp rdEq (dVar 2) (dC (.str "none")))) (dRet (dC (.int 0))) dNext)
    (dSeq (dIf (dTest (dOp rdEq (dVar 2) (dC (.str "mark")))) (dRet (dCall sp_marked (dCons (dCB rdLen (dCons (dFg (dVar 1)) dNil)) (dCons (dIdxK (dVar 1) (dCons (dOp rdIxT (dVar 0) (dC (.int 1))) dNil)) dNil)))) dNext)
    (dSeq (dSet 3 (dCall (sp_cells n) (dCons (dOp rdIxT (dVar 0) (dC (.int 1))) (dCons (dVar 1) dNil))))
    (dSeq (dIf (dTest (dOp rdEq (dVar 2) (dC (.str "not")))) (dRet (dBAnd (dCall sp_full (dCons (dShl (dC (.int 1)) (dCB rdLen (dCons (dFg (dVar 1)) dNil))) dNil)) (dInv (dVar 3)))) dNext)
    (dSeq (dSet 4 (dCall (sp_cells n) (dCons (dOp rdIxT (dVar 0) (dC (.int 2))) (dCons (dVar 1) dNil))))
    (dRet (dIfE (dTest (dOp rdEq (dVar 2) (dC (.str "both")))) (dBAnd (dVar 3) (dVar 4)) (dBOr (dVar 3) (dVar 4))))))))))
theorem okcells_of (n : Nat) {f : Addr} {fd : FuncData} (F : FnP K "cells_of" scells_of f fd) (z_len : mg "len" = none)   {fcells_of : Addr} {fdcells_of : FuncData} (Gcells_of : FnG P w K mg base (n + 3) fcells_of fdcells_of ["term", "marks"] (sp_cells n)) (gcells_of : mg "cells_of" = some (.ref fcells_of)) (kcells_of : PySem.W.keepIn K (.ref fcells_of) = true) (bcells_of : Binds K fdcells_of ["term", "marks"] []) {fmarked_cells : Addr} {fdmarked_cells : FuncData} (Gmarked_cells : FnG P w K mg base 2 fmarked_cells fdmarked_cells ["many", "mark"] sp_marked) (gmarked_cells : mg "marked_cells" = some (.ref fmarked_cells)) (kmarked_cells : PySem.W.keepIn K (.ref fmarked_cells) = true) (bmarked_cells : Binds K fdmarked_cells ["many", "mark"] []) {ffull_mask : Addr} {fdfull_mask : FuncData} (Gfull_mask : FnG P w K mg base 1 ffull_mask fdfull_mask ["many"] sp_full) (gfull_mask : mg "full_mask" = some (.ref ffull_mask)) (kfull_mask : PySem.W.keepIn K (.ref ffull_mask) = true) (bfull_mask : Binds K fdfull_mask ["many"] []) 
    (len : ∀ ws O S, (sp_cells (n + 1)) ws O S → ws.length = 2) (rd : ∀ ws O S, (sp_cells (n + 1)) ws O S → (dcells_of n) (outB S) (startD ["term", "marks", "word", "first", "second"] ws) O) : FnG P w K mg base (n + 4) f fd ["term", "marks"] (sp_cells (n + 1)) := by
  refine FunG F sccells_of len fun cdv A outer s H hr => ?_
  have sc := sccells_of
  exact ⟨(dcells_of n), (eb_cons (es_set (i := 2) sc.nd rfl (by first | exact Or.inl rfl | exact Or.inr rfl) (ed_ixT (dv 0) ed_int))
      (eb_cons (es_if (et_eq (dv 2) ed_str) (eb_one (es_ret ed_int)) eb_nil)
      (eb_cons (es_if (et_eq (dv 2) ed_str) (eb_one (es_ret (ed_call Gmarked_cells (hr.mono (by omega)) (by rfl) gmarked_cells kmarked_cells bmarked_cells (ea_cons (ed_callB call_len_seq src_len (by rfl) z_len PySem.boot_len (ea_cons (ed_fg (dv 1)) ea_nil)) (ea_cons (ed_idxK (dv 1) (ea_cons (ed_ixT (dv 0) ed_int) ea_nil)) ea_nil))))) eb_nil)
      (eb_cons (es_set (i := 3) sc.nd rfl (by first | exact Or.inl rfl | exact Or.inr rfl) (ed_call Gcells_of (hr.mono (by omega)) (by rfl) gcells_of kcells_of bcells_of (ea_cons (ed_ixT (dv 0) ed_int) (ea_cons (dv 1) ea_nil))))
      (eb_cons (es_if (et_eq (dv 2) ed_str) (eb_one (es_ret (ed_bAnd (ed_call Gfull_mask (hr.mono (by omega)) (by rfl) gfull_mask kfull_mask bfull_mask (ea_cons (ed_shl ed_int (ed_callB call_len_seq src_len (by rfl) z_len PySem.boot_len (ea_cons (ed_fg (dv 1)) ea_nil))) ea_nil)) (ed_inv (dv 3))))) eb_nil)
      (eb_cons (es_set (i := 4) sc.nd rfl (by first | exact Or.inl rfl | exact Or.inr rfl) (ed_call Gcells_of (hr.mono (by omega)) (by rfl) gcells_of kcells_of bcells_of (ea_cons (ed_ixT (dv 0) ed_int) (ea_cons (dv 1) ea_nil))))
      (eb_one (es_ret (ed_if (et_eq (dv 2) ed_str) (ed_bAnd (dv 3) (dv 4)) (ed_bOr (dv 3) (dv 4))))))))))), fun ws O S h => rd ws O S h⟩
abbrev sneed_term : Stmt := topS 67
theorem scneed_term : FnScope ["book", "thing", "kind"] ["book", "thing", "kind"] (defScope sneed_term) := ⟨rfl, rfl, rfl, by decide +kernel, rfl, by decide +kernel, by decide +kernel⟩
abbrev nneed_term : List Str := ["book", "thing", "kind"]
def dneed_term : DTS := (dIf (dNot (dTest (dCall sp_is_closed_term (dCons (dVar 1) (dCons (dVar 2) (dCons (dOp rdIxT (dVar 0) (dC (.int 1))) dNil)))))) dNever dNext)
theorem okneed_term {f : Addr} {fd : FuncData} (F : FnP K "need_term" sneed_term f fd)    {fis_closed_term : Addr} {fdis_closed_term : FuncData} (Gis_closed_term : FnG P w K mg base 5 fis_closed_term fdis_closed_term ["thing", "kind", "marks"] sp_is_closed_term) (gis_closed_term : mg "is_closed_term" = some (.ref fis_closed_term)) (kis_closed_term : PySem.W.keepIn K (.ref fis_closed_term) = true) (bis_closed_term : Binds K fdis_closed_term ["thing", "kind", "marks"] []) 
    (len : ∀ ws O S, sp_need_term ws O S → ws.length = 3) (rd : ∀ ws O S, sp_need_term ws O S → dneed_term (outB S) (startD ["book", "thing", "kind"] ws) O) : FnG P w K mg base 6 f fd ["book", "thing", "kind"] sp_need_term := by
  refine FunG F scneed_term len fun cdv A outer s H hr => ?_
  have sc := scneed_term
  exact ⟨dneed_term, (eb_one (es_if (et_not (et_val (ed_call Gis_closed_term (hr.mono (by decide)) (by rfl) gis_closed_term kis_closed_term bis_closed_term (ea_cons (dv 1) (ea_cons (dv 2) (ea_cons (ed_ixT (dv 0) ed_int) ea_nil)))))) (eb_one es_never) eb_nil)), fun ws O S h => rd ws O S h⟩
abbrev scells_in : Stmt := topS 68
theorem sccells_in : FnScope ["book", "term"] ["book", "term"] (defScope scells_in) := ⟨rfl, rfl, rfl, by decide +kernel, rfl, by decide +kernel, by decide +kernel⟩
abbrev ncells_in : List Str := ["book", "term"]
def dcells_in : DTS := (dSeq (dDrop (dCall sp_need_book (dCons (dFg (dVar 0)) dNil)))
    (dSeq (dDrop (dCall sp_need_term (dCons (dFg (dVar 0)) (dCons (dVar 1) (dCons (dC (.str "set")) dNil)))))
    (dRet (dCall sp_bits (dCons (dCall (sp_cells 90) (dCons (dVar 1) (dCons (dOp rdIxT (dVar 0) (dC (.int 1))) dNil))) (dCons (dShl (dC (.int 1)) (dCB rdLen (dCons (dFg (dOp rdIxT (dVar 0) (dC (.int 1)))) dNil))) dNil))))))
theorem okcells_in {f : Addr} {fd : FuncData} (F : FnP K "cells_in" scells_in f fd) (z_len : mg "len" = none)   {fneed_book : Addr} {fdneed_book : FuncData} (Gneed_book : FnG P w K mg base 9 fneed_book fdneed_book ["thing"] sp_need_book) (gneed_book : mg "need_book" = some (.ref fneed_book)) (kneed_book : PySem.W.keepIn K (.ref fneed_book) = true) (bneed_book : Binds K fdneed_book ["thing"] []) {fneed_term : Addr} {fdneed_term : FuncData} (Gneed_term : FnG P w K mg base 6 fneed_term fdneed_term ["book", "thing", "kind"] sp_need_term) (gneed_term : mg "need_term" = some (.ref fneed_term)) (kneed_term : PySem.W.keepIn K (.ref fneed_term) = true) (bneed_term : Binds K fdneed_term ["book", "thing", "kind"] []) {fbits_in : Addr} {fdbits_in : FuncData} (Gbits_in : FnG P w K mg base 2 fbits_in fdbits_in ["mask", "many"] sp_bits) (gbits_in : mg "bits_in" = some (.ref fbits_in)) (kbits_in : PySem.W.keepIn K (.ref fbits_in) = true) (bbits_in : Binds K fdbits_in ["mask", "many"] []) {fcells_of : Addr} {fdcells_of : FuncData} (Gcells_of : FnG P w K mg base 93 fcells_of fdcells_of ["term", "marks"] (sp_cells 90)) (gcells_of : mg "cells_of" = some (.ref fcells_of)) (kcells_of : PySem.W.keepIn K (.ref fcells_of) = true) (bcells_of : Binds K fdcells_of ["term", "marks"] []) 
    (len : ∀ ws O S, sp_cells_in ws O S → ws.length = 2) (rd : ∀ ws O S, sp_cells_in ws O S → dcells_in (outB S) (startD ["book", "term"] ws) O) : FnG P w K mg base 94 f fd ["book", "term"] sp_cells_in := by
  refine FunG F sccells_in len fun cdv A outer s H hr => ?_
  have sc := sccells_in
  exact ⟨dcells_in, (eb_cons (es_expr (ed_call Gneed_book (hr.mono (by decide)) (by rfl) gneed_book kneed_book bneed_book (ea_cons (ed_fg (dv 0)) ea_nil)))
      (eb_cons (es_expr (ed_call Gneed_term (hr.mono (by decide)) (by rfl) gneed_term kneed_term bneed_term (ea_cons (ed_fg (dv 0)) (ea_cons (dv 1) (ea_cons ed_str ea_nil)))))
      (eb_one (es_ret (ed_call Gbits_in (hr.mono (by decide)) (by rfl) gbits_in kbits_in bbits_in (ea_cons (ed_call Gcells_of (hr.mono (by decide)) (by rfl) gcells_of kcells_of bcells_of (ea_cons (dv 1) (ea_cons (ed_ixT (dv 0) ed_int) ea_nil))) (ea_cons (ed_shl ed_int (ed_callB call_len_seq src_len (by rfl) z_len PySem.boot_len (ea_cons (ed_fg (ed_ixT (dv 0) ed_int)) ea_nil))) ea_nil))))))), fun ws O S h => rd ws O S h⟩
abbrev s_law_feed : Stmt := topS 70
theorem sc_law_feed : FnScope ["_law_script", "_law_k", "_law_cell"] ["_law_script", "_law_k"] (defScope s_law_feed) := ⟨rfl, rfl, rfl, by decide +kernel, rfl, by decide +kernel, by decide +kernel⟩
abbrev n_law_feed : List Str := ["_law_script", "_law_k", "_law_cell"]
def d_law_feed : DTS := (dSeq (dSet 2 (dAdd (dMul (dC (.int 977)) (dVar 1)) (dCB rdSum (dCons (dSlL (dVar 0) dNoPart (dPart (dC (.int 1)))) dNil))))
    (dSeq (dIf (dTest (dLt (dVar 1) (dCB rdLen (dCons (dVar 0) dNil)))) (dSet 2 (dOp rdIxL (dVar 0) (dVar 1))) dNext)
    (dRet (dLst (dCons (dCB rdMax2 (dCons (dC (.int 0)) (dCons (dSub (dVar 2) (dPow (dC (.int 10)) (dC (.int 18)))) dNil))) (dCons (dMod (dCB rdInt1 (dCons (dAdd (dMul (dVar 2) (dC (.int 19))) (dMul (dC (.int 7)) (dVar 1))) dNil)) (dAdd (dPow (dC (.int 10)) (dC (.int 39))) (dC (.int 23)))) (dCons (dC (.int 0)) dNil)))))))
theorem ok_law_feed {f : Addr} {fd : FuncData} (F : FnP K "_law_feed" s_law_feed f fd) (z_sum : mg "sum" = none) (z_len : mg "len" = none) (z_max : mg "max" = none) (z_int : mg "int" = none)   
    (len : ∀ ws O S, sp_law_feed ws O S → ws.length = 2) (rd : ∀ ws O S, sp_law_feed ws O S → d_law_feed (outB S) (startD ["_law_script", "_law_k", "_law_cell"] ws) O) : FnG P w K mg base 1 f fd ["_law_script", "_law_k"] sp_law_feed := by
  refine FunG F sc_law_feed len fun cdv A outer s H hr => ?_
  have sc := sc_law_feed
  exact ⟨d_law_feed, (eb_cons (es_set (i := 2) sc.nd rfl (by first | exact Or.inl rfl | exact Or.inr rfl) (ed_add (ed_mul ed_int (dv 1)) (ed_callB (cr_sum rfl) src_sum (by rfl) z_sum (by decide +kernel) (ea_cons (ed_slL (dv 0) eo_none (eo_some ed_int)) ea_nil))))
      (eb_cons (es_if (et_lt (dv 1) (ed_callB call_len_seq src_len (by rfl) z_len PySem.boot_len (ea_cons (dv 0) ea_nil))) (eb_one (es_set (i := 2) sc.nd rfl (by first | exact Or.inl rfl | exact Or.inr rfl) (ed_ixL (dv 0) (dv 1)))) eb_nil)
      (eb_one (es_ret (ed_lst (ea_cons (ed_callB (call_max2 rfl) src_max2 (by rfl) z_max (by decide +kernel) (ea_cons ed_int (ea_cons (ed_sub (dv 2) (ed_pow ed_int ed_int)) ea_nil))) (ea_cons (ed_mod (ed_callTy call_int1 src_int1 (by rfl) z_int (by decide +kernel) (ea_cons (ed_add (ed_mul (dv 2) ed_int) (ed_mul ed_int (dv 1))) ea_nil)) (ed_add (ed_pow ed_int ed_int) ed_int)) (ea_cons ed_int ea_nil)))))))), fun ws O S h => rd ws O S h⟩
abbrev s_law_draw : Stmt := topS 71
theorem sc_law_draw : FnScope ["_law_feed_here", "_law_many", "_law_stir", "_law_rest", "_law_got"] ["_law_feed_here", "_law_many"] (defScope s_law_draw) := ⟨rfl, rfl, rfl, by decide +kernel, rfl, by decide +kernel, by decide +kernel⟩
theorem ok_law_draw {f : Addr} {fd : FuncData} (F : FnP K "_law_draw" s_law_draw f fd) (z_int : mg "int" = none)   
    (len : ∀ ws O S, sp_law_draw ws O S → ws.length = 2) (rd : ∀ ws O S, sp_law_draw ws O S → Dm.d_law_draw (outB S) (startD ["_law_feed_here", "_law_many", "_law_stir", "_law_rest", "_law_got"] ws) O) : FnG P w K mg base 1 f fd ["_law_feed_here", "_law_many"] sp_law_draw := by
  refine FunG F sc_law_draw len fun cdv A outer s H hr => ?_
  have sc := sc_law_draw
  exact ⟨Dm.d_law_draw, (eb_cons (es_if (et_gt (ed_ixL (dv 0) ed_int) ed_int) (eb_cons (es_set (i := 3) sc.nd rfl (by first | exact Or.inl rfl | exact Or.inr rfl) (ed_div (ed_ixL (dv 0) ed_int) (dv 1)))
      (eb_cons (es_set (i := 4) sc.nd rfl (by first | exact Or.inl rfl | exact Or.inr rfl) (ed_sub (ed_ixL (dv 0) ed_int) (ed_mul (dv 3) (dv 1))))
      (eb_cons (es_asg (dv 3) (eg_subL (dv 0) ed_int))
      (eb_one (es_ret (dv 4)))))) eb_nil)
      (eb_cons (es_asg (ed_add (ed_ixL (dv 0) ed_int) ed_int) (eg_subL (dv 0) ed_int))
      (eb_cons (es_set (i := 2) sc.nd rfl (by first | exact Or.inl rfl | exact Or.inr rfl) (ed_add (ed_ixL (dv 0) ed_int) (ed_mul ed_int (ed_ixL (dv 0) ed_int))))
      (eb_cons (es_set (i := 2) sc.nd rfl (by first | exact Or.inl rfl | exact Or.inr rfl) (ed_mod (ed_callTy call_int1 src_int1 (by rfl) z_int (by decide +kernel) (ea_cons (ed_add (ed_mul (ed_mul (dv 2) (dv 2)) (dv 2)) (ed_mul ed_int (ed_ixL (dv 0) ed_int))) ea_nil)) (ed_add (ed_pow ed_int ed_int) ed_int)))
      (eb_cons (es_set (i := 2) sc.nd rfl (by first | exact Or.inl rfl | exact Or.inr rfl) (ed_mod (ed_callTy call_int1 src_int1 (by rfl) z_int (by decide +kernel) (ea_cons (ed_add (ed_mul (dv 2) (dv 2)) ed_int) ea_nil)) (ed_add (ed_pow ed_int ed_int) ed_int)))
      (eb_one (es_ret (ed_mod (ed_callTy call_int1 src_int1 (by rfl) z_int (by decide +kernel) (ea_cons (ed_div (dv 2) (ed_pow ed_int ed_int)) ea_nil)) (dv 1))))))))), fun ws O S h => rd ws O S h⟩
abbrev s_law_one : Stmt := topS 72
theorem sc_law_one : FnScope ["_law_feed_here", "_law_things"] ["_law_feed_here", "_law_things"] (defScope s_law_one) := ⟨rfl, rfl, rfl, by decide +kernel, rfl, by decide +kernel, by decide +kernel⟩
theorem ok_law_one {f : Addr} {fd : FuncData} (F : FnP K "_law_one" s_law_one f fd) (z_len : mg "len" = none)   {f_law_draw : Addr} {fd_law_draw : FuncData} (G_law_draw : FnG P w K mg base 1 f_law_draw fd_law_draw ["_law_feed_here", "_law_many"] sp_law_draw) (g_law_draw : mg "_law_draw" = some (.ref f_law_draw)) (k_law_draw : PySem.W.keepIn K (.ref f_law_draw) = true) (b_law_draw : Binds K fd_law_draw ["_law_feed_here", "_law_many"] []) 
    (len : ∀ ws O S, sp_law_one ws O S → ws.length = 2) (rd : ∀ ws O S, sp_law_one ws O S → Dm.d_law_oneQ (outB S) (startD ["_law_feed_here", "_law_things"] ws) O) : FnG P w K mg base 2 f fd ["_law_feed_here", "_law_things"] sp_law_one := by
  refine FunG F sc_law_one len fun cdv A outer s H hr => ?_
  have sc := sc_law_one
  exact ⟨Dm.d_law_oneQ, (eb_one (es_ret (ed_ixQ (dv 1) (ed_call G_law_draw (hr.mono (by decide)) (by rfl) g_law_draw k_law_draw b_law_draw (ea_cons (dv 0) (ea_cons (ed_callB call_len_seq src_len (by rfl) z_len PySem.boot_len (ea_cons (dv 1) ea_nil)) ea_nil)))))), fun ws O S h => rd ws O S h⟩
abbrev s_law_in : Stmt := topS 73
theorem sc_law_in : FnScope ["_law_term", "_law_marks_here", "_law_cell", "_law_one_here", "_law_other"] ["_law_term", "_law_marks_here", "_law_cell"] (defScope s_law_in) := ⟨rfl, rfl, rfl, by decide +kernel, rfl, by decide +kernel, by decide +kernel⟩
abbrev n_law_in : List Str := ["_law_term", "_law_marks_here", "_law_cell", "_law_one_here", "_law_other"]
def d_law_in (n : Nat) : DTS := (dSeq (dIf (dTest (dOp rdEq (dOp rdIxT (dVar 0) (dC (.int 0))) (dC (.str "none")))) (dRet (dC (.bl false))) dNext)
    (dSeq (dIf (dTest (dOp rdEq (dOp rdIxT (dVar 0) (dC (.int 0))) (dC (.str "mark")))) (dRet (dOp rdEq (dMod (dCB rdInt1 (dCons (dDiv (dVar 2) (dOp rdIxL (dLst (dCons (dC (.int 1)) (dCons (dC (.int 2)) (dCons (dC (.int 4)) dNil)))) (dBM okL rdIdxL (dCB rdListOf (dCons (dVar 1) dNil)) (dCons (dOp rdIxT (dVar 0) (dC (.int 1))) dNil)))) dNil)) (dC (.int 2))) (dC (.int 1)))) dNext)
    (dSeq (dIf (dTest (dOp rdEq (dOp rdIxT (dVar 0) (dC (.int 0))) (dC (.str "not")))) (dRet (dNotV (dCall (sp_in n) (dCons (dOp rdIxT (dVar 0) (dC (.int 1))) (dCons (dVar 1) (dCons (dVar 2) dNil)))))) dNext)
    (dSeq (dPar 3 4 (dCons (dCall (sp_in n) (dCons (dOp rdIxT (dVar 0) (dC (.int 1))) (dCons (dVar 1) (dCons (dVar 2) dNil)))) (dCons (dCall (sp_in n) (dCons (dOp rdIxT (dVar 0) (dC (.int 2))) (dCons (dVar 1) (dCons (dVar 2) dNil)))) dNil)))
    (dRet (dIfE (dTest (dOp rdEq (dOp rdIxT (dVar 0) (dC (.int 0))) (dC (.str "both")))) (dAndV (dVar 3) (dVar 4)) (dOrV (dVar 3) (dVar 4))))))))
theorem ok_law_in (n : Nat) {f : Addr} {fd : FuncData} (F : FnP K "_law_in" s_law_in f fd) (z_int : mg "int" = none) (z_list : mg "list" = none)   {f_law_in : Addr} {fd_law_in : FuncData} (G_law_in : FnG P w K mg base (n + 1) f_law_in fd_law_in ["_law_term", "_law_marks_here", "_law_cell"] (sp_in n)) (g_law_in : mg "_law_in" = some (.ref f_law_in)) (k_law_in : PySem.W.keepIn K (.ref f_law_in) = true) (b_law_in : Binds K fd_law_in ["_law_term", "_law_marks_here", "_law_cell"] []) 
    (len : ∀ ws O S, (sp_in (n + 1)) ws O S → ws.length = 3) (rd : ∀ ws O S, (sp_in (n + 1)) ws O S → (d_law_in n) (outB S) (startD ["_law_term", "_law_marks_here", "_law_cell", "_law_one_here", "_law_other"] ws) O) : FnG P w K mg base (n + 2) f fd ["_law_term", "_law_marks_here", "_law_cell"] (sp_in (n + 1)) := by
  refine FunG F sc_law_in len fun cdv A outer s H hr => ?_
  have sc := sc_law_in
  exact ⟨(d_law_in n), (eb_cons (es_if (et_eq (ed_ixT (dv 0) ed_int) ed_str) (eb_one (es_ret ed_bl)) eb_nil)
      (eb_cons (es_if (et_eq (ed_ixT (dv 0) ed_int) ed_str) (eb_one (es_ret (ed_eq (ed_mod (ed_callTy call_int1 src_int1 (by rfl) z_int (by decide +kernel) (ea_cons (ed_div (dv 2) (ed_ixL (ed_lst (ea_cons ed_int (ea_cons ed_int (ea_cons ed_int ea_nil)))) (ed_bm PySem.F.plainAttrs_list PySem.F.slot_list_index PySem.F.type_list_index mt_index sty_L srm_idxL (ed_callTy call_list_of src_listOf (by rfl) z_list (by decide +kernel) (ea_cons (dv 1) ea_nil)) (ea_cons (ed_ixT (dv 0) ed_int) ea_nil)))) ea_nil)) ed_int) ed_int))) eb_nil)
      (eb_cons (es_if (et_eq (ed_ixT (dv 0) ed_int) ed_str) (eb_one (es_ret (ed_not (ed_call G_law_in (hr.mono (by omega)) (by rfl) g_law_in k_law_in b_law_in (ea_cons (ed_ixT (dv 0) ed_int) (ea_cons (dv 1) (ea_cons (dv 2) ea_nil))))))) eb_nil)
      (eb_cons (es_par (i := 3) (j := 4) rfl sc.nd rfl rfl (by decide) rfl rfl (ea_cons (ed_call G_law_in (hr.mono (by omega)) (by rfl) g_law_in k_law_in b_law_in (ea_cons (ed_ixT (dv 0) ed_int) (ea_cons (dv 1) (ea_cons (dv 2) ea_nil)))) (ea_cons (ed_call G_law_in (hr.mono (by omega)) (by rfl) g_law_in k_law_in b_law_in (ea_cons (ed_ixT (dv 0) ed_int) (ea_cons (dv 1) (ea_cons (dv 2) ea_nil)))) ea_nil)))
      (eb_one (es_ret (ed_if (et_eq (ed_ixT (dv 0) ed_int) ed_str) (ed_and (dv 3) (ed_one (dv 4))) (ed_or (dv 3) (ed_one (dv 4)))))))))), fun ws O S h => rd ws O S h⟩
abbrev s_law_marks : Stmt := topS 74
theorem sc_law_marks : FnScope ["_law_feed_here", "_law_turn", "_law_left", "_law_marks_here"] ["_law_feed_here"] (defScope s_law_marks) := ⟨rfl, rfl, rfl, by decide +kernel, rfl, by decide +kernel, by decide +kernel⟩
abbrev n_law_marks : List Str := ["_law_feed_here", "_law_turn", "_law_left", "_law_marks_here"]
def d_law_marks : DTS := (dSeq (dPar 2 3 (dCons (dLst (dCons (dC (.str "black")) (dCons (dC (.str "cat")) (dCons (dC (.str "none")) (dCons (dC (.str "mark")) (dCons (dC (.str "hole")) (dCons (dC (.str "all")) (dCons (dC (.str "a")) (dCons (dC (.str "abcdefghijkl")) (dCons (dC (.str "z9")) dNil)))))))))) (dCons (dLst dNil) dNil)))
    (dSeq (dFor (diR1 (dCons (dCall sp_law_one (dCons (dVar 0) (dCons (dLst (dCons (dC (.int 0)) (dCons (dC (.int 1)) (dCons (dC (.int 2)) (dCons (dC (.int 2)) (dCons (dC (.int 2)) dNil)))))) dNil))) dNil)) (dgName 1) (dDrop (dBM okL rdAppend (dVar 3) (dCons (dBM okL rdPopAt (dVar 2) (dCons (dCall sp_law_draw (dCons (dVar 0) (dCons (dCB rdLen (dCons (dVar 2) dNil)) dNil))) dNil)) dNil))))
    (dRet (dCB rdTupK (dCons (dVar 3) dNil)))))
theorem ok_law_marks {f : Addr} {fd : FuncData} (F : FnP K "_law_marks" s_law_marks f fd) (z_range : mg "range" = none) (z_tuple : mg "tuple" = none) (z_len : mg "len" = none)   {f_law_one : Addr} {fd_law_one : FuncData} (G_law_one : FnG P w K mg base 2 f_law_one fd_law_one ["_law_feed_here", "_law_things"] sp_law_one) (g_law_one : mg "_law_one" = some (.ref f_law_one)) (k_law_one : PySem.W.keepIn K (.ref f_law_one) = true) (b_law_one : Binds K fd_law_one ["_law_feed_here", "_law_things"] []) {f_law_draw : Addr} {fd_law_draw : FuncData} (G_law_draw : FnG P w K mg base 1 f_law_draw fd_law_draw ["_law_feed_here", "_law_many"] sp_law_draw) (g_law_draw : mg "_law_draw" = some (.ref f_law_draw)) (k_law_draw : PySem.W.keepIn K (.ref f_law_draw) = true) (b_law_draw : Binds K fd_law_draw ["_law_feed_here", "_law_many"] []) 
    (len : ∀ ws O S, sp_marks ws O S → ws.length = 1) (rd : ∀ ws O S, sp_marks ws O S → d_law_marks (outB S) (startD ["_law_feed_here", "_law_turn", "_law_left", "_law_marks_here"] ws) O) : FnG P w K mg base 3 f fd ["_law_feed_here"] sp_marks := by
  refine FunG F sc_law_marks len fun cdv A outer s H hr => ?_
  have sc := sc_law_marks
  exact ⟨d_law_marks, (eb_cons (es_par (i := 2) (j := 3) rfl sc.nd rfl rfl (by decide) rfl rfl (ea_cons (ed_lst (ea_cons ed_str (ea_cons ed_str (ea_cons ed_str (ea_cons ed_str (ea_cons ed_str (ea_cons ed_str (ea_cons ed_str (ea_cons ed_str (ea_cons ed_str ea_nil)))))))))) (ea_cons (ed_lst ea_nil) ea_nil)))
      (eb_cons (es_for PassesOwn.never rfl (ei_range1 (by rfl) z_range (ea_cons (ed_call G_law_one (hr.mono (by decide)) (by rfl) g_law_one k_law_one b_law_one (ea_cons (dv 0) (ea_cons (ed_lst (ea_cons ed_int (ea_cons ed_int (ea_cons ed_int (ea_cons ed_int (ea_cons ed_int ea_nil)))))) ea_nil))) ea_nil)) (eg_name (i := 1) sc.nd rfl (by first | exact Or.inl rfl | exact Or.inr rfl)) (eb_one (es_expr (ed_bm PySem.F.plainAttrs_list PySem.F.slot_list_append PySem.F.type_list_append mt_append sty_L srm_append (dv 3) (ea_cons (ed_bm PySem.F.plainAttrs_list PySem.F.slot_list_pop PySem.F.type_list_pop mt_popAt sty_L srm_popAt (dv 2) (ea_cons (ed_call G_law_draw (hr.mono (by decide)) (by rfl) g_law_draw k_law_draw b_law_draw (ea_cons (dv 0) (ea_cons (ed_callB call_len_seq src_len (by rfl) z_len PySem.boot_len (ea_cons (dv 2) ea_nil)) ea_nil))) ea_nil)) ea_nil)))))
      (eb_one (es_ret (ed_callTy call_tuple_ofK src_tupK (by rfl) z_tuple (by decide +kernel) (ea_cons (dv 3) ea_nil)))))), fun ws O S h => rd ws O S h⟩
abbrev s_law_small_book : Stmt := topS 75
theorem sc_law_small_book : FnScope ["_law_feed_here", "_law_marks_here", "_law_some", "_law_kind", "_law_term"] ["_law_feed_here", "_law_marks_here"] (defScope s_law_small_book) := ⟨rfl, rfl, rfl, by decide +kernel, rfl, by decide +kernel, by decide +kernel⟩
abbrev n_law_small_book : List Str := ["_law_feed_here", "_law_marks_here", "_law_some", "_law_kind", "_law_term"]
def d_law_small_book : DTS := (dSeq (dSet 2 (dTup (dCons (dC (.str "some")) (dCons (dTup (dCons (dC (.str "not")) (dCons (dTup (dCons (dC (.str "none")) dNil)) dNil))) dNil))))
    (dSeq (dAsg (dCall sp_law_one (dCons (dVar 0) (dCons (dLst (dCons (dTup (dCons (dC (.str "set")) (dCons (dTup (dCons (dC (.str "none")) dNil)) dNil))) (dCons (dTup (dCons (dC (.str "part")) (dCons (dVar 2) dNil))) (dCons (dTup (dCons (dC (.str "truth")) (dCons (dTup (dCons (dC (.str "is")) (dCons (dVar 2) (dCons (dTup (dCons (dC (.str "none")) dNil)) dNil)))) dNil))) dNil)))) dNil))) (dgTup 2 (dgCons (dgName 3) (dgCons (dgName 4) dgNil))))
    (dRet (dTup (dCons (dTup dNil) (dCons (dVar 1) (dCons (dTup (dCons (dTup (dCons (dC (.str "s")) (dCons (dVar 3) (dCons (dTup dNil) (dCons (dTup dNil) dNil))))) dNil)) (dCons (dC (.str "s")) (dCons (dTup (dCons (dTup (dCons (dC (.str "r")) (dCons (dTup (dCons (dC (.str "s")) (dCons (dTup dNil) (dCons (dTup dNil) dNil)))) (dCons (dTup dNil) (dCons (dTup (dCons (dC (.str "a")) dNil)) (dCons (dTup (dCons (dC (.str "x")) dNil)) (dCons (dVar 4) (dCons (dVar 4) dNil)))))))) dNil)) dNil)))))))))
theorem ok_law_small_book {f : Addr} {fd : FuncData} (F : FnP K "_law_small_book" s_law_small_book f fd)    {f_law_one : Addr} {fd_law_one : FuncData} (G_law_one : FnG P w K mg base 2 f_law_one fd_law_one ["_law_feed_here", "_law_things"] sp_law_one) (g_law_one : mg "_law_one" = some (.ref f_law_one)) (k_law_one : PySem.W.keepIn K (.ref f_law_one) = true) (b_law_one : Binds K fd_law_one ["_law_feed_here", "_law_things"] []) 
    (len : ∀ ws O S, sp_small ws O S → ws.length = 2) (rd : ∀ ws O S, sp_small ws O S → d_law_small_book (outB S) (startD ["_law_feed_here", "_law_marks_here", "_law_some", "_law_kind", "_law_term"] ws) O) : FnG P w K mg base 3 f fd ["_law_feed_here", "_law_marks_here"] sp_small := by
  refine FunG F sc_law_small_book len fun cdv A outer s H hr => ?_
  have sc := sc_law_small_book
  exact ⟨d_law_small_book, (eb_cons (es_set (i := 2) sc.nd rfl (by first | exact Or.inl rfl | exact Or.inr rfl) (ed_tup (ea_cons ed_str (ea_cons (ed_tup (ea_cons ed_str (ea_cons (ed_tup (ea_cons ed_str ea_nil)) ea_nil))) ea_nil))))
      (eb_cons (es_asg (ed_call G_law_one (hr.mono (by decide)) (by rfl) g_law_one k_law_one b_law_one (ea_cons (dv 0) (ea_cons (ed_lst (ea_cons (ed_tup (ea_cons ed_str (ea_cons (ed_tup (ea_cons ed_str ea_nil)) ea_nil))) (ea_cons (ed_tup (ea_cons ed_str (ea_cons (dv 2) ea_nil))) (ea_cons (ed_tup (ea_cons ed_str (ea_cons (ed_tup (ea_cons ed_str (ea_cons (dv 2) (ea_cons (ed_tup (ea_cons ed_str ea_nil)) ea_nil)))) ea_nil))) ea_nil)))) ea_nil))) (eg_tup rfl (egs_cons (eg_name (i := 3) sc.nd rfl (by first | exact Or.inl rfl | exact Or.inr rfl)) (egs_cons (eg_name (i := 4) sc.nd rfl (by first | exact Or.inl rfl | exact Or.inr rfl)) egs_nil))))
      (eb_one (es_ret (ed_tup (ea_cons (ed_tup ea_nil) (ea_cons (dv 1) (ea_cons (ed_tup (ea_cons (ed_tup (ea_cons ed_str (ea_cons (dv 3) (ea_cons (ed_tup ea_nil) (ea_cons (ed_tup ea_nil) ea_nil))))) ea_nil)) (ea_cons ed_str (ea_cons (ed_tup (ea_cons (ed_tup (ea_cons ed_str (ea_cons (ed_tup (ea_cons ed_str (ea_cons (ed_tup ea_nil) (ea_cons (ed_tup ea_nil) ea_nil)))) (ea_cons (ed_tup ea_nil) (ea_cons (ed_tup (ea_cons ed_str ea_nil)) (ea_cons (ed_tup (ea_cons ed_str ea_nil)) (ea_cons (dv 4) (ea_cons (dv 4) ea_nil)))))))) ea_nil)) ea_nil)))))))))), fun ws O S h => rd ws O S h⟩
abbrev s_law_set_term : Stmt := topS 76
theorem sc_law_set_term : FnScope ["_law_feed_here", "_law_marks_here", "_law_deep", "_law_way", "_law_one_here"] ["_law_feed_here", "_law_marks_here", "_law_deep"] (defScope s_law_set_term) := ⟨rfl, rfl, rfl, by decide +kernel, rfl, by decide +kernel, by decide +kernel⟩
abbrev n_law_set_term : List Str := ["_law_feed_here", "_law_marks_here", "_law_deep", "_law_way", "_law_one_here"]
def d_law_set_term (n : Nat) : DTS := (dSeq (dSet 3 (dIfE (dTest (dGt (dVar 2) (dC (.int 1)))) (dCall sp_law_draw (dCons (dVar 0) (dCons (dC (.int 7)) dNil))) (dC (.int 6))))
    (dSeq (dIf (dTest (dGt (dVar 3) (dC (.int 3)))) (dRet (dIfE (dAnd (dTest (dOp rdNeD (dVar 1) (dTup dNil))) (dTest (dGt (dCall sp_law_draw (dCons (dVar 0) (dCons (dC (.int 8)) dNil))) (dC (.int 0))))) (dTup (dCons (dC (.str "mark")) (dCons (dCall sp_law_one (dCons (dVar 0) (dCons (dVar 1) dNil))) dNil))) (dTup (dCons (dC (.str "none")) dNil)))) dNext)
    (dSeq (dSet 4 (dCall (sp_st n) (dCons (dVar 0) (dCons (dVar 1) (dCons (dSub (dVar 2) (dC (.int 1))) dNil)))))
    (dRet (dIfE (dTest (dLt (dVar 3) (dC (.int 2)))) (dTup (dCons (dC (.str "not")) (dCons (dVar 4) dNil))) (dTup (dCons (dOp rdIxL (dLst (dCons (dC (.str "both")) (dCons (dC (.str "either")) dNil))) (dSub (dVar 3) (dC (.int 2)))) (dCons (dVar 4) (dCons (dCall (sp_st n) (dCons (dVar 0) (dCons (dVar 1) (dCons (dSub (dVar 2) (dC (.int 1))) dNil)))) dNil)))))))))
theorem ok_law_set_term (n : Nat) {f : Addr} {fd : FuncData} (F : FnP K "_law_set_term" s_law_set_term f fd)    {f_law_set_term : Addr} {fd_law_set_term : FuncData} (G_law_set_term : FnG P w K mg base (n + 3) f_law_set_term fd_law_set_term ["_law_feed_here", "_law_marks_here", "_law_deep"] (sp_st n)) (g_law_set_term : mg "_law_set_term" = some (.ref f_law_set_term)) (k_law_set_term : PySem.W.keepIn K (.ref f_law_set_term) = true) (b_law_set_term : Binds K fd_law_set_term ["_law_feed_here", "_law_marks_here", "_law_deep"] []) {f_law_draw : Addr} {fd_law_draw : FuncData} (G_law_draw : FnG P w K mg base 1 f_law_draw fd_law_draw ["_law_feed_here", "_law_many"] sp_law_draw) (g_law_draw : mg "_law_draw" = some (.ref f_law_draw)) (k_law_draw : PySem.W.keepIn K (.ref f_law_draw) = true) (b_law_draw : Binds K fd_law_draw ["_law_feed_here", "_law_many"] []) {f_law_one : Addr} {fd_law_one : FuncData} (G_law_one : FnG P w K mg base 2 f_law_one fd_law_one ["_law_feed_here", "_law_things"] sp_law_one) (g_law_one : mg "_law_one" = some (.ref f_law_one)) (k_law_one : PySem.W.keepIn K (.ref f_law_one) = true) (b_law_one : Binds K fd_law_one ["_law_feed_here", "_law_things"] []) 
    (len : ∀ ws O S, (sp_st (n + 1)) ws O S → ws.length = 3) (rd : ∀ ws O S, (sp_st (n + 1)) ws O S → (d_law_set_term n) (outB S) (startD ["_law_feed_here", "_law_marks_here", "_law_deep", "_law_way", "_law_one_here"] ws) O) : FnG P w K mg base (n + 4) f fd ["_law_feed_here", "_law_marks_here", "_law_deep"] (sp_st (n + 1)) := by
  refine FunG F sc_law_set_term len fun cdv A outer s H hr => ?_
  have sc := sc_law_set_term
  exact ⟨(d_law_set_term n), (eb_cons (es_set (i := 3) sc.nd rfl (by first | exact Or.inl rfl | exact Or.inr rfl) (ed_if (et_gt (dv 2) ed_int) (ed_call G_law_draw (hr.mono (by omega)) (by rfl) g_law_draw k_law_draw b_law_draw (ea_cons (dv 0) (ea_cons ed_int ea_nil))) ed_int))
      (eb_cons (es_if (et_gt (dv 3) ed_int) (eb_one (es_ret (ed_if (ew_and (et_neD (hu64 hr) (dv 1) (ed_tup ea_nil)) (ew_and1 (et_gt (ed_call G_law_draw (hr.mono (by omega)) (by rfl) g_law_draw k_law_draw b_law_draw (ea_cons (dv 0) (ea_cons ed_int ea_nil))) ed_int))).t (ed_tup (ea_cons ed_str (ea_cons (ed_call G_law_one (hr.mono (by omega)) (by rfl) g_law_one k_law_one b_law_one (ea_cons (dv 0) (ea_cons (dv 1) ea_nil))) ea_nil))) (ed_tup (ea_cons ed_str ea_nil))))) eb_nil)
      (eb_cons (es_set (i := 4) sc.nd rfl (by first | exact Or.inl rfl | exact Or.inr rfl) (ed_call G_law_set_term (hr.mono (by omega)) (by rfl) g_law_set_term k_law_set_term b_law_set_term (ea_cons (dv 0) (ea_cons (dv 1) (ea_cons (ed_sub (dv 2) ed_int) ea_nil)))))
      (eb_one (es_ret (ed_if (et_lt (dv 3) ed_int) (ed_tup (ea_cons ed_str (ea_cons (dv 4) ea_nil))) (ed_tup (ea_cons (ed_ixL (ed_lst (ea_cons ed_str (ea_cons ed_str ea_nil))) (ed_sub (dv 3) ed_int)) (ea_cons (dv 4) (ea_cons (ed_call G_law_set_term (hr.mono (by omega)) (by rfl) g_law_set_term k_law_set_term b_law_set_term (ea_cons (dv 0) (ea_cons (dv 1) (ea_cons (ed_sub (dv 2) ed_int) ea_nil)))) ea_nil)))))))))), fun ws O S h => rd ws O S h⟩
abbrev slaw : Stmt := topS 77
theorem sclaw : FnScope ["_law_script", "_law_k", "_law_feed_here", "_law_marks_here", "_law_term", "_law_names", "_law_turn", "_law_told", "_law_book", "_law_due", "_law_cell"] ["_law_script"] (defScope slaw) := ⟨rfl, rfl, rfl, by decide +kernel, rfl, by decide +kernel, by decide +kernel⟩
abbrev nlaw : List Str := ["_law_script", "_law_k", "_law_feed_here", "_law_marks_here", "_law_term", "_law_names", "_law_turn", "_law_told", "_law_book", "_law_due", "_law_cell"]
def dlaw : DTS := (dSeq (dFor (diR1 (dCons (dCB rdMax2 (dCons (dC (.int 3)) (dCons (dCB rdMin2 (dCons (dCB rdLen (dCons (dVar 0) dNil)) (dCons (dC (.int 40)) dNil))) dNil))) dNil)) (dgName 1) (dSeq (dSet 2 (dCall sp_law_feed (dCons (dVar 0) (dCons (dVar 1) dNil))))
    (dSeq (dSet 3 (dCall sp_marks (dCons (dVar 2) dNil)))
    (dSeq (dSet 4 (dCall (sp_st 9) (dCons (dVar 2) (dCons (dFg (dVar 3)) (dCons (dAdd (dC (.int 1)) (dCall sp_law_draw (dCons (dVar 2) (dCons (dC (.int 7)) dNil)))) dNil)))))
    (dSeq (dIf (dTest (dOp rdEq (dCall sp_law_draw (dCons (dVar 2) (dCons (dC (.int 5)) dNil))) (dC (.int 0)))) (dFor (diR1 (dCons (dCall sp_law_one (dCons (dVar 2) (dCons (dLst (dCons (dC (.int 1)) (dCons (dC (.int 2)) (dCons (dC (.int 40)) (dCons (dC (.int 73)) dNil))))) dNil))) dNil)) (dgName 6) (dSet 4 (dTup (dCons (dC (.str "not")) (dCons (dVar 4) dNil))))) dNext)
    (dFor (diL (dLst (dCons (dVar 3) (dCons (dRevK (dVar 3) (dPart (dNeg (dC (.int 1))))) dNil)))) (dgName 5) (dSeq (dPar 8 9 (dCons (dCall sp_small (dCons (dVar 2) (dCons (dVar 5) dNil))) (dCons (dLc (diR1 (dCons (dOp rdIxL (dLst (dCons (dC (.int 1)) (dCons (dC (.int 2)) (dCons (dC (.int 4)) dNil)))) (dCB rdLen (dCons (dFg (dVar 3)) dNil))) dNil)) (dgName 10) (dTest (dCall (sp_in 90) (dCons (dVar 4) (dCons (dFg (dVar 5)) (dCons (dVar 10) dNil))))) (dVar 10) [10]) dNil)))
    (dSeq (dSet 7 (dCall sp_cells_in (dCons (dVar 8) (dCons (dVar 4) dNil))))
    (dSeq (dIf (dOr (dNot (dTest (dCB rdIsi (dCons (dVar 7) (dCons (dC (.ty "list")) dNil))))) (dTest (dOp rdNe (dCB rdRepr (dCons (dVar 7) dNil)) (dCB rdRepr (dCons (dVar 9) dNil))))) (dRet (dC (.bl false))) dNext)
    (dSeq (dDrop (dBM okL rdAppend (dVar 7) (dCons (dC (.int 7)) dNil)))
    (dIf (dTest (dOp rdNe (dCB rdRepr (dCons (dCallSw sp_cells_in (dCons (dVar 4) (dCons (dVar 8) dNil))) dNil)) (dCB rdRepr (dCons (dVar 9) dNil)))) (dRet (dC (.bl false))) dNext)))))))))))
    (dRet (dC (.bl true))))
theorem oklaw {f : Addr} {fd : FuncData} (F : FnP K "law" slaw f fd) (z_range : mg "range" = none) (z_max : mg "max" = none) (z_min : mg "min" = none) (z_len : mg "len" = none) (z_repr : mg "repr" = none) (z_isinstance : mg "isinstance" = none) (z_list : mg "list" = none)   {f_law_feed : Addr} {fd_law_feed : FuncData} (G_law_feed : FnG P w K mg base 1 f_law_feed fd_law_feed ["_law_script", "_law_k"] sp_law_feed) (g_law_feed : mg "_law_feed" = some (.ref f_law_feed)) (k_law_feed : PySem.W.keepIn K (.ref f_law_feed) = true) (b_law_feed : Binds K fd_law_feed ["_law_script", "_law_k"] []) {f_law_marks : Addr} {fd_law_marks : FuncData} (G_law_marks : FnG P w K mg base 3 f_law_marks fd_law_marks ["_law_feed_here"] sp_marks) (g_law_marks : mg "_law_marks" = some (.ref f_law_marks)) (k_law_marks : PySem.W.keepIn K (.ref f_law_marks) = true) (b_law_marks : Binds K fd_law_marks ["_law_feed_here"] []) {f_law_set_term : Addr} {fd_law_set_term : FuncData} (G_law_set_term : FnG P w K mg base 12 f_law_set_term fd_law_set_term ["_law_feed_here", "_law_marks_here", "_law_deep"] (sp_st 9)) (g_law_set_term : mg "_law_set_term" = some (.ref f_law_set_term)) (k_law_set_term : PySem.W.keepIn K (.ref f_law_set_term) = true) (b_law_set_term : Binds K fd_law_set_term ["_law_feed_here", "_law_marks_here", "_law_deep"] []) {f_law_draw : Addr} {fd_law_draw : FuncData} (G_law_draw : FnG P w K mg base 1 f_law_draw fd_law_draw ["_law_feed_here", "_law_many"] sp_law_draw) (g_law_draw : mg "_law_draw" = some (.ref f_law_draw)) (k_law_draw : PySem.W.keepIn K (.ref f_law_draw) = true) (b_law_draw : Binds K fd_law_draw ["_law_feed_here", "_law_many"] []) {fcells_in : Addr} {fdcells_in : FuncData} (Gcells_in : FnG P w K mg base 94 fcells_in fdcells_in ["book", "term"] sp_cells_in) (gcells_in : mg "cells_in" = some (.ref fcells_in)) (kcells_in : PySem.W.keepIn K (.ref fcells_in) = true) (bcells_in : Binds K fdcells_in ["book", "term"] []) {f_law_one : Addr} {fd_law_one : FuncData} (G_law_one : FnG P w K mg base 2 f_law_one fd_law_one ["_law_feed_here", "_law_things"] sp_law_one) (g_law_one : mg "_law_one" = some (.ref f_law_one)) (k_law_one : PySem.W.keepIn K (.ref f_law_one) = true) (b_law_one : Binds K fd_law_one ["_law_feed_here", "_law_things"] []) {f_law_small_book : Addr} {fd_law_small_book : FuncData} (G_law_small_book : FnG P w K mg base 3 f_law_small_book fd_law_small_book ["_law_feed_here", "_law_marks_here"] sp_small) (g_law_small_book : mg "_law_small_book" = some (.ref f_law_small_book)) (k_law_small_book : PySem.W.keepIn K (.ref f_law_small_book) = true) (b_law_small_book : Binds K fd_law_small_book ["_law_feed_here", "_law_marks_here"] []) {f_law_in : Addr} {fd_law_in : FuncData} (G_law_in : FnG P w K mg base 91 f_law_in fd_law_in ["_law_term", "_law_marks_here", "_law_cell"] (sp_in 90)) (g_law_in : mg "_law_in" = some (.ref f_law_in)) (k_law_in : PySem.W.keepIn K (.ref f_law_in) = true) (b_law_in : Binds K fd_law_in ["_law_term", "_law_marks_here", "_law_cell"] []) (kbcells_in_term_book : KSw K fdcells_in "book" "term")
    (len : ∀ ws O S, sp_law ws O S → ws.length = 1) (rd : ∀ ws O S, sp_law ws O S → dlaw (outB S) (startD ["_law_script", "_law_k", "_law_feed_here", "_law_marks_here", "_law_term", "_law_names", "_law_turn", "_law_told", "_law_book", "_law_due", "_law_cell"] ws) O) : FnG P w K mg base 95 f fd ["_law_script"] sp_law := by
  refine FunG F sclaw len fun cdv A outer s H hr => ?_
  have sc := sclaw
  exact ⟨dlaw, (eb_cons (es_for PassesOwn.never rfl (ei_range1 (by rfl) z_range (ea_cons (ed_callB (call_max2 rfl) src_max2 (by rfl) z_max (by decide +kernel) (ea_cons ed_int (ea_cons (ed_callB (call_min2 rfl) src_min2 (by rfl) z_min (by decide +kernel) (ea_cons (ed_callB call_len_seq src_len (by rfl) z_len PySem.boot_len (ea_cons (dv 0) ea_nil)) (ea_cons ed_int ea_nil))) ea_nil))) ea_nil)) (eg_name (i := 1) sc.nd rfl (by first | exact Or.inl rfl | exact Or.inr rfl)) (eb_cons (es_set (i := 2) sc.nd rfl (by first | exact Or.inl rfl | exact Or.inr rfl) (ed_call G_law_feed (hr.mono (by decide)) (by rfl) g_law_feed k_law_feed b_law_feed (ea_cons (dv 0) (ea_cons (dv 1) ea_nil))))
      (eb_cons (es_set (i := 3) sc.nd rfl (by first | exact Or.inl rfl | exact Or.inr rfl) (ed_call G_law_marks (hr.mono (by decide)) (by rfl) g_law_marks k_law_marks b_law_marks (ea_cons (dv 2) ea_nil)))
      (eb_cons (es_set (i := 4) sc.nd rfl (by first | exact Or.inl rfl | exact Or.inr rfl) (ed_call G_law_set_term (hr.mono (by decide)) (by rfl) g_law_set_term k_law_set_term b_law_set_term (ea_cons (dv 2) (ea_cons (ed_fg (dv 3)) (ea_cons (ed_add ed_int (ed_call G_law_draw (hr.mono (by decide)) (by rfl) g_law_draw k_law_draw b_law_draw (ea_cons (dv 2) (ea_cons ed_int ea_nil)))) ea_nil)))))
      (eb_cons (es_if (et_eq (ed_call G_law_draw (hr.mono (by decide)) (by rfl) g_law_draw k_law_draw b_law_draw (ea_cons (dv 2) (ea_cons ed_int ea_nil))) ed_int) (eb_one (es_for PassesOwn.never rfl (ei_range1 (by rfl) z_range (ea_cons (ed_call G_law_one (hr.mono (by decide)) (by rfl) g_law_one k_law_one b_law_one (ea_cons (dv 2) (ea_cons (ed_lst (ea_cons ed_int (ea_cons ed_int (ea_cons ed_int (ea_cons ed_int ea_nil))))) ea_nil))) ea_nil)) (eg_name (i := 6) sc.nd rfl (by first | exact Or.inl rfl | exact Or.inr rfl)) (eb_one (es_set (i := 4) sc.nd rfl (by first | exact Or.inl rfl | exact Or.inr rfl) (ed_tup (ea_cons ed_str (ea_cons (dv 4) ea_nil))))))) eb_nil)
      (eb_one (es_for PassesOwn.never rfl (ei_lst (ed_lst (ea_cons (dv 3) (ea_cons (ed_revK (dv 3) (eo_some (ed_neg ed_int)) (by intro _ _; with_unfolding_all rfl)) ea_nil)))) (eg_name (i := 5) sc.nd rfl (by first | exact Or.inl rfl | exact Or.inr rfl)) (eb_cons (es_par (i := 8) (j := 9) rfl sc.nd rfl rfl (by decide) rfl rfl (ea_cons (ed_call G_law_small_book (hr.mono (by decide)) (by rfl) g_law_small_book k_law_small_book b_law_small_book (ea_cons (dv 2) (ea_cons (dv 5) ea_nil))) (ea_cons (ed_lc rfl sc.nd (own := [("_law_cell", 10)]) (ei_range1 (by rfl) z_range (ea_cons (ed_ixL (ed_lst (ea_cons ed_int (ea_cons ed_int (ea_cons ed_int ea_nil)))) (ed_callB call_len_seq src_len (by rfl) z_len PySem.boot_len (ea_cons (ed_fg (dv 3)) ea_nil))) ea_nil)) (blkOk_by (N := ["_law_script", "_law_k", "_law_feed_here", "_law_marks_here", "_law_term", "_law_names", "_law_turn", "_law_told", "_law_book", "_law_due", "_law_cell"]) (sc := defScope slaw) (by decide +kernel)) (fun _ _ _ _ _ => (egc_name (i := 10) (by decide) sc.nd rfl (by first | exact Or.inl rfl | exact Or.inr rfl))) (fun _ _ _ _ _ => (ets_one (et_val (ed_call G_law_in (hr.mono (by decide)) (by rfl) g_law_in k_law_in b_law_in (ea_cons (dv 4) (ea_cons (ed_fg (dv 5)) (ea_cons (dv 10) ea_nil))))))) (fun _ _ _ _ _ => (dv 10))) ea_nil)))
      (eb_cons (es_set (i := 7) sc.nd rfl (by first | exact Or.inl rfl | exact Or.inr rfl) (ed_call Gcells_in (hr.mono (by decide)) (by rfl) gcells_in kcells_in bcells_in (ea_cons (dv 8) (ea_cons (dv 4) ea_nil))))
      (eb_cons (es_if (ew_or (et_not (et_val (ed_callB call_isi src_isi (by rfl) z_isinstance (by decide +kernel) (ea_cons (dv 7) (ea_cons (ed_bltn (by rfl) z_list (by decide +kernel)) ea_nil))))) (ew_or1 (et_ne (ed_callB (cr_repr hr.g (hu65 hr)) src_repr (by rfl) z_repr (by decide +kernel) (ea_cons (dv 7) ea_nil)) (ed_callB (cr_repr hr.g (hu65 hr)) src_repr (by rfl) z_repr (by decide +kernel) (ea_cons (dv 9) ea_nil))))).t (eb_one (es_ret ed_bl)) eb_nil)
      (eb_cons (es_expr (ed_bm PySem.F.plainAttrs_list PySem.F.slot_list_append PySem.F.type_list_append mt_append sty_L srm_append (dv 7) (ea_cons ed_int ea_nil)))
      (eb_one (es_if (et_ne (ed_callB (cr_repr hr.g (hu65 hr)) src_repr (by rfl) z_repr (by decide +kernel) (ea_cons (ed_callSw Gcells_in (hr.mono (by decide)) (by rfl) gcells_in kcells_in kbcells_in_term_book (ek_cons (dv 4) (ek_cons (dv 8) ek_nil))) ea_nil)) (ed_callB (cr_repr hr.g (hu65 hr)) src_repr (by rfl) z_repr (by decide +kernel) (ea_cons (dv 9) ea_nil))) (eb_one (es_ret ed_bl)) eb_nil)))))))))))))
      (eb_one (es_ret ed_bl))), fun ws O S h => rd ws O S h⟩
end
end K62

set_option Elab.async false
set_option linter.all false
set_option maxRecDepth 100000
set_option maxHeartbeats 4000000
/-! k62: what is true of masks, terms, small books. -/
namespace K62
open PySem PySem.Spec PyProof.Rows L2 Dm
/-! ### masks -/
theorem msk1 (f : Nat → Bool) : msk 1 f = mskL [f 0] := rfl
theorem msk2 (f : Nat → Bool) : msk 2 f = mskL [f 0, f 1] := rfl
theorem msk4 (f : Nat → Bool) : msk 4 f = mskL [f 0, f 1, f 2, f 3] := rfl
def band (f g : Nat → Bool) : Nat → Bool := fun c => f c && g c
def bor (f g : Nat → Bool) : Nat → Bool := fun c => f c || g c
def bneg (f : Nat → Bool) : Nat → Bool := fun c => !f c
theorem and1 : ∀ a b : Bool, Builtin.bitAnd (mskL [a]) (mskL [b]) = mskL [a && b] := by decide +kernel
theorem and2 : ∀ a b c d : Bool, Builtin.bitAnd (mskL [a, b]) (mskL [c, d]) = mskL [a && c, b && d] := by decide +kernel
theorem and4 : ∀ a b c d e f g h : Bool, Builtin.bitAnd (mskL [a, b, c, d]) (mskL [e, f, g, h]) = mskL [a && e, b && f, c && g, d && h] := by decide +kernel
theorem or1 : ∀ a b : Bool, Builtin.bitOr (mskL [a]) (mskL [b]) = mskL [a || b] := by decide +kernel
theorem or2 : ∀ a b c d : Bool, Builtin.bitOr (mskL [a, b]) (mskL [c, d]) = mskL [a || c, b || d] := by decide +kernel
theorem or4 : ∀ a b c d e f g h : Bool, Builtin.bitOr (mskL [a, b, c, d]) (mskL [e, f, g, h]) = mskL [a || e, b || f, c || g, d || h] := by decide +kernel
theorem not1 : ∀ a : Bool, Builtin.bitAnd (2 ^ 1 - 1) (Builtin.bitNot (mskL [a])) = mskL [!a] := by decide +kernel
theorem not2 : ∀ a b : Bool, Builtin.bitAnd (2 ^ 2 - 1) (Builtin.bitNot (mskL [a, b])) = mskL [!a, !b] := by decide +kernel
theorem not4 : ∀ a b c d : Bool, Builtin.bitAnd (2 ^ 4 - 1) (Builtin.bitNot (mskL [a, b, c, d])) = mskL [!a, !b, !c, !d] := by decide +kernel
abbrev Three (N : Nat) : Prop := N = 1 ∨ N = 2 ∨ N = 4
theorem three_pow {n : Nat} (h : n ≤ 2) : Three (2 ^ n) := by
  have : n = 0 ∨ n = 1 ∨ n = 2 := by omega
  rcases this with rfl | rfl | rfl
  · exact .inl rfl
  · exact .inr (.inl rfl)
  · exact .inr (.inr rfl)
theorem msk_and {N : Nat} (h : Three N) (f g : Nat → Bool) : Builtin.bitAnd (msk N f) (msk N g) = msk N (band f g) := by
  rcases h with rfl | rfl | rfl
  · rw [msk1, msk1, msk1, and1]; rfl
  · rw [msk2, msk2, msk2, and2]; rfl
  · rw [msk4, msk4, msk4, and4]; rfl
theorem msk_or {N : Nat} (h : Three N) (f g : Nat → Bool) : Builtin.bitOr (msk N f) (msk N g) = msk N (bor f g) := by
  rcases h with rfl | rfl | rfl
  · rw [msk1, msk1, msk1, or1]; rfl
  · rw [msk2, msk2, msk2, or2]; rfl
  · rw [msk4, msk4, msk4, or4]; rfl
theorem msk_not {N : Nat} (h : Three N) (f : Nat → Bool) : Builtin.bitAnd (2 ^ N - 1) (Builtin.bitNot (msk N f)) = msk N (bneg f) := by
  rcases h with rfl | rfl | rfl
  · rw [msk1, msk1, not1]; rfl
  · rw [msk2, msk2, not2]; rfl
  · rw [msk4, msk4, not4]; rfl
theorem bit1 : ∀ a : Bool, hasBit (mskL [a]) 0 = a := by decide +kernel
theorem bit2 : ∀ a b : Bool, hasBit (mskL [a, b]) 0 = a ∧ hasBit (mskL [a, b]) 1 = b := by decide +kernel
theorem bit4 : ∀ a b c d : Bool, hasBit (mskL [a, b, c, d]) 0 = a ∧ hasBit (mskL [a, b, c, d]) 1 = b ∧ hasBit (mskL [a, b, c, d]) 2 = c ∧ hasBit (mskL [a, b, c, d]) 3 = d := by decide +kernel
theorem msk_bit {N : Nat} (h : Three N) (f : Nat → Bool) : ∀ c, c < N → hasBit (msk N f) (c : Int) = f c := by
  rcases h with rfl | rfl | rfl
  · intro c hc
    have : c = 0 := by omega
    subst this
    exact bit1 _
  · intro c hc
    have : c = 0 ∨ c = 1 := by omega
    rcases this with rfl | rfl
    · exact (bit2 _ _).1
    · exact (bit2 _ _).2
  · intro c hc
    have : c = 0 ∨ c = 1 ∨ c = 2 ∨ c = 3 := by omega
    rcases this with rfl | rfl | rfl | rfl
    · exact (bit4 _ _ _ _).1
    · exact (bit4 _ _ _ _).2.1
    · exact (bit4 _ _ _ _).2.2.1
    · exact (bit4 _ _ _ _).2.2.2
/-- the cells with a bit -/
theorem marked_sum : ∀ n j : Nat, n ≤ 2 → j < n → (((List.range (2 ^ n)).filter fun c : Nat => hasBit ((c : Nat) : Int) (j : Int)).map fun c : Nat => (2 : Int) ^ c).sum = msk (2 ^ n) fun c => decide (c / 2 ^ j % 2 = 1) := by
  intro n j hn hj
  have : (n = 1 ∧ j = 0) ∨ (n = 2 ∧ j = 0) ∨ (n = 2 ∧ j = 1) := by omega
  rcases this with ⟨rfl, rfl⟩ | ⟨rfl, rfl⟩ | ⟨rfl, rfl⟩
  · decide +kernel
  · decide +kernel
  · decide +kernel
/-! ### closed terms -/
theorem vw_t (O : Sto) (us : List W) : Vw O (.tup us) := ⟨⟨_, rfl⟩, fun z e => by cases e⟩
theorem vw_s (O : Sto) {x : Str} (h : x.length ≤ 1000000) : Vw O (.str x) := ⟨⟨_, rfl⟩, fun z e => by cases e; exact h⟩
theorem vd_t {O : Sto} {us : List W} (h : ∀ u ∈ us, Vd O u) : Vd O (.tup us) := .mk (vw_t O us) fun xs e => by cases e; exact h
theorem vd_s (O : Sto) {x : Str} (h : x.length ≤ 1000000) : Vd O (.str x) := .mk (vw_s O h) fun xs e => by cases e
theorem vd_nil (O : Sto) : Vd O (.tup []) := vd_t fun u h => absurd h List.not_mem_nil
theorem vd_cons {O : Sto} {u : W} {us : List W} (h : Vd O u) (hs : Vd O (.tup us)) : Vd O (.tup (u :: us)) := vd_t fun x hx => by
  rcases List.mem_cons.mp hx with rfl | hx
  · exact h
  · exact hs.at_ hx
theorem vd_w {O : Sto} (x : Str) (h : decide (x.length ≤ 1000000) = true) : Vd O (.str x) := vd_s O (of_decide_eq_true h)
theorem vd_enc (O : Sto) {mk : List Str} (hm : ∀ x ∈ mk, x.length ≤ 1000000) : ∀ t : ST, wf mk t → Vd O (enc t)
  | .none, _ => vd_cons (vd_w "none" (by decide +kernel)) (vd_nil O)
  | .mark x, h => vd_cons (vd_w "mark" (by decide +kernel)) (vd_cons (vd_s O (hm x h)) (vd_nil O))
  | .not a, h => vd_cons (vd_w "not" (by decide +kernel)) (vd_cons (vd_enc O hm a h) (vd_nil O))
  | .both a b, h => vd_cons (vd_w "both" (by decide +kernel)) (vd_cons (vd_enc O hm a h.1) (vd_cons (vd_enc O hm b h.2) (vd_nil O)))
  | .either a b, h => vd_cons (vd_w "either" (by decide +kernel)) (vd_cons (vd_enc O hm a h.1) (vd_cons (vd_enc O hm b h.2) (vd_nil O)))
theorem flat_in {mk : List Str} {x : Str} (h : x ∈ mk) : mOf (.str x) (mk.map W.str) = true := by
  unfold mOf inW
  rw [Bool.and_eq_true]
  refine ⟨rfl, List.any_eq_true.mpr ⟨.str x, List.mem_map_of_mem h, ?_⟩⟩
  unfold eqW
  simp
theorem hole_no {x : Str} {rest : List W} (h : x ≠ "hole") : holeOf (.tup (.str x :: rest)) = Option.none := by
  unfold holeOf
  split
  · rename_i y i e
    cases e
    rw [if_neg h]
  · rfl
theorem node_enc {mk : List Str} : ∀ t : ST, wf mk t → mNode (enc t) "set" mk [] = true ∧ holeOf (enc t) = Option.none
  | .none, _ => ⟨by rfl, hole_no (by decide +kernel)⟩
  | .mark x, h => ⟨by
      have : mMark [.str x] mk = true := flat_in h
      exact this, hole_no (by decide +kernel)⟩
  | .not a, _ => ⟨by rfl, hole_no (by decide +kernel)⟩
  | .both a b, _ => ⟨by rfl, hole_no (by decide +kernel)⟩
  | .either a b, _ => ⟨by rfl, hole_no (by decide +kernel)⟩
abbrev sS : Str := "set"
theorem tails_not (a : ST) (d : Int) : tailsOf (enc (.not a)) sS d = [(enc a, sS, d + 1)] := by rfl
theorem tails_both (a b : ST) (d : Int) : tailsOf (enc (.both a b)) sS d = [(enc a, sS, d + 1), (enc b, sS, d + 1)] := by rfl
theorem tails_either (a b : ST) (d : Int) : tailsOf (enc (.either a b)) sS d = [(enc a, sS, d + 1), (enc b, sS, d + 1)] := by rfl
theorem loop_step {mk : List Str} {dp : Int} {n : Nat} {st : Stk} {t : ST} {d : Int} (hw : wf mk t) (hd : d ≤ dp) : mLoop mk [] dp (n + 1) (st ++ [(enc t, sS, d)]) [] = mLoop mk [] dp n (st ++ tailsOf (enc t) sS d) [] := by
  obtain ⟨h1, h2⟩ := node_enc t hw
  have hl : (st ++ [(enc t, sS, d)]).getLast? = some (enc t, sS, d) := by simp
  have hdl : (st ++ [(enc t, sS, d)]).dropLast = st := by simp
  conv => lhs; unfold mLoop
  rw [hl]
  dsimp only
  rw [decide_eq_true hd, h1, h2, hdl]
  rfl
theorem loop_term {mk : List Str} {dp : Int} : ∀ (t : ST) (n : Nat) (st : Stk) (d : Int), wf mk t → d + (dep t : Int) ≤ dp + 1 → mLoop mk [] dp (n + siz t) (st ++ [(enc t, sS, d)]) [] = mLoop mk [] dp n st []
  | .none, n, st, d, hw, hd => by
    rw [show n + siz ST.none = n + 1 from rfl, loop_step hw (by have := hd; unfold dep at this; omega), show tailsOf (enc ST.none) sS d = [] from rfl, List.append_nil]
  | .mark x, n, st, d, hw, hd => by
    rw [show n + siz (ST.mark x) = n + 1 from rfl, loop_step hw (by have := hd; unfold dep at this; omega), show tailsOf (enc (ST.mark x)) sS d = [] from rfl, List.append_nil]
  | .not a, n, st, d, hw, hd => by
    rw [show n + siz (ST.not a) = n + siz a + 1 from rfl, loop_step hw (by have := hd; unfold dep at this; omega), tails_not]
    exact loop_term a n st (d + 1) hw (by have := hd; unfold dep at this; omega)
  | .both a b, n, st, d, hw, hd => by
    rw [show n + siz (ST.both a b) = n + siz a + siz b + 1 by show n + (siz a + siz b + 1) = _; omega, loop_step hw (by have := hd; unfold dep at this; omega), tails_both, show st ++ [(enc a, sS, d + 1), (enc b, sS, d + 1)] = (st ++ [(enc a, sS, d + 1)]) ++ [(enc b, sS, d + 1)] by simp]
    rw [loop_term b (n + siz a) (st ++ [(enc a, sS, d + 1)]) (d + 1) hw.2 (by have := hd; unfold dep at this; omega)]
    exact loop_term a n st (d + 1) hw.1 (by have := hd; unfold dep at this; omega)
  | .either a b, n, st, d, hw, hd => by
    rw [show n + siz (ST.either a b) = n + siz a + siz b + 1 by show n + (siz a + siz b + 1) = _; omega, loop_step hw (by have := hd; unfold dep at this; omega), tails_either, show st ++ [(enc a, sS, d + 1), (enc b, sS, d + 1)] = (st ++ [(enc a, sS, d + 1)]) ++ [(enc b, sS, d + 1)] by simp]
    rw [loop_term b (n + siz a) (st ++ [(enc a, sS, d + 1)]) (d + 1) hw.2 (by have := hd; unfold dep at this; omega)]
    exact loop_term a n st (d + 1) hw.1 (by have := hd; unfold dep at this; omega)
theorem closed_enc {mk : List Str} {t : ST} (hw : wf mk t) (hd : dep t ≤ 80) (hs : siz t ≤ 300) : mClosed (enc t) "set" mk = true := by
  unfold mClosed mTerm
  obtain ⟨n, hn⟩ : ∃ n, 300 = n + siz t := ⟨300 - siz t, by omega⟩
  rw [hn]
  have := loop_term (mk := mk) (dp := 80) t n [] 1 hw (by omega)
  rw [List.nil_append] at this
  rw [this]
  unfold mLoop
  rfl
/-! ### small books -/
def allMk : List (List Str) := [[]] ++ (names9.map (fun x => [x]) ++ names9.flatMap fun x => (names9.filter fun y => decide (y ≠ x)).map fun y => [x, y])
theorem mk_in {mk : List Str} (h : Mk mk) : mk ∈ allMk := by
  obtain ⟨h1, h2, h3⟩ := h
  unfold allMk
  match mk, h1, h2, h3 with
  | [], _, _, _ => exact List.mem_append_left _ (List.mem_singleton.mpr rfl)
  | [x], _, _, h3 => exact List.mem_append_right _ (List.mem_append_left _ (List.mem_map.mpr ⟨x, h3 x (by simp), rfl⟩))
  | [x, y], _, h2, h3 =>
    refine List.mem_append_right _ (List.mem_append_right _ (List.mem_flatMap.mpr ⟨x, h3 x (by simp), List.mem_map.mpr ⟨y, List.mem_filter.mpr ⟨h3 y (by simp), decide_eq_true ?_⟩, rfl⟩⟩))
    intro e
    subst e
    simp at h2
  | _ :: _ :: _ :: _, h1, _, _ => simp at h1
theorem books_all : allMk.all (fun mk => menu.all fun p => mBook (.tup (bookL (.tup (mk.map W.str)) p.1 p.2))) = true := by decide +kernel
theorem book_ok {mk : List Str} (h : Mk mk) {kd : Str} {tm : W} (hm : (kd, tm) ∈ menu) : mBook (.tup (bookL (.tup (mk.map W.str)) kd tm)) = true := List.all_eq_true.mp (List.all_eq_true.mp books_all mk (mk_in h)) (kd, tm) hm
theorem Mk.rev {mk : List Str} (h : Mk mk) : Mk mk.reverse := ⟨by rw [List.length_reverse]; exact h.len, (List.reverse_perm mk).nodup_iff.mpr h.nd, fun x hx => h.mem x (List.mem_reverse.mp hx)⟩
theorem names_short : ∀ x ∈ names9, x.length ≤ 1000 := by decide +kernel
theorem Mk.short {mk : List Str} (h : Mk mk) : ∀ x ∈ mk, x.length ≤ 1000 := fun x hx => names_short x (h.mem x hx)
theorem fgs_book {mk : List Str} {kd : Str} {tm : W} (hm : (kd, tm) ∈ menu) : fgs (bookL (.ktp (mk.map W.str)) kd tm) = bookL (.tup (mk.map W.str)) kd tm := by
  have h : ∀ p ∈ menu, fg p.2 = p.2 := by
    intro p hp
    unfold menu at hp
    simp only [List.mem_cons, List.not_mem_nil, or_false] at hp
    rcases hp with rfl | rfl | rfl
    · rfl
    · rfl
    · rfl
  have e := h _ hm
  dsimp only at e
  unfold bookL
  simp only [fgs, fg, fgs_strs, e]
theorem vd_book {O : Sto} {mk : List Str} (h : Mk mk) {kd : Str} {tm : W} (hm : (kd, tm) ∈ menu) : Vd O (.tup (bookL (.tup (mk.map W.str)) kd tm)) := by
  have hn : Vd O (.tup [.str "none"]) := vd_cons (vd_w "none" (by decide +kernel)) (vd_nil O)
  have hs : Vd O someW := vd_cons (vd_w "some" (by decide +kernel)) (vd_cons (vd_cons (vd_w "not" (by decide +kernel)) (vd_cons hn (vd_nil O))) (vd_nil O))
  have ht : Vd O tm ∧ Vd O (.str kd) := by
    unfold menu at hm
    simp only [List.mem_cons, List.not_mem_nil, or_false, Prod.mk.injEq] at hm
    rcases hm with ⟨rfl, rfl⟩ | ⟨rfl, rfl⟩ | ⟨rfl, rfl⟩
    · exact ⟨hn, vd_w _ (by decide +kernel)⟩
    · exact ⟨hs, vd_w _ (by decide +kernel)⟩
    · exact ⟨vd_cons (vd_w "is" (by decide +kernel)) (vd_cons hs (vd_cons hn (vd_nil O))), vd_w _ (by decide +kernel)⟩
  have hmk : Vd O (.tup (mk.map W.str)) := vd_t fun u hu => by
    obtain ⟨x, hx, rfl⟩ := List.mem_map.mp hu
    have := h.short x hx
    exact vd_s O (by omega)
  have h0 := vd_nil O
  have hS : Vd O (.str "s") := vd_w _ (by decide +kernel)
  have hcat : Vd O (.tup [.str "s", .tup [], .tup []]) := vd_cons hS (vd_cons h0 (vd_cons h0 h0))
  have hsort : Vd O (.tup [.tup [.str "s", .str kd, .tup [], .tup []]]) := vd_cons (vd_cons hS (vd_cons ht.2 (vd_cons h0 (vd_cons h0 h0)))) h0
  have ha : Vd O (.tup [.str "a"]) := vd_cons (vd_w _ (by decide +kernel)) h0
  have hx : Vd O (.tup [.str "x"]) := vd_cons (vd_w _ (by decide +kernel)) h0
  have hr : Vd O (.str "r") := vd_w _ (by decide +kernel)
  exact vd_cons h0 (vd_cons hmk (vd_cons hsort (vd_cons hS (vd_cons (vd_cons (vd_cons hr (vd_cons hcat (vd_cons h0 (vd_cons ha (vd_cons hx (vd_cons ht.1 (vd_cons ht.1 h0))))))) h0) h0))))
end K62

set_option Elab.async false
set_option linter.all false
set_option maxRecDepth 100000
set_option maxHeartbeats 1000000
/-! k62: the program's defs do as promised. -/
namespace K62
open PySem PySem.Spec PyProof.Rows L2 Dm
theorem cpow_one {k : Int} (h0 : 0 ≤ k) (h1 : k ≤ 1000000) : CPow 1 k := ⟨h0, h1, by decide⟩
theorem shl_nat (k : Nat) : (1 : Int) * 2 ^ ((k : Int)).toNat = 2 ^ k := by rw [Int.one_mul, Int.toNat_natCast]
theorem pow_cast (n : Nat) : ((2 : Int) ^ n) = (((2 ^ n : Nat)) : Int) := by rw [Int.natCast_pow]; rfl
theorem rd_full (ws : List W) (O : Sto) (S : WK) (h : sp_full ws O S) : dfull_mask (outB S) (startD nfull_mask ws) O := by
  obtain ⟨N, rfl, hN, q⟩ := h
  refine ⟨_, rfl, _, _, rfl, rfl, cpow_one (by omega) (by omega), _, _, rfl, rfl, ?_⟩
  dsimp only
  rw [shl_nat]
  exact q
theorem rd_bit (ws : List W) (O : Sto) (S : WK) (h : sp_bit ws O S) : dhas_bit (outB S) (startD nhas_bit ws) O := by
  obtain ⟨m, c, rfl, hc, q⟩ := h
  exact ⟨_, rfl, _, rfl, _, _, rfl, rfl, hc, _, _, rfl, rfl, _, rfl, q⟩
/-- range(n), walked by a comprehension -/
def natsW (n : Nat) : List W := (List.range n).map fun (i : Nat) => W.int (i : Int)
theorem at_rng {n : Nat} {O1 : Sto} : ∀ O', Sm O1 O' → (wkR 0 n).ok O' ∧ ∀ i, (wkR 0 n).at_ i O' = (natsW n)[i]? := fun _ _ => ⟨True.intro, fun i => by
  show (if i < n then some (W.int (0 + (i : Int))) else none) = _
  unfold natsW
  rw [List.getElem?_map]
  by_cases h : i < n
  · rw [if_pos h, List.getElem?_range h, Int.zero_add]
    rfl
  · rw [if_neg h, List.getElem?_eq_none (by rw [List.length_range]; omega)]
    rfl⟩
theorem nats_in {n i : Nat} {z : W} (h : (natsW n)[i]? = some z) : i < n ∧ z = .int (i : Int) := by
  unfold natsW at h
  rw [List.getElem?_map] at h
  by_cases hi : i < n
  · rw [List.getElem?_range hi] at h
    cases h
    exact ⟨hi, rfl⟩
  · rw [List.getElem?_eq_none (by rw [List.length_range]; omega)] at h
    cases h
def pW (p : Nat → Bool) : W → Bool
  | .int c => p c.toNat
  | _ => false
def fWn (f : Nat → Int) : W → W
  | .int c => .int (f c.toNat)
  | w => w
theorem nats_filter (n : Nat) (p : Nat → Bool) (f : Nat → Int) : ((natsW n).filter (pW p)).map (fWn f) = ((List.range n).filter p).map fun c => W.int (f c) := by
  unfold natsW
  rw [List.filter_map, List.map_map]
  congr 1
/-- [f(c) for c in range(N) if p(c)] -/
theorem ev_lcR {N : Nat} {δ : DS} {O O1 : Sto} {S : WK} {wa : DA} {f : Nat → Int} {p : Nat → Bool} {g : DG} {wt : DT} {we : DE} {vs : List Nat} (hN : N ≤ 1000) (hwa : ∀ T : List W → Sto → Prop, T [.int (N : Int)] O1 → wa δ O T)
    (hel : ∀ c : Nat, c < N → ∀ O', Sm O1 O' → ∀ (S1 : WK) (S0 : Sto → Prop), (∀ O2, Sm O' O2 → if p c = true then S1 (.int (f c)) O2 else S0 O2) → g (.int (c : Int)) (wipeD δ vs) O' fun δ2 O2 => wt δ2 O2 fun b O3 => if b = true then we δ2 O3 S1 else S0 O3)
    (fin : ∀ O', Sm O1 O' → O'[O1.length]? = some (.lst (((List.range N).filter p).map fun c => W.int (f c))) → S (.cell O1.length) O') : dLc (diR1 wa) g wt we vs δ O S := by
  refine hwa _ ⟨(N : Int), rfl, by omega, by omega, ?_⟩
  rw [Int.toNat_natCast]
  refine lc_gen (zs := natsW N) (f := fWn f) (p := pW p) at_rng (by unfold natsW; rw [List.length_map, List.length_range]; omega) (fun i z hz O' hs S1 S0 h => ?_) fun O' hs hc => fin O' hs (by rw [hc, nats_filter])
  obtain ⟨hi, rfl⟩ := nats_in hz
  refine hel i hi O' hs S1 S0 fun O2 h2 => ?_
  have := h O2 h2
  exact this
theorem three_le {N : Nat} (h : Three N) : 1 ≤ N ∧ N ≤ 4 := by
  rcases h with rfl | rfl | rfl <;> omega
theorem below_bits {N : Nat} (h : Three N) (f : Nat → Bool) : (List.range N).filter (fun c : Nat => hasBit (msk N f) ((c : Nat) : Int)) = below N f := by
  unfold below
  refine List.filter_congr fun c hc => ?_
  rw [List.mem_range] at hc
  exact msk_bit h f c hc
theorem rd_bits (ws : List W) (O : Sto) (S : WK) (h : sp_bits ws O S) : dbits_in (outB S) (startD nbits_in ws) O := by
  obtain ⟨N, f, rfl, h3, q⟩ := h
  have := three_le h3
  refine ev_ret (ev_lcR (N := N) (O1 := O) (f := fun c => (c : Int)) (p := fun c => hasBit (msk N f) (c : Int)) (by omega) (fun T hT => ⟨_, rfl, hT⟩) (fun c hc O' hs S1 S0 h => ?_) fun O' hs hcell => ?_)
  · refine ⟨_, rfl, _, rfl, _, _, rfl, by omega, _, rfl, ?_⟩
    have := h O' Sm.refl
    cases hb : hasBit (msk N f) (c : Int) with
    | true =>
      rw [hb] at this
      exact ifT ⟨_, rfl, (by rw [if_pos rfl] at this; exact this)⟩
    | false =>
      rw [hb] at this
      exact ifF (by rw [if_neg (by decide)] at this; exact this)
  · refine q O.length O' hs (Nat.le_refl _) ?_
    rw [hcell, below_bits h3]
    rfl
theorem rd_marked (ws : List W) (O : Sto) (S : WK) (h : sp_marked ws O S) : dmarked_cells (outB S) (startD nmarked_cells ws) O := by
  obtain ⟨n, j, rfl, hj, hn, q⟩ := h
  have hp : 2 ^ n ≤ 4 := by
    have : n = 0 ∨ n = 1 ∨ n = 2 := by omega
    rcases this with rfl | rfl | rfl <;> decide
  have key : ∀ T : WK, (∀ O', Sm O O' → O'[O.length]? = some (.lst (((List.range (2 ^ n)).filter fun c : Nat => hasBit (c : Int) (j : Int)).map fun c : Nat => W.int ((2 : Int) ^ c))) → T (.cell O.length) O') → dLc (diR1 (dCons (dShl (dC (.int 1)) (dVar 0)) dNil)) (dgName 2) (dTest (dCall sp_bit (dCons (dVar 2) (dCons (dVar 1) dNil)))) (dShl (dC (.int 1)) (dVar 2)) [2] (startD nmarked_cells [.int (n : Int), .int (j : Int)]) O T := fun T hT => by
    refine ev_lcR (N := 2 ^ n) (O1 := O) (f := fun c => (2 : Int) ^ c) (p := fun c => hasBit (c : Int) (j : Int)) (by omega) (fun T hT => ?_) (fun c hc O' hs S1 S0 h => ?_) hT
    · refine ⟨_, rfl, _, _, rfl, rfl, cpow_one (by omega) (by omega), ?_⟩
      dsimp only
      rw [shl_nat]
      have e : ((2 : Int) ^ n) = (((2 ^ n : Nat)) : Int) := by rw [Int.natCast_pow]; rfl
      rw [e]
      exact hT
    · refine ⟨_, rfl, _, rfl, _, _, rfl, by omega, _, rfl, ?_⟩
      have := h O' Sm.refl
      cases hb : hasBit (c : Int) (j : Int) with
      | true =>
        rw [hb, if_pos rfl] at this
        refine ifT ⟨_, rfl, _, _, rfl, rfl, cpow_one (by omega) (by omega), ?_⟩
        dsimp only
        rw [shl_nat]
        exact this
      | false =>
        rw [hb, if_neg (by decide)] at this
        exact ifF this
  refine ev_ret (ev_CB (ev_cons1 (key _ fun O' hs hc => ?_)))
  refine ⟨_, ((List.range (2 ^ n)).filter fun c : Nat => hasBit (c : Int) (j : Int)).map fun c : Nat => (2 : Int) ^ c, rfl, .inl (by rw [hc, List.map_map]; rfl), ?_⟩
  rw [marked_sum n j hn hj]
  exact q O' hs
/-! ### cells_of -/
theorem str_eq {x : Str} {y : Str} (h : x = y) : decide (x = y) = true := decide_eq_true h
theorem rd_cells (n : Nat) (ws : List W) (O : Sto) (S : WK) (h : sp_cells (n + 1) ws O S) : dcells_of n (outB S) (startD ncells_of ws) O := by
  obtain ⟨mk, t, rfl, hl, hw, hd, q⟩ := h
  have h3 := three_pow hl
  have hlen : ((mk.map W.str).length : Int) = (mk.length : Int) := by rw [List.length_map]
  cases t with
  | none =>
    refine ⟨_, rfl, _, _, _, rfl, rfl, at_nat (i := 0) rfl, ?_⟩
    refine ⟨_, rfl, _, rfl, _, rfl, ?_⟩
    rw [str_eq rfl]
    refine ifT ?_
    have := q O Sm.refl
    have e : msk (2 ^ mk.length) (hld mk .none) = 0 := by
      rcases h3 with h3 | h3 | h3 <;> rw [h3] <;> rfl
    rw [e] at this
    exact this
  | mark x =>
    obtain ⟨p1, p2⟩ := plc_ok (show x ∈ mk from hw)
    refine ⟨_, rfl, _, _, _, rfl, rfl, at_nat (i := 0) rfl, ?_⟩
    refine ⟨_, rfl, _, rfl, _, rfl, ?_⟩
    rw [show decide (("mark" : Str) = "none") = false by decide +kernel]
    refine ifF ⟨_, rfl, _, rfl, _, rfl, ?_⟩
    rw [str_eq rfl]
    refine ifT ⟨_, rfl, .inl ⟨_, rfl, ?_⟩⟩
    refine ⟨_, rfl, mk, rfl, _, rfl, _, _, _, rfl, rfl, at_nat (i := 1) rfl, x, plc mk x, rfl, p1, p2, ?_⟩
    rw [fgs_strs, hlen]
    exact ⟨mk.length, plc mk x, rfl, plc_lt hw, hl, fun O' hs => q O' hs⟩
  | not a =>
    refine ⟨_, rfl, _, _, _, rfl, rfl, at_nat (i := 0) rfl, ?_⟩
    refine ⟨_, rfl, _, rfl, _, rfl, ?_⟩
    rw [show decide (("not" : Str) = "none") = false by decide +kernel]
    refine ifF ⟨_, rfl, _, rfl, _, rfl, ?_⟩
    rw [show decide (("not" : Str) = "mark") = false by decide +kernel]
    refine ifF ?_
    refine ⟨_, rfl, _, _, _, rfl, rfl, at_nat (i := 1) rfl, _, rfl, mk, a, rfl, hl, hw, by unfold dep at hd; omega, fun O1 hs1 => ?_⟩
    refine ⟨_, rfl, _, rfl, _, rfl, ?_⟩
    rw [str_eq rfl]
    refine ifT ⟨_, rfl, .inl ⟨_, rfl, ?_⟩⟩
    rw [fgs_strs, hlen]
    refine ⟨_, _, rfl, rfl, cpow_one (by omega) (by omega), ?_⟩
    dsimp only
    rw [shl_nat, pow_cast]
    refine ⟨2 ^ mk.length, rfl, (three_le h3).2, _, rfl, _, rfl, _, _, rfl, rfl, ?_⟩
    dsimp only
    rw [msk_not h3]
    exact q O1 hs1
  | both a b =>
    have hda : dep a < n ∧ dep b < n := by
      unfold dep at hd
      omega
    refine ⟨_, rfl, _, _, _, rfl, rfl, at_nat (i := 0) rfl, ?_⟩
    refine ⟨_, rfl, _, rfl, _, rfl, ?_⟩
    rw [show decide (("both" : Str) = "none") = false by decide +kernel]
    refine ifF ⟨_, rfl, _, rfl, _, rfl, ?_⟩
    rw [show decide (("both" : Str) = "mark") = false by decide +kernel]
    refine ifF ?_
    refine ⟨_, rfl, _, _, _, rfl, rfl, at_nat (i := 1) rfl, _, rfl, mk, a, rfl, hl, hw.1, hda.1, fun O1 hs1 => ?_⟩
    refine ⟨_, rfl, _, rfl, _, rfl, ?_⟩
    rw [show decide (("both" : Str) = "not") = false by decide +kernel]
    refine ifF ?_
    refine ⟨_, rfl, _, _, _, rfl, rfl, at_nat (i := 2) rfl, _, rfl, mk, b, rfl, hl, hw.2, hda.2, fun O2 hs2 => ?_⟩
    refine ⟨_, rfl, _, rfl, _, rfl, ?_⟩
    rw [str_eq rfl]
    refine ifT ⟨_, rfl, _, rfl, _, _, rfl, rfl, ?_⟩
    dsimp only
    rw [msk_and h3]
    exact q O2 (hs1.trans hs2)
  | either a b =>
    have hda : dep a < n ∧ dep b < n := by
      unfold dep at hd
      omega
    refine ⟨_, rfl, _, _, _, rfl, rfl, at_nat (i := 0) rfl, ?_⟩
    refine ⟨_, rfl, _, rfl, _, rfl, ?_⟩
    rw [show decide (("either" : Str) = "none") = false by decide +kernel]
    refine ifF ⟨_, rfl, _, rfl, _, rfl, ?_⟩
    rw [show decide (("either" : Str) = "mark") = false by decide +kernel]
    refine ifF ?_
    refine ⟨_, rfl, _, _, _, rfl, rfl, at_nat (i := 1) rfl, _, rfl, mk, a, rfl, hl, hw.1, hda.1, fun O1 hs1 => ?_⟩
    refine ⟨_, rfl, _, rfl, _, rfl, ?_⟩
    rw [show decide (("either" : Str) = "not") = false by decide +kernel]
    refine ifF ?_
    refine ⟨_, rfl, _, _, _, rfl, rfl, at_nat (i := 2) rfl, _, rfl, mk, b, rfl, hl, hw.2, hda.2, fun O2 hs2 => ?_⟩
    refine ⟨_, rfl, _, rfl, _, rfl, ?_⟩
    rw [show decide (("either" : Str) = "both") = false by decide +kernel]
    refine ifF ⟨_, rfl, _, rfl, _, _, rfl, rfl, ?_⟩
    dsimp only
    rw [msk_or h3]
    exact q O2 (hs1.trans hs2)
/-! ### need_term, cells_in -/
theorem rd_need_term (ws : List W) (O : Sto) (S : WK) (h : sp_need_term ws O S) : dneed_term (outB S) (startD nneed_term ws) O := by
  obtain ⟨bs, mk, w, kd, rfl, hb, hv, hc, q⟩ := h
  refine ev_if (ev_not (ev_test (ev_call ?_)))
  refine ⟨_, rfl, _, rfl, _, rfl, _, _, _, rfl, rfl, at_nat (i := 1) hb, w, kd, mk, rfl, hv, fun O' hs => ⟨_, rfl, ?_⟩⟩
  rw [hc]
  exact ifF (q O' hs)
theorem rd_cells_in (ws : List W) (O : Sto) (S : WK) (h : sp_cells_in ws O S) : dcells_in (outB S) (startD ncells_in ws) O := by
  obtain ⟨bs, mk, t, rfl, hb, hbk, hv, hl, hsh, hw, hd, hz, q⟩ := h
  have h3 := three_pow hl
  have hbf : (fgs bs)[1]? = some (.tup (mk.map W.str)) := by
    rw [fgs_map, List.getElem?_map, hb]
    show some (fg (.ktp (mk.map W.str))) = _
    unfold fg
    rw [fgs_strs]
  have hlen : ((mk.map W.str).length : Int) = (mk.length : Int) := by rw [List.length_map]
  refine ⟨_, rfl, _, rfl, hv, hbk, fun O1 hs1 => ?_⟩
  refine ⟨_, rfl, _, rfl, fgs bs, mk, enc t, "set", rfl, hbf, vd_enc O1 hsh t hw, closed_enc hw hd hz, fun O2 hs2 => ?_⟩
  refine ⟨_, rfl, _, rfl, _, _, _, rfl, rfl, at_nat (i := 1) hb, mk, t, rfl, hl, hw, by omega, fun O3 hs3 => ?_⟩
  refine ⟨_, rfl, _, _, _, rfl, rfl, at_nat (i := 1) hb, .inl ⟨_, rfl, ?_⟩⟩
  rw [fgs_strs, hlen]
  refine ⟨_, _, rfl, rfl, cpow_one (by omega) (by omega), ?_⟩
  dsimp only
  rw [shl_nat, pow_cast]
  exact ⟨2 ^ mk.length, hld mk t, rfl, h3, fun k O' hs hk hc => q k O' (((hs1.trans hs2).trans hs3).trans hs) (by have := ((hs1.trans hs2).trans hs3).len; omega) hc⟩
end K62

set_option Elab.async false
set_option linter.all false
set_option maxRecDepth 100000
set_option maxHeartbeats 1000000
set_option exponentiation.threshold 2000
/-! k62: the law's own defs. -/
namespace K62
open PySem PySem.Spec PyProof.Rows L2 Dm
theorem feed_tail {k : Nat} {ns : List Int} {i x : Int} {S : WK} {O O1 : Sto} {D : DEnds} (hD : D.rt = S) (hx : x.natAbs.log2 ≤ 1048580) (i0 : 0 ≤ i) (i1 : i < 1000) (hs : Sm O O1) (q : ∀ m O', Sm O O' → O.length ≤ m → Fd O' m 1000000 → S (.cell m) O') :
    (dRet (dLst (dCons (dCB rdMax2 (dCons (dC (.int 0)) (dCons (dSub (dVar 2) (dPow (dC (.int 10)) (dC (.int 18)))) dNil))) (dCons (dMod (dCB rdInt1 (dCons (dAdd (dMul (dVar 2) (dC (.int 19))) (dMul (dC (.int 7)) (dVar 1))) dNil)) (dAdd (dPow (dC (.int 10)) (dC (.int 39))) (dC (.int 23)))) (dCons (dC (.int 0)) dNil))))) D [some (.cell k), some (.int i), some (.int x)] O1 := by
  have h18 : (-(10 ^ 18) : Int).natAbs.log2 ≤ 1048580 := small_log (n := 60) (by decide) (by decide) (by omega)
  have big : (0 : Int) < 10 ^ 39 + 23 := by decide
  refine ⟨_, rfl, _, _, rfl, rfl, (by show CPow 10 18; unfold CPow; decide), _, _, rfl, rfl, 0, _, rfl, ?_⟩
  refine ⟨_, rfl, _, _, rfl, rfl, (by show CMulB x 19; unfold CMulB; have : (19 : Int).natAbs.log2 ≤ 10 := small_log (n := 5) (by decide) (by decide) (by omega); omega), _, rfl, _, _, rfl, rfl, (by show CMulB 7 i; unfold CMulB; have : (7 : Int).natAbs.log2 ≤ 10 := small_log (n := 3) (by decide) (by decide) (by omega); have : i.natAbs.log2 ≤ 10 := small_log (n := 10) (by omega) (by decide) (by omega); omega), _, _, rfl, rfl, .inl ⟨_, rfl, ?_⟩⟩
  refine ⟨_, _, rfl, rfl, (by show CPow 10 39; unfold CPow; decide), _, _, rfl, rfl, _, _, rfl, rfl, big, ?_⟩
  refine ⟨sz_le (by show 3 ≤ 1000000; decide), ?_⟩
  rw [hD]
  refine q _ _ (hs.app _) hs.len ⟨if x - 10 ^ 18 > 0 then x - 10 ^ 18 else 0, (x * 19 + 7 * i) % (10 ^ 39 + 23), 0, push_at, ?_⟩
  refine ⟨?_, ?_, Int.emod_nonneg _ (by omega), ?_, Int.le_refl _, by decide⟩
  · split <;> omega
  · have h1 := log2_iadd (x := x) (y := -(10 ^ 18)) hx h18
    split
    · show (x - 10 ^ 18).natAbs.log2 < 2000000
      rw [Int.sub_eq_add_neg]
      omega
    · show (0 : Int).natAbs.log2 < 2000000
      decide
  · have := Int.emod_lt_of_pos (x * 19 + 7 * i) big
    have e : (10 : Int) ^ 39 + 23 < 2 ^ 140 := by decide
    omega
theorem rd_feed (ws : List W) (O : Sto) (S : WK) (h : sp_law_feed ws O S) : d_law_feed (outB S) (startD n_law_feed ws) O := by
  obtain ⟨k, ns, i, rfl, hc, hb, hn, i0, i1, q⟩ := h
  have ecut : cutW (ns.map W.int) none (some 1) = (ns.take 1).map W.int := by
    unfold cutW
    rw [show HT.sIx (ns.map W.int).length 0 none = 0 from rfl, show HT.sIx (ns.map W.int).length (ns.map W.int).length (some (1 : Int)) = min 1 (ns.map W.int).length from HT.sIx_nat _ _ 1, List.length_map, List.drop_zero, Nat.sub_zero, ← List.map_take]
    congr 1
    cases ns with
    | nil => rfl
    | cons a r => rw [List.length_cons, show min 1 (r.length + 1) = 1 by omega]
  have hsum : ((ns.take 1).sum).natAbs.log2 ≤ 1048576 := by
    cases ns with
    | nil => decide
    | cons a r =>
      have : ((a :: r).take 1).sum = a := by simp
      rw [this]
      exact bits_log (hb a List.mem_cons_self)
  refine ⟨_, rfl, _, _, rfl, rfl, (by show CMulB 977 i; unfold CMulB; have : (977 : Int).natAbs.log2 ≤ 10 := small_log (n := 10) (by decide) (by decide) (by omega); have : i.natAbs.log2 ≤ 10 := small_log (n := 10) (by omega) (by decide) (by omega); omega), _, rfl, 1, rfl, k, _, rfl, hc, ?_⟩
  rw [ecut]
  refine ⟨_, ns.take 1, rfl, .inl push_at, _, _, rfl, rfl, ?_⟩
  have hc1 : LstC (O ++ [Cell.lst ((ns.take 1).map W.int)]) k (ns.map W.int) := Sm.push.lstC hc
  refine ⟨_, rfl, _, rfl, .inr ⟨k, _, rfl, hc1, _, _, rfl, rfl, _, rfl, ?_⟩⟩
  by_cases hlt : i < ((ns.map W.int).length : Int)
  · rw [decide_eq_true hlt]
    rw [List.length_map] at hlt
    have hi : i.toNat < ns.length := by omega
    have ha : atI (ns.map W.int) i = some (.int ns[i.toNat]) := by
      have := atI_nat (j := i.toNat) (xs := ns.map W.int) (v := W.int ns[i.toNat]) (by rw [List.getElem?_map, List.getElem?_eq_getElem hi]; rfl)
      rwa [Int.toNat_of_nonneg i0] at this
    refine ifT ⟨_, rfl, _, rfl, k, _, _, _, rfl, rfl, hc1, ha, ?_⟩
    exact feed_tail (ns := ns) rfl (by have := bits_log (hb _ (List.getElem_mem hi)); omega) i0 i1 Sm.push q
  · rw [decide_eq_false hlt]
    refine ifF (feed_tail (ns := ns) rfl ?_ i0 i1 Sm.push q)
    have h1 : (977 * i).natAbs.log2 ≤ 1048578 := small_log (n := 20) (by omega) (by decide) (by omega)
    have := log2_iadd (x := 977 * i) (y := (ns.take 1).sum) (k := 1048578) h1 (by omega)
    omega
/-! ### what holds of a thing -/
theorem kp_at {k : Nat} {O O' : Sto} {i : Nat} {c : Cell} (h : Kp k O O') (hk : i ≠ k) (hc : O[i]? = some c) : O'[i]? = some c := h.at_ i c hk hc
theorem menu_at {j : Nat} (h : j < 2) : ∃ m : Nat, atI [W.int 1, .int 2, .int 4] (j : Int) = some (.int (m : Int)) ∧ m = 2 ^ j := by
  have : j = 0 ∨ j = 1 := by omega
  rcases this with rfl | rfl
  · exact ⟨1, at_nat (i := 0) rfl, rfl⟩
  · exact ⟨2, at_nat (i := 1) rfl, rfl⟩
theorem rd_in (n : Nat) (ws : List W) (O : Sto) (S : WK) (h : sp_in (n + 1) ws O S) : d_law_in n (outB S) (startD n_law_in ws) O := by
  obtain ⟨mk, t, c, rfl, hl, hw, hd, hc, q⟩ := h
  cases t with
  | none =>
    refine ⟨_, rfl, _, _, _, rfl, rfl, at_nat (i := 0) rfl, _, rfl, _, rfl, ?_⟩
    rw [str_eq rfl]
    exact ifT (q O Sm.refl)
  | mark x =>
    obtain ⟨p1, p2⟩ := plc_ok (show x ∈ mk from hw)
    have hlt := plc_lt (show x ∈ mk from hw)
    obtain ⟨m, hm, em⟩ := menu_at (show plc mk x < 2 by omega)
    refine ⟨_, rfl, _, _, _, rfl, rfl, at_nat (i := 0) rfl, _, rfl, _, rfl, ?_⟩
    rw [show decide (("mark" : Str) = "none") = false by decide +kernel]
    refine ifF ⟨_, rfl, _, _, _, rfl, rfl, at_nat (i := 0) rfl, _, rfl, _, rfl, ?_⟩
    rw [str_eq rfl]
    have hm0 : 0 < m := by
      rw [em]
      exact Nat.two_pow_pos _
    refine ifT ⟨_, rfl, sz_le (by show 3 ≤ 1000000; decide), _, rfl, .inl ⟨_, rfl, ⟨_, _, rfl, .inl push_at⟩, _, rfl, _, _, _, rfl, rfl, at_nat (i := 1) rfl, ?_⟩⟩
    refine ⟨_, mk, x, plc mk x, rfl, rfl, .inl push_at, p1, p2, ?_⟩
    refine ⟨_, _, _, _, rfl, rfl, .inl (Sm.push _ _ push_at), hm, _, _, rfl, rfl, ⟨by omega, ?_⟩, .inl ⟨_, rfl, _, _, rfl, rfl, (by show (0 : Int) < 2; decide), _, rfl, ?_⟩⟩
    · have : m ≤ 2 := by
        rw [em]
        have : plc mk x = 0 ∨ plc mk x = 1 := by omega
        rcases this with e | e <;> rw [e] <;> decide
      have : (m : Int).natAbs.log2 ≤ 10 := small_log (n := 10) (by omega) (by decide) (by omega)
      omega
    · have e : decide ((c : Int) / (m : Int) % 2 = 1) = hld mk (.mark x) c := by
        unfold hld
        rw [← em]
        rw [decide_eq_decide]
        omega
      have q2 := fun O' hs => e ▸ q O' hs
      exact q2 _ ((Sm.push (O := O) (c := Cell.lst [.int 1, .int 2, .int 4])).app [Cell.lst (mk.map W.str)])
  | not a =>
    refine ⟨_, rfl, _, _, _, rfl, rfl, at_nat (i := 0) rfl, _, rfl, _, rfl, ?_⟩
    rw [show decide (("not" : Str) = "none") = false by decide +kernel]
    refine ifF ⟨_, rfl, _, _, _, rfl, rfl, at_nat (i := 0) rfl, _, rfl, _, rfl, ?_⟩
    rw [show decide (("not" : Str) = "mark") = false by decide +kernel]
    refine ifF ⟨_, rfl, _, _, _, rfl, rfl, at_nat (i := 0) rfl, _, rfl, _, rfl, ?_⟩
    rw [str_eq rfl]
    refine ifT ⟨_, rfl, _, _, _, rfl, rfl, at_nat (i := 1) rfl, _, rfl, _, rfl, mk, a, c, rfl, hl, hw, by unfold dep at hd; omega, hc, fun O1 hs1 => ⟨_, rfl, ?_⟩⟩
    exact q O1 hs1
  | both a b =>
    have hda : dep a < n ∧ dep b < n := by
      unfold dep at hd
      omega
    refine ⟨_, rfl, _, _, _, rfl, rfl, at_nat (i := 0) rfl, _, rfl, _, rfl, ?_⟩
    rw [show decide (("both" : Str) = "none") = false by decide +kernel]
    refine ifF ⟨_, rfl, _, _, _, rfl, rfl, at_nat (i := 0) rfl, _, rfl, _, rfl, ?_⟩
    rw [show decide (("both" : Str) = "mark") = false by decide +kernel]
    refine ifF ⟨_, rfl, _, _, _, rfl, rfl, at_nat (i := 0) rfl, _, rfl, _, rfl, ?_⟩
    rw [show decide (("both" : Str) = "not") = false by decide +kernel]
    refine ifF ?_
    refine ⟨_, rfl, _, _, _, rfl, rfl, at_nat (i := 1) rfl, _, rfl, _, rfl, mk, a, c, rfl, hl, hw.1, hda.1, hc, fun O1 hs1 => ?_⟩
    refine ⟨_, rfl, _, _, _, rfl, rfl, at_nat (i := 2) rfl, _, rfl, _, rfl, mk, b, c, rfl, hl, hw.2, hda.2, hc, fun O2 hs2 => ⟨_, _, rfl, ?_⟩⟩
    refine ⟨_, rfl, _, _, _, rfl, rfl, at_nat (i := 0) rfl, _, rfl, _, rfl, ?_⟩
    rw [str_eq rfl]
    have := q O2 (hs1.trans hs2)
    unfold hld at this
    refine ifT ⟨_, rfl, _, rfl, ?_⟩
    cases ha : hld mk a c with
    | true =>
      rw [ha, Bool.true_and] at this
      exact ifT ⟨_, rfl, this⟩
    | false =>
      rw [ha, Bool.false_and] at this
      exact ifF this
  | either a b =>
    have hda : dep a < n ∧ dep b < n := by
      unfold dep at hd
      omega
    refine ⟨_, rfl, _, _, _, rfl, rfl, at_nat (i := 0) rfl, _, rfl, _, rfl, ?_⟩
    rw [show decide (("either" : Str) = "none") = false by decide +kernel]
    refine ifF ⟨_, rfl, _, _, _, rfl, rfl, at_nat (i := 0) rfl, _, rfl, _, rfl, ?_⟩
    rw [show decide (("either" : Str) = "mark") = false by decide +kernel]
    refine ifF ⟨_, rfl, _, _, _, rfl, rfl, at_nat (i := 0) rfl, _, rfl, _, rfl, ?_⟩
    rw [show decide (("either" : Str) = "not") = false by decide +kernel]
    refine ifF ?_
    refine ⟨_, rfl, _, _, _, rfl, rfl, at_nat (i := 1) rfl, _, rfl, _, rfl, mk, a, c, rfl, hl, hw.1, hda.1, hc, fun O1 hs1 => ?_⟩
    refine ⟨_, rfl, _, _, _, rfl, rfl, at_nat (i := 2) rfl, _, rfl, _, rfl, mk, b, c, rfl, hl, hw.2, hda.2, hc, fun O2 hs2 => ⟨_, _, rfl, ?_⟩⟩
    refine ⟨_, rfl, _, _, _, rfl, rfl, at_nat (i := 0) rfl, _, rfl, _, rfl, ?_⟩
    rw [show decide (("either" : Str) = "both") = false by decide +kernel]
    have := q O2 (hs1.trans hs2)
    unfold hld at this
    refine ifF ⟨_, rfl, _, rfl, ?_⟩
    cases ha : hld mk a c with
    | true =>
      rw [ha, Bool.true_or] at this
      exact ifT this
    | false =>
      rw [ha, Bool.false_or] at this
      exact ifF ⟨_, rfl, this⟩
/-! ### marks -/
theorem seqIx {i : Int} {n : Nat} (h0 : 0 ≤ i) (h1 : i < n) : seqIndex? i n = some i.toNat := by
  unfold seqIndex?
  have hj : (if i < 0 then i + (n : Int) else i) = i := if_neg (by omega)
  dsimp only
  rw [hj, if_pos (by rw [decide_eq_true h0, decide_eq_true h1]; rfl)]
theorem erase_perm {α : Type} : ∀ {l : List α} {i : Nat} (h : i < l.length), (l[i] :: l.eraseIdx i).Perm l
  | x :: l, 0, _ => List.Perm.refl _
  | x :: l, i + 1, h => (List.Perm.swap x _ _).trans ((erase_perm (l := l) (i := i) (Nat.lt_of_succ_lt_succ h)).cons x)
theorem map_erase {α β : Type} (f : α → β) : ∀ (l : List α) (i : Nat), (l.map f).eraseIdx i = (l.eraseIdx i).map f
  | [], _ => rfl
  | _ :: _, 0 => rfl
  | x :: l, i + 1 => by
    show f x :: (l.map f).eraseIdx i = f x :: (l.eraseIdx i).map f
    rw [map_erase f l i]
theorem names_nodup : names9.Nodup := by decide +kernel
theorem rd_marks (ws : List W) (O : Sto) (S : WK) (h : sp_marks ws O S) : d_law_marks (outB S) (startD n_law_marks ws) O := by
  obtain ⟨k, n, rfl, hf, q⟩ := h
  have hk := hf.lt
  refine ⟨sz_le (by show 9 ≤ 1000000; decide), sz_le (by show 0 ≤ 1000000; decide), _, _, rfl, ?_⟩
  have el : (O ++ [Cell.lst (names9.map W.str)]).length = O.length + 1 := by rw [List.length_append]; rfl
  have c1 : ((O ++ [Cell.lst (names9.map W.str)]) ++ [Cell.lst []])[O.length]? = some (.lst (names9.map W.str)) := Sm.push _ _ push_at
  have c2 : ((O ++ [Cell.lst (names9.map W.str)]) ++ [Cell.lst []])[O.length + 1]? = some (.lst []) := by rw [← el]; exact push_at
  have s2 : Sm O ((O ++ [Cell.lst (names9.map W.str)]) ++ [Cell.lst []]) := Sm.push.app _
  refine ⟨_, rfl, sz_le (by show 5 ≤ 1000000; decide), k, _, _, n + 2, rfl, .inl ⟨_, rfl, ?_, .inl push_at⟩, (by intro z; cases z), (by show 5 < 100000; decide), fd_sm (fd_sm hf s2) Sm.push, fun w O1 hw kp1 fd1 => ?_⟩
  · have l2 : k < ((O ++ [Cell.lst (names9.map W.str)]) ++ [Cell.lst []]).length := by
      rw [List.length_append, List.length_append]
      omega
    exact Nat.ne_of_gt l2
  obtain ⟨m, rfl, hm⟩ : ∃ m : Nat, w = .int (m : Int) ∧ m ≤ 2 := by
    simp only [List.mem_cons, List.not_mem_nil, or_false] at hw
    rcases hw with rfl | rfl | rfl | rfl | rfl
    · exact ⟨0, rfl, by decide⟩
    · exact ⟨1, rfl, by decide⟩
    · exact ⟨2, rfl, by decide⟩
    · exact ⟨2, rfl, by decide⟩
    · exact ⟨2, rfl, by decide⟩
  have kpA : Kp k O O1 := (s2.trans Sm.push).kp.trans kp1
  have d1 := kp_at kp1 (show O.length ≠ k by omega) (Sm.push _ _ c1)
  have d2 := kp_at kp1 (show O.length + 1 ≠ k by omega) (Sm.push _ _ c2)
  refine ⟨_, rfl, by omega, by omega, ?_⟩
  refine for_up (lo := 0) (hi := m) (fun t δ O' => t ≤ m ∧ ∃ (p g : List Str) (x1 : Option W), δ = [some (.cell k), x1, some (.cell O.length), some (.cell (O.length + 1))] ∧ g.length = t ∧ p.length = 9 - t ∧ (g ++ p).Perm names9 ∧ Kp k O O' ∧ Fd O' k (n + (2 - t)) ∧ O'[O.length]? = some (.lst (p.map W.str)) ∧ O'[O.length + 1]? = some (.lst (g.map W.str))) rfl (by omega) (Nat.zero_le _) ?_ ?_ ?_
  · refine ⟨Nat.zero_le _, names9, [], none, ?_, rfl, rfl, List.Perm.refl _, kpA, fd1, d1, d2⟩
    show [some (W.cell k), none, some (.cell O.length), some (.cell (O ++ [Cell.lst (names9.map W.str)]).length)] = _
    rw [el]
  · rintro t δ O' _ ht ⟨_, p, g, x1, rfl, hg, hp, hperm, hkp, hfd, cp, cg⟩
    have hlt1 := (List.getElem?_eq_some_iff.mp cp).1
    have hlt2 := (List.getElem?_eq_some_iff.mp cg).1
    have hko := hf.lt
    refine ⟨_, rfl, ⟨_, _, rfl, .inl cg⟩, _, rfl, ⟨_, _, rfl, .inl cp⟩, _, rfl, _, rfl, .inr ⟨_, _, rfl, .inl cp, ?_⟩⟩
    have hpl : ((p.map W.str).length : Int) = (p.length : Int) := by rw [List.length_map]
    rw [hpl]
    refine ⟨k, (p.length : Int), n + (2 - (t + 1)), rfl, by omega, by omega, hfd.mono (by omega), fun r O2 r0 r1 kp2 fd2 => ?_⟩
    have cp2 := kp_at kp2 (show O.length ≠ k by omega) cp
    have cg2 := kp_at kp2 (show O.length + 1 ≠ k by omega) cg
    have hi : r.toNat < p.length := by omega
    refine ⟨O.length, p.map W.str, r, r.toNat, .str p[r.toNat], rfl, rfl, cp2, by omega, by omega, by rw [List.length_map]; exact seqIx r0 (by omega), by rw [List.getElem?_map, List.getElem?_eq_getElem hi]; rfl, ?_⟩
    have cg3 : (O2.set O.length (.lst ((p.map W.str).eraseIdx r.toNat)))[O.length + 1]? = some (.lst (g.map W.str)) := by
      rw [List.getElem?_set_ne (by omega)]
      exact cg2
    refine ⟨O.length + 1, g.map W.str, _, rfl, rfl, cg3, ?_, ?_⟩
    · rw [List.length_map]
      exact sz_lt (by omega)
    · refine ⟨by omega, p.eraseIdx r.toNat, g ++ [p[r.toNat]], _, rfl, ?_, ?_, ?_, ?_, ?_, ?_, ?_⟩
      · rw [List.length_append]
        show g.length + 1 = t + 1
        omega
      · rw [List.length_eraseIdx, if_pos hi]
        omega
      · refine List.Perm.trans ?_ hperm
        rw [List.append_assoc]
        exact (erase_perm hi).append_left g
      · have k2 := hkp.trans kp2
        refine ⟨by rw [List.length_set, List.length_set]; exact k2.len, fun i c ni hc => ?_⟩
        have hli := (List.getElem?_eq_some_iff.mp hc).1
        rw [List.getElem?_set_ne (by omega), List.getElem?_set_ne (by omega)]
        exact k2.at_ i c ni hc
      · exact (fd2.set (by omega)).set (by omega)
      · rw [List.getElem?_set_ne (by omega), ← map_erase]
        exact List.getElem?_set_self (List.getElem?_eq_some_iff.mp cp2).1
      · rw [List.getElem?_set_self (by rw [List.length_set]; exact (List.getElem?_eq_some_iff.mp cg2).1), List.map_append]
        rfl
  · rintro δ O' ⟨_, p, g, x1, rfl, hg, hp, hperm, hkp, hfd, cp, cg⟩
    refine ⟨_, rfl, _, g.map W.str, rfl, .inl cg, q g O' ⟨by omega, ?_, fun x hx => ?_⟩ hkp (hfd.mono (by omega))⟩
    · have := hperm.nodup_iff.mpr names_nodup
      exact (List.nodup_append.mp this).1
    · exact hperm.mem_iff.mp (List.mem_append_left _ hx)
/-! ### small books -/
theorem rd_small (ws : List W) (O : Sto) (S : WK) (h : sp_small ws O S) : d_law_small_book (outB S) (startD n_law_small_book ws) O := by
  obtain ⟨k, n, a, rfl, hf, q⟩ := h
  have hk := hf.lt
  refine ⟨sz_le (by show 1 ≤ 1000000; decide), sz_le (by show 2 ≤ 1000000; decide), sz_le (by show 2 ≤ 1000000; decide), ?_⟩
  refine ⟨_, rfl, sz_le (by show 1 ≤ 1000000; decide), sz_le (by show 2 ≤ 1000000; decide), _, rfl, sz_le (by show 2 ≤ 1000000; decide), _, rfl, sz_le (by show 1 ≤ 1000000; decide), sz_le (by show 3 ≤ 1000000; decide), sz_le (by show 2 ≤ 1000000; decide), sz_le (by show 3 ≤ 1000000; decide), ?_⟩
  refine ⟨k, _, _, n, rfl, .inl ⟨_, rfl, by omega, .inl push_at⟩, (by intro z; cases z), (by show 3 < 100000; decide), hf.push, fun w O1 hw kp1 fd1 => ?_⟩
  have kpA : Kp k O O1 := Sm.push.kp.trans kp1
  have hmem : ∃ kd tm, w = .tup [.str kd, tm] ∧ (kd, tm) ∈ menu := by
    simp only [List.mem_cons, List.not_mem_nil, or_false] at hw
    rcases hw with rfl | rfl | rfl
    · exact ⟨_, _, rfl, List.mem_cons_self⟩
    · exact ⟨_, _, rfl, List.mem_cons_of_mem _ List.mem_cons_self⟩
    · exact ⟨_, _, rfl, List.mem_cons_of_mem _ (List.mem_cons_of_mem _ List.mem_cons_self)⟩
  obtain ⟨kd, tm, rfl, hm⟩ := hmem
  refine ⟨_, rfl, rfl, _, _, rfl, _, _, rfl, rfl, ?_⟩
  exact ⟨sz_le (by show 0 ≤ 1000000; decide), _, rfl, _, rfl, sz_le (by show 0 ≤ 1000000; decide), sz_le (by show 0 ≤ 1000000; decide), sz_le (by show 4 ≤ 1000000; decide), sz_le (by show 1 ≤ 1000000; decide), sz_le (by show 0 ≤ 1000000; decide), sz_le (by show 0 ≤ 1000000; decide), sz_le (by show 3 ≤ 1000000; decide), sz_le (by show 0 ≤ 1000000; decide), sz_le (by show 1 ≤ 1000000; decide), sz_le (by show 1 ≤ 1000000; decide), _, rfl, _, rfl, sz_le (by show 7 ≤ 1000000; decide), sz_le (by show 1 ≤ 1000000; decide), sz_le (by show 5 ≤ 1000000; decide), q kd tm O1 hm kpA fd1⟩
/-! ### set terms -/
theorem bud_succ (d : Nat) (h : 1 ≤ d) : bud (d + 1) = 2 * bud d + 4 := by
  unfold bud
  have : 2 ≤ 2 ^ d := by
    calc 2 = 2 ^ 1 := rfl
      _ ≤ 2 ^ d := Nat.pow_le_pow_right (by decide) h
  rw [Nat.pow_succ]
  omega
theorem bud_one : bud 1 = 4 := rfl
theorem bud_ge {d : Nat} (h : 1 ≤ d) : 4 ≤ bud d := by
  unfold bud
  have : 2 ≤ 2 ^ d := by
    calc 2 = 2 ^ 1 := rfl
      _ ≤ 2 ^ d := Nat.pow_le_pow_right (by decide) h
  omega
theorem dw_strs (O : Sto) : ∀ mk : List Str, DWs O (mk.map W.str) (mk.map PyData.str)
  | [] => .nil
  | x :: mk => .cons (.str x) (dw_strs O mk)
theorem plain_strs : ∀ mk : List Str, PyData.plainAll (mk.map PyData.str) = true
  | [] => rfl
  | x :: mk => by
    rw [List.map_cons]
    unfold PyData.plainAll
    rw [plain_strs mk]
    rfl
/-- marks != () -/
theorem ne_nil {O : Sto} {mk : List Str} {S : WK} (q : S (.bl (!mk.isEmpty)) O) : rdNeD (.tup (mk.map W.str)) (.tup []) O S := by
  refine ⟨.tuple (mk.map PyData.str), .tuple [], .tup (dw_strs O mk), .tup .nil, by unfold PyData.plain; exact plain_strs mk, by decide +kernel, ?_, ?_⟩
  · have : (PyData.tuple []).depth ≤ 10 := by decide +kernel
    omega
  · have e : PyData.eqv (.tuple (mk.map PyData.str)) (.tuple []) = mk.isEmpty := by
      cases mk with
      | nil => decide +kernel
      | cons x mk =>
        rw [List.map_cons]
        unfold PyData.eqv
        unfold PyData.eqvAll
        rfl
    rw [e]
    exact q
/-- the leaf: a mark, or none -/
theorem rd_leaf {k m : Nat} {mk : List Str} {O O1 : Sto} {S : WK} {x2 x3 x4 : Option W} (hl : mk.length ≤ 2) (hk : Kp k O O1) (hf : Fd O1 k (m + 2)) (q : ∀ (t : ST) O', wf mk t → dep t = 1 → siz t = 1 → Kp k O O' → Fd O' k m → S (enc t) O') :
    (dIfE (dAnd (dTest (dOp rdNeD (dVar 1) (dTup dNil))) (dTest (dGt (dCall sp_law_draw (dCons (dVar 0) (dCons (dC (.int 8)) dNil))) (dC (.int 0))))) (dTup (dCons (dC (.str "mark")) (dCons (dCall sp_law_one (dCons (dVar 0) (dCons (dVar 1) dNil))) dNil))) (dTup (dCons (dC (.str "none")) dNil))) [some (.cell k), some (.tup (mk.map W.str)), x2, x3, x4] O1 S := by
  have none : ∀ O', Kp k O O' → Fd O' k m → dTup (dCons (dC (.str "none")) dNil) [some (.cell k), some (.tup (mk.map W.str)), x2, x3, x4] O' S := fun O' h1 h2 => ⟨sz_le (by show 1 ≤ 1000000; decide), q .none O' True.intro rfl rfl h1 h2⟩
  refine ⟨_, rfl, sz_le (by show 0 ≤ 1000000; decide), ne_nil ⟨_, rfl, ?_⟩⟩
  cases hm : mk.isEmpty with
  | true => exact ifF (ifF (none O1 hk (hf.mono (by omega))))
  | false =>
    refine ifT ⟨_, rfl, k, 8, m + 1, rfl, by decide, by decide, hf, fun r O2 r0 r1 kp fd => ?_⟩
    refine ⟨_, _, rfl, rfl, _, rfl, ?_⟩
    by_cases hr : (0 : Int) < r
    · rw [decide_eq_true hr]
      refine ifT ⟨_, rfl, _, rfl, k, _, mk.map W.str, m, rfl, .inr rfl, ?_, by rw [List.length_map]; omega, fd, fun w O3 hw kp3 fd3 => ?_⟩
      · intro e
        cases mk with
        | nil => cases hm
        | cons a b => cases e
      · obtain ⟨x, hx, rfl⟩ := List.mem_map.mp hw
        exact ⟨sz_le (by show 2 ≤ 1000000; decide), q (.mark x) O3 hx rfl rfl ((hk.trans kp).trans kp3) fd3⟩
    · rw [decide_eq_false hr]
      exact ifF (none O2 (hk.trans kp) (fd.mono (by omega)))
theorem rd_st (n : Nat) (ws : List W) (O : Sto) (S : WK) (h : sp_st (n + 1) ws O S) : d_law_set_term n (outB S) (startD n_law_set_term ws) O := by
  obtain ⟨k, m, d, mk, rfl, d1, dn, d7, hl, hsh, hf, q⟩ := h
  have hb := bud_ge d1
  have leafq : ∀ (t : ST) O', wf mk t → dep t = 1 → siz t = 1 → Kp k O O' → Fd O' k m → S (enc t) O' := fun t O' h1 h2 h3 h4 h5 => by
    refine q t O' h1 (by omega) ?_ h4 h5
    have : 2 ≤ 2 ^ d := by
      calc 2 = 2 ^ 1 := rfl
        _ ≤ 2 ^ d := Nat.pow_le_pow_right (by decide) d1
    omega
  refine ⟨_, rfl, _, _, rfl, rfl, _, rfl, ?_⟩
  by_cases hd : 1 < d
  · rw [decide_eq_true (show (1 : Int) < (d : Int) by omega)]
    obtain ⟨e, he⟩ : ∃ e, d = e + 1 := ⟨d - 1, by omega⟩
    subst he
    rw [bud_succ e (by omega)] at hf hb
    refine ifT ⟨_, rfl, k, 7, m + 2 * bud e + 3, rfl, by decide, by decide, hf.mono (by omega), fun r O1 r0 r1 kp1 fd1 => ?_⟩
    dsimp only
    refine ev_if (ev_test ?_)
    refine ⟨_, rfl, _, _, rfl, rfl, _, rfl, ?_⟩
    by_cases h3 : (3 : Int) < r
    · rw [decide_eq_true h3]
      exact ifT (rd_leaf hl kp1 (fd1.mono (by omega)) leafq)
    · rw [decide_eq_false h3]
      refine ifF ?_
      have ee : ((e + 1 : Nat) : Int) - 1 = (e : Int) := by omega
      refine ⟨_, rfl, _, rfl, _, rfl, _, _, rfl, rfl, ?_⟩
      dsimp only
      rw [ee]
      refine ⟨k, m + bud e + 3, e, mk, rfl, by omega, by omega, by omega, hl, hsh, fd1.mono (by omega), fun a O2 wa da sa kp2 fd2 => ?_⟩
      dsimp only
      refine ev_ret ?_
      refine ⟨_, rfl, _, _, rfl, rfl, _, rfl, ?_⟩
      have hp : 2 ^ (e + 1) = 2 * 2 ^ e := by rw [Nat.pow_succ]; omega
      by_cases h2 : r < 2
      · rw [decide_eq_true h2]
        refine ifT ⟨_, rfl, sz_le (by show 2 ≤ 1000000; decide), q (.not a) O2 wa (by show dep a + 1 ≤ _; omega) (by show siz a + 1 + 1 ≤ _; omega) (kp1.trans kp2) (fd2.mono (by omega))⟩
      · rw [decide_eq_false h2]
        refine ifF ⟨sz_le (by show 2 ≤ 1000000; decide), _, rfl, _, _, rfl, rfl, ?_⟩
        have kp3 : Kp k O (O2 ++ [Cell.lst [.str "both", .str "either"]]) := (kp1.trans kp2).trans Sm.push.kp
        have hr : r = 2 ∨ r = 3 := by omega
        rcases hr with rfl | rfl
        · refine ⟨_, _, _, .str "both", rfl, rfl, .inl push_at, at_nat (i := 0) rfl, _, rfl, _, rfl, _, rfl, _, rfl, _, _, rfl, rfl, ?_⟩
          dsimp only
          rw [ee]
          refine ⟨k, m, e, mk, rfl, by omega, by omega, by omega, hl, hsh, fd2.push.mono (by omega), fun b O4 wb db sb kp4 fd4 => ?_⟩
          exact ⟨sz_le (by show 3 ≤ 1000000; decide), q (.both a b) O4 ⟨wa, wb⟩ (by show max (dep a) (dep b) + 1 ≤ _; omega) (by show siz a + siz b + 1 + 1 ≤ _; omega) (kp3.trans kp4) fd4⟩
        · refine ⟨_, _, _, .str "either", rfl, rfl, .inl push_at, at_nat (i := 1) rfl, _, rfl, _, rfl, _, rfl, _, rfl, _, _, rfl, rfl, ?_⟩
          dsimp only
          rw [ee]
          refine ⟨k, m, e, mk, rfl, by omega, by omega, by omega, hl, hsh, fd2.push.mono (by omega), fun b O4 wb db sb kp4 fd4 => ?_⟩
          exact ⟨sz_le (by show 3 ≤ 1000000; decide), q (.either a b) O4 ⟨wa, wb⟩ (by show max (dep a) (dep b) + 1 ≤ _; omega) (by show siz a + siz b + 1 + 1 ≤ _; omega) (kp3.trans kp4) fd4⟩
  · rw [decide_eq_false (show ¬ (1 : Int) < (d : Int) by omega)]
    refine ifF ?_
    dsimp only
    refine ev_if (ev_test ?_)
    refine ⟨_, rfl, _, _, rfl, rfl, _, rfl, ?_⟩
    rw [show decide ((3 : Int) < 6) = true by decide]
    exact ifT (rd_leaf hl Kp.refl (hf.mono (by omega)) leafq)
end K62

set_option Elab.async false
set_option linter.all false
set_option maxRecDepth 100000
set_option maxHeartbeats 1000000
set_option exponentiation.threshold 2000
/-! k62: the law. -/
namespace K62
open PySem PySem.Spec PyProof.Rows L2 Dm
theorem fg_k (mk : List Str) : fg (.ktp (mk.map W.str)) = .tup (mk.map W.str) := by
  show W.tup (fgs (mk.map W.str)) = _
  rw [fgs_strs]
/-! ### repr of cells -/
def subs : List Nat → List (List Nat)
  | [] => [[]]
  | x :: xs => subs xs ++ (subs xs).map (x :: ·)
theorem filter_in (p : Nat → Bool) : ∀ l : List Nat, l.filter p ∈ subs l
  | [] => List.mem_singleton.mpr rfl
  | x :: xs => by
    unfold subs
    rw [List.filter_cons, List.mem_append]
    have := filter_in p xs
    split
    · exact .inr (List.mem_map_of_mem this)
    · exact .inl this
def natD (l : List Nat) : PyData := .list (l.map fun n : Nat => .int (n : Int))
structure Rp (d : PyData) : Prop where
  sh : d.showable = true
  nd : d.hasDict = false
  dp : d.depth ≤ 64
  ln : d.shown.length ≤ 1000000
theorem rp_all : (subs (List.range 1) ++ (subs (List.range 2) ++ subs (List.range 4))).all (fun l => (natD l).showable && (!(natD l).hasDict && (decide ((natD l).depth ≤ 64) && decide ((natD l).shown.length ≤ 1000000)))) = true := by decide +kernel
theorem rp_below {N : Nat} (h : Three N) (f : Nat → Bool) : Rp (natD (below N f)) := by
  have hm : below N f ∈ subs (List.range 1) ++ (subs (List.range 2) ++ subs (List.range 4)) := by
    unfold below
    rw [List.mem_append, List.mem_append]
    rcases h with rfl | rfl | rfl
    · exact .inl (filter_in f _)
    · exact .inr (.inl (filter_in f _))
    · exact .inr (.inr (filter_in f _))
  have q := List.all_eq_true.mp rp_all _ hm
  obtain ⟨h1, q⟩ := He.ba q
  obtain ⟨h2, q⟩ := He.ba q
  obtain ⟨h3, h4⟩ := He.ba q
  exact ⟨h1, by simpa using h2, of_decide_eq_true h3, of_decide_eq_true h4⟩
theorem dws_nats (O : Sto) : ∀ l : List Nat, DWs O (natW l) (l.map fun n : Nat => PyData.int (n : Int))
  | [] => .nil
  | n :: l => .cons (.int (n : Int)) (dws_nats O l)
theorem ev_repr {O : Sto} {k N : Nat} {f : Nat → Bool} {S : WK} (h3 : Three N) (h : O[k]? = some (.lst (natW (below N f)))) (q : S (.str (natD (below N f)).shown) O) : rdRepr [.cell k] O S := by
  have r := rp_below h3 f
  exact ⟨_, natD (below N f), rfl, .cell (.inl h) (dws_nats O _), .inr (.inr ⟨k, rfl⟩), r.sh, r.nd, r.dp, sz_le r.ln, q⟩
theorem menu_len {n : Nat} (h : n ≤ 2) : atI [W.int 1, .int 2, .int 4] (n : Int) = some (.int ((2 ^ n : Nat) : Int)) := by
  have : n = 0 ∨ n = 1 ∨ n = 2 := by omega
  rcases this with rfl | rfl | rfl
  · exact at_nat (i := 0) rfl
  · exact at_nat (i := 1) rfl
  · exact at_nat (i := 2) rfl
/-- what is known of a term -/
structure Tm (mk : List Str) (t : ST) : Prop where
  w : wf mk t
  d : dep t ≤ 80
  s : siz t ≤ 300
theorem wf_mem {mk mk' : List Str} (h : ∀ x, x ∈ mk → x ∈ mk') : ∀ t : ST, wf mk t → wf mk' t
  | .none, _ => True.intro
  | .mark x, q => h x q
  | .not a, q => wf_mem h a q
  | .both a b, q => ⟨wf_mem h a q.1, wf_mem h b q.2⟩
  | .either a b, q => ⟨wf_mem h a q.1, wf_mem h b q.2⟩
/-- what is kept: the script, the feed -/
structure Kt (ns : List Int) (m n : Nat) (O : Sto) : Prop where
  rol : O[0]? = some (.rol (ns.map W.int))
  ne : m ≠ 0
  fd : Fd O m n
theorem Kt.sm {ns : List Int} {m n : Nat} {O O' : Sto} (h : Kt ns m n O) (s : Sm O O') : Kt ns m n O' := ⟨s _ _ h.rol, h.ne, fd_sm h.fd s⟩
theorem Kt.mono {ns : List Int} {m n n' : Nat} {O : Sto} (h : Kt ns m n O) (l : n' ≤ n) : Kt ns m n' O := ⟨h.rol, h.ne, h.fd.mono l⟩
theorem Kt.draw {ns : List Int} {m n n' : Nat} {O O' : Sto} (h : Kt ns m n O) (kp : Kp m O O') (fd : Fd O' m n') : Kt ns m n' O' := ⟨kp.at_ 0 _ (Ne.symm h.ne) h.rol, h.ne, fd⟩
/-- one order of the names: the answer is right -/
theorem rd_names {ns : List Int} {m n L : Nat} {mk0 mk : List Str} {t : ST} {zs : List W} {O : Sto} {x0 x1 x6 x7 x8 x9 x10 : Option W} {D : DEnds} (hk : Kt ns m (n + 1) O) (h0 : mk0.length = mk.length) (hmk : Dm.fg (.ktp (mk.map W.str)) = .tup (mk.map W.str)) (M : Mk mk) (T : Tm mk t) (hL : O[L]? = some (.lst zs)) (nL : L ≠ m)
    (fin : ∀ δ O', (∃ x6 x7 x8 x9 x10, δ = [x0, x1, some (.cell m), some (.ktp (mk0.map W.str)), some (enc t), some (.ktp (mk.map W.str)), x6, x7, x8, x9, x10]) → Kt ns m n O' → O'[L]? = some (.lst zs) → D.nx δ O') :
    (dSeq (dPar 8 9 (dCons (dCall sp_small (dCons (dVar 2) (dCons (dVar 5) dNil))) (dCons (dLc (diR1 (dCons (dOp rdIxL (dLst (dCons (dC (.int 1)) (dCons (dC (.int 2)) (dCons (dC (.int 4)) dNil)))) (dCB rdLen (dCons (dFg (dVar 3)) dNil))) dNil)) (dgName 10) (dTest (dCall (sp_in 90) (dCons (dVar 4) (dCons (dFg (dVar 5)) (dCons (dVar 10) dNil))))) (dVar 10) [10]) dNil)))
    (dSeq (dSet 7 (dCall sp_cells_in (dCons (dVar 8) (dCons (dVar 4) dNil))))
    (dSeq (dIf (dOr (dNot (dTest (dCB rdIsi (dCons (dVar 7) (dCons (dC (.ty "list")) dNil))))) (dTest (dOp rdNe (dCB rdRepr (dCons (dVar 7) dNil)) (dCB rdRepr (dCons (dVar 9) dNil))))) (dRet (dC (.bl false))) dNext)
    (dSeq (dDrop (dBM okL rdAppend (dVar 7) (dCons (dC (.int 7)) dNil)))
    (dIf (dTest (dOp rdNe (dCB rdRepr (dCons (dCallSw sp_cells_in (dCons (dVar 4) (dCons (dVar 8) dNil))) dNil)) (dCB rdRepr (dCons (dVar 9) dNil)))) (dRet (dC (.bl false))) dNext))))) D [x0, x1, some (.cell m), some (.ktp (mk0.map W.str)), some (enc t), some (.ktp (mk.map W.str)), x6, x7, x8, x9, x10] O := by
  have h3 := three_pow M.len
  have hsh : ∀ x ∈ mk, x.length ≤ 1000000 := fun x hx => by have := M.short x hx; omega
  refine ⟨_, rfl, _, rfl, m, n, _, rfl, hk.fd, fun kd tm O1 hm kp1 fd1 => ?_⟩
  have k1 := hk.draw kp1 fd1
  have L1 := kp1.at_ _ _ nL hL
  have hcells : ∀ (O' : Sto) (S' : WK), (∀ (k : Nat) O'', Sm O' O'' → O'.length ≤ k → O''[k]? = some (.lst (natW (below (2 ^ mk.length) (hld mk t)))) → S' (.cell k) O'') → sp_cells_in [.tup (bookL (.ktp (mk.map W.str)) kd tm), enc t] O' S' := fun O' S' h => by
    refine ⟨bookL (.ktp (mk.map W.str)) kd tm, mk, t, rfl, rfl, ?_, ?_, M.len, hsh, T.w, T.d, T.s, h⟩
    · rw [fgs_book hm]
      exact book_ok M hm
    · rw [fgs_book hm]
      exact vd_book M hm
  have s2 : Sm O1 (O1 ++ [Cell.lst [.int 1, .int 2, .int 4]]) := Sm.push
  have hlc : ∀ S' : WK, (∀ O', Sm O1 O' → O'[(O1 ++ [Cell.lst [W.int 1, .int 2, .int 4]]).length]? = some (.lst (natW (below (2 ^ mk.length) (hld mk t)))) → S' (.cell (O1 ++ [Cell.lst [W.int 1, .int 2, .int 4]]).length) O') →
      dLc (diR1 (dCons (dOp rdIxL (dLst (dCons (dC (.int 1)) (dCons (dC (.int 2)) (dCons (dC (.int 4)) dNil)))) (dCB rdLen (dCons (dFg (dVar 3)) dNil))) dNil)) (dgName 10) (dTest (dCall (sp_in 90) (dCons (dVar 4) (dCons (dFg (dVar 5)) (dCons (dVar 10) dNil))))) (dVar 10) [10] [x0, x1, some (.cell m), some (.ktp (mk0.map W.str)), some (enc t), some (.ktp (mk.map W.str)), x6, x7, x8, x9, x10] O1 S' := fun S' h => by
    refine ev_lcR (N := 2 ^ mk.length) (O1 := O1 ++ [Cell.lst [.int 1, .int 2, .int 4]]) (f := fun c => (c : Int)) (p := hld mk t) (by have := three_le h3; omega) (fun T' hT => ?_) (fun c hc O' hs S1 S0 h1 => ?_) fun O' hs hcell => h O' (s2.trans hs) hcell
    · refine ⟨sz_le (by show 3 ≤ 1000000; decide), _, rfl, .inl ⟨_, rfl, _, _, _, _, rfl, rfl, .inl push_at, ?_, hT⟩⟩
      rw [fgs_strs, List.length_map, h0]
      exact menu_len M.len
    · refine ⟨_, rfl, _, rfl, _, rfl, ?_⟩
      rw [hmk]
      refine ⟨mk, t, c, rfl, M.len, T.w, by have := T.d; omega, by have := three_le h3; omega, fun O2 hs2 => ⟨_, rfl, ?_⟩⟩
      have := h1 O2 hs2
      cases hb : hld mk t c with
      | true =>
        rw [hb, if_pos rfl] at this
        exact ifT ⟨_, rfl, this⟩
      | false =>
        rw [hb, if_neg (by decide)] at this
        exact ifF this
  refine hlc _ fun O2 hs2 hc2 => ⟨_, _, rfl, ?_⟩
  have k2 := k1.sm hs2
  have L2 := hs2 _ _ L1
  refine ⟨_, rfl, _, rfl, ?_⟩
  dsimp only [dNil]
  refine hcells O2 _ fun a O3 hs3 ha hc3 => ?_
  have k3 := k2.sm hs3
  have L3 := hs3 _ _ L2
  have c3 := hs3 _ _ hc2
  have hlt2 := (List.getElem?_eq_some_iff.mp hc2).1
  have hna : (O1 ++ [Cell.lst [W.int 1, .int 2, .int 4]]).length ≠ a := by omega
  generalize hD : (O1 ++ [Cell.lst [W.int 1, .int 2, .int 4]]).length = Dc at *
  refine ev_if (ev_or (ev_not (ev_test ?_)))
  refine ⟨_, rfl, .cell a, "list", "list", true, rfl, ?_, by decide +kernel, _, rfl, ifF ?_⟩
  · show (match O3[a]? with | some (.lst _) => some "list" | some (.rol _) => some "list" | some (.dct _) => some "dict" | _ => none) = _
    rw [hc3]
  refine ev_test (ev_op (ev_CB (ev_cons1 ?_)))
  refine ⟨_, rfl, ev_repr h3 hc3 (ev_CB (ev_cons1 ?_))⟩
  refine ⟨_, rfl, ev_repr h3 c3 ⟨_, rfl, _, rfl, ?_⟩⟩
  rw [decide_eq_true rfl]
  refine ifF ?_
  refine ⟨_, rfl, ⟨_, _, rfl, .inl hc3⟩, a, _, _, rfl, rfl, hc3, ?_, ?_⟩
  · have : (below (2 ^ mk.length) (hld mk t)).length ≤ 4 := by
      unfold below
      refine Nat.le_trans (List.length_filter_le _ _) ?_
      rw [List.length_range]
      exact (three_le h3).2
    unfold natW
    rw [List.length_map]
    exact sz_lt (by omega)
  have c4 : (O3.set a (.lst (natW (below (2 ^ mk.length) (hld mk t)) ++ [.int 7])))[Dc]? = some (.lst (natW (below (2 ^ mk.length) (hld mk t)))) := by
    rw [List.getElem?_set_ne (Ne.symm hna)]
    exact c3
  have hltL := (List.getElem?_eq_some_iff.mp L2).1
  have hltm := k2.fd.lt
  have hlt0 := (List.getElem?_eq_some_iff.mp k2.rol).1
  have L4 : (O3.set a (.lst (natW (below (2 ^ mk.length) (hld mk t)) ++ [.int 7])))[L]? = some (.lst zs) := by
    rw [List.getElem?_set_ne (by omega)]
    exact L3
  have k4 : Kt ns m n (O3.set a (.lst (natW (below (2 ^ mk.length) (hld mk t)) ++ [.int 7]))) := ⟨by
    rw [List.getElem?_set_ne (by omega)]
    exact k3.rol, k3.ne, k3.fd.set (by omega)⟩
  generalize (O3.set a (.lst (natW (below (2 ^ mk.length) (hld mk t)) ++ [.int 7]))) = O4 at *
  dsimp only
  refine ev_if (ev_test (ev_op (ev_CB (ev_cons1 ?_))))
  refine ⟨_, rfl, _, rfl, _, _, rfl, ?_⟩
  refine hcells O4 _ fun b O5 hs5 hb hc5 => ?_
  refine ev_repr h3 hc5 (ev_CB (ev_cons1 ?_))
  refine ⟨_, rfl, ev_repr h3 (hs5 _ _ c4) ⟨_, rfl, _, rfl, ?_⟩⟩
  rw [decide_eq_true rfl]
  exact ifF (fin _ _ ⟨_, _, _, _, _, rfl⟩ (k4.sm hs5) (hs5 _ _ L4))
theorem Mk_sub {mk : List Str} (M : Mk mk) : ∀ x ∈ mk.reverse, x ∈ mk := fun x hx => List.mem_reverse.mp hx
theorem rd_law (ws : List W) (O : Sto) (S : WK) (h : sp_law ws O S) : dlaw (outB S) (startD nlaw ws) O := by
  obtain ⟨ns, rfl, hO, hb, hn, fin⟩ := h
  have h0 : O[0]? = some (.rol (ns.map W.int)) := by rw [hO]; rfl
  refine ⟨_, rfl, .inr ⟨0, _, rfl, .inr h0, _, _, rfl, _, _, rfl, ?_⟩⟩
  have hlen : ((ns.map W.int).length : Int) = (ns.length : Int) := by rw [List.length_map]
  rw [hlen]
  obtain ⟨j, hj, j2⟩ : ∃ j : Nat, (if (if (40 : Int) < (ns.length : Int) then 40 else (ns.length : Int)) > 3 then (if (40 : Int) < (ns.length : Int) then 40 else (ns.length : Int)) else 3) = (j : Int) ∧ j ≤ 40 := by
    by_cases e : (40 : Int) < (ns.length : Int)
    · exact ⟨40, by rw [if_pos e, if_pos (by decide)]; rfl, by decide⟩
    · rw [if_neg e]
      by_cases e2 : (ns.length : Int) > 3
      · exact ⟨ns.length, by rw [if_pos e2], by omega⟩
      · exact ⟨3, by rw [if_neg e2]; rfl, by decide⟩
  rw [hj]
  refine ⟨_, rfl, by omega, by omega, ?_⟩
  refine for_up (lo := 0) (hi := j) (fun t δ O1 => (∃ x1 x2 x3 x4 x5 x6 x7 x8 x9 x10, δ = [some (.cell 0), x1, x2, x3, x4, x5, x6, x7, x8, x9, x10]) ∧ O1[0]? = some (.rol (ns.map W.int))) rfl (by omega) (Nat.zero_le _) ⟨⟨_, _, _, _, _, _, _, _, _, _, rfl⟩, h0⟩ ?_ ?_
  · rintro i δ O1 _ hi ⟨⟨x1, x2, x3, x4, x5, x6, x7, x8, x9, x10, rfl⟩, hr⟩
    refine ⟨_, rfl, _, rfl, 0, ns, i, rfl, .inr hr, hb, by omega, by omega, by omega, fun m O2 hs hm hfd => ?_⟩
    have lt := (List.getElem?_eq_some_iff.mp hr).1
    have K2 : Kt ns m 1000000 O2 := ⟨hs _ _ hr, by omega, hfd⟩
    refine ⟨_, rfl, m, 999997, rfl, K2.fd, fun mk O3 M kp3 fd3 => ?_⟩
    have K3 := K2.draw kp3 fd3
    refine ⟨_, rfl, _, rfl, _, rfl, m, 7, 999996, rfl, by decide, by decide, K3.fd, fun r O4 r0 r1 kp4 fd4 => ?_⟩
    have K4 := K3.draw kp4 fd4
    refine ⟨_, _, rfl, rfl, ?_⟩
    dsimp only
    obtain ⟨d, hd, d1, d7⟩ : ∃ d : Nat, 1 + r = (d : Int) ∧ 1 ≤ d ∧ d ≤ 7 := ⟨(1 + r).toNat, by omega, by omega, by omega⟩
    rw [fg_k, hd]
    have hbud : bud d ≤ 508 := by
      have : d = 1 ∨ d = 2 ∨ d = 3 ∨ d = 4 ∨ d = 5 ∨ d = 6 ∨ d = 7 := by omega
      rcases this with rfl | rfl | rfl | rfl | rfl | rfl | rfl <;> decide
    have hpow : 2 ^ d ≤ 128 := by
      have : d = 1 ∨ d = 2 ∨ d = 3 ∨ d = 4 ∨ d = 5 ∨ d = 6 ∨ d = 7 := by omega
      rcases this with rfl | rfl | rfl | rfl | rfl | rfl | rfl <;> decide
    refine ⟨m, 999000, d, mk, rfl, d1, by omega, d7, M.len, M.short, K4.fd.mono (by omega), fun t O5 tw td ts kp5 fd5 => ?_⟩
    have K5 := K4.draw kp5 fd5
    -- what comes behind the term
    have rest : ∀ (t : ST) (x6 : Option W) O6, Tm mk t → Kt ns m 500000 O6 → (dFor (diL (dLst (dCons (dVar 3) (dCons (dRevK (dVar 3) (dPart (dNeg (dC (.int 1))))) dNil)))) (dgName 5) (dSeq (dPar 8 9 (dCons (dCall sp_small (dCons (dVar 2) (dCons (dVar 5) dNil))) (dCons (dLc (diR1 (dCons (dOp rdIxL (dLst (dCons (dC (.int 1)) (dCons (dC (.int 2)) (dCons (dC (.int 4)) dNil)))) (dCB rdLen (dCons (dFg (dVar 3)) dNil))) dNil)) (dgName 10) (dTest (dCall (sp_in 90) (dCons (dVar 4) (dCons (dFg (dVar 5)) (dCons (dVar 10) dNil))))) (dVar 10) [10]) dNil)))
    (dSeq (dSet 7 (dCall sp_cells_in (dCons (dVar 8) (dCons (dVar 4) dNil))))
    (dSeq (dIf (dOr (dNot (dTest (dCB rdIsi (dCons (dVar 7) (dCons (dC (.ty "list")) dNil))))) (dTest (dOp rdNe (dCB rdRepr (dCons (dVar 7) dNil)) (dCB rdRepr (dCons (dVar 9) dNil))))) (dRet (dC (.bl false))) dNext)
    (dSeq (dDrop (dBM okL rdAppend (dVar 7) (dCons (dC (.int 7)) dNil)))
    (dIf (dTest (dOp rdNe (dCB rdRepr (dCons (dCallSw sp_cells_in (dCons (dVar 4) (dCons (dVar 8) dNil))) dNil)) (dCB rdRepr (dCons (dVar 9) dNil)))) (dRet (dC (.bl false))) dNext))))))
        { nx := fun δ O' => (∃ x1 x2 x3 x4 x5 x6 x7 x8 x9 x10, δ = [some (.cell 0), x1, x2, x3, x4, x5, x6, x7, x8, x9, x10]) ∧ O'[0]? = some (.rol (ns.map W.int)), rt := S, bk := fun _ _ => False, ct := fun _ _ => False } [some (.cell 0), some (.int (i : Int)), some (.cell m), some (.ktp (mk.map W.str)), some (enc t), x5, x6, x7, x8, x9, x10] O6 := fun t x6 O6 T K6 => by
      refine ⟨_, rfl, _, rfl, _, rfl, _, rfl, rfl, mk.map W.str, fg_k mk, .inl rfl, sz_le (by show 2 ≤ 1000000; decide), O6.length, _, rfl, .inl push_at, ?_⟩
      have hm6 := K6.fd.lt
      refine for_lst (fun u δ O' => (∃ x5 x6 x7 x8 x9 x10, δ = [some (.cell 0), some (.int (i : Int)), some (.cell m), some (.ktp (mk.map W.str)), some (enc t), x5, x6, x7, x8, x9, x10]) ∧ Kt ns m (1000 - u) O' ∧ O'[O6.length]? = some (.lst [.ktp (mk.map W.str), .ktp (mk.map W.str).reverse]) ∧ u ≤ 2) ⟨⟨_, _, _, _, _, _, rfl⟩, (K6.sm Sm.push).mono (by omega), push_at, by decide⟩ (fun u δ O' h => .inl h.2.2.1) ?_ ?_
      · rintro u z δ O' hz ⟨⟨x5, x6, x7, x8, x9, x10, rfl⟩, K7, hL, hu⟩
        have hzz : (u = 0 ∧ z = .ktp (mk.map W.str)) ∨ (u = 1 ∧ z = .ktp (mk.reverse.map W.str)) := by
          match u, hz with
          | 0, hz => exact .inl ⟨rfl, (Option.some.inj hz).symm⟩
          | 1, hz => exact .inr ⟨rfl, by rw [List.map_reverse]; exact (Option.some.inj hz).symm⟩
          | u + 2, hz => cases hz
        have hu1 : u ≤ 1 := by
          rcases hzz with ⟨e, _⟩ | ⟨e, _⟩ <;> omega
        obtain ⟨n, hn⟩ : ∃ n, 1000 - u = n + 1 := ⟨999 - u, by omega⟩
        rw [hn] at K7
        have en : 1000 - (u + 1) = n := by omega
        rcases hzz with ⟨_, rfl⟩ | ⟨_, rfl⟩
        · exact rd_names (mk0 := mk) (mk := mk) K7 rfl (fg_k mk) M T hL (by omega) fun δ O'' hδ K8 hL8 => ⟨by
            obtain ⟨y6, y7, y8, y9, y10, rfl⟩ := hδ
            exact ⟨_, _, _, _, _, _, rfl⟩, by rw [en]; exact K8, hL8, by omega⟩
        · exact rd_names (mk0 := mk) (mk := mk.reverse) K7 (by rw [List.length_reverse]) (fg_k mk.reverse) M.rev ⟨wf_mem (fun x hx => List.mem_reverse.mpr hx) t T.w, T.d, T.s⟩ hL (by omega) fun δ O'' hδ K8 hL8 => ⟨by
            obtain ⟨y6, y7, y8, y9, y10, rfl⟩ := hδ
            exact ⟨_, _, _, _, _, _, rfl⟩, by rw [en]; exact K8, hL8, by omega⟩
      · rintro δ O' ⟨⟨x5, x6, x7, x8, x9, x10, rfl⟩, K7, hL, hu⟩
        exact ⟨⟨_, _, _, _, _, _, _, _, _, _, rfl⟩, K7.rol⟩
    have T5 : Tm mk t := ⟨tw, by omega, by omega⟩
    dsimp only
    refine ev_if (ev_test ?_)
    refine ⟨_, rfl, m, 5, 998999, rfl, by decide, by decide, K5.fd, fun z O6 z0 z1 kp6 fd6 => ⟨_, rfl, _, rfl, ?_⟩⟩
    have K6 := K5.draw kp6 fd6
    by_cases hz : z = 0
    · rw [decide_eq_true hz]
      have hm6 := K6.fd.lt
      refine ifT ⟨_, rfl, sz_le (by show 4 ≤ 1000000; decide), m, _, _, 998998, rfl, .inl ⟨_, rfl, by omega, .inl push_at⟩, (by intro z; cases z), (by show 4 < 100000; decide), fd_sm K6.fd Sm.push, fun w O7 hw kp7 fd7 => ?_⟩
      have K7 := (K6.sm Sm.push).draw kp7 fd7
      obtain ⟨q, rfl, hq⟩ : ∃ q : Nat, w = .int (q : Int) ∧ q ≤ 73 := by
        simp only [List.mem_cons, List.not_mem_nil, or_false] at hw
        rcases hw with rfl | rfl | rfl | rfl
        · exact ⟨1, rfl, by decide⟩
        · exact ⟨2, rfl, by decide⟩
        · exact ⟨40, rfl, by decide⟩
        · exact ⟨73, rfl, by decide⟩
      refine ⟨_, rfl, by omega, by omega, ?_⟩
      refine for_up (lo := 0) (hi := q) (fun u δ O' => O' = O7 ∧ ∃ (t' : ST) (x6 : Option W), δ = [some (.cell 0), some (.int (i : Int)), some (.cell m), some (.ktp (mk.map W.str)), some (enc t'), x5, x6, x7, x8, x9, x10] ∧ wf mk t' ∧ dep t' ≤ 7 + u ∧ siz t' ≤ 127 + u) rfl (by omega) (Nat.zero_le _) ⟨rfl, t, _, rfl, tw, by omega, by omega⟩ ?_ ?_
      · rintro u δ O' _ hu ⟨rfl, t', x6, rfl, h1, h2, h3⟩
        exact ⟨_, rfl, sz_le (by show 2 ≤ 1000000; decide), rfl, .not t', _, rfl, h1, by show dep t' + 1 ≤ _; omega, by show siz t' + 1 ≤ _; omega⟩
      · rintro δ O' ⟨rfl, t', x6, rfl, h1, h2, h3⟩
        exact rest t' x6 O' ⟨h1, by omega, by omega⟩ (K7.mono (by decide))
    · rw [decide_eq_false hz]
      exact ifF (rest t x6 O6 T5 (K6.mono (by decide)))
  · rintro δ O1 ⟨⟨x1, x2, x3, x4, x5, x6, x7, x8, x9, x10, rfl⟩, hr⟩
    exact fin O1
end K62

set_option Elab.async false
set_option linter.all false
set_option maxRecDepth 100000
set_option maxHeartbeats 0
/-! k62: the end. -/
noncomputable section
namespace K62
open PySem PySem.Spec PyProof.Rows L2 Dm
theorem FnG_none {P : Program} {w : World} {K : PySem.W.Frag} {mg : Str → Option Value} {base : Heap} {k : Nat} {f : Addr} {fd : FuncData} {ps : List Str} {sp : SpD} (h : ∀ ws O S, ¬ sp ws O S) : FnG P w K mg base k f fd ps sp :=
  ⟨fun ws O S q => absurd q (h ws O S), fun A outer s H args us vs Q hr e0 hb hv ⟨_, _, _, _, _, _, _, q, _⟩ => absurd q (h _ _ _)⟩
theorem facts {P : Program} {w : World} {K : PySem.W.Frag} {h : Heap} {mg : Str → Option Value} {f : Addr} (X : K.In h) (G : h.Ns mainGlobals mg) (hfa : mg ("law" : Str) = some (.ref f)) (c : SaysX xs fa fnD K) (hh : hashesK K "PARTS" = valP P w partsTab) :
    noLst K = true ∧ ∃ fd : FuncData, (∀ (s : Shared) (v : Value), BindsTo s fd ⟨[v], []⟩ [("_law_script", v)]) ∧ ∀ base : Heap, K.In base → base.Ns mainGlobals mg → FnG P w K mg base 95 f fd ["_law_script"] sp_law := by
  obtain ⟨fdis_integer, Fis_integer⟩ := c.d.def_ 0 (d := eis_integer) rfl
  obtain ⟨fdis_tuple, Fis_tuple⟩ := c.d.def_ 1 (d := eis_tuple) rfl
  obtain ⟨fdis_one_of, Fis_one_of⟩ := c.d.def_ 2 (d := eis_one_of) rfl
  obtain ⟨fdis_name, Fis_name⟩ := c.d.def_ 3 (d := eis_name) rfl
  obtain ⟨fdis_word, Fis_word⟩ := c.d.def_ 4 (d := eis_word) rfl
  obtain ⟨fdis_variable, Fis_variable⟩ := c.d.def_ 5 (d := eis_variable) rfl
  obtain ⟨fdare_names, Fare_names⟩ := c.d.def_ 6 (d := eare_names) rfl
  obtain ⟨fdvalues_by_feature, Fvalues_by_feature⟩ := c.d.def_ 7 (d := evalues_by_feature) rfl
  obtain ⟨fdsorts_by_name, Fsorts_by_name⟩ := c.d.def_ 8 (d := esorts_by_name) rfl
  obtain ⟨fdstands_for, Fstands_for⟩ := c.d.def_ 9 (d := estands_for) rfl
  obtain ⟨fdnote_variable, Fnote_variable⟩ := c.d.def_ 10 (d := enote_variable) rfl
  obtain ⟨fdare_terms, Fare_terms⟩ := c.d.def_ 11 (d := eare_terms) rfl
  obtain ⟨fdis_category, Fis_category⟩ := c.d.def_ 12 (d := eis_category) rfl
  obtain ⟨fdare_categories, Fare_categories⟩ := c.d.def_ 13 (d := eare_categories) rfl
  obtain ⟨fdis_kind, Fis_kind⟩ := c.d.def_ 14 (d := eis_kind) rfl
  obtain ⟨fdparts_of, Fparts_of⟩ := c.d.def_ 15 (d := eparts_of) rfl
  obtain ⟨fdis_hole, Fis_hole⟩ := c.d.def_ 16 (d := eis_hole) rfl
  obtain ⟨fdis_node, Fis_node⟩ := c.d.def_ 17 (d := eis_node) rfl
  obtain ⟨fdis_term, Fis_term⟩ := c.d.def_ 18 (d := eis_term) rfl
  obtain ⟨fdis_meaning, Fis_meaning⟩ := c.d.def_ 19 (d := eis_meaning) rfl
  obtain ⟨fdis_closed_term, Fis_closed_term⟩ := c.d.def_ 20 (d := eis_closed_term) rfl
  obtain ⟨fdnames_differ, Fnames_differ⟩ := c.d.def_ 21 (d := enames_differ) rfl
  obtain ⟨fdis_feature, Fis_feature⟩ := c.d.def_ 22 (d := eis_feature) rfl
  obtain ⟨fdare_features, Fare_features⟩ := c.d.def_ 23 (d := eare_features) rfl
  obtain ⟨fdare_sort_features, Fare_sort_features⟩ := c.d.def_ 24 (d := eare_sort_features) rfl
  obtain ⟨fdis_sort, Fis_sort⟩ := c.d.def_ 25 (d := eis_sort) rfl
  obtain ⟨fdare_sorts, Fare_sorts⟩ := c.d.def_ 26 (d := eare_sorts) rfl
  obtain ⟨fdare_items, Fare_items⟩ := c.d.def_ 27 (d := eare_items) rfl
  obtain ⟨fdis_rule, Fis_rule⟩ := c.d.def_ 28 (d := eis_rule) rfl
  obtain ⟨fdare_rules, Fare_rules⟩ := c.d.def_ 29 (d := eare_rules) rfl
  obtain ⟨fdis_book, Fis_book⟩ := c.d.def_ 30 (d := eis_book) rfl
  obtain ⟨fdneed_book, Fneed_book⟩ := c.d.def_ 31 (d := eneed_book) rfl
  obtain ⟨fdfull_mask, Ffull_mask⟩ := c.d.def_ 32 (d := efull_mask) rfl
  obtain ⟨fdhas_bit, Fhas_bit⟩ := c.d.def_ 33 (d := ehas_bit) rfl
  obtain ⟨fdbits_in, Fbits_in⟩ := c.d.def_ 34 (d := ebits_in) rfl
  obtain ⟨fdmarked_cells, Fmarked_cells⟩ := c.d.def_ 35 (d := emarked_cells) rfl
  obtain ⟨fdcells_of, Fcells_of⟩ := c.d.def_ 36 (d := ecells_of) rfl
  obtain ⟨fdneed_term, Fneed_term⟩ := c.d.def_ 37 (d := eneed_term) rfl
  obtain ⟨fdcells_in, Fcells_in⟩ := c.d.def_ 38 (d := ecells_in) rfl
  obtain ⟨fd_law_feed, F_law_feed⟩ := c.d.def_ 39 (d := e_law_feed) rfl
  obtain ⟨fd_law_draw, F_law_draw⟩ := c.d.def_ 40 (d := e_law_draw) rfl
  obtain ⟨fd_law_one, F_law_one⟩ := c.d.def_ 41 (d := e_law_one) rfl
  obtain ⟨fd_law_in, F_law_in⟩ := c.d.def_ 42 (d := e_law_in) rfl
  obtain ⟨fd_law_marks, F_law_marks⟩ := c.d.def_ 43 (d := e_law_marks) rfl
  obtain ⟨fd_law_small_book, F_law_small_book⟩ := c.d.def_ 44 (d := e_law_small_book) rfl
  obtain ⟨fd_law_set_term, F_law_set_term⟩ := c.d.def_ 45 (d := e_law_set_term) rfl
  obtain ⟨fdlaw, Flaw⟩ := c.d.def_ 46 (d := elaw) rfl
  obtain ⟨tMOST_LETTERS, c_MOST_LETTERS⟩ := He.int_ok X G (c.d.fact 65 (f := .int "MOST_LETTERS" 12) rfl)
  obtain ⟨tMOST_VARIABLES, c_MOST_VARIABLES⟩ := He.int_ok X G (c.d.fact 66 (f := .int "MOST_VARIABLES" 3) rfl)
  obtain ⟨tMOST_TERMS, c_MOST_TERMS⟩ := He.int_ok X G (c.d.fact 67 (f := .int "MOST_TERMS" 12) rfl)
  obtain ⟨tMOST_DEPTH, c_MOST_DEPTH⟩ := He.int_ok X G (c.d.fact 68 (f := .int "MOST_DEPTH" 5) rfl)
  obtain ⟨tMOST_CLOSED_TERMS, c_MOST_CLOSED_TERMS⟩ := He.int_ok X G (c.d.fact 69 (f := .int "MOST_CLOSED_TERMS" 300) rfl)
  obtain ⟨tMOST_CLOSED_DEPTH, c_MOST_CLOSED_DEPTH⟩ := He.int_ok X G (c.d.fact 70 (f := .int "MOST_CLOSED_DEPTH" 80) rfl)
  obtain ⟨tMOST_VALUES, c_MOST_VALUES⟩ := He.int_ok X G (c.d.fact 71 (f := .int "MOST_VALUES" 3) rfl)
  obtain ⟨tMOST_FEATURES, c_MOST_FEATURES⟩ := He.int_ok X G (c.d.fact 72 (f := .int "MOST_FEATURES" 3) rfl)
  obtain ⟨tMOST_SORT_FEATURES, c_MOST_SORT_FEATURES⟩ := He.int_ok X G (c.d.fact 73 (f := .int "MOST_SORT_FEATURES" 3) rfl)
  obtain ⟨tMOST_SORTS, c_MOST_SORTS⟩ := He.int_ok X G (c.d.fact 74 (f := .int "MOST_SORTS" 8) rfl)
  obtain ⟨tMOST_ITEMS, c_MOST_ITEMS⟩ := He.int_ok X G (c.d.fact 75 (f := .int "MOST_ITEMS" 6) rfl)
  obtain ⟨tMOST_HOLES, c_MOST_HOLES⟩ := He.int_ok X G (c.d.fact 76 (f := .int "MOST_HOLES" 4) rfl)
  obtain ⟨tMOST_RULES, c_MOST_RULES⟩ := He.int_ok X G (c.d.fact 77 (f := .int "MOST_RULES" 24) rfl)
  obtain ⟨tMOST_MARKS, c_MOST_MARKS⟩ := He.int_ok X G (c.d.fact 78 (f := .int "MOST_MARKS" 2) rfl)
  obtain ⟨tSMALL_LETTERS, c_SMALL_LETTERS⟩ := He.str_ok X G (c.d.fact 79 (f := .str "SMALL_LETTERS" "abcdefghijklmnopqrstuvwxyz") rfl)
  obtain ⟨tNAME_LETTERS, c_NAME_LETTERS⟩ := He.str_ok X G (c.d.fact 80 (f := .str "NAME_LETTERS" "abcdefghijklmnopqrstuvwxyz0123456789") rfl)
  obtain ⟨tGREAT_LETTERS, c_GREAT_LETTERS⟩ := He.str_ok X G (c.d.fact 81 (f := .str "GREAT_LETTERS" "ABCDEFGHIJKLMNOPQRSTUVWXYZ") rfl)
  have e := hfa.symm.trans (He.glo_ok X G (c.d.fact 46 (f := .glo "law") rfl))
  cases e
  have b := FunD.bindsA (ps := ["_law_script"]) Flaw fun _ _ _ _ _ _ us hl => match us, hl with | [_], _ => rfl
  have h0 := c.own
  obtain ⟨h1, h0⟩ := He.ba h0
  obtain ⟨h2, h3⟩ := He.ba h0
  have c_PARTS : PTab P w K mg "PARTS" partsTab := ptab_ok (He.glo_ok X G (c.d.fact 48 (f := .glo "PARTS") rfl)) h2 hh tab_nodup
  have c_KINDS : GTup K mg "KINDS" [.str "set", .str "part", .str "truth"] := gtup_ok (xs := ["set", "part", "truth"]) (He.glo_ok X G (c.d.fact 47 (f := .glo "KINDS") rfl)) h3
  refine ⟨h1, fdlaw, fun s v => b s [v] rfl, fun base _ _ => ?_⟩
  have bis_integer : Binds K fdis_integer ["thing"] [] := FunD.bindsN Fis_integer fun _ _ _ _ _ _ us hl => match us, hl with | [_], _ => rfl
  have gis_integer := He.glo_ok X G (c.d.fact 0 (f := .glo "is_integer") rfl)
  have bis_tuple : Binds K fdis_tuple ["thing", "least", "most"] [] := FunD.bindsN Fis_tuple fun _ _ _ _ _ _ us hl => match us, hl with | [_, _, _], _ => rfl
  have gis_tuple := He.glo_ok X G (c.d.fact 1 (f := .glo "is_tuple") rfl)
  have bis_one_of : Binds K fdis_one_of ["thing", "words"] [] := FunD.bindsN Fis_one_of fun _ _ _ _ _ _ us hl => match us, hl with | [_, _], _ => rfl
  have gis_one_of := He.glo_ok X G (c.d.fact 2 (f := .glo "is_one_of") rfl)
  have bis_name : Binds K fdis_name ["thing"] [] := FunD.bindsN Fis_name fun _ _ _ _ _ _ us hl => match us, hl with | [_], _ => rfl
  have gis_name := He.glo_ok X G (c.d.fact 3 (f := .glo "is_name") rfl)
  have bis_word : Binds K fdis_word ["thing"] [] := FunD.bindsN Fis_word fun _ _ _ _ _ _ us hl => match us, hl with | [_], _ => rfl
  have gis_word := He.glo_ok X G (c.d.fact 4 (f := .glo "is_word") rfl)
  have bis_variable : Binds K fdis_variable ["thing"] [] := FunD.bindsN Fis_variable fun _ _ _ _ _ _ us hl => match us, hl with | [_], _ => rfl
  have gis_variable := He.glo_ok X G (c.d.fact 5 (f := .glo "is_variable") rfl)
  have bare_names : Binds K fdare_names ["thing", "least", "most"] [] := FunD.bindsN Fare_names fun _ _ _ _ _ _ us hl => match us, hl with | [_, _, _], _ => rfl
  have gare_names := He.glo_ok X G (c.d.fact 6 (f := .glo "are_names") rfl)
  have bvalues_by_feature : Binds K fdvalues_by_feature ["features"] [] := FunD.bindsN Fvalues_by_feature fun _ _ _ _ _ _ us hl => match us, hl with | [_], _ => rfl
  have gvalues_by_feature := He.glo_ok X G (c.d.fact 7 (f := .glo "values_by_feature") rfl)
  have bsorts_by_name : Binds K fdsorts_by_name ["sorts"] [] := FunD.bindsN Fsorts_by_name fun _ _ _ _ _ _ us hl => match us, hl with | [_], _ => rfl
  have gsorts_by_name := He.glo_ok X G (c.d.fact 8 (f := .glo "sorts_by_name") rfl)
  have bstands_for : Binds K fdstands_for ["term", "feature", "values", "variables"] [] := FunD.bindsN Fstands_for fun _ _ _ _ _ _ us hl => match us, hl with | [_, _, _, _], _ => rfl
  have gstands_for := He.glo_ok X G (c.d.fact 9 (f := .glo "stands_for") rfl)
  have bnote_variable : Binds K fdnote_variable ["term", "feature", "variables"] [] := FunD.bindsN Fnote_variable fun _ _ _ _ _ _ us hl => match us, hl with | [_, _, _], _ => rfl
  have gnote_variable := He.glo_ok X G (c.d.fact 10 (f := .glo "note_variable") rfl)
  have bare_terms : Binds K fdare_terms ["thing", "features", "values", "variables"] [] := FunD.bindsN Fare_terms fun _ _ _ _ _ _ us hl => match us, hl with | [_, _, _, _], _ => rfl
  have gare_terms := He.glo_ok X G (c.d.fact 11 (f := .glo "are_terms") rfl)
  have bis_category : Binds K fdis_category ["thing", "values", "sorts", "variables"] [] := FunD.bindsN Fis_category fun _ _ _ _ _ _ us hl => match us, hl with | [_, _, _, _], _ => rfl
  have gis_category := He.glo_ok X G (c.d.fact 12 (f := .glo "is_category") rfl)
  have bare_categories : Binds K fdare_categories ["things", "values", "sorts"] [] := FunD.bindsN Fare_categories fun _ _ _ _ _ _ us hl => match us, hl with | [_, _, _], _ => rfl
  have gare_categories := He.glo_ok X G (c.d.fact 13 (f := .glo "are_categories") rfl)
  have bis_kind : Binds K fdis_kind ["thing"] [] := FunD.bindsN Fis_kind fun _ _ _ _ _ _ us hl => match us, hl with | [_], _ => rfl
  have gis_kind := He.glo_ok X G (c.d.fact 14 (f := .glo "is_kind") rfl)
  have bparts_of : Binds K fdparts_of ["kind", "word"] [] := FunD.bindsN Fparts_of fun _ _ _ _ _ _ us hl => match us, hl with | [_, _], _ => rfl
  have gparts_of := He.glo_ok X G (c.d.fact 15 (f := .glo "parts_of") rfl)
  have bis_hole : Binds K fdis_hole ["thing", "kind", "hole_kinds"] [] := FunD.bindsN Fis_hole fun _ _ _ _ _ _ us hl => match us, hl with | [_, _, _], _ => rfl
  have gis_hole := He.glo_ok X G (c.d.fact 16 (f := .glo "is_hole") rfl)
  have bis_node : Binds K fdis_node ["thing", "kind", "marks", "hole_kinds"] [] := FunD.bindsN Fis_node fun _ _ _ _ _ _ us hl => match us, hl with | [_, _, _, _], _ => rfl
  have gis_node := He.glo_ok X G (c.d.fact 17 (f := .glo "is_node") rfl)
  have bis_term : Binds K fdis_term ["thing", "kind", "marks", "hole_kinds", "most", "deepest"] [] := FunD.bindsN Fis_term fun _ _ _ _ _ _ us hl => match us, hl with | [_, _, _, _, _, _], _ => rfl
  have gis_term := He.glo_ok X G (c.d.fact 18 (f := .glo "is_term") rfl)
  have bis_meaning : Binds K fdis_meaning ["thing", "kind", "marks", "hole_kinds"] [] := FunD.bindsN Fis_meaning fun _ _ _ _ _ _ us hl => match us, hl with | [_, _, _, _], _ => rfl
  have gis_meaning := He.glo_ok X G (c.d.fact 19 (f := .glo "is_meaning") rfl)
  have bis_closed_term : Binds K fdis_closed_term ["thing", "kind", "marks"] [] := FunD.bindsN Fis_closed_term fun _ _ _ _ _ _ us hl => match us, hl with | [_, _, _], _ => rfl
  have gis_closed_term := He.glo_ok X G (c.d.fact 20 (f := .glo "is_closed_term") rfl)
  have bnames_differ : Binds K fdnames_differ ["things"] [] := FunD.bindsN Fnames_differ fun _ _ _ _ _ _ us hl => match us, hl with | [_], _ => rfl
  have gnames_differ := He.glo_ok X G (c.d.fact 21 (f := .glo "names_differ") rfl)
  have bis_feature : Binds K fdis_feature ["thing"] [] := FunD.bindsN Fis_feature fun _ _ _ _ _ _ us hl => match us, hl with | [_], _ => rfl
  have gis_feature := He.glo_ok X G (c.d.fact 22 (f := .glo "is_feature") rfl)
  have bare_features : Binds K fdare_features ["thing"] [] := FunD.bindsN Fare_features fun _ _ _ _ _ _ us hl => match us, hl with | [_], _ => rfl
  have gare_features := He.glo_ok X G (c.d.fact 23 (f := .glo "are_features") rfl)
  have bare_sort_features : Binds K fdare_sort_features ["thing", "values"] [] := FunD.bindsN Fare_sort_features fun _ _ _ _ _ _ us hl => match us, hl with | [_, _], _ => rfl
  have gare_sort_features := He.glo_ok X G (c.d.fact 24 (f := .glo "are_sort_features") rfl)
  have bis_sort : Binds K fdis_sort ["thing", "values"] [] := FunD.bindsN Fis_sort fun _ _ _ _ _ _ us hl => match us, hl with | [_, _], _ => rfl
  have gis_sort := He.glo_ok X G (c.d.fact 25 (f := .glo "is_sort") rfl)
  have bare_sorts : Binds K fdare_sorts ["thing", "values"] [] := FunD.bindsN Fare_sorts fun _ _ _ _ _ _ us hl => match us, hl with | [_, _], _ => rfl
  have gare_sorts := He.glo_ok X G (c.d.fact 26 (f := .glo "are_sorts") rfl)
  have bare_items : Binds K fdare_items ["thing", "many"] [] := FunD.bindsN Fare_items fun _ _ _ _ _ _ us hl => match us, hl with | [_, _], _ => rfl
  have gare_items := He.glo_ok X G (c.d.fact 27 (f := .glo "are_items") rfl)
  have bis_rule : Binds K fdis_rule ["thing", "marks", "values", "sorts"] [] := FunD.bindsN Fis_rule fun _ _ _ _ _ _ us hl => match us, hl with | [_, _, _, _], _ => rfl
  have gis_rule := He.glo_ok X G (c.d.fact 28 (f := .glo "is_rule") rfl)
  have bare_rules : Binds K fdare_rules ["thing", "marks", "values", "sorts"] [] := FunD.bindsN Fare_rules fun _ _ _ _ _ _ us hl => match us, hl with | [_, _, _, _], _ => rfl
  have gare_rules := He.glo_ok X G (c.d.fact 29 (f := .glo "are_rules") rfl)
  have bis_book : Binds K fdis_book ["thing"] [] := FunD.bindsN Fis_book fun _ _ _ _ _ _ us hl => match us, hl with | [_], _ => rfl
  have gis_book := He.glo_ok X G (c.d.fact 30 (f := .glo "is_book") rfl)
  have bneed_book : Binds K fdneed_book ["thing"] [] := FunD.bindsN Fneed_book fun _ _ _ _ _ _ us hl => match us, hl with | [_], _ => rfl
  have gneed_book := He.glo_ok X G (c.d.fact 31 (f := .glo "need_book") rfl)
  have bfull_mask : Binds K fdfull_mask ["many"] [] := FunD.bindsN Ffull_mask fun _ _ _ _ _ _ us hl => match us, hl with | [_], _ => rfl
  have gfull_mask := He.glo_ok X G (c.d.fact 32 (f := .glo "full_mask") rfl)
  have bhas_bit : Binds K fdhas_bit ["mask", "number"] [] := FunD.bindsN Fhas_bit fun _ _ _ _ _ _ us hl => match us, hl with | [_, _], _ => rfl
  have ghas_bit := He.glo_ok X G (c.d.fact 33 (f := .glo "has_bit") rfl)
  have bbits_in : Binds K fdbits_in ["mask", "many"] [] := FunD.bindsN Fbits_in fun _ _ _ _ _ _ us hl => match us, hl with | [_, _], _ => rfl
  have gbits_in := He.glo_ok X G (c.d.fact 34 (f := .glo "bits_in") rfl)
  have bmarked_cells : Binds K fdmarked_cells ["many", "mark"] [] := FunD.bindsN Fmarked_cells fun _ _ _ _ _ _ us hl => match us, hl with | [_, _], _ => rfl
  have gmarked_cells := He.glo_ok X G (c.d.fact 35 (f := .glo "marked_cells") rfl)
  have bcells_of : Binds K fdcells_of ["term", "marks"] [] := FunD.bindsN Fcells_of fun _ _ _ _ _ _ us hl => match us, hl with | [_, _], _ => rfl
  have gcells_of := He.glo_ok X G (c.d.fact 36 (f := .glo "cells_of") rfl)
  have bneed_term : Binds K fdneed_term ["book", "thing", "kind"] [] := FunD.bindsN Fneed_term fun _ _ _ _ _ _ us hl => match us, hl with | [_, _, _], _ => rfl
  have gneed_term := He.glo_ok X G (c.d.fact 37 (f := .glo "need_term") rfl)
  have bcells_in : Binds K fdcells_in ["book", "term"] [] := FunD.bindsN Fcells_in fun _ _ _ _ _ _ us hl => match us, hl with | [_, _], _ => rfl
  have gcells_in := He.glo_ok X G (c.d.fact 38 (f := .glo "cells_in") rfl)
  have b_law_feed : Binds K fd_law_feed ["_law_script", "_law_k"] [] := FunD.bindsN F_law_feed fun _ _ _ _ _ _ us hl => match us, hl with | [_, _], _ => rfl
  have g_law_feed := He.glo_ok X G (c.d.fact 39 (f := .glo "_law_feed") rfl)
  have b_law_draw : Binds K fd_law_draw ["_law_feed_here", "_law_many"] [] := FunD.bindsN F_law_draw fun _ _ _ _ _ _ us hl => match us, hl with | [_, _], _ => rfl
  have g_law_draw := He.glo_ok X G (c.d.fact 40 (f := .glo "_law_draw") rfl)
  have b_law_one : Binds K fd_law_one ["_law_feed_here", "_law_things"] [] := FunD.bindsN F_law_one fun _ _ _ _ _ _ us hl => match us, hl with | [_, _], _ => rfl
  have g_law_one := He.glo_ok X G (c.d.fact 41 (f := .glo "_law_one") rfl)
  have b_law_in : Binds K fd_law_in ["_law_term", "_law_marks_here", "_law_cell"] [] := FunD.bindsN F_law_in fun _ _ _ _ _ _ us hl => match us, hl with | [_, _, _], _ => rfl
  have g_law_in := He.glo_ok X G (c.d.fact 42 (f := .glo "_law_in") rfl)
  have b_law_marks : Binds K fd_law_marks ["_law_feed_here"] [] := FunD.bindsN F_law_marks fun _ _ _ _ _ _ us hl => match us, hl with | [_], _ => rfl
  have g_law_marks := He.glo_ok X G (c.d.fact 43 (f := .glo "_law_marks") rfl)
  have b_law_small_book : Binds K fd_law_small_book ["_law_feed_here", "_law_marks_here"] [] := FunD.bindsN F_law_small_book fun _ _ _ _ _ _ us hl => match us, hl with | [_, _], _ => rfl
  have g_law_small_book := He.glo_ok X G (c.d.fact 44 (f := .glo "_law_small_book") rfl)
  have b_law_set_term : Binds K fd_law_set_term ["_law_feed_here", "_law_marks_here", "_law_deep"] [] := FunD.bindsN F_law_set_term fun _ _ _ _ _ _ us hl => match us, hl with | [_, _, _], _ => rfl
  have g_law_set_term := He.glo_ok X G (c.d.fact 45 (f := .glo "_law_set_term") rfl)
  have z_isinstance := He.free_ok X G (c.d.fact 49 (f := .free "isinstance") rfl)
  have z_int := He.free_ok X G (c.d.fact 50 (f := .free "int") rfl)
  have z_bool := He.free_ok X G (c.d.fact 51 (f := .free "bool") rfl)
  have z_tuple := He.free_ok X G (c.d.fact 52 (f := .free "tuple") rfl)
  have z_len := He.free_ok X G (c.d.fact 53 (f := .free "len") rfl)
  have z_str := He.free_ok X G (c.d.fact 54 (f := .free "str") rfl)
  have z_all := He.free_ok X G (c.d.fact 55 (f := .free "all") rfl)
  have z_set := He.free_ok X G (c.d.fact 56 (f := .free "set") rfl)
  have z_zip := He.free_ok X G (c.d.fact 57 (f := .free "zip") rfl)
  have z_sorted := He.free_ok X G (c.d.fact 58 (f := .free "sorted") rfl)
  have z_list := He.free_ok X G (c.d.fact 59 (f := .free "list") rfl)
  have z_range := He.free_ok X G (c.d.fact 60 (f := .free "range") rfl)
  have z_sum := He.free_ok X G (c.d.fact 61 (f := .free "sum") rfl)
  have z_max := He.free_ok X G (c.d.fact 62 (f := .free "max") rfl)
  have z_min := He.free_ok X G (c.d.fact 63 (f := .free "min") rfl)
  have z_repr := He.free_ok X G (c.d.fact 64 (f := .free "repr") rfl)
  have Gis_integer := okis_integer (P := P) (w := w) (mg := mg) (base := base) Fis_integer z_isinstance z_int z_bool (fun ws O S h => by first | (obtain ⟨_, rfl, _⟩ := h; rfl) | (obtain ⟨_, _, rfl, _⟩ := h; rfl) | (obtain ⟨_, _, _, rfl, _⟩ := h; rfl) | (obtain ⟨_, _, _, _, rfl, _⟩ := h; rfl) | (obtain ⟨_, _, _, _, _, rfl, _⟩ := h; rfl) | (obtain ⟨_, _, _, _, _, _, rfl, _⟩ := h; rfl) | (obtain ⟨_, _, _, _, _, _, _, rfl, _⟩ := h; rfl) | (obtain ⟨_, _, _, _, _, _, _, _, rfl, _⟩ := h; rfl)) Dm.rd_is_integer
  have Gis_tuple := okis_tuple (P := P) (w := w) (mg := mg) (base := base) Fis_tuple z_isinstance z_tuple z_len (fun ws O S h => by first | (obtain ⟨_, rfl, _⟩ := h; rfl) | (obtain ⟨_, _, rfl, _⟩ := h; rfl) | (obtain ⟨_, _, _, rfl, _⟩ := h; rfl) | (obtain ⟨_, _, _, _, rfl, _⟩ := h; rfl) | (obtain ⟨_, _, _, _, _, rfl, _⟩ := h; rfl) | (obtain ⟨_, _, _, _, _, _, rfl, _⟩ := h; rfl) | (obtain ⟨_, _, _, _, _, _, _, rfl, _⟩ := h; rfl) | (obtain ⟨_, _, _, _, _, _, _, _, rfl, _⟩ := h; rfl)) Dm.rd_is_tuple
  have Gis_one_of := okis_one_of (P := P) (w := w) (mg := mg) (base := base) Fis_one_of z_isinstance z_str (fun ws O S h => by first | (obtain ⟨_, rfl, _⟩ := h; rfl) | (obtain ⟨_, _, rfl, _⟩ := h; rfl) | (obtain ⟨_, _, _, rfl, _⟩ := h; rfl) | (obtain ⟨_, _, _, _, rfl, _⟩ := h; rfl) | (obtain ⟨_, _, _, _, _, rfl, _⟩ := h; rfl) | (obtain ⟨_, _, _, _, _, _, rfl, _⟩ := h; rfl) | (obtain ⟨_, _, _, _, _, _, _, rfl, _⟩ := h; rfl) | (obtain ⟨_, _, _, _, _, _, _, _, rfl, _⟩ := h; rfl)) Dm.rd_is_one_of
  have Gis_name := okis_name (P := P) (w := w) (mg := mg) (base := base) Fis_name z_all z_isinstance z_str z_len c_SMALL_LETTERS c_MOST_LETTERS c_NAME_LETTERS (fun ws O S h => by first | (obtain ⟨_, rfl, _⟩ := h; rfl) | (obtain ⟨_, _, rfl, _⟩ := h; rfl) | (obtain ⟨_, _, _, rfl, _⟩ := h; rfl) | (obtain ⟨_, _, _, _, rfl, _⟩ := h; rfl) | (obtain ⟨_, _, _, _, _, rfl, _⟩ := h; rfl) | (obtain ⟨_, _, _, _, _, _, rfl, _⟩ := h; rfl) | (obtain ⟨_, _, _, _, _, _, _, rfl, _⟩ := h; rfl) | (obtain ⟨_, _, _, _, _, _, _, _, rfl, _⟩ := h; rfl)) Dm.rd_is_name
  have Gis_word := okis_word (P := P) (w := w) (mg := mg) (base := base) Fis_word Gis_name gis_name Fis_name.kp bis_name (fun ws O S h => by first | (obtain ⟨_, rfl, _⟩ := h; rfl) | (obtain ⟨_, _, rfl, _⟩ := h; rfl) | (obtain ⟨_, _, _, rfl, _⟩ := h; rfl) | (obtain ⟨_, _, _, _, rfl, _⟩ := h; rfl) | (obtain ⟨_, _, _, _, _, rfl, _⟩ := h; rfl) | (obtain ⟨_, _, _, _, _, _, rfl, _⟩ := h; rfl) | (obtain ⟨_, _, _, _, _, _, _, rfl, _⟩ := h; rfl) | (obtain ⟨_, _, _, _, _, _, _, _, rfl, _⟩ := h; rfl)) Dm.rd_is_word
  have Gis_variable := okis_variable (P := P) (w := w) (mg := mg) (base := base) Fis_variable z_isinstance z_str z_len c_GREAT_LETTERS (fun ws O S h => by first | (obtain ⟨_, rfl, _⟩ := h; rfl) | (obtain ⟨_, _, rfl, _⟩ := h; rfl) | (obtain ⟨_, _, _, rfl, _⟩ := h; rfl) | (obtain ⟨_, _, _, _, rfl, _⟩ := h; rfl) | (obtain ⟨_, _, _, _, _, rfl, _⟩ := h; rfl) | (obtain ⟨_, _, _, _, _, _, rfl, _⟩ := h; rfl) | (obtain ⟨_, _, _, _, _, _, _, rfl, _⟩ := h; rfl) | (obtain ⟨_, _, _, _, _, _, _, _, rfl, _⟩ := h; rfl)) Dm.rd_is_variable
  have Gare_names := okare_names (P := P) (w := w) (mg := mg) (base := base) Fare_names z_len z_all z_set z_tuple Gis_tuple gis_tuple Fis_tuple.kp bis_tuple Gis_name gis_name Fis_name.kp bis_name (fun ws O S h => by first | (obtain ⟨_, rfl, _⟩ := h; rfl) | (obtain ⟨_, _, rfl, _⟩ := h; rfl) | (obtain ⟨_, _, _, rfl, _⟩ := h; rfl) | (obtain ⟨_, _, _, _, rfl, _⟩ := h; rfl) | (obtain ⟨_, _, _, _, _, rfl, _⟩ := h; rfl) | (obtain ⟨_, _, _, _, _, _, rfl, _⟩ := h; rfl) | (obtain ⟨_, _, _, _, _, _, _, rfl, _⟩ := h; rfl) | (obtain ⟨_, _, _, _, _, _, _, _, rfl, _⟩ := h; rfl)) Dm.rd_are_names
  have Gvalues_by_feature := okvalues_by_feature (P := P) (w := w) (mg := mg) (base := base) Fvalues_by_feature  (fun ws O S h => by first | (obtain ⟨_, rfl, _⟩ := h; rfl) | (obtain ⟨_, _, rfl, _⟩ := h; rfl) | (obtain ⟨_, _, _, rfl, _⟩ := h; rfl) | (obtain ⟨_, _, _, _, rfl, _⟩ := h; rfl) | (obtain ⟨_, _, _, _, _, rfl, _⟩ := h; rfl) | (obtain ⟨_, _, _, _, _, _, rfl, _⟩ := h; rfl) | (obtain ⟨_, _, _, _, _, _, _, rfl, _⟩ := h; rfl) | (obtain ⟨_, _, _, _, _, _, _, _, rfl, _⟩ := h; rfl)) Dm.rd_values_by_feature
  have Gsorts_by_name := oksorts_by_name (P := P) (w := w) (mg := mg) (base := base) Fsorts_by_name  (fun ws O S h => by first | (obtain ⟨_, rfl, _⟩ := h; rfl) | (obtain ⟨_, _, rfl, _⟩ := h; rfl) | (obtain ⟨_, _, _, rfl, _⟩ := h; rfl) | (obtain ⟨_, _, _, _, rfl, _⟩ := h; rfl) | (obtain ⟨_, _, _, _, _, rfl, _⟩ := h; rfl) | (obtain ⟨_, _, _, _, _, _, rfl, _⟩ := h; rfl) | (obtain ⟨_, _, _, _, _, _, _, rfl, _⟩ := h; rfl) | (obtain ⟨_, _, _, _, _, _, _, _, rfl, _⟩ := h; rfl)) Dm.rd_sorts_by_name
  have Gstands_for := okstands_for (P := P) (w := w) (mg := mg) (base := base) Fstands_for z_len c_MOST_VARIABLES Gis_one_of gis_one_of Fis_one_of.kp bis_one_of Gis_variable gis_variable Fis_variable.kp bis_variable (fun ws O S h => by first | (obtain ⟨_, rfl, _⟩ := h; rfl) | (obtain ⟨_, _, rfl, _⟩ := h; rfl) | (obtain ⟨_, _, _, rfl, _⟩ := h; rfl) | (obtain ⟨_, _, _, _, rfl, _⟩ := h; rfl) | (obtain ⟨_, _, _, _, _, rfl, _⟩ := h; rfl) | (obtain ⟨_, _, _, _, _, _, rfl, _⟩ := h; rfl) | (obtain ⟨_, _, _, _, _, _, _, rfl, _⟩ := h; rfl) | (obtain ⟨_, _, _, _, _, _, _, _, rfl, _⟩ := h; rfl)) Dm.rd_stands_for
  have Gnote_variable := oknote_variable (P := P) (w := w) (mg := mg) (base := base) Fnote_variable Gis_variable gis_variable Fis_variable.kp bis_variable (fun ws O S h => by first | (obtain ⟨_, rfl, _⟩ := h; rfl) | (obtain ⟨_, _, rfl, _⟩ := h; rfl) | (obtain ⟨_, _, _, rfl, _⟩ := h; rfl) | (obtain ⟨_, _, _, _, rfl, _⟩ := h; rfl) | (obtain ⟨_, _, _, _, _, rfl, _⟩ := h; rfl) | (obtain ⟨_, _, _, _, _, _, rfl, _⟩ := h; rfl) | (obtain ⟨_, _, _, _, _, _, _, rfl, _⟩ := h; rfl) | (obtain ⟨_, _, _, _, _, _, _, _, rfl, _⟩ := h; rfl)) Dm.rd_note_variable
  have Gare_terms := okare_terms (P := P) (w := w) (mg := mg) (base := base) Fare_terms z_zip z_len z_tuple Gis_tuple gis_tuple Fis_tuple.kp bis_tuple Gnote_variable gnote_variable Fnote_variable.kp bnote_variable Gstands_for gstands_for Fstands_for.kp bstands_for (fun ws O S h => by first | (obtain ⟨_, rfl, _⟩ := h; rfl) | (obtain ⟨_, _, rfl, _⟩ := h; rfl) | (obtain ⟨_, _, _, rfl, _⟩ := h; rfl) | (obtain ⟨_, _, _, _, rfl, _⟩ := h; rfl) | (obtain ⟨_, _, _, _, _, rfl, _⟩ := h; rfl) | (obtain ⟨_, _, _, _, _, _, rfl, _⟩ := h; rfl) | (obtain ⟨_, _, _, _, _, _, _, rfl, _⟩ := h; rfl) | (obtain ⟨_, _, _, _, _, _, _, _, rfl, _⟩ := h; rfl)) Dm.rd_are_terms
  have Gis_category := okis_category (P := P) (w := w) (mg := mg) (base := base) Fis_category z_tuple Gare_terms gare_terms Fare_terms.kp bare_terms Gis_tuple gis_tuple Fis_tuple.kp bis_tuple Gis_one_of gis_one_of Fis_one_of.kp bis_one_of (fun ws O S h => by first | (obtain ⟨_, rfl, _⟩ := h; rfl) | (obtain ⟨_, _, rfl, _⟩ := h; rfl) | (obtain ⟨_, _, _, rfl, _⟩ := h; rfl) | (obtain ⟨_, _, _, _, rfl, _⟩ := h; rfl) | (obtain ⟨_, _, _, _, _, rfl, _⟩ := h; rfl) | (obtain ⟨_, _, _, _, _, _, rfl, _⟩ := h; rfl) | (obtain ⟨_, _, _, _, _, _, _, rfl, _⟩ := h; rfl) | (obtain ⟨_, _, _, _, _, _, _, _, rfl, _⟩ := h; rfl)) Dm.rd_is_category
  have Gare_categories := okare_categories (P := P) (w := w) (mg := mg) (base := base) Fare_categories Gis_category gis_category Fis_category.kp bis_category (fun ws O S h => by first | (obtain ⟨_, rfl, _⟩ := h; rfl) | (obtain ⟨_, _, rfl, _⟩ := h; rfl) | (obtain ⟨_, _, _, rfl, _⟩ := h; rfl) | (obtain ⟨_, _, _, _, rfl, _⟩ := h; rfl) | (obtain ⟨_, _, _, _, _, rfl, _⟩ := h; rfl) | (obtain ⟨_, _, _, _, _, _, rfl, _⟩ := h; rfl) | (obtain ⟨_, _, _, _, _, _, _, rfl, _⟩ := h; rfl) | (obtain ⟨_, _, _, _, _, _, _, _, rfl, _⟩ := h; rfl)) Dm.rd_are_categories
  have Gis_kind := okis_kind (P := P) (w := w) (mg := mg) (base := base) Fis_kind c_KINDS Gis_one_of gis_one_of Fis_one_of.kp bis_one_of (fun ws O S h => by first | (obtain ⟨_, rfl, _⟩ := h; rfl) | (obtain ⟨_, _, rfl, _⟩ := h; rfl) | (obtain ⟨_, _, _, rfl, _⟩ := h; rfl) | (obtain ⟨_, _, _, _, rfl, _⟩ := h; rfl) | (obtain ⟨_, _, _, _, _, rfl, _⟩ := h; rfl) | (obtain ⟨_, _, _, _, _, _, rfl, _⟩ := h; rfl) | (obtain ⟨_, _, _, _, _, _, _, rfl, _⟩ := h; rfl) | (obtain ⟨_, _, _, _, _, _, _, _, rfl, _⟩ := h; rfl)) Dm.rd_is_kind
  have Gparts_of := okparts_of (P := P) (w := w) (mg := mg) (base := base) Fparts_of c_PARTS (fun ws O S h => by first | (obtain ⟨_, rfl, _⟩ := h; rfl) | (obtain ⟨_, _, rfl, _⟩ := h; rfl) | (obtain ⟨_, _, _, rfl, _⟩ := h; rfl) | (obtain ⟨_, _, _, _, rfl, _⟩ := h; rfl) | (obtain ⟨_, _, _, _, _, rfl, _⟩ := h; rfl) | (obtain ⟨_, _, _, _, _, _, rfl, _⟩ := h; rfl) | (obtain ⟨_, _, _, _, _, _, _, rfl, _⟩ := h; rfl) | (obtain ⟨_, _, _, _, _, _, _, _, rfl, _⟩ := h; rfl)) Dm.rd_parts_of
  have Gis_hole := okis_hole (P := P) (w := w) (mg := mg) (base := base) Fis_hole z_len Gis_integer gis_integer Fis_integer.kp bis_integer (fun ws O S h => by first | (obtain ⟨_, rfl, _⟩ := h; rfl) | (obtain ⟨_, _, rfl, _⟩ := h; rfl) | (obtain ⟨_, _, _, rfl, _⟩ := h; rfl) | (obtain ⟨_, _, _, _, rfl, _⟩ := h; rfl) | (obtain ⟨_, _, _, _, _, rfl, _⟩ := h; rfl) | (obtain ⟨_, _, _, _, _, _, rfl, _⟩ := h; rfl) | (obtain ⟨_, _, _, _, _, _, _, rfl, _⟩ := h; rfl) | (obtain ⟨_, _, _, _, _, _, _, _, rfl, _⟩ := h; rfl)) Dm.rd_is_hole
  have Gis_node := okis_node (P := P) (w := w) (mg := mg) (base := base) Fis_node z_len z_isinstance z_tuple z_str Gparts_of gparts_of Fparts_of.kp bparts_of Gis_hole gis_hole Fis_hole.kp bis_hole Gis_one_of gis_one_of Fis_one_of.kp bis_one_of (fun ws O S h => by first | (obtain ⟨_, rfl, _⟩ := h; rfl) | (obtain ⟨_, _, rfl, _⟩ := h; rfl) | (obtain ⟨_, _, _, rfl, _⟩ := h; rfl) | (obtain ⟨_, _, _, _, rfl, _⟩ := h; rfl) | (obtain ⟨_, _, _, _, _, rfl, _⟩ := h; rfl) | (obtain ⟨_, _, _, _, _, _, rfl, _⟩ := h; rfl) | (obtain ⟨_, _, _, _, _, _, _, rfl, _⟩ := h; rfl) | (obtain ⟨_, _, _, _, _, _, _, _, rfl, _⟩ := h; rfl)) Dm.rd_is_node
  have Gis_term := okis_term (P := P) (w := w) (mg := mg) (base := base) Fis_term z_len z_set z_zip Gparts_of gparts_of Fparts_of.kp bparts_of Gis_node gis_node Fis_node.kp bis_node (fun ws O S h => by first | (obtain ⟨_, rfl, _⟩ := h; rfl) | (obtain ⟨_, _, rfl, _⟩ := h; rfl) | (obtain ⟨_, _, _, rfl, _⟩ := h; rfl) | (obtain ⟨_, _, _, _, rfl, _⟩ := h; rfl) | (obtain ⟨_, _, _, _, _, rfl, _⟩ := h; rfl) | (obtain ⟨_, _, _, _, _, _, rfl, _⟩ := h; rfl) | (obtain ⟨_, _, _, _, _, _, _, rfl, _⟩ := h; rfl) | (obtain ⟨_, _, _, _, _, _, _, _, rfl, _⟩ := h; rfl)) Dm.rd_is_term
  have Gis_meaning := okis_meaning (P := P) (w := w) (mg := mg) (base := base) Fis_meaning c_MOST_TERMS c_MOST_DEPTH Gis_term gis_term Fis_term.kp bis_term (fun ws O S h => by first | (obtain ⟨_, rfl, _⟩ := h; rfl) | (obtain ⟨_, _, rfl, _⟩ := h; rfl) | (obtain ⟨_, _, _, rfl, _⟩ := h; rfl) | (obtain ⟨_, _, _, _, rfl, _⟩ := h; rfl) | (obtain ⟨_, _, _, _, _, rfl, _⟩ := h; rfl) | (obtain ⟨_, _, _, _, _, _, rfl, _⟩ := h; rfl) | (obtain ⟨_, _, _, _, _, _, _, rfl, _⟩ := h; rfl) | (obtain ⟨_, _, _, _, _, _, _, _, rfl, _⟩ := h; rfl)) Dm.rd_is_meaning
  have Gis_closed_term := okis_closed_term (P := P) (w := w) (mg := mg) (base := base) Fis_closed_term c_MOST_CLOSED_TERMS c_MOST_CLOSED_DEPTH Gis_term gis_term Fis_term.kp bis_term (fun ws O S h => by first | (obtain ⟨_, rfl, _⟩ := h; rfl) | (obtain ⟨_, _, rfl, _⟩ := h; rfl) | (obtain ⟨_, _, _, rfl, _⟩ := h; rfl) | (obtain ⟨_, _, _, _, rfl, _⟩ := h; rfl) | (obtain ⟨_, _, _, _, _, rfl, _⟩ := h; rfl) | (obtain ⟨_, _, _, _, _, _, rfl, _⟩ := h; rfl) | (obtain ⟨_, _, _, _, _, _, _, rfl, _⟩ := h; rfl) | (obtain ⟨_, _, _, _, _, _, _, _, rfl, _⟩ := h; rfl)) Dm.rd_is_closed_term
  have Gnames_differ := oknames_differ (P := P) (w := w) (mg := mg) (base := base) Fnames_differ z_len z_set (fun ws O S h => by first | (obtain ⟨_, rfl, _⟩ := h; rfl) | (obtain ⟨_, _, rfl, _⟩ := h; rfl) | (obtain ⟨_, _, _, rfl, _⟩ := h; rfl) | (obtain ⟨_, _, _, _, rfl, _⟩ := h; rfl) | (obtain ⟨_, _, _, _, _, rfl, _⟩ := h; rfl) | (obtain ⟨_, _, _, _, _, _, rfl, _⟩ := h; rfl) | (obtain ⟨_, _, _, _, _, _, _, rfl, _⟩ := h; rfl) | (obtain ⟨_, _, _, _, _, _, _, _, rfl, _⟩ := h; rfl)) Dm.rd_names_differ
  have Gis_feature := okis_feature (P := P) (w := w) (mg := mg) (base := base) Fis_feature z_tuple c_MOST_VALUES Gis_tuple gis_tuple Fis_tuple.kp bis_tuple Gis_name gis_name Fis_name.kp bis_name Gare_names gare_names Fare_names.kp bare_names (fun ws O S h => by first | (obtain ⟨_, rfl, _⟩ := h; rfl) | (obtain ⟨_, _, rfl, _⟩ := h; rfl) | (obtain ⟨_, _, _, rfl, _⟩ := h; rfl) | (obtain ⟨_, _, _, _, rfl, _⟩ := h; rfl) | (obtain ⟨_, _, _, _, _, rfl, _⟩ := h; rfl) | (obtain ⟨_, _, _, _, _, _, rfl, _⟩ := h; rfl) | (obtain ⟨_, _, _, _, _, _, _, rfl, _⟩ := h; rfl) | (obtain ⟨_, _, _, _, _, _, _, _, rfl, _⟩ := h; rfl)) Dm.rd_is_feature
  have Gare_features := okare_features (P := P) (w := w) (mg := mg) (base := base) Fare_features z_all z_tuple c_MOST_FEATURES Gnames_differ gnames_differ Fnames_differ.kp bnames_differ Gis_tuple gis_tuple Fis_tuple.kp bis_tuple Gis_feature gis_feature Fis_feature.kp bis_feature (fun ws O S h => by first | (obtain ⟨_, rfl, _⟩ := h; rfl) | (obtain ⟨_, _, rfl, _⟩ := h; rfl) | (obtain ⟨_, _, _, rfl, _⟩ := h; rfl) | (obtain ⟨_, _, _, _, rfl, _⟩ := h; rfl) | (obtain ⟨_, _, _, _, _, rfl, _⟩ := h; rfl) | (obtain ⟨_, _, _, _, _, _, rfl, _⟩ := h; rfl) | (obtain ⟨_, _, _, _, _, _, _, rfl, _⟩ := h; rfl) | (obtain ⟨_, _, _, _, _, _, _, _, rfl, _⟩ := h; rfl)) Dm.rd_are_features
  have Gare_sort_features := okare_sort_features (P := P) (w := w) (mg := mg) (base := base) Fare_sort_features z_all z_tuple c_MOST_SORT_FEATURES Gis_tuple gis_tuple Fis_tuple.kp bis_tuple Gis_one_of gis_one_of Fis_one_of.kp bis_one_of (fun ws O S h => by first | (obtain ⟨_, rfl, _⟩ := h; rfl) | (obtain ⟨_, _, rfl, _⟩ := h; rfl) | (obtain ⟨_, _, _, rfl, _⟩ := h; rfl) | (obtain ⟨_, _, _, _, rfl, _⟩ := h; rfl) | (obtain ⟨_, _, _, _, _, rfl, _⟩ := h; rfl) | (obtain ⟨_, _, _, _, _, _, rfl, _⟩ := h; rfl) | (obtain ⟨_, _, _, _, _, _, _, rfl, _⟩ := h; rfl) | (obtain ⟨_, _, _, _, _, _, _, _, rfl, _⟩ := h; rfl)) Dm.rd_are_sort_features
  have Gis_sort := okis_sort (P := P) (w := w) (mg := mg) (base := base) Fis_sort z_tuple Gis_tuple gis_tuple Fis_tuple.kp bis_tuple Gare_sort_features gare_sort_features Fare_sort_features.kp bare_sort_features Gis_name gis_name Fis_name.kp bis_name Gis_kind gis_kind Fis_kind.kp bis_kind (fun ws O S h => by first | (obtain ⟨_, rfl, _⟩ := h; rfl) | (obtain ⟨_, _, rfl, _⟩ := h; rfl) | (obtain ⟨_, _, _, rfl, _⟩ := h; rfl) | (obtain ⟨_, _, _, _, rfl, _⟩ := h; rfl) | (obtain ⟨_, _, _, _, _, rfl, _⟩ := h; rfl) | (obtain ⟨_, _, _, _, _, _, rfl, _⟩ := h; rfl) | (obtain ⟨_, _, _, _, _, _, _, rfl, _⟩ := h; rfl) | (obtain ⟨_, _, _, _, _, _, _, _, rfl, _⟩ := h; rfl)) Dm.rd_is_sort
  have Gare_sorts := okare_sorts (P := P) (w := w) (mg := mg) (base := base) Fare_sorts z_all z_tuple c_MOST_SORTS Gnames_differ gnames_differ Fnames_differ.kp bnames_differ Gis_tuple gis_tuple Fis_tuple.kp bis_tuple Gis_sort gis_sort Fis_sort.kp bis_sort (fun ws O S h => by first | (obtain ⟨_, rfl, _⟩ := h; rfl) | (obtain ⟨_, _, rfl, _⟩ := h; rfl) | (obtain ⟨_, _, _, rfl, _⟩ := h; rfl) | (obtain ⟨_, _, _, _, rfl, _⟩ := h; rfl) | (obtain ⟨_, _, _, _, _, rfl, _⟩ := h; rfl) | (obtain ⟨_, _, _, _, _, _, rfl, _⟩ := h; rfl) | (obtain ⟨_, _, _, _, _, _, _, rfl, _⟩ := h; rfl) | (obtain ⟨_, _, _, _, _, _, _, _, rfl, _⟩ := h; rfl)) Dm.rd_are_sorts
  have Gare_items := okare_items (P := P) (w := w) (mg := mg) (base := base) Fare_items z_all z_sorted z_list z_range z_tuple c_MOST_ITEMS Gis_tuple gis_tuple Fis_tuple.kp bis_tuple Gis_word gis_word Fis_word.kp bis_word Gis_integer gis_integer Fis_integer.kp bis_integer (fun ws O S h => by first | (obtain ⟨_, rfl, _⟩ := h; rfl) | (obtain ⟨_, _, rfl, _⟩ := h; rfl) | (obtain ⟨_, _, _, rfl, _⟩ := h; rfl) | (obtain ⟨_, _, _, _, rfl, _⟩ := h; rfl) | (obtain ⟨_, _, _, _, _, rfl, _⟩ := h; rfl) | (obtain ⟨_, _, _, _, _, _, rfl, _⟩ := h; rfl) | (obtain ⟨_, _, _, _, _, _, _, rfl, _⟩ := h; rfl) | (obtain ⟨_, _, _, _, _, _, _, _, rfl, _⟩ := h; rfl)) Dm.rd_are_items
  have Gis_rule := okis_rule (P := P) (w := w) (mg := mg) (base := base) Fis_rule z_len z_tuple c_MOST_HOLES Gis_meaning gis_meaning Fis_meaning.kp bis_meaning Gis_tuple gis_tuple Fis_tuple.kp bis_tuple Gare_categories gare_categories Fare_categories.kp bare_categories Gis_name gis_name Fis_name.kp bis_name Gare_items gare_items Fare_items.kp bare_items (fun ws O S h => by first | (obtain ⟨_, rfl, _⟩ := h; rfl) | (obtain ⟨_, _, rfl, _⟩ := h; rfl) | (obtain ⟨_, _, _, rfl, _⟩ := h; rfl) | (obtain ⟨_, _, _, _, rfl, _⟩ := h; rfl) | (obtain ⟨_, _, _, _, _, rfl, _⟩ := h; rfl) | (obtain ⟨_, _, _, _, _, _, rfl, _⟩ := h; rfl) | (obtain ⟨_, _, _, _, _, _, _, rfl, _⟩ := h; rfl) | (obtain ⟨_, _, _, _, _, _, _, _, rfl, _⟩ := h; rfl)) Dm.rd_is_rule
  have Gare_rules := okare_rules (P := P) (w := w) (mg := mg) (base := base) Fare_rules z_all z_tuple c_MOST_RULES Gnames_differ gnames_differ Fnames_differ.kp bnames_differ Gis_tuple gis_tuple Fis_tuple.kp bis_tuple Gis_rule gis_rule Fis_rule.kp bis_rule (fun ws O S h => by first | (obtain ⟨_, rfl, _⟩ := h; rfl) | (obtain ⟨_, _, rfl, _⟩ := h; rfl) | (obtain ⟨_, _, _, rfl, _⟩ := h; rfl) | (obtain ⟨_, _, _, _, rfl, _⟩ := h; rfl) | (obtain ⟨_, _, _, _, _, rfl, _⟩ := h; rfl) | (obtain ⟨_, _, _, _, _, _, rfl, _⟩ := h; rfl) | (obtain ⟨_, _, _, _, _, _, _, rfl, _⟩ := h; rfl) | (obtain ⟨_, _, _, _, _, _, _, _, rfl, _⟩ := h; rfl)) Dm.rd_are_rules
  have Gis_book := okis_book (P := P) (w := w) (mg := mg) (base := base) Fis_book z_tuple c_MOST_MARKS Gvalues_by_feature gvalues_by_feature Fvalues_by_feature.kp bvalues_by_feature Gsorts_by_name gsorts_by_name Fsorts_by_name.kp bsorts_by_name Gis_tuple gis_tuple Fis_tuple.kp bis_tuple Gare_sorts gare_sorts Fare_sorts.kp bare_sorts Gis_one_of gis_one_of Fis_one_of.kp bis_one_of Gare_rules gare_rules Fare_rules.kp bare_rules Gare_features gare_features Fare_features.kp bare_features Gare_names gare_names Fare_names.kp bare_names (fun ws O S h => by first | (obtain ⟨_, rfl, _⟩ := h; rfl) | (obtain ⟨_, _, rfl, _⟩ := h; rfl) | (obtain ⟨_, _, _, rfl, _⟩ := h; rfl) | (obtain ⟨_, _, _, _, rfl, _⟩ := h; rfl) | (obtain ⟨_, _, _, _, _, rfl, _⟩ := h; rfl) | (obtain ⟨_, _, _, _, _, _, rfl, _⟩ := h; rfl) | (obtain ⟨_, _, _, _, _, _, _, rfl, _⟩ := h; rfl) | (obtain ⟨_, _, _, _, _, _, _, _, rfl, _⟩ := h; rfl)) Dm.rd_is_book
  have Gneed_book := okneed_book (P := P) (w := w) (mg := mg) (base := base) Fneed_book Gis_book gis_book Fis_book.kp bis_book (fun ws O S h => by first | (obtain ⟨_, rfl, _⟩ := h; rfl) | (obtain ⟨_, _, rfl, _⟩ := h; rfl) | (obtain ⟨_, _, _, rfl, _⟩ := h; rfl) | (obtain ⟨_, _, _, _, rfl, _⟩ := h; rfl) | (obtain ⟨_, _, _, _, _, rfl, _⟩ := h; rfl) | (obtain ⟨_, _, _, _, _, _, rfl, _⟩ := h; rfl) | (obtain ⟨_, _, _, _, _, _, _, rfl, _⟩ := h; rfl) | (obtain ⟨_, _, _, _, _, _, _, _, rfl, _⟩ := h; rfl)) Dm.rd_need_book
  have Gfull_mask := okfull_mask (P := P) (w := w) (mg := mg) (base := base) Ffull_mask  (fun ws O S h => by first | (obtain ⟨_, rfl, _⟩ := h; rfl) | (obtain ⟨_, _, rfl, _⟩ := h; rfl) | (obtain ⟨_, _, _, rfl, _⟩ := h; rfl) | (obtain ⟨_, _, _, _, rfl, _⟩ := h; rfl) | (obtain ⟨_, _, _, _, _, rfl, _⟩ := h; rfl) | (obtain ⟨_, _, _, _, _, _, rfl, _⟩ := h; rfl) | (obtain ⟨_, _, _, _, _, _, _, rfl, _⟩ := h; rfl) | (obtain ⟨_, _, _, _, _, _, _, _, rfl, _⟩ := h; rfl)) rd_full
  have Ghas_bit := okhas_bit (P := P) (w := w) (mg := mg) (base := base) Fhas_bit  (fun ws O S h => by first | (obtain ⟨_, rfl, _⟩ := h; rfl) | (obtain ⟨_, _, rfl, _⟩ := h; rfl) | (obtain ⟨_, _, _, rfl, _⟩ := h; rfl) | (obtain ⟨_, _, _, _, rfl, _⟩ := h; rfl) | (obtain ⟨_, _, _, _, _, rfl, _⟩ := h; rfl) | (obtain ⟨_, _, _, _, _, _, rfl, _⟩ := h; rfl) | (obtain ⟨_, _, _, _, _, _, _, rfl, _⟩ := h; rfl) | (obtain ⟨_, _, _, _, _, _, _, _, rfl, _⟩ := h; rfl)) rd_bit
  have Gbits_in := okbits_in (P := P) (w := w) (mg := mg) (base := base) Fbits_in z_range Ghas_bit ghas_bit Fhas_bit.kp bhas_bit (fun ws O S h => by first | (obtain ⟨_, rfl, _⟩ := h; rfl) | (obtain ⟨_, _, rfl, _⟩ := h; rfl) | (obtain ⟨_, _, _, rfl, _⟩ := h; rfl) | (obtain ⟨_, _, _, _, rfl, _⟩ := h; rfl) | (obtain ⟨_, _, _, _, _, rfl, _⟩ := h; rfl) | (obtain ⟨_, _, _, _, _, _, rfl, _⟩ := h; rfl) | (obtain ⟨_, _, _, _, _, _, _, rfl, _⟩ := h; rfl) | (obtain ⟨_, _, _, _, _, _, _, _, rfl, _⟩ := h; rfl)) rd_bits
  have Gmarked_cells := okmarked_cells (P := P) (w := w) (mg := mg) (base := base) Fmarked_cells z_sum z_range Ghas_bit ghas_bit Fhas_bit.kp bhas_bit (fun ws O S h => by first | (obtain ⟨_, rfl, _⟩ := h; rfl) | (obtain ⟨_, _, rfl, _⟩ := h; rfl) | (obtain ⟨_, _, _, rfl, _⟩ := h; rfl) | (obtain ⟨_, _, _, _, rfl, _⟩ := h; rfl) | (obtain ⟨_, _, _, _, _, rfl, _⟩ := h; rfl) | (obtain ⟨_, _, _, _, _, _, rfl, _⟩ := h; rfl) | (obtain ⟨_, _, _, _, _, _, _, rfl, _⟩ := h; rfl) | (obtain ⟨_, _, _, _, _, _, _, _, rfl, _⟩ := h; rfl)) rd_marked
  have GTcells_of : ∀ n, FnG P w K mg base (n + 3) (He.fAd K ecells_of.at_) fdcells_of ["term", "marks"] (sp_cells n) := by
    intro n
    induction n with
    | zero => exact FnG_none fun ws O S h => by obtain ⟨mk, t, _, _, _, h1, _⟩ := h; omega
    | succ n ih => exact okcells_of n Fcells_of z_len ih gcells_of Fcells_of.kp bcells_of Gmarked_cells gmarked_cells Fmarked_cells.kp bmarked_cells Gfull_mask gfull_mask Ffull_mask.kp bfull_mask (fun ws O S h => by first | (obtain ⟨_, rfl, _⟩ := h; rfl) | (obtain ⟨_, _, rfl, _⟩ := h; rfl) | (obtain ⟨_, _, _, rfl, _⟩ := h; rfl) | (obtain ⟨_, _, _, _, rfl, _⟩ := h; rfl) | (obtain ⟨_, _, _, _, _, rfl, _⟩ := h; rfl) | (obtain ⟨_, _, _, _, _, _, rfl, _⟩ := h; rfl) | (obtain ⟨_, _, _, _, _, _, _, rfl, _⟩ := h; rfl) | (obtain ⟨_, _, _, _, _, _, _, _, rfl, _⟩ := h; rfl)) (rd_cells n)
  have Gcells_of := GTcells_of 90
  have Gneed_term := okneed_term (P := P) (w := w) (mg := mg) (base := base) Fneed_term Gis_closed_term gis_closed_term Fis_closed_term.kp bis_closed_term (fun ws O S h => by first | (obtain ⟨_, rfl, _⟩ := h; rfl) | (obtain ⟨_, _, rfl, _⟩ := h; rfl) | (obtain ⟨_, _, _, rfl, _⟩ := h; rfl) | (obtain ⟨_, _, _, _, rfl, _⟩ := h; rfl) | (obtain ⟨_, _, _, _, _, rfl, _⟩ := h; rfl) | (obtain ⟨_, _, _, _, _, _, rfl, _⟩ := h; rfl) | (obtain ⟨_, _, _, _, _, _, _, rfl, _⟩ := h; rfl) | (obtain ⟨_, _, _, _, _, _, _, _, rfl, _⟩ := h; rfl)) rd_need_term
  have Gcells_in := okcells_in (P := P) (w := w) (mg := mg) (base := base) Fcells_in z_len Gneed_book gneed_book Fneed_book.kp bneed_book Gneed_term gneed_term Fneed_term.kp bneed_term Gbits_in gbits_in Fbits_in.kp bbits_in Gcells_of gcells_of Fcells_of.kp bcells_of (fun ws O S h => by first | (obtain ⟨_, rfl, _⟩ := h; rfl) | (obtain ⟨_, _, rfl, _⟩ := h; rfl) | (obtain ⟨_, _, _, rfl, _⟩ := h; rfl) | (obtain ⟨_, _, _, _, rfl, _⟩ := h; rfl) | (obtain ⟨_, _, _, _, _, rfl, _⟩ := h; rfl) | (obtain ⟨_, _, _, _, _, _, rfl, _⟩ := h; rfl) | (obtain ⟨_, _, _, _, _, _, _, rfl, _⟩ := h; rfl) | (obtain ⟨_, _, _, _, _, _, _, _, rfl, _⟩ := h; rfl)) rd_cells_in
  have G_law_feed := ok_law_feed (P := P) (w := w) (mg := mg) (base := base) F_law_feed z_sum z_len z_max z_int (fun ws O S h => by first | (obtain ⟨_, rfl, _⟩ := h; rfl) | (obtain ⟨_, _, rfl, _⟩ := h; rfl) | (obtain ⟨_, _, _, rfl, _⟩ := h; rfl) | (obtain ⟨_, _, _, _, rfl, _⟩ := h; rfl) | (obtain ⟨_, _, _, _, _, rfl, _⟩ := h; rfl) | (obtain ⟨_, _, _, _, _, _, rfl, _⟩ := h; rfl) | (obtain ⟨_, _, _, _, _, _, _, rfl, _⟩ := h; rfl) | (obtain ⟨_, _, _, _, _, _, _, _, rfl, _⟩ := h; rfl)) rd_feed
  have G_law_draw := ok_law_draw (P := P) (w := w) (mg := mg) (base := base) F_law_draw z_int (fun ws O S h => by first | (obtain ⟨_, rfl, _⟩ := h; rfl) | (obtain ⟨_, _, rfl, _⟩ := h; rfl) | (obtain ⟨_, _, _, rfl, _⟩ := h; rfl) | (obtain ⟨_, _, _, _, rfl, _⟩ := h; rfl) | (obtain ⟨_, _, _, _, _, rfl, _⟩ := h; rfl) | (obtain ⟨_, _, _, _, _, _, rfl, _⟩ := h; rfl) | (obtain ⟨_, _, _, _, _, _, _, rfl, _⟩ := h; rfl) | (obtain ⟨_, _, _, _, _, _, _, _, rfl, _⟩ := h; rfl)) Dm.rd_law_draw
  have G_law_one := ok_law_one (P := P) (w := w) (mg := mg) (base := base) F_law_one z_len G_law_draw g_law_draw F_law_draw.kp b_law_draw (fun ws O S h => by first | (obtain ⟨_, rfl, _⟩ := h; rfl) | (obtain ⟨_, _, rfl, _⟩ := h; rfl) | (obtain ⟨_, _, _, rfl, _⟩ := h; rfl) | (obtain ⟨_, _, _, _, rfl, _⟩ := h; rfl) | (obtain ⟨_, _, _, _, _, rfl, _⟩ := h; rfl) | (obtain ⟨_, _, _, _, _, _, rfl, _⟩ := h; rfl) | (obtain ⟨_, _, _, _, _, _, _, rfl, _⟩ := h; rfl) | (obtain ⟨_, _, _, _, _, _, _, _, rfl, _⟩ := h; rfl)) Dm.rd_law_oneQ
  have GT_law_in : ∀ n, FnG P w K mg base (n + 1) (He.fAd K e_law_in.at_) fd_law_in ["_law_term", "_law_marks_here", "_law_cell"] (sp_in n) := by
    intro n
    induction n with
    | zero => exact FnG_none fun ws O S h => by obtain ⟨mk, t, c, _, _, _, h1, _⟩ := h; omega
    | succ n ih => exact ok_law_in n F_law_in z_int z_list ih g_law_in F_law_in.kp b_law_in (fun ws O S h => by first | (obtain ⟨_, rfl, _⟩ := h; rfl) | (obtain ⟨_, _, rfl, _⟩ := h; rfl) | (obtain ⟨_, _, _, rfl, _⟩ := h; rfl) | (obtain ⟨_, _, _, _, rfl, _⟩ := h; rfl) | (obtain ⟨_, _, _, _, _, rfl, _⟩ := h; rfl) | (obtain ⟨_, _, _, _, _, _, rfl, _⟩ := h; rfl) | (obtain ⟨_, _, _, _, _, _, _, rfl, _⟩ := h; rfl) | (obtain ⟨_, _, _, _, _, _, _, _, rfl, _⟩ := h; rfl)) (rd_in n)
  have G_law_in := GT_law_in 90
  have G_law_marks := ok_law_marks (P := P) (w := w) (mg := mg) (base := base) F_law_marks z_range z_tuple z_len G_law_one g_law_one F_law_one.kp b_law_one G_law_draw g_law_draw F_law_draw.kp b_law_draw (fun ws O S h => by first | (obtain ⟨_, rfl, _⟩ := h; rfl) | (obtain ⟨_, _, rfl, _⟩ := h; rfl) | (obtain ⟨_, _, _, rfl, _⟩ := h; rfl) | (obtain ⟨_, _, _, _, rfl, _⟩ := h; rfl) | (obtain ⟨_, _, _, _, _, rfl, _⟩ := h; rfl) | (obtain ⟨_, _, _, _, _, _, rfl, _⟩ := h; rfl) | (obtain ⟨_, _, _, _, _, _, _, rfl, _⟩ := h; rfl) | (obtain ⟨_, _, _, _, _, _, _, _, rfl, _⟩ := h; rfl)) rd_marks
  have G_law_small_book := ok_law_small_book (P := P) (w := w) (mg := mg) (base := base) F_law_small_book G_law_one g_law_one F_law_one.kp b_law_one (fun ws O S h => by first | (obtain ⟨_, rfl, _⟩ := h; rfl) | (obtain ⟨_, _, rfl, _⟩ := h; rfl) | (obtain ⟨_, _, _, rfl, _⟩ := h; rfl) | (obtain ⟨_, _, _, _, rfl, _⟩ := h; rfl) | (obtain ⟨_, _, _, _, _, rfl, _⟩ := h; rfl) | (obtain ⟨_, _, _, _, _, _, rfl, _⟩ := h; rfl) | (obtain ⟨_, _, _, _, _, _, _, rfl, _⟩ := h; rfl) | (obtain ⟨_, _, _, _, _, _, _, _, rfl, _⟩ := h; rfl)) rd_small
  have GT_law_set_term : ∀ n, FnG P w K mg base (n + 3) (He.fAd K e_law_set_term.at_) fd_law_set_term ["_law_feed_here", "_law_marks_here", "_law_deep"] (sp_st n) := by
    intro n
    induction n with
    | zero => exact FnG_none fun ws O S h => by obtain ⟨k, m, d, mk, _, h1, h2, _⟩ := h; omega
    | succ n ih => exact ok_law_set_term n F_law_set_term ih g_law_set_term F_law_set_term.kp b_law_set_term G_law_draw g_law_draw F_law_draw.kp b_law_draw G_law_one g_law_one F_law_one.kp b_law_one (fun ws O S h => by first | (obtain ⟨_, rfl, _⟩ := h; rfl) | (obtain ⟨_, _, rfl, _⟩ := h; rfl) | (obtain ⟨_, _, _, rfl, _⟩ := h; rfl) | (obtain ⟨_, _, _, _, rfl, _⟩ := h; rfl) | (obtain ⟨_, _, _, _, _, rfl, _⟩ := h; rfl) | (obtain ⟨_, _, _, _, _, _, rfl, _⟩ := h; rfl) | (obtain ⟨_, _, _, _, _, _, _, rfl, _⟩ := h; rfl) | (obtain ⟨_, _, _, _, _, _, _, _, rfl, _⟩ := h; rfl)) (rd_st n)
  have G_law_set_term := GT_law_set_term 9
  have kbcells_in_term_book : KSw K fdcells_in "book" "term" := kbN Fcells_in kgS_rel fun _ _ _ _ _ _ us ws hl => match us, ws, hl with | [], [_, _], _ => rfl
  exact oklaw Flaw z_range z_max z_min z_len z_repr z_isinstance z_list G_law_feed g_law_feed F_law_feed.kp b_law_feed G_law_marks g_law_marks F_law_marks.kp b_law_marks G_law_set_term g_law_set_term F_law_set_term.kp b_law_set_term G_law_draw g_law_draw F_law_draw.kp b_law_draw Gcells_in gcells_in Fcells_in.kp bcells_in G_law_one g_law_one F_law_one.kp b_law_one G_law_small_book g_law_small_book F_law_small_book.kp b_law_small_book G_law_in g_law_in F_law_in.kp b_law_in kbcells_in_term_book (fun ws O S h => by first | (obtain ⟨_, rfl, _⟩ := h; rfl) | (obtain ⟨_, _, rfl, _⟩ := h; rfl) | (obtain ⟨_, _, _, rfl, _⟩ := h; rfl) | (obtain ⟨_, _, _, _, rfl, _⟩ := h; rfl) | (obtain ⟨_, _, _, _, _, rfl, _⟩ := h; rfl) | (obtain ⟨_, _, _, _, _, _, rfl, _⟩ := h; rfl) | (obtain ⟨_, _, _, _, _, _, _, rfl, _⟩ := h; rfl) | (obtain ⟨_, _, _, _, _, _, _, _, rfl, _⟩ := h; rfl)) rd_law
end K62
open PySem PySem.W PySem.Calls PyProof.Rows
set_option maxRecDepth 100000 in
set_option maxHeartbeats 0 in
theorem PySem.Challenge.cw_pairedtongues_k62_cells_of_set_terms_holds : PySem.Challenge.rw_pairedtongues_k62_cells_of_set_terms.Holds := by
  w_on; o_law
  refine Hh.head_hash (r := OpenLaw.row PySem.Challenge.rw_pairedtongues_k62_cells_of_set_terms) (q := view (OpenLaw.row PySem.Challenge.rw_pairedtongues_k62_cells_of_set_terms).prog [77]) (H := K62.hk) (ob := K62.ob) (F := 9000) (M := 1000000) (loose := K62.loose) (d := HandSHeadRun.topDef (OpenLaw.row PySem.Challenge.rw_pairedtongues_k62_cells_of_set_terms).prog 77) (kwd := []) "special-get-raises" K62.ob_eq
    (by kernel_rfl) (fun s => by kernel_rfl) K62.run (by kernel_rfl) (by kernel_rfl) (by kernel_rfl) (by rfl) (by first | assumption | decide +kernel) (by decide +kernel) ⟨rfl, rfl, rfl, rfl, rfl, by decide +kernel⟩ ?hw ?hc
  case hw => w_witness2
  case hc =>
    refine Dm.walk_ofG (l := PySem.Challenge.rw_pairedtongues_k62_cells_of_set_terms) (n := 63) (k := 95) (x := "_law_script") rfl (by decide) (by kernel_rfl) ⟨rfl, by decide, by decide⟩ ?F
    intro w mg fa h Y G hmg0
    obtain ⟨K, KX, c, hh⟩ := Y
    have hmg : mg ("law" : PySem.Str) = some (.ref fa) := by
      have e : (HandSHeadRun.topDef (OpenLaw.row PySem.Challenge.rw_pairedtongues_k62_cells_of_set_terms).prog 77).name = ("law" : PySem.Str) := by kernel_rfl
      rw [← e]
      exact hmg0
    obtain ⟨nl, fd, hb, hF⟩ := K62.facts (P := (PySem.Challenge.rw_pairedtongues_k62_cells_of_set_terms).prog) (w := w) KX G hmg c hh
    exact ⟨K, fd, K62.sp_law, KX, nl, hb, fun ns hl hz => ⟨ns, rfl, rfl, hz, hl, fun _ => rfl⟩, hF⟩

