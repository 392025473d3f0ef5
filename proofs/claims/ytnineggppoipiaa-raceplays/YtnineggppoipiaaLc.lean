/- A law on regions that draw their order: an operation that another one waits for by way of others may be taken first. -/
import Derived.Test.YtnineggppoipiaaLt
namespace Go.Proofs.Ytnineggppoipiaa
section
variable {ops : Array Oper} {Q : Exit → Act → World → Prop} {S : World → Prop} {g : Nat}

/-- g waits for i by way of these. -/
def Chain (ops : Array Oper) (g : Nat) : Nat → List Nat → Prop
  | i, [] => Waits ops g i
  | i, m :: ms => Waits ops m i ∧ Chain ops g m ms
theorem chain_ready {L : Array Bool} : ∀ {i : Nat} (ms : List Nat), Chain ops g i ms → L.getD i true = false → (∀ m, m ∈ ms → L.getD m true = false) → g ∉ Region.ready .any ops L
  | _, [], h, hi, _ => not_ready h hi
  | _, m :: ms, h, _, hm => chain_ready ms h.2 (hm m (by simp)) (fun x hx => hm x (by simp [hx]))
theorem chain_mem {L : Array Bool} : ∀ {i : Nat} (ms : List Nat), Chain ops g i ms → L.getD i true = false → (∀ m, m ∈ ms → L.getD m true = false) → ∀ x, x ∈ ms → x ∉ Region.ready .any ops L
  | _, [], _, _, _, x, hx => by simp at hx
  | i, m :: ms, h, hi, hm, x, hx => by
    rcases List.mem_cons.1 hx with rfl | hx
    · exact not_ready h.1 hi
    · exact chain_mem ms h.2 (hm m (by simp)) (fun y hy => hm y (by simp [hy])) x hx

theorem late_firstC {i : Nat} (ms : List Nat) {oi : Oper} {v : Value} (hi : ops[i]? = some oi) (hs : Region.noSelect ops = true) (hQ : ∀ c a w, Q (.panic c) (a.put oi.dst v) w → Q (.panic c) a w) (hw : Chain ops g i ms) (hgi : i ≠ g) :
    ∀ (n : Nat) (L : Array Bool) (a : Act) (w : World), (∀ j oj, ops[j]? = some oj → j ≠ i → L.getD j true = false → (∀ e ∈ oj.after, Region.binds .any e = true → e.on ≠ i) → oi.apart ops oj = true) →
      i ∈ Region.ready .any ops L → L.getD g true = false → (∀ m, m ∈ ms → L.getD m true = false) → YieldsIf Try.prog ops S oi v a → S w → wpLate ops Q S g n (L.setIfInBounds i true) (a.put oi.dst v) w → wpLate ops Q S g (n + 1) L a w := by
  have ns := fun k o cs b (ho : ops[k]? = some o) => Region.noSelect_spec hs k o cs b ho
  intro n
  induction n with
  | zero =>
    intro L a w _ hr _ _ hy hS H
    constructor
    · intro e
      rw [e] at hr
      exact absurd hr (by simp)
    · intro j hj
      by_cases hji : j = i
      · rw [hji]; exact hy.wpOp hi hS ⟨fun _ => hS, hji ▸ H⟩
      · exact absurd (ready_mono hj hji) (by rw [H.1]; simp)
  | succ n ih =>
    intro L a w hf hr hg hm hy hS H
    constructor
    · intro e
      rw [e] at hr
      exact absurd hr (by simp)
    · intro j hj
      by_cases hji : j = i
      · rw [hji]; exact hy.wpOp hi hS ⟨fun _ => hS, hji ▸ H⟩
      · have hiu := (mem_ready.1 hr).1
        have hjg : j ≠ g := fun e => chain_ready ms hw hiu hm (e ▸ hj)
        obtain ⟨hju, oj, hoj, hall⟩ := mem_ready.1 hj
        have hno : ∀ e ∈ oj.after, Region.binds .any e = true → e.on ≠ i := fun e he hb hon =>
          not_ready (g := j) ⟨oj, hoj, e, he, hb, hon⟩ hiu hj
        have step := wpOp_putIf hoj (hf j oj hoj hji hju hno) (fun cs b => ns i oi cs b hi) (fun cs b => ns j oj cs b hoj) hQ hy (H.2 j (ready_mono hj hji))
        refine wpOp_mono (fun a' w' k => ?_) step
        have hgL : (L.setIfInBounds j true).getD g true = false := by rw [getD_set_ne true hjg]; exact hg
        have hS' : S w' := k.2.1 (by rw [getD_set_ne true hjg, getD_set_ne true hgi]; exact hg)
        refine ⟨fun _ => hS', ih _ a' w' (fun m om hm hmi hmu hmo => hf m om hm hmi ?_ hmo) (ready_mono hr (Ne.symm hji)) hgL (fun x hx => by
          have hjx : j ≠ x := fun e => chain_mem ms hw hiu hm x hx (e ▸ hj)
          rw [getD_set_ne true hjx]
          exact hm x hx) k.1 hS' ?_⟩
        · by_cases hjm : j = m
          · exact hjm ▸ hju
          · rwa [getD_set_ne true hjm] at hmu
        · rw [Array.setIfInBounds_comm _ _ hji]
          exact k.2.2


def chainB (ops : Array Oper) (g : Nat) : Nat → List Nat → Bool
  | i, [] => waitsB ops g i
  | i, m :: ms => waitsB ops m i && chainB ops g m ms
theorem chain_of : ∀ {i : Nat} (ms : List Nat), chainB ops g i ms = true → Chain ops g i ms
  | _, [], h => waits_of h
  | i, m :: ms, h => by
    have h2 : (waitsB ops m i && chainB ops g m ms) = true := h
    rw [Bool.and_eq_true] at h2
    exact ⟨waits_of h2.1, chain_of ms h2.2⟩
theorem all_of {L : Array Bool} {ms : List Nat} (h : ms.all (fun m => L.getD m true == false) = true) : ∀ m, m ∈ ms → L.getD m true = false := fun m hm => by
  have := List.all_eq_true.1 h m hm
  simpa using this
variable {n : Nat} {L : Array Bool} {a : Act} {w : World}
/-- An operation that reads, awaited by g by way of others, taken first. -/
theorem lateC (i : Nat) (ms : List Nat) (v : Value) {oi : Oper} (hi : ops[i]? = some oi) (he : ∀ w, S w → (execOp a.eval oi).run Try.prog w = .ok (.value v) w) (hS : S w) (h : wpLate ops Q S g n (L.setIfInBounds i true) (a.put oi.dst v) w)
    (hg : oi.guard = none := by kernel_rfl) (hs : Region.noSelect ops = true := by kernel_rfl) (hf : Region.free .any ops L i = true := by kernel_rfl) (hr : (Region.ready .any ops L).contains i = true := by kernel_rfl) (hgi : i ≠ g := by decide) (hw : chainB ops g i ms = true := by kernel_rfl) (hgu : L.getD g true = false := by kernel_rfl) (hmu : ms.all (fun m => L.getD m true == false) = true := by kernel_rfl)
    (hQ : ∀ c a w, Q (.panic c) (a.put oi.dst v) w → Q (.panic c) a w := by exact fun _ _ _ h => h) : wpLate ops Q S g (n + 1) L a w :=
  late_firstC ms hi hs hQ (chain_of ms hw) hgi n L a w (Region.free_spec hi hf) (by simpa using hr) hgu (all_of hmu) (yields hg he) hS h
/-- The same, its guard being on. -/
theorem lateGC (i : Nat) (ms : List Nat) (v : Value) {oi : Oper} (hi : ops[i]? = some oi) (he : ∀ w, S w → (execOp a.eval oi).run Try.prog w = .ok (.value v) w) (hS : S w) (h : wpLate ops Q S g n (L.setIfInBounds i true) (a.put oi.dst v) w)
    (hg : Region.wanted oi (yielded ops a.tmps) = true := by kernel_rfl) (hs : Region.noSelect ops = true := by kernel_rfl) (hf : Region.free .any ops L i = true := by kernel_rfl) (hr : (Region.ready .any ops L).contains i = true := by kernel_rfl) (hgi : i ≠ g := by decide) (hw : chainB ops g i ms = true := by kernel_rfl) (hgu : L.getD g true = false := by kernel_rfl) (hmu : ms.all (fun m => L.getD m true == false) = true := by kernel_rfl)
    (hQ : ∀ c a w, Q (.panic c) (a.put oi.dst v) w → Q (.panic c) a w := by exact fun _ _ _ h => h) : wpLate ops Q S g (n + 1) L a w :=
  late_firstC ms hi hs hQ (chain_of ms hw) hgi n L a w (Region.free_spec hi hf) (by simpa using hr) hgu (all_of hmu) (yieldsW hg he) hS h
/-- Where a guard may stand. -/
theorem lateHP (i : Nat) (v : Value) {oi : Oper} (hi : ops[i]? = some oi) (he : ∀ w, (execOp a.eval oi).run Try.prog w = .ok (.value v) w) (hS : L.getD g true = false → S w) (h : wpLate ops Q S g n (L.setIfInBounds i true) (a.put oi.dst v) w)
    (hw : Region.wanted oi (yielded ops a.tmps) = true := by kernel_rfl) (hs : Region.noSelect ops = true := by kernel_rfl) (hf : Region.free .any ops L i = true := by kernel_rfl) (hr : (Region.ready .any ops L).contains i = true := by kernel_rfl) (hgi : i ≠ g := by decide)
    (hQ : ∀ c a w, Q (.panic c) (a.put oi.dst v) w → Q (.panic c) a w := by exact fun _ _ _ h => h) : wpLate ops Q S g (n + 1) L a w :=
  late_pure i v hi hs hf hr hQ hgi (yieldsW hw (fun w _ => he w)) hS h
/-- Behind a guard that is shut. -/
theorem lateHO (i : Nat) {oi : Oper} (hi : ops[i]? = some oi) (hS : L.getD g true = false → S w) (h : wpLate ops Q S g n (L.setIfInBounds i true) (a.put oi.dst undef) w)
    (hw : Region.wanted oi (yielded ops a.tmps) = false := by kernel_rfl) (hs : Region.noSelect ops = true := by kernel_rfl) (hf : Region.free .any ops L i = true := by kernel_rfl) (hr : (Region.ready .any ops L).contains i = true := by kernel_rfl) (hgi : i ≠ g := by decide)
    (hQ : ∀ c a w, Q (.panic c) (a.put oi.dst undef) w → Q (.panic c) a w := by exact fun _ _ _ h => h) : wpLate ops Q S g (n + 1) L a w :=
  late_pure i undef hi hs hf hr hQ hgi (.inr ⟨hw, rfl⟩) hS h
end
end Go.Proofs.Ytnineggppoipiaa
