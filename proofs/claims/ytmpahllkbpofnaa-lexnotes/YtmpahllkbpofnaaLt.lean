/- A law on regions that draw their order: what is read may be taken first, if nothing that is written comes up ahead of one operation that waits for the readings. -/
import Derived.Test.YtmpahllkbpofnaaMem
import Derived.OrdersHeld
import Derived.Deep.MidRow
namespace Go.Proofs.Ytmpahllkbpofnaa
section
variable {ops : Array Oper} {Q : Exit → Act → World → Prop} {S : World → Prop} {g : Nat}

/-- Whichever order is drawn; S holds behind each operation, as long as number g hasn't come up. -/
def wpLate (ops : Array Oper) (Q : Exit → Act → World → Prop) (S : World → Prop) (g : Nat) : Nat → Array Bool → Act → World → Prop
  | 0, L, a, w => Region.ready .any ops L = [] ∧ Q .normal a w
  | n + 1, L, a, w => (Region.ready .any ops L = [] → Q .normal a w) ∧
      ∀ j, j ∈ Region.ready .any ops L → wpOp Try.prog ops Q j (fun a' w' => ((L.setIfInBounds j true).getD g true = false → S w') ∧ wpLate ops Q S g n (L.setIfInBounds j true) a' w') a w

theorem wpLate.any : ∀ {n : Nat} {L : Array Bool} {a : Act} {w : World}, wpLate ops Q S g n L a w → wpAny Try.prog .any ops Q n L a w
  | 0, _, _, _, h => h
  | _ + 1, _, _, _, h => ⟨h.1, fun j hj => wpOp_mono (fun _ _ k => k.2.any) (h.2 j hj)⟩

/-- What a region asks of the tape. -/
theorem late_begin {id : Nat} {a : Act} {w : World} (hm : Try.prog.follows .mixedOrders = true) (h : wpLate ops Q S g ops.size (Array.replicate ops.size false) a w.drew) : (Code.region id ops true).wp Try.prog Q a w :=
  wp_region_any hm h.any

/-- g waits for i. -/
def Waits (ops : Array Oper) (g i : Nat) : Prop := ∃ og, ops[g]? = some og ∧ ∃ e, e ∈ og.after ∧ Region.binds .any e = true ∧ e.on = i

theorem not_ready {L : Array Bool} {i : Nat} (hw : Waits ops g i) (hi : L.getD i true = false) : g ∉ Region.ready .any ops L := by
  intro hg
  obtain ⟨_, o, ho, hall⟩ := mem_ready.1 hg
  obtain ⟨og, hog, e, he, hb, hon⟩ := hw
  rw [ho] at hog
  simp only [Option.some.injEq] at hog
  subst hog
  have h1 := hall e he hb
  rw [hon] at h1
  by_cases hlt : i < L.size
  · simp [Array.getD, hlt] at hi h1
    rw [hi] at h1
    cases h1
  · simp [Array.getD, hlt] at h1

theorem late_first {i : Nat} {oi : Oper} {v : Value} (hi : ops[i]? = some oi) (hs : Region.noSelect ops = true) (hQ : ∀ c a w, Q (.panic c) (a.put oi.dst v) w → Q (.panic c) a w) (hw : Waits ops g i) (hgi : i ≠ g) :
    ∀ (n : Nat) (L : Array Bool) (a : Act) (w : World), (∀ j oj, ops[j]? = some oj → j ≠ i → L.getD j true = false → (∀ e ∈ oj.after, Region.binds .any e = true → e.on ≠ i) → oi.apart ops oj = true) →
      i ∈ Region.ready .any ops L → L.getD g true = false → YieldsIf Try.prog ops S oi v a → S w → wpLate ops Q S g n (L.setIfInBounds i true) (a.put oi.dst v) w → wpLate ops Q S g (n + 1) L a w := by
  have ns := fun k o cs b (ho : ops[k]? = some o) => Region.noSelect_spec hs k o cs b ho
  intro n
  induction n with
  | zero =>
    intro L a w _ hr _ hy hS H
    constructor
    · intro e
      rw [e] at hr
      exact absurd hr (by simp)
    · intro j hj
      by_cases hji : j = i
      · rw [hji]; exact hy.wpOp hi hS ⟨fun _ => hS, hji ▸ H⟩
      · exact absurd (ready_mono hj hji) (by rw [H.1]; simp)
  | succ n ih =>
    intro L a w hf hr hg hy hS H
    constructor
    · intro e
      rw [e] at hr
      exact absurd hr (by simp)
    · intro j hj
      by_cases hji : j = i
      · rw [hji]; exact hy.wpOp hi hS ⟨fun _ => hS, hji ▸ H⟩
      · have hiu := (mem_ready.1 hr).1
        have hjg : j ≠ g := fun e => not_ready hw hiu (e ▸ hj)
        obtain ⟨hju, oj, hoj, hall⟩ := mem_ready.1 hj
        have hno : ∀ e ∈ oj.after, Region.binds .any e = true → e.on ≠ i := fun e he hb hon =>
          not_ready (g := j) ⟨oj, hoj, e, he, hb, hon⟩ hiu hj
        have step := wpOp_putIf hoj (hf j oj hoj hji hju hno) (fun cs b => ns i oi cs b hi) (fun cs b => ns j oj cs b hoj) hQ hy (H.2 j (ready_mono hj hji))
        refine wpOp_mono (fun a' w' k => ?_) step
        have hgL : (L.setIfInBounds j true).getD g true = false := by rw [getD_set_ne true hjg]; exact hg
        have hS' : S w' := k.2.1 (by rw [getD_set_ne true hjg, getD_set_ne true hgi]; exact hg)
        refine ⟨fun _ => hS', ih _ a' w' (fun m om hm hmi hmu hmo => hf m om hm hmi ?_ hmo) (ready_mono hr (Ne.symm hji)) hgL k.1 hS' ?_⟩
        · by_cases hjm : j = m
          · exact hjm ▸ hju
          · rwa [getD_set_ne true hjm] at hmu
        · rw [Array.setIfInBounds_comm _ _ hji]
          exact k.2.2

def waitsB (ops : Array Oper) (g i : Nat) : Bool := match ops[g]? with | some o => o.after.any (fun e => Region.binds .any e && e.on == i) | none => false

theorem waits_of {i : Nat} (h : waitsB ops g i = true) : Waits ops g i := by
  unfold waitsB at h
  cases ho : ops[g]? with
  | none => rw [ho] at h; simp at h
  | some o =>
    rw [ho] at h
    obtain ⟨k, hk, e⟩ := Array.any_eq_true.1 h
    simp only [Bool.and_eq_true, beq_iff_eq] at e
    exact ⟨o, ho, _, Array.getElem_mem hk, e.1, e.2⟩

/-- An operation that yields its value in whatever world may be taken first. -/
theorem late_pure_first {i : Nat} {oi : Oper} {v : Value} (hi : ops[i]? = some oi) (hs : Region.noSelect ops = true) (hQ : ∀ c a w, Q (.panic c) (a.put oi.dst v) w → Q (.panic c) a w) (hgi : i ≠ g) :
    ∀ (n : Nat) (L : Array Bool) (a : Act) (w : World), (∀ j oj, ops[j]? = some oj → j ≠ i → L.getD j true = false → (∀ e ∈ oj.after, Region.binds .any e = true → e.on ≠ i) → oi.apart ops oj = true) →
      i ∈ Region.ready .any ops L → YieldsIf Try.prog ops (fun _ => True) oi v a → (L.getD g true = false → S w) → wpLate ops Q S g n (L.setIfInBounds i true) (a.put oi.dst v) w → wpLate ops Q S g (n + 1) L a w := by
  have ns := fun k o cs b (ho : ops[k]? = some o) => Region.noSelect_spec hs k o cs b ho
  intro n
  induction n with
  | zero =>
    intro L a w _ hr hy hS H
    refine ⟨fun e => absurd hr (by rw [e]; simp), fun j hj => ?_⟩
    by_cases hji : j = i
    · rw [hji]; exact hy.wpOp hi trivial ⟨fun h => hS (by rwa [getD_set_ne true hgi] at h), hji ▸ H⟩
    · exact absurd (ready_mono hj hji) (by rw [H.1]; simp)
  | succ n ih =>
    intro L a w hf hr hy hS H
    refine ⟨fun e => absurd hr (by rw [e]; simp), fun j hj => ?_⟩
    by_cases hji : j = i
    · rw [hji]; exact hy.wpOp hi trivial ⟨fun h => hS (by rwa [getD_set_ne true hgi] at h), hji ▸ H⟩
    · have hiu := (mem_ready.1 hr).1
      obtain ⟨hju, oj, hoj, hall⟩ := mem_ready.1 hj
      have hno : ∀ e ∈ oj.after, Region.binds .any e = true → e.on ≠ i := fun e he hb hon => not_ready (g := j) ⟨oj, hoj, e, he, hb, hon⟩ hiu hj
      have step := wpOp_putIf hoj (hf j oj hoj hji hju hno) (fun cs b => ns i oi cs b hi) (fun cs b => ns j oj cs b hoj) hQ hy (H.2 j (ready_mono hj hji))
      refine wpOp_mono (fun a' w' k => ?_) step
      have hS' : (L.setIfInBounds j true).getD g true = false → S w' := fun h => k.2.1 (by rw [Array.setIfInBounds_comm _ _ (Ne.symm hji), getD_set_ne true hgi]; exact h)
      refine ⟨hS', ih _ a' w' (fun m om hm hmi hmu hmo => hf m om hm hmi ?_ hmo) (ready_mono hr (Ne.symm hji)) k.1 hS' ?_⟩
      · by_cases hjm : j = m
        · exact hjm ▸ hju
        · rwa [getD_set_ne true hjm] at hmu
      · rw [Array.setIfInBounds_comm _ _ hji]
        exact k.2.2

theorem late_pure (i : Nat) (v : Value) {oi : Oper} {n : Nat} {L : Array Bool} {a : Act} {w : World} (hi : ops[i]? = some oi) (hs : Region.noSelect ops = true) (hf : Region.free .any ops L i = true) (hr : (Region.ready .any ops L).contains i = true)
    (hQ : ∀ c a w, Q (.panic c) (a.put oi.dst v) w → Q (.panic c) a w) (hgi : i ≠ g) (hy : YieldsIf Try.prog ops (fun _ => True) oi v a) (hS : L.getD g true = false → S w)
    (h : wpLate ops Q S g n (L.setIfInBounds i true) (a.put oi.dst v) w) : wpLate ops Q S g (n + 1) L a w :=
  late_pure_first hi hs hQ hgi n L a w (Region.free_spec hi hf) (by simpa using hr) hy hS h

/-- Number i first. -/
theorem late_take (i : Nat) (v : Value) {oi : Oper} {n : Nat} {L : Array Bool} {a : Act} {w : World} (hi : ops[i]? = some oi) (hs : Region.noSelect ops = true) (hf : Region.free .any ops L i = true) (hr : (Region.ready .any ops L).contains i = true)
    (hQ : ∀ c a w, Q (.panic c) (a.put oi.dst v) w → Q (.panic c) a w) (hw : Waits ops g i) (hgi : i ≠ g) (hg : L.getD g true = false) (hy : YieldsIf Try.prog ops S oi v a) (hS : S w)
    (h : wpLate ops Q S g n (L.setIfInBounds i true) (a.put oi.dst v) w) : wpLate ops Q S g (n + 1) L a w :=
  late_first hi hs hQ hw hgi n L a w (Region.free_spec hi hf) (by simpa using hr) hg hy hS h

/-- Whichever of these comes up. -/
theorem late_all (rs : List Nat) {n : Nat} {L : Array Bool} {a : Act} {w : World} (hr : Region.ready .any ops L = rs) (hne : rs ≠ [])
    (h : ∀ j, j ∈ rs → wpOp Try.prog ops Q j (fun a' w' => ((L.setIfInBounds j true).getD g true = false → S w') ∧ wpLate ops Q S g n (L.setIfInBounds j true) a' w') a w) : wpLate ops Q S g (n + 1) L a w :=
  ⟨fun e => absurd (hr ▸ e) hne, fun j hj => h j (hr ▸ hj)⟩

theorem late_done {n : Nat} {L : Array Bool} {a : Act} {w : World} (hr : Region.ready .any ops L = []) (h : Q .normal a w) : wpLate ops Q S g n L a w := by
  cases n with
  | zero => exact ⟨hr, h⟩
  | succ n => exact ⟨fun _ => h, fun j hj => by rw [hr] at hj; simp at hj⟩

/-- An operation that nothing guards. -/
theorem late_op {i : Nat} {o : Oper} {a : Act} {w : World} {K : Act → World → Prop} (hi : ops[i]? = some o) (hg : o.guard = none) {v : Value} {w' : World} (h : (execOp a.eval o).run Try.prog w = .ok (.value v) w') (hK : K (a.put o.dst v) w') : wpOp Try.prog ops Q i K a w := by
  have hw : Region.wanted o (yielded ops a.tmps) = true := by unfold Region.wanted; rw [hg]
  unfold wpOp
  simp only [hi]
  rw [if_pos hw]
  refine .inl ?_
  unfold Oper.wp
  rw [h]
  exact hK

theorem late_skip {i : Nat} {o : Oper} {a : Act} {w : World} {K : Act → World → Prop} (hi : ops[i]? = some o) (hg : o.guard = none) {w' : World} (h : (execOp a.eval o).run Try.prog w = .ok .skip w') (hK : K (a.put o.dst undef) w') : wpOp Try.prog ops Q i K a w := by
  have hw : Region.wanted o (yielded ops a.tmps) = true := by unfold Region.wanted; rw [hg]
  unfold wpOp
  simp only [hi]
  rw [if_pos hw]
  refine .inl ?_
  unfold Oper.wp
  rw [h]
  exact hK

/-- A call of a function, by its contract. -/
theorem late_call {i f : Nat} {o : Oper} {a : Act} {w : World} {K : Act → World → Prop} (hi : ops[i]? = some o) (hg : o.guard = none) {vals : Array Value} (hrun : (execOp a.eval o).run Try.prog w = .ok (.enter f vals) w)
    {R : Value → World → Prop} (C : Calls Try.prog f vals w fun e w' => ∃ v, e = .returned v ∧ R v w') (hK : ∀ v w', R v w' → K (a.put o.dst v) w') : wpOp Try.prog ops Q i K a w := by
  have hw : Region.wanted o (yielded ops a.tmps) = true := by unfold Region.wanted; rw [hg]
  unfold wpOp
  simp only [hi]
  rw [if_pos hw]
  refine .inl ?_
  unfold Oper.wp
  rw [hrun, Oper.upon_enter]
  refine C.mono ?_
  rintro e w' ⟨v, rfl, hr⟩
  exact hK v w' hr

theorem yields {o : Oper} {a : Act} {v : Value} (hg : o.guard = none) (h : ∀ w, S w → (execOp a.eval o).run Try.prog w = .ok (.value v) w) : YieldsIf Try.prog ops S o v a :=
  .inl ⟨by unfold Region.wanted; rw [hg], h⟩
end

/-! ### What the operations tell -/
section
variable {o : Oper} {a : Act} {w : World}
theorem ev_move (x : Nat) (v : Value) (ho : o.op = .move (.tmp x)) (hx : a.eval (.tmp x) = v) : (execOp a.eval o).run Try.prog w = .ok (.value v) w := by
  unfold execOp; simp [ho, hx]
theorem ev_assign (x : Nat) (v : Value) (ho : o.op = .assign (.tmp x)) (hx : a.eval (.tmp x) = v) : (execOp a.eval o).run Try.prog w = .ok (.value v) w := by
  unfold execOp; simp [ho, hx]
theorem ev_nil (x : Nat) (q : Addr) (ho : o.op = .nilCheck (.tmp x)) (hx : a.eval (.tmp x) = .pointer (some q)) : (execOp a.eval o).run Try.prog w = .ok (.value (.pointer (some q))) w := by
  unfold execOp; rw [ho]; simp only [hx]; simp [go_sem]
theorem ev_field (t : TypeId) (x i : Nat) (v u : Value) (ho : o.op = .fieldAddr t (.tmp x) i) (hx : a.eval (.tmp x) = v) (hr : (Instr.fieldAt t v i).run Try.prog w = .ok u w) : (execOp a.eval o).run Try.prog w = .ok (.value u) w := by
  unfold execOp; simp [ho, hx, hr]
theorem ev_load (t : TypeId) (x : Nat) (v u : Value) (ho : o.op = .load t (.tmp x)) (hx : a.eval (.tmp x) = v) (hr : (Instr.loadAt t v).run Try.prog w = .ok u w) : (execOp a.eval o).run Try.prog w = .ok (.value u) w := by
  unfold execOp; simp [ho, hx, hr]
theorem ev_index (t : TypeId) (x y : Nat) (v i u : Value) (ho : o.op = .indexAddr t (.tmp x) (.tmp y)) (hx : a.eval (.tmp x) = v) (hy : a.eval (.tmp y) = i) (hr : (Instr.indexAt t v i).run Try.prog w = .ok u w) : (execOp a.eval o).run Try.prog w = .ok (.value u) w := by
  unfold execOp; simp [ho, hx, hy, hr]
theorem ev_append (t : TypeId) (x y : Nat) (v u v' : Value) (w' : World) (ht : o.type = t) (ho : o.op = Op.call { callee := Callee.builtin Builtin.append, args := #[.tmp x, .tmp y], argTypes := #[t, t] }) (hx : a.eval (.tmp x) = v) (hy : a.eval (.tmp y) = u) (hr : (Builtin.append_ #[t, t] t #[v, u]).run Try.prog w = .ok v' w') : (execOp a.eval o).run Try.prog w = .ok (.value v') w' := by
  unfold execOp; simp [ho, ht, hx, hy, resolve, invoke, builtin, hr, Result.andThen]
theorem ev_store (t : TypeId) (x y : Nat) (p v : Value) (w' : World) (ho : o.op = .store t (.tmp x) (.tmp y)) (hx : a.eval (.tmp x) = p) (hy : a.eval (.tmp y) = v) (hr : (Instr.storeAt t p v).run Try.prog w = .ok () w') : (execOp a.eval o).run Try.prog w = .ok .skip w' := by
  unfold execOp; simp [ho, hx, hy, hr, Result.andThen]
end

/-- A struct that fills its block. -/
theorem load_row (w : World) (b : Nat) (ty : TypeId) (cs : Array Value) (d : TypeDesc) (h : w.heap[b]? = some (.cells cs ty (0, 0))) (hu : Try.prog.underlying ty = some d) (hd : d.isRow = true) (hi : (Try.prog.info? ty).map (·.size) = some cs.size) : (Instr.loadAt ty (.pointer (some ⟨b, 0, none⟩))).run Try.prog w = .ok (.agg cs) w := by
  have := run_loadAt_mid (P := Try.prog) w b 0 ty cs.toList d (fun j v hv => by unfold World.cell?; simp only [h]; rw [Nat.zero_add]; simpa using hv) hu hd (by simpa using hi)
  simpa using this

/-- A struct within a block. -/
theorem load_at (w : World) (b o : Nat) (ty t : TypeId) (cs : List Value) (cur : Array Value) (d : TypeDesc) (h : w.heap[b]? = some (.cells cur t (0, 0))) (hc : ∀ j v, cs[j]? = some v → cur[o + j]? = some v) (hu : Try.prog.underlying ty = some d) (hd : d.isRow = true) (hi : (Try.prog.info? ty).map (·.size) = some cs.length) : (Instr.loadAt ty (.pointer (some ⟨b, o, none⟩))).run Try.prog w = .ok (.agg cs.toArray) w :=
  run_loadAt_mid (P := Try.prog) w b o ty cs d (fun j v hv => by unfold World.cell?; simp only [h]; exact hc j v hv) hu hd hi
section
variable {ops : Array Oper} {Q : Exit → Act → World → Prop} {S : World → Prop} {g : Nat}
theorem late_opW {i : Nat} {o : Oper} {a : Act} {w : World} {K : Act → World → Prop} (hi : ops[i]? = some o) (hw : Region.wanted o (yielded ops a.tmps) = true) {v : Value} {w' : World} (h : (execOp a.eval o).run Try.prog w = .ok (.value v) w') (hK : K (a.put o.dst v) w') : wpOp Try.prog ops Q i K a w := by
  unfold wpOp
  simp only [hi]
  rw [if_pos hw]
  refine .inl ?_
  unfold Oper.wp
  rw [h]
  exact hK
theorem late_callW {i f : Nat} {o : Oper} {a : Act} {w : World} {K : Act → World → Prop} (hi : ops[i]? = some o) (hw : Region.wanted o (yielded ops a.tmps) = true) {vals : Array Value} (hrun : (execOp a.eval o).run Try.prog w = .ok (.enter f vals) w)
    {R : Value → World → Prop} (C : Calls Try.prog f vals w fun e w' => ∃ v, e = .returned v ∧ R v w') (hK : ∀ v w', R v w' → K (a.put o.dst v) w') : wpOp Try.prog ops Q i K a w := by
  unfold wpOp
  simp only [hi]
  rw [if_pos hw]
  refine .inl ?_
  unfold Oper.wp
  rw [hrun, Oper.upon_enter]
  refine C.mono ?_
  rintro e w' ⟨v, rfl, hr⟩
  exact hK v w' hr
theorem yieldsW {o : Oper} {a : Act} {v : Value} (hw : Region.wanted o (yielded ops a.tmps) = true) (h : ∀ w, S w → (execOp a.eval o).run Try.prog w = .ok (.value v) w) : YieldsIf Try.prog ops S o v a := .inl ⟨hw, h⟩
/-- An alloc. -/
theorem late_new {i : Nat} {o : Oper} {a : Act} {w W : World} {K : Act → World → Prop} (hi : ops[i]? = some o) (zs : Array Value) (t : TypeId) (g : Fr no W w) (hK : ∀ w2 b, w2.heap[b]? = some (.cells zs t (0, 0)) → Fr no w w2 → Fr no W w2 → W.heap.size ≤ b → K (a.put o.dst (.pointer (some ⟨b, 0, none⟩))) w2)
    (hg : o.guard = none := by kernel_rfl) (h : (execOp a.eval o).run Try.prog w = .ok (.value (.pointer (some ⟨w.heap.size, 0, none⟩))) (w.alloc (.cells zs t)) := by kernel_rfl) : wpOp Try.prog ops Q i K a w :=
  late_op hi hg h (hK _ _ (heap_alloc_new w _) ((Fr.refl no w).alloc _ _) (g.alloc _ _) g.size)
theorem late_at {n : Nat} {L L' : Array Bool} {a a' : Act} {w : World} (hL : L = L') (ha : a = a') (h : wpLate ops Q S g n L' a' w) : wpLate ops Q S g n L a w := by
  rw [hL, ha]
  exact h
theorem with_cont {n m : Nat} {L0 : Array Bool} {a0 : Act} {w0 : World} (α : Type) (L' : Array Bool) (A : α → Act) (F : α → World → Prop) (cont : ∀ x w', F x w' → wpLate ops Q S g m L' (A x) w')
    (k : (∀ x w', F x w' → wpLate ops Q S g m L' (A x) w') → wpLate ops Q S g n L0 a0 w0) : wpLate ops Q S g n L0 a0 w0 := k cont
theorem two_of {j a b : Nat} (h : j ∈ [a, b]) : j = a ∨ j = b := by simpa using h
variable {n : Nat} {L : Array Bool} {a : Act} {w : World}
/-- late_pure, its closed facts by the kernel. -/
theorem lateP (i : Nat) (v : Value) {oi : Oper} (hi : ops[i]? = some oi) (he : ∀ w, (execOp a.eval oi).run Try.prog w = .ok (.value v) w) (hS : L.getD g true = false → S w) (h : wpLate ops Q S g n (L.setIfInBounds i true) (a.put oi.dst v) w)
    (hg : oi.guard = none := by kernel_rfl) (hs : Region.noSelect ops = true := by kernel_rfl) (hf : Region.free .any ops L i = true := by kernel_rfl) (hr : (Region.ready .any ops L).contains i = true := by kernel_rfl) (hgi : i ≠ g := by decide)
    (hQ : ∀ c a w, Q (.panic c) (a.put oi.dst v) w → Q (.panic c) a w := by exact fun _ _ _ h => h) : wpLate ops Q S g (n + 1) L a w :=
  late_pure i v hi hs hf hr hQ hgi (yields hg (fun w _ => he w)) hS h
/-- late_take, likewise. -/
theorem lateT (i : Nat) (v : Value) {oi : Oper} (hi : ops[i]? = some oi) (he : ∀ w, S w → (execOp a.eval oi).run Try.prog w = .ok (.value v) w) (hS : S w) (h : wpLate ops Q S g n (L.setIfInBounds i true) (a.put oi.dst v) w)
    (hg : oi.guard = none := by kernel_rfl) (hs : Region.noSelect ops = true := by kernel_rfl) (hf : Region.free .any ops L i = true := by kernel_rfl) (hr : (Region.ready .any ops L).contains i = true := by kernel_rfl) (hgi : i ≠ g := by decide) (hw : waitsB ops g i = true := by kernel_rfl) (hgu : L.getD g true = false := by kernel_rfl)
    (hQ : ∀ c a w, Q (.panic c) (a.put oi.dst v) w → Q (.panic c) a w := by exact fun _ _ _ h => h) : wpLate ops Q S g (n + 1) L a w :=
  late_take i v hi hs hf hr hQ (waits_of hw) hgi hgu (yields hg he) hS h
/-- The frame written out. -/
theorem lateN (L' : Array Bool) (a' : Act) (h : wpLate ops Q S g n L' a' w) (hL : L = L' := by kernel_rfl) (ha : a = a' := by kernel_rfl) : wpLate ops Q S g n L a w := late_at hL ha h
end
end Go.Proofs.Ytmpahllkbpofnaa
