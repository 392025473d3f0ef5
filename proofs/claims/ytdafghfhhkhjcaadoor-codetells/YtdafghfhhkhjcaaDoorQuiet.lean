/- A region that draws its order, whose operations read memory that no callee turns, and whose callees make new memory alone: its operations one by one, in the order of the text. -/
import Derived.Test.YtdafghfhhkhjcaaDoorArgs
import Derived.Deep.Quiet
namespace Go.Proofs.YtdafghfhhkhjcaaDoor
open Go.ChangeShapes Go.WideShapes Go.ChangeAt Go.RowKit

section
variable {ops : Array Oper} {C : World → Prop} {Q : Act → Prop} {a : Act} {o : Oper} {rest : List Oper} {f : Nat → Value} {N : Nat}

theorem wpQ_value (v : Value) (hw : Region.wanted o (yielded ops a.tmps) = true) (h : ∀ w, C w → (execOp a.eval o).run Tryd.prog w = .ok (.value v) w) (k : wpQuiet Tryd.prog ops C Q rest (a.put o.dst v)) : wpQuiet Tryd.prog ops C Q (o :: rest) a := by
  refine wpQuiet_step fun K hK => ?_
  rw [if_pos hw]
  refine ⟨v, fun w hC => ?_, hK _ k⟩
  unfold Oper.quietAt
  rw [h w hC]
  exact ⟨rfl, rfl⟩

theorem wpQ_call (v : Value) (g : FuncId) (args : Array Value) (hw : Region.wanted o (yielded ops a.tmps) = true) (h : ∀ w, (execOp a.eval o).run Tryd.prog w = .ok (.enter g args) w)
    (hc : ∀ w, C w → Calls Tryd.prog g args w fun e w'' => e = .returned v ∧ C w'') (k : wpQuiet Tryd.prog ops C Q rest (a.put o.dst v)) : wpQuiet Tryd.prog ops C Q (o :: rest) a := by
  refine wpQuiet_step fun K hK => ?_
  rw [if_pos hw]
  refine ⟨v, fun w hC => ?_, hK _ k⟩
  unfold Oper.quietAt
  rw [h w]
  exact ⟨rfl, hc w hC⟩

/-- What the frame's slots hold. -/
structure Fm (N : Nat) (a : Act) (f : Nat → Value) : Prop where
  ev : ∀ k, a.eval (.tmp k) = f k
  sz : a.tmps.size = N
  df : a.defers = []

def upd (f : Nat → Value) (s : Nat) (v : Value) : Nat → Value := fun k => if k = s then v else f k

theorem Fm.put (h : Fm N a f) (s : Nat) (hs : s < N) (v : Value) : Fm N (a.put (some s) v) (upd f s v) := by
  refine ⟨fun k => ?_, ?_, ?_⟩
  · unfold upd
    by_cases e : k = s
    · subst e
      rw [if_pos rfl]
      exact Act.eval_put_same a k v (by rw [h.sz]; exact hs)
    · rw [if_neg e, ← h.ev k]
      show (a.tmps.setIfInBounds s v).getD k undef = a.tmps.getD k undef
      simp [Ne.symm e]
  · show (a.tmps.setIfInBounds s v).size = N
    simpa using h.sz
  · exact h.df

/-- Which slot the operation j yields. -/
def At (ops : Array Oper) (j s : Nat) : Prop := (ops[j]?).bind (·.dst) = some s

theorem want_none (h : o.guard = none) : Region.wanted o (yielded ops a.tmps) = true := by unfold Region.wanted; rw [h]

theorem want_at (h : Fm N a f) {j s : Nat} (hj : At ops j s) (hs : s < N) {b : Bool} (hg : o.guard = some (j, b)) (hv : f s = .bool b) : Region.wanted o (yielded ops a.tmps) = true := by
  have e : a.tmps[s]? = some (.bool b) := by
    have := h.ev s
    rw [hv] at this
    have e2 : a.tmps.getD s undef = .bool b := this
    rw [Array.getElem?_eq_getElem (by rw [h.sz]; exact hs)]
    rw [Array.getD_eq_getD_getElem?, Array.getElem?_eq_getElem (by rw [h.sz]; exact hs)] at e2
    simpa using e2
  unfold Region.wanted yielded
  unfold At at hj
  rw [hg]
  simp [hj, e]

theorem q_move (h : Fm N a f) (s x : Nat) (ho : o.op = .move (.tmp x)) (hd : o.dst = some s) (hs : s < N) (hw : Region.wanted o (yielded ops a.tmps) = true) (v : Value) (hv : f x = v)
    (k : ∀ a', Fm N a' (upd f s v) → wpQuiet Tryd.prog ops C Q rest a') : wpQuiet Tryd.prog ops C Q (o :: rest) a := by
  refine wpQ_value v hw (fun w _ => ?_) ?_
  · rw [← hv, ← h.ev x]; unfold execOp; simp [ho]
  · rw [hd]; exact k _ (h.put s hs v)

theorem q_pick (h : Fm N a f) (s g x : Nat) (ho : o.op = .pick (.tmp g) (.tmp x) (.const (.bool false))) (hd : o.dst = some s) (hs : s < N) (hw : Region.wanted o (yielded ops a.tmps) = true) (hg : f g = .bool true) (v : Value) (hv : f x = v)
    (k : ∀ a', Fm N a' (upd f s v) → wpQuiet Tryd.prog ops C Q rest a') : wpQuiet Tryd.prog ops C Q (o :: rest) a := by
  refine wpQ_value v hw (fun w _ => ?_) ?_
  · have e1 := h.ev g
    have e2 := h.ev x
    rw [hg] at e1
    rw [hv] at e2
    unfold execOp
    simp [ho, e1, e2, asBool]
  · rw [hd]; exact k _ (h.put s hs v)

theorem q_call (h : Fm N a f) (s : Nat) (g : FuncId) (args : Array Value) (hd : o.dst = some s) (hs : s < N) (hw : Region.wanted o (yielded ops a.tmps) = true) (hr : ∀ w, (execOp a.eval o).run Tryd.prog w = .ok (.enter g args) w) (v : Value)
    (hc : ∀ w, C w → Calls Tryd.prog g args w fun e w'' => e = .returned v ∧ C w'')
    (k : ∀ a', Fm N a' (upd f s v) → wpQuiet Tryd.prog ops C Q rest a') : wpQuiet Tryd.prog ops C Q (o :: rest) a := by
  refine wpQ_call v g args hw hr hc ?_
  rw [hd]; exact k _ (h.put s hs v)

theorem q_value (h : Fm N a f) (s : Nat) (hd : o.dst = some s) (hs : s < N) (hw : Region.wanted o (yielded ops a.tmps) = true) (v : Value) (hr : ∀ w, C w → (execOp a.eval o).run Tryd.prog w = .ok (.value v) w)
    (k : ∀ a', Fm N a' (upd f s v) → wpQuiet Tryd.prog ops C Q rest a') : wpQuiet Tryd.prog ops C Q (o :: rest) a := by
  refine wpQ_value v hw hr ?_
  rw [hd]; exact k _ (h.put s hs v)

/-- The block b holds an instruction, in every world of the class. -/
def Box (C : World → Prop) (b : Nat) (x y : Int) : Prop := ∀ w, C w → w.heap[b]? = some (.cells #[.int .i64 x, .int .i64 y] 23 (0, 0))

theorem q_ins (h : Fm N a f) (b : Nat) (x y : Int) (hB : Box C b x y) (s : Nat) (ho : o.op = .load 23 (.tmp 1)) (hd : o.dst = some s) (hs : s < N) (hw : Region.wanted o (yielded ops a.tmps) = true) (hp : f 1 = .pointer (some ⟨b, 0, none⟩))
    (k : ∀ a', Fm N a' (upd f s (.agg #[.int .i64 x, .int .i64 y])) → wpQuiet Tryd.prog ops C Q rest a') : wpQuiet Tryd.prog ops C Q (o :: rest) a := by
  refine q_value h s hd hs hw _ (fun w hC => ?_) k
  have e1 := h.ev 1
  rw [hp] at e1
  have hl := run_loadVar_row (P := Tryd.prog) w b 23 23 #[.int .i64 x, .int .i64 y] (0, 0) _ (hB w hC) Tryd.underlying23 rfl (by kernel_rfl)
  unfold execOp
  simp [ho, e1, Instr.loadAt, Instr.sureAddr, hl]

theorem q_field (h : Fm N a f) (b : Nat) (s : Nat) (ho : o.op = .fieldAddr 23 (.tmp 1) 0) (hd : o.dst = some s) (hs : s < N) (hw : Region.wanted o (yielded ops a.tmps) = true) (hp : f 1 = .pointer (some ⟨b, 0, none⟩))
    (k : ∀ a', Fm N a' (upd f s (.pointer (some ⟨b, 0, none⟩))) → wpQuiet Tryd.prog ops C Q rest a') : wpQuiet Tryd.prog ops C Q (o :: rest) a := by
  refine q_value h s hd hs hw _ (fun w hC => ?_) k
  have e1 := h.ev 1
  rw [hp] at e1
  have hr : (Instr.fieldAt 23 (.pointer (some ⟨b, 0, none⟩)) 0).run Tryd.prog w = .ok (.pointer (some ⟨b, 0, none⟩)) w := by kernel_rfl
  unfold execOp
  simp [ho, e1, hr]

theorem q_op (h : Fm N a f) (b : Nat) (x y : Int) (hB : Box C b x y) (s t : Nat) (ho : o.op = .load 3 (.tmp t)) (hd : o.dst = some s) (hs : s < N) (hw : Region.wanted o (yielded ops a.tmps) = true) (hp : f t = .pointer (some ⟨b, 0, none⟩))
    (k : ∀ a', Fm N a' (upd f s (.int .i64 x)) → wpQuiet Tryd.prog ops C Q rest a') : wpQuiet Tryd.prog ops C Q (o :: rest) a := by
  refine q_value h s hd hs hw _ (fun w hC => ?_) k
  have e1 := h.ev t
  rw [hp] at e1
  have hc := (two_cells (hB w hC)).1
  have hr : (Instr.loadAt 3 (.pointer (some ⟨b, 0, none⟩))).run Tryd.prog w = .ok (.int .i64 x) w := by simp [go_sem, hc]
  unfold execOp
  simp [ho, e1, hr]

theorem q_eq {t : TypeId} (h : Fm N a f) (s x y : Nat) (u : Value) (hu : ∀ w, (binOp .eql t u u).run Tryd.prog w = .ok (.bool true) w) (hgd : ∀ w, (eqGuard .eql t (.tmp x) (.tmp y) u u).run Tryd.prog w = .ok () w)
    (ho : o.op = .binOp .eql t (.tmp x) (.tmp y) t) (hd : o.dst = some s) (hs : s < N) (hw : Region.wanted o (yielded ops a.tmps) = true) (hx : f x = u) (hy : f y = u)
    (k : ∀ a', Fm N a' (upd f s (.bool true)) → wpQuiet Tryd.prog ops C Q rest a') : wpQuiet Tryd.prog ops C Q (o :: rest) a := by
  refine q_value h s hd hs hw _ (fun w hC => ?_) k
  have e1 := h.ev x
  have e2 := h.ev y
  rw [hx] at e1
  rw [hy] at e2
  unfold execOp
  simp [ho, e1, e2, hu, hgd]
end
end Go.Proofs.YtdafghfhhkhjcaaDoor
