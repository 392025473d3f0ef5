/- The program's watch in memory; a new one; a thread's clock; what is kept. -/
import Derived.Test.YtnineggppoipiaaPl
namespace Go.Proofs.Ytnineggppoipiaa
open Go.ChangeShapes Go.WideShapes Go.ChangeAt Go.RowKit

/-- The blocks that a watch's calls may turn: from c on, its own and the maps. -/
def TW (c : Nat) (w : World) (k : Nat) : Prop := c ≤ k ∧ ((∃ es cl, w.heap[k]? = some (.map es cl)) ∨ ∃ cur, w.heap[k]? = some (.cells cur 58 (0, 0)))
theorem Fr.tw {c : Nat} {a b d : World} (h : Fr (TW c a) a b) (k : Fr (TW c b) b d) : Fr (TW c a) a d :=
  h.trans k (fun _ _ f => f) (fun i hi f => by
    by_cases g : TW c a i
    · exact g
    · have e := h.block i hi g
      unfold TW at f ⊢
      rw [e] at f
      exact f)
/-- v is a map of at most n clocks, or nil. -/
def MV (c : Nat) (w : World) (v : Value) (n : Nat) (F : Cm) : Prop := (v = .map none ∧ ∀ p, F p = none) ∨ ∃ m, c ≤ m ∧ v = .map (some m) ∧ CM w m n F
/-- The watch in block p. -/
structure PW (c : Nat) (w : World) (p : Nat) (F : Cm) (n : Int) (k : Nat) : Prop where
  low : c ≤ p
  row : ∃ v, w.heap[p]? = some (.cells #[v, .int .i64 n] 58 (0, 0)) ∧ MV c w v k F

theorem MV.kept {S : Nat → Prop} {c : Nat} {w w' : World} {v : Value} {n : Nat} {F : Cm} (h : MV c w v n F) (hf : Fr S w w') (hS : ∀ m es cl, w.heap[m]? = some (.map es cl) → ¬ S m) : MV c w' v n F := by
  rcases h with h | ⟨m, h1, h2, h3⟩
  · exact .inl h
  · obtain ⟨es, cl, h4⟩ := h3.isMap
    exact .inr ⟨m, h1, h2, h3.kept hf (hS m es cl h4)⟩
section
variable {c : Nat} {w w' : World} {p : Nat} {F : Cm} {n : Int} {k : Nat}
theorem PW.lt (h : PW c w p F n k) : p < w.heap.size := by
  obtain ⟨v, h1, _⟩ := h.row
  exact lt_of_heap h1
theorem PW.kept {S : Nat → Prop} (h : PW c w p F n k) (hf : Fr S w w') (hp : ¬ S p) (hS : ∀ m es cl, w.heap[m]? = some (.map es cl) → ¬ S m) : PW c w' p F n k := by
  obtain ⟨v, h1, h2⟩ := h.row
  exact ⟨h.low, v, hf.heap h1 hp, h2.kept hf hS⟩
theorem PW.keep (h : PW c w p F n k) (hf : Fr no w w') : PW c w' p F n k := h.kept hf (fun f => f) (fun _ _ _ _ f => f)
theorem PW.up {m : Nat} (h : PW c w p F n k) (hm : k ≤ m) : PW c w p F n m := by
  obtain ⟨v, h1, h2⟩ := h.row
  refine ⟨h.low, v, h1, ?_⟩
  rcases h2 with h | ⟨b, a1, a2, a3⟩
  · exact .inl h
  · exact .inr ⟨b, a1, a2, a3.mono hm⟩
/-- Its two cells. -/
theorem PW.cells (h : PW c w p F n k) : ∃ v, w.cell? ⟨p, 0, none⟩ = some v ∧ w.cell? ⟨p, 1, none⟩ = some (.int .i64 n) ∧ MV c w v k F ∧ ∀ o, w.frozen? ⟨p, o, none⟩ = false := by
  obtain ⟨v, h1, h2⟩ := h.row
  refine ⟨v, ?_, ?_, h2, row_froz h1⟩
  · unfold World.cell?
    rw [h1]
    rfl
  · unfold World.cell?
    rw [h1]
    rfl
/-- The number of races is written. -/
theorem PW.races (h : PW c w p F n k) (m : Int) : PW c (w.setCell ⟨p, 1, none⟩ (.int .i64 m)) p F m k ∧ Fr (TW c w) w (w.setCell ⟨p, 1, none⟩ (.int .i64 m)) := by
  obtain ⟨v, h1, h2⟩ := h.row
  have f := fr_set w p 1 (.int .i64 m)
  refine ⟨⟨h.low, v, heap_set h1, h2.kept f fun b es cl hb e => ?_⟩, f.mono fun i _ e => ?_⟩
  · unfold Bk at e
    subst e
    rw [h1] at hb
    simp at hb
  · unfold Bk at e
    subst e
    exact ⟨h.low, .inr ⟨_, h1⟩⟩
end
theorem MV.look {c : Nat} {w w' : World} {v : Value} {n : Nat} {F : Cm} (h : MV c w v n F) (f : Fr no w w') {p : Pk} (hp : p.Ok) : (Instr.lookup 56 v (pkV p) false).run Try.prog w' = .ok (ckV (getP F p)) w' := by
  rcases h with ⟨rfl, h2⟩ | ⟨m, _, rfl, h3⟩
  · have : getP F p = zeroC := by unfold getP; rw [h2 p]; rfl
    rw [this]
    exact look_nil w' hp
  · exact (h3.kept f (fun x => x)).look hp
theorem MV.look_ok {c : Nat} {w w' : World} {v : Value} {n : Nat} {F : Cm} (h : MV c w v n F) (f : Fr no w w') {p : Pk} (hp : p.Ok) : (Instr.lookup 56 v (pkV p) true).run Try.prog w' = .ok (.tuple #[ckV (getP F p), .bool (F p).isSome]) w' := by
  rcases h with ⟨rfl, h2⟩ | ⟨m, _, rfl, h3⟩
  · have : getP F p = zeroC := by unfold getP; rw [h2 p]; rfl
    rw [this, h2 p]
    exact look_nil_ok w' hp
  · exact (h3.kept f (fun x => x)).look_ok hp

set_option maxRecDepth 100000 in
theorem pnew_any (w : World) (c : Nat) (hc : c ≤ w.heap.size) : Calls Try.prog 10 #[] w fun e w' => e = .returned (.pointer (some ⟨w.heap.size, 0, none⟩)) ∧ PW c w' w.heap.size (fun _ => none) 0 0 ∧ Fr no w w' := by
  have H := heap_alloc_new w (.cells #[.map none, .int .i64 0] 58)
  have F := (Fr.refl no w).alloc #[.map none, .int .i64 0] 58
  have HI : Hid (PW c (w.alloc (.cells #[.map none, .int .i64 0] 58)) w.heap.size (fun _ => none) 0 0 ∧ Fr no w _) := ⟨⟨hc, _, H, .inl ⟨rfl, fun _ => rfl⟩⟩, F⟩
  clear H F
  go_enter Try.func10, Try.ntmps10
  go_wp2_with fail
  go_ret
  exact ⟨rfl, HI.out.1, HI.out.2⟩

/-- A thread's own clock, at first. -/
def unitC (t : Nat) : Nat → Int := setT zeroC t 1
def th (t : Int) : Pk := ⟨0, t, 0, 0⟩
def nowP (F : Cm) (t : Nat) : Nat → Int := (F (th t)).getD (unitC t)
theorem in_nat {t : Nat} (h : t < 13) : In (t : Int) := by unfold In; omega
theorem in_0 : In 0 := by unfold In; omega
theorem th_ok {t : Nat} (h : t < 13) : (th t).Ok := ⟨in_0, in_nat h, in_0, in_0⟩
end Go.Proofs.Ytnineggppoipiaa
