/- A new arena. -/
import Derived.Test.YtopcbcdigllenaaFac
namespace Go.Proofs.Ytopcbcdigllenaa
open Go.ChangeShapes Go.WideShapes Go.ChangeAt Go.RowKit

/-- An arena of n words. -/
def newB (n : Nat) : List Blk := if n = 0 then [] else [.free (List.replicate (n - 1) 0)]

def sizeN (words : Int) : Nat := (min (max words 0) 2048).toNat

theorem made_zero (n : Nat) : madeCells (Value.int .u64 0).cells n = (cg elU (List.replicate n 0)).toArray := by
  have e1 : cg elU (List.replicate n 0) = List.replicate n (Value.int .u64 0) := by
    induction n with
    | zero => rfl
    | succ n ih =>
      have : cg elU (List.replicate (n + 1) 0) = elU.f 0 ++ cg elU (List.replicate n 0) := rfl
      rw [this, ih]
      rfl
  rw [e1]
  have e2 : (Value.int .u64 0).cells = #[Value.int .u64 0] := rfl
  rw [e2]
  unfold madeCells
  apply Array.ext
  · simp
  · intro i h1 h2
    simp [Nat.mod_one]

theorem run_new (w : World) (n : Nat) (h : n ≤ 2048) :
    (Instr.makeSlice 38 (.int .i64 (n : Int)) (.int .i64 (n : Int))).run Try.prog w = .ok (.slice (some ⟨w.heap.size, 0, none⟩) n n) (w.alloc (.cells (cg elU (List.replicate n 0)).toArray 28)) := by
  obtain ⟨i0, hi, hz0, hz1, hz2⟩ := info_parts elU_ok.info
  have hb : i0.bytes = 8 := hz2
  have hs : i0.size = 1 := hz1
  have := _root_.Go.run_make w 38 28 i0 (.int .u64 0) elU_ok.und hi hz0 .i64 .i64 (n : Int) (n : Int) (by omega) (by omega) (by rw [hb]; omega) (by omega)
  rw [hs] at this
  simp only [Int.toNat_natCast, Nat.mul_one] at this
  rw [this]
  rw [made_zero]

theorem new_row (w : World) (n : Nat) (h : n ≤ 2048) : HW ((w.alloc (.cells (cg elU (List.replicate n 0)).toArray 28)).alloc (.cells #[.slice (some ⟨w.heap.size, 0, none⟩) n n] 75)) (w.heap.size + 1) w.heap.size (List.replicate n 0) := by
  have e : (w.alloc (.cells (cg elU (List.replicate n 0)).toArray 28)).heap.size = w.heap.size + 1 := by show (w.heap.push _).size = _; simp
  refine ⟨?_, ?_, by simpa using h⟩
  · rw [← e, heap_alloc_new]
    simp
  · rw [Below.heap_alloc _ _ _ (by rw [e]; omega)]
    exact heap_alloc_new w _

theorem new_flat (n : Nat) (h : 0 < n) : (List.replicate n 0).set 0 (2 * n) = flat (newB n) := by
  obtain ⟨m, rfl⟩ : ∃ m, n = m + 1 := ⟨n - 1, by omega⟩
  simp [newB, flat, Blk.words, List.replicate_succ]

/-- A new arena, whatever was asked for. -/
def NewAt (w : World) (n : Nat) (e : Ending) (w' : World) : Prop := e = .returned (.pointer (some ⟨w.heap.size + 1, 0, none⟩)) ∧ HP w' (w.heap.size + 1) w.heap.size (newB n) ∧ Fr no w w'

set_option maxRecDepth 100000 in
theorem new_zero (w : World) (words : Int) (h : words ≤ 0) : Calls Try.prog 9 #[.int .i64 words] w (NewAt w 0) := by
  have R := run_new w 0 (by omega)
  have HR : Hid (HW ((w.alloc (.cells (cg elU (List.replicate 0 0)).toArray 28)).alloc (.cells #[.slice (some ⟨w.heap.size, 0, none⟩) 0 0] 75)) (w.heap.size + 1) w.heap.size (List.replicate 0 0)) := new_row w 0 (by omega)
  have HF : Hid (Fr no w ((w.alloc (.cells (cg elU (List.replicate 0 0)).toArray 28)).alloc (.cells #[.slice (some ⟨w.heap.size, 0, none⟩) 0 0] 75))) := ((Fr.refl no w).alloc _ _).alloc _ _
  simp only [Int.natCast_zero, List.replicate_zero] at R HR HF
  have hs : (w.alloc (.cells (cg elU []).toArray 28)).heap.size = w.heap.size + 1 := by show (w.heap.push _).size = _; simp
  have hc : ((w.alloc (.cells (cg elU []).toArray 28)).alloc (.cells #[.slice (some ⟨w.heap.size, 0, none⟩) 0 0] 75)).cell? ⟨w.heap.size + 1, 0, none⟩ = some (.slice (some ⟨w.heap.size, 0, none⟩) 0 0) := HR.out.cell
  have FIN : Hid (∀ w', HW w' (w.heap.size + 1) w.heap.size [] → Fr no w w' → NewAt w 0 (.returned (.pointer (some ⟨w.heap.size + 1, 0, none⟩))) w') := fun w' a b => ⟨rfl, a, b⟩
  generalize NewAt w 0 = R0 at *
  generalize hW1 : w.alloc (.cells (cg elU []).toArray 28) = W1 at *
  generalize hW2 : W1.alloc (.cells #[.slice (some ⟨w.heap.size, 0, none⟩) 0 0] 75) = W2 at *
  by_cases h0 : words = 0
  · subst h0
    go_enter Try.func9, Try.ntmps9
    go_wp2_with fail
    exact FIN.out _ HR.out HF.out
  · have hlt : words < 0 := by omega
    go_enter Try.func9, Try.ntmps9
    go_wp2_with fail
    exact FIN.out _ HR.out HF.out

set_option maxRecDepth 100000 in
theorem new_some (w : World) (words : Int) (n : Nat) (h0 : 0 < n) (hn : n ≤ 2048) (h : words = (n : Int) ∨ n = 2048 ∧ 2048 < words) : Calls Try.prog 9 #[.int .i64 words] w (NewAt w n) := by
  have R := run_new w n hn
  have HR : Hid (HW ((w.alloc (.cells (cg elU (List.replicate n 0)).toArray 28)).alloc (.cells #[.slice (some ⟨w.heap.size, 0, none⟩) n n] 75)) (w.heap.size + 1) w.heap.size (List.replicate n 0)) := new_row w n hn
  have HF : Hid (Fr no w ((w.alloc (.cells (cg elU (List.replicate n 0)).toArray 28)).alloc (.cells #[.slice (some ⟨w.heap.size, 0, none⟩) n n] 75))) := ((Fr.refl no w).alloc _ _).alloc _ _
  have hs : (w.alloc (.cells (cg elU (List.replicate n 0)).toArray 28)).heap.size = w.heap.size + 1 := by show (w.heap.push _).size = _; simp
  have hc : ((w.alloc (.cells (cg elU (List.replicate n 0)).toArray 28)).alloc (.cells #[.slice (some ⟨w.heap.size, 0, none⟩) n n] 75)).cell? ⟨w.heap.size + 1, 0, none⟩ = some (.slice (some ⟨w.heap.size, 0, none⟩) n n) := by
    have := HR.out.cell
    rwa [List.length_replicate] at this
  have LY := lay_any _ _ _ _ HR.out 0 n 0 (by simpa using h0) (by omega) (by omega)
  have FIN : Hid (∀ w2 w', HW w' (w.heap.size + 1) w.heap.size ((List.replicate n 0).set 0 (2 * n + 0)) → Fr no w w2 → Fr (fun k => k = w.heap.size) w2 w' → NewAt w n (.returned (.pointer (some ⟨w.heap.size + 1, 0, none⟩))) w') := fun w2 w' a b c => by
    have a' : HP w' (w.heap.size + 1) w.heap.size (newB n) := by
      unfold HP
      rw [← new_flat n h0]
      exact a
    exact ⟨rfl, a', b.new c (fun i hi e => by omega)⟩
  generalize NewAt w n = R0 at *
  generalize hW1 : w.alloc (.cells (cg elU (List.replicate n 0)).toArray 28) = W1 at *
  generalize hW2 : W1.alloc (.cells #[.slice (some ⟨w.heap.size, 0, none⟩) n n] 75) = W2 at *
  simp only [Int.natCast_zero, Int.zero_add] at LY
  have hp : (0 : Int) < (n : Int) := by omega
  rcases h with rfl | ⟨rfl, hlt⟩
  · go_enter Try.func9, Try.ntmps9
    have hm : ¬ ((n : Int) < 0) := by omega
    have hm2 : ¬ ((2048 : Int) < (n : Int)) := by omega
    go_wp2_with fail
    refine LY.mono ?_
    rintro e w3 ⟨rfl, h3, f3⟩
    have H3 : Hid (_ ∧ _) := ⟨h3, f3⟩
    clear h3 f3
    go_wp2_with fail
    exact FIN.out _ _ H3.out.1 HF.out H3.out.2
  · have e48 : ((2048 : Nat) : Int) = 2048 := rfl
    rw [e48] at R LY
    go_enter Try.func9, Try.ntmps9
    have hm : ¬ (words < 0) := by omega
    go_wp2_with fail
    refine LY.mono ?_
    rintro e w3 ⟨rfl, h3, f3⟩
    have H3 : Hid (_ ∧ _) := ⟨h3, f3⟩
    clear h3 f3
    go_wp2_with fail
    exact FIN.out _ _ H3.out.1 HF.out H3.out.2

theorem new_any (w : World) (words : Int) : Calls Try.prog 9 #[.int .i64 words] w (NewAt w (sizeN words)) := by
  unfold sizeN
  by_cases h0 : words ≤ 0
  · rw [show (min (max words 0) 2048).toNat = 0 by omega]
    exact new_zero w words h0
  · by_cases h1 : words ≤ 2048
    · exact new_some w words _ (by omega) (by omega) (.inl (by omega))
    · exact new_some w words _ (by omega) (by omega) (.inr ⟨by omega, by omega⟩)
end Go.Proofs.Ytopcbcdigllenaa
