/- What strconv.Itoa answers at 0 to 999: the number's digits; new memory alone is made. -/
import Derived.Test.YtdafghfhhkhjcaaDoorFace
import Derived.Test.YtdafghfhhkhjcaaDoorShelf
import Derived.Lib.Walk
import Derived.Lib.ItoaMem
import Derived.BigCall
import Derived.BigGuard
namespace Go.Proofs.YtdafghfhhkhjcaaDoor
open Go.ChangeShapes Go.WideShapes Go.ChangeAt Go.RowKit Go.Sort

/-- The powers of ten lie where the program's start lays them. -/
def Pow (w : World) : Prop := Lib.TabIs Tryd.prog w "internal/strconv.uint64pow10" .u64 Lib.pow10Tab

theorem Pow.kept {w w' : World} (h : Pow w) (hf : Fr no w w') : Pow w' := by
  unfold Pow Lib.TabIs World.var? at *
  have hg : Tryd.prog.globalNamed "internal/strconv.uint64pow10" = some 3 := by kernel_rfl
  simp only [hg, Option.bind_some] at h ⊢
  have hlt : 3 < w.heap.size := by
    rcases Nat.lt_or_ge 3 w.heap.size with h' | h'
    · exact h'
    · rw [Array.getElem?_eq_none h'] at h; simp at h
  rw [hf.block 3 hlt (fun f => f)]
  exact h

theorem Fr.putRow {S : Nat → Prop} {a w : World} (h : Fr S a w) {α : Type} [Inhabited α] (enc : α → Value) (b off : Nat) (d : Array α) (hb : b < a.heap.size → S b) : Fr S a (putRow enc w b off d) := by
  refine ⟨h.os, h.output, ?_, fun k hk hs => ?_, fun x => (frozen?_putRow enc w b off d x).trans (h.frozen x)⟩
  · show a.heap.size ≤ (w.heap.modify b _).size
    simpa using h.size
  · show (w.heap.modify b _)[k]? = _
    have hne : ¬ b = k := by
      intro e
      subst e
      exact hs (hb hk)
    rw [Array.getElem?_modify, if_neg hne]
    exact h.block k hk hs

theorem Fr.drewN {S : Nat → Prop} {a w : World} (h : Fr S a w) (n : Nat) : Fr S a (w.drewN n) := ⟨h.os, h.output, h.size, h.block, h.frozen⟩

set_option maxHeartbeats 4000000 in
set_option maxRecDepth 100000 in
theorem format_any (w : World) (u : Nat) (h1 : 100 ≤ u) (h2 : u ≤ 999) (htab : Pow w) :
    Calls Tryd.prog 48 #[.int .i64 (u : Int), .int .i64 10] w fun e w' => e = .returned (.string ⟨(Lib.decDigits u).toArray⟩) ∧ Fr no w w' := by
  have hnd : Lib.nDigits u = 3 := by
    rw [Lib.nDigits, dif_neg (by omega), Lib.nDigits, dif_neg (by omega), Lib.nDigits_small (by omega)]
  have hdl : (Lib.decDigits u).length = 3 := by rw [Lib.decDigits_length, hnd]
  have hal : Tryd.prog.arrayLen 87 = 24 := by kernel_rfl
  have hsl1 : ∀ W, (Instr.sliceAt 87 (.pointer (some ⟨w.heap.size, 0, none⟩)) (some (.int .i64 1)) (some (.int .i64 4)) none).run Tryd.prog W = .ok (.slice (some ⟨w.heap.size, 1, none⟩) 3 23) W := fun W => by
    rw [run_sliceAt_array_lh W 87 ⟨w.heap.size, 0, none⟩ (by kernel_rfl) .i64 .i64 1 4 (by omega) (by omega) (by rw [hal]; omega)]
    go_simp
  have hH0 := Lib.holds_zero w 87 3 (by omega)
  have hfmt := Tryd.internal_strconv_formatBase10 w.heap.size 1 23 u (Array.replicate 3 0) (w.alloc (.cells Lib.zeros24 87)) hH0 (by rw [Array.size_replicate]; omega) (by omega) (by rw [Array.size_replicate]; omega)
  rw [Array.size_replicate] at hfmt
  have hnum := Tryd.internal_strconv_numDigits u (by omega) (by omega) (w.alloc (.cells Lib.zeros24 87)) (Lib.tabIs_alloc htab _)
  rw [hnd] at hnum
  have HH0 := Lib.hid hH0
  have HDL := Lib.hid hdl
  have HND := Lib.hid hnd
  clear hH0 hal hdl hnd
  go_enter Tryd.func48, Tryd.ntmps48
  go_wp2_with fail
  refine hnum.mono ?_
  rintro e w' ⟨rfl, rfl⟩
  go_wp2_with fail
  refine hfmt.mono ?_
  rintro e w' ⟨rfl, k, v', dk, rfl, hF⟩
  have hF' : Lib.FmtInv (Lib.nDigits u) u 0 v' dk := by rw [HND.out]; exact hF
  have hcv : (convert 30 9 (.slice (some ⟨w.heap.size, 1, none⟩) 3 23)).run Tryd.prog ((putRow (fun (b : UInt8) => Value.int .u8 (b.toNat : Int)) (w.alloc (.cells Lib.zeros24 87)) w.heap.size 1 dk).drewN k) = .ok (.string ⟨(Lib.decDigits u).toArray⟩) ((putRow (fun (b : UInt8) => Value.int .u8 (b.toNat : Int)) (w.alloc (.cells Lib.zeros24 87)) w.heap.size 1 dk).drewN k) := by
    have h := run_convert_bytes_back (P := Tryd.prog) ((putRow (fun (b : UInt8) => Value.int .u8 (b.toNat : Int)) (w.alloc (.cells Lib.zeros24 87)) w.heap.size 1 dk).drewN k) 30 9 5 ⟨w.heap.size, 1, none⟩ 23 (Lib.decDigits u) Tryd.underlying30 Tryd.underlying5 Tryd.underlying9 (fun j hj => by
      rw [Lib.row_is_numeral hF' j hj, Lib.add_plain, World.cell?_drewN]
      exact cell?_putRow (fun (b : UInt8) => Value.int .u8 (b.toNat : Int)) _ w.heap.size 1 _ dk HH0.out (by rw [hF.size, Array.size_replicate]) j (by rw [hF.size]; rw [HDL.out] at hj; exact hj))
    rw [HDL.out] at h
    exact h
  clear hF hF'
  go_wp2_with fail
  go_ret
  exact ⟨rfl, (((Fr.refl no w).alloc _ _).putRow _ _ _ _ (fun h => absurd h (Nat.lt_irrefl _))).drewN k⟩

theorem itoa_any (w : World) (u : Nat) (h2 : u ≤ 999) (htab : Pow w) :
    Calls Tryd.prog 28 #[.int .i64 (u : Int)] w fun e w' => e = .returned (.string ⟨(Lib.decDigits u).toArray⟩) ∧ Fr no w w' := by
  by_cases h : u < 100
  · refine (Tryd.strconv_Itoa_small u h w).mono ?_
    rintro e w' ⟨rfl, rfl⟩
    exact ⟨rfl, Fr.refl _ _⟩
  · have F := format_any w u (by omega) h2 htab
    have F43 : Calls Tryd.prog 43 #[.int .i64 (u : Int)] w fun e w' => e = .returned (.string ⟨(Lib.decDigits u).toArray⟩) ∧ Fr no w w' := by
      go_enter Tryd.func43, Tryd.ntmps43
      go_wp2_with fail
      refine F.mono ?_
      rintro e w' ⟨rfl, hf⟩
      go_wp2_with fail
      go_ret
      exact ⟨rfl, hf⟩
    go_enter Tryd.func28, Tryd.ntmps28
    go_wp2_with fail
    refine F43.mono ?_
    rintro e w' ⟨rfl, hf⟩
    go_wp2_with fail
    go_ret
    exact ⟨rfl, hf⟩
end Go.Proofs.YtdafghfhhkhjcaaDoor
