/- What a reader's Cplx answers. -/
import Derived.Test.YthncdbobjeeeaaaGreatDoorDocCplx
import Derived.BigQuiet
import Derived.Deep.QuietTactic
import Derived.Deep.RegionWith
namespace Go.Proofs.YthncdbobjeeeaaaGreatDoor
open Go.ChangeShapes Go.WideShapes Go.ChangeAt Go.RowKit

theorem Fr.drewN {S : Nat → Prop} {a w : World} (h : Fr S a w) (n : Nat) : Fr S a (w.drewN n) := ⟨h.os, h.output, h.size, h.block, h.frozen⟩

theorem run_from8 (w : World) (b off n cap : Nat) (h : 8 ≤ n) (hc : ¬ cap = 8) : (Instr.slice 22 (.slice (some ⟨b, off, none⟩) n cap) (some (.int .i64 8)) none none).run Tryz.prog w = .ok (.slice (some ⟨b, off + 8, none⟩) (n - 8) (cap - 8)) w := by
  obtain ⟨i0, hi, hz0, hz1, hz2⟩ := info_parts Tryz.info5
  have hu : Tryz.prog.underlying 22 = some (.slice (Tryz.prog.elem 22)) := by kernel_rfl
  have he : Tryz.prog.elem 22 = 5 := by kernel_rfl
  rw [run_slice_l (P := Tryz.prog) w 22 (some ⟨b, off, none⟩) n cap hu .i64 8 (by omega) (by omega), he]
  simp [sizeOf, typeInfo, hi, hz1, sliced, hc, Addr.add]

theorem run_from8' (w : World) (b off n cap : Nat) (h : 8 ≤ n) (hc : ¬ cap = 8) : (Instr.sliceAt 22 (.slice (some ⟨b, off, none⟩) n cap) (some (.int .i64 8)) none none).run Tryz.prog w = .ok (.slice (some ⟨b, off + 8, none⟩) (n - 8) (cap - 8)) w := by
  rw [run_sliceAt_slice (P := Tryz.prog) w 22 _ _ _ _ (by kernel_rfl)]
  exact run_from8 w b off n cap h hc

theorem Rs.kept {t : TypeId} {w w' : World} {p : Nat} {l : List Nat} (h : Rs t w p l) (hf : Fr no w w') : Rs t w' p l := by
  obtain ⟨b, off, cap, h1, h2, h3, h4⟩ := h
  exact ⟨b, off, cap, hf.heap h1 (fun f => f), h2, h3, fun i c hi => hf.cell (h4 i c hi) (fun f => f)⟩

set_option maxRecDepth 100000 in
set_option maxHeartbeats 2000000 in
theorem readCplx_any (w : World) (p : Nat) (l : List Nat) (h : Rd 176 w p l) (hl : ∀ c ∈ l, c < 256) (hb : l.length ≤ 1099511627776) :
    Calls Tryz.prog 129 #[.pointer (some ⟨p, 0, none⟩)] w fun e w' => e = .returned (.tuple #[.complex .f64 (cxd l).1 (cxd l).2.1, .int .i64 ((cxd l).2.2.1 : Int)]) ∧ Rd 176 w' p (l.drop (cxd l).2.2.2) ∧ Fr (fun q => q = p) w w' := by
  by_cases h16 : l.length < 16
  · have e : Hid (cxd l = (0, 0, 30, 0)) := by show _ = _; unfold cxd; rw [if_pos h16]
    go_enter Tryz.func129, Tryz.ntmps129
    go_wp2_with fail
    refine (left_any w p l h).mono ?_
    rintro e w1 ⟨rfl, rfl⟩
    go_wp2_with fail
    go_ret2
    rw [e.out]
    exact ⟨rfl, h, Fr.refl _ _⟩
  · have e : Hid (cxd l = (va l 8, va (l.drop 8) 8, 0, 16)) := by show _ = _; unfold cxd; rw [if_neg h16]
    have hR := h.rs (by intro h'; rw [h'] at h16; simp at h16)
    have hRR := hR
    obtain ⟨b, off, cap, h1, h2, h3, h4⟩ := hR
    have hc := cell_of_one h1
    unfold maxLen at h3
    have F1 : ∀ n : Nat, Calls Tryz.prog 156 #[.slice (some ⟨b, off, none⟩) l.length cap] (w.drewN n) fun e w' => e = .returned (.float .f64 (va l 8)) ∧ w' = w.drewN n := fun n =>
      firstPart_any (w.drewN n) b off l.length cap l hl (by omega) rfl h2 h3 (fun i c hi => ((Fr.refl no w).drewN n).cell (h4 i c hi) (fun f => f))
    have F2 : ∀ n : Nat, Calls Tryz.prog 156 #[.slice (some ⟨b, off + 8, none⟩) (l.length - 8) (cap - 8)] (w.drewN n) fun e w' => e = .returned (.float .f64 (va (l.drop 8) 8)) ∧ w' = w.drewN n := fun n =>
      firstPart_any (w.drewN n) b (off + 8) (l.length - 8) (cap - 8) (l.drop 8) (fun c hc => hl c (List.mem_of_mem_drop hc)) (by rw [List.length_drop]; omega) (by rw [List.length_drop]) (by omega) (by omega) (fun i c hi => by
        rw [List.getElem?_drop] at hi
        have := ((Fr.refl no w).drewN n).cell (h4 _ c hi) (fun f => f)
        rw [Nat.add_assoc]
        exact this)
    have hne8 : ¬ cap = 8 := by omega
    have h16' : ¬ (l.length : Int) < 16 := by omega
    have h8c : 8 ≤ cap := by omega
    have hs8 := fun w' => run_from8 w' b off l.length cap (by omega) hne8
    have hs8' := fun w' => run_from8' w' b off l.length cap (by omega) hne8
    obtain ⟨v8, hv8⟩ : ∃ v8, Value.slice (some ⟨b, off + 8, none⟩) (l.length - 8) (cap - 8) = v8 := ⟨_, rfl⟩
    simp only [hv8] at F2 hs8 hs8'
    clear hv8
    clear h1 h4
    generalize va l 8 = x at *
    generalize va (l.drop 8) 8 = y at *
    go_enter Tryz.func129, Tryz.ntmps129
    go_wp2_with fail
    refine (left_any w p l h).mono ?_
    rintro e w1 ⟨rfl, rfl⟩
    go_wp2_with fail
    go_quiet (first | (go_at_call_of 156 v8; refine Calls.quiet_of_same (F2 _)) | (go_at_call 156; refine Calls.quiet_of_same (F1 _)))
    go_wp2_with fail
    have FN := fun n => (Fr.refl no w1).drewN n
    refine (skip_any _ p 16 l (hRR.kept (FN _)) (by omega)).mono ?_
    rintro e w2 ⟨rfl, r1, r2⟩
    have r3 := (FN _).trans r2 (U := fun q => q = p) (fun _ _ f => f.elim) (fun _ _ e => e)
    clear FN F1 F2
    go_wp2_with fail
    go_ret2
    rw [e.out]
    exact ⟨rfl, r1.rd, r3⟩
end Go.Proofs.YthncdbobjeeeaaaGreatDoor
