/- What the document's own reader answers: Cplx. -/
import Derived.Test.YthncdbobjeeeaaaGreatDoorGd
import Derived.BigRegion
import Derived.BigQuiet
import Derived.Deep.QuietTactic
import Derived.Deep.RegionWith
namespace Go.Proofs.YthncdbobjeeeaaaGreatDoor
open Go.ChangeShapes Go.WideShapes Go.ChangeAt Go.RowKit

/-- What Cplx answers: two parts, an error, how many bytes. -/
def cxd (l : List Nat) : Nat × Nat × Nat × Nat := if l.length < 16 then (0, 0, 30, 0) else (va l 8, va (l.drop 8) 8, 0, 16)

theorem two_setD {w : World} {a : Nat} {x y u : Value} (h : w.heap[a]? = some (.cells #[x, y] 195 (0, 0))) :
    (w.setCell ⟨a, 0, none⟩ u).drew.heap[a]? = some (.cells #[u, y] 195 (0, 0)) ∧ (w.setCell ⟨a, 1, none⟩ u).drew.heap[a]? = some (.cells #[x, u] 195 (0, 0)) := by
  constructor
  · show (w.setCell ⟨a, 0, none⟩ u).heap[a]? = _
    simp only [World.setCell, Array.getElem?_modify]
    rw [if_pos trivial, h]
    simp
  · show (w.setCell ⟨a, 1, none⟩ u).heap[a]? = _
    simp only [World.setCell, Array.getElem?_modify]
    rw [if_pos trivial, h]
    simp

set_option maxRecDepth 100000 in
set_option maxHeartbeats 2000000 in
theorem docCplx_any (w : World) (p : Nat) (l : List Nat) (h : Rd 78 w p l) (hl : ∀ c ∈ l, c < 256) (hb : l.length ≤ 1099511627776) :
    Calls Tryz.prog 78 #[.pointer (some ⟨p, 0, none⟩)] w fun e w' => e = .returned (.tuple #[.complex .f64 (cxd l).1 (cxd l).2.1, .int .i64 ((cxd l).2.2.1 : Int)]) ∧ Rd 78 w' p (l.drop (cxd l).2.2.2) ∧ Fr (fun q => q = p) w w' := by
  by_cases h16 : l.length < 16
  · have e : Hid (cxd l = (0, 0, 30, 0)) := by show _ = _; unfold cxd; rw [if_pos h16]
    have hR := h
    obtain ⟨v, h1, h2⟩ := h
    obtain ⟨o, cap, rfl, _⟩ := h2.shape
    have hc := cell_of_one h1
    clear h1 h2
    go_enter Tryz.func78, Tryz.ntmps78
    go_wp2_with fail
    go_ret2
    rw [e.out]
    exact ⟨rfl, hR, Fr.refl _ _⟩
  · have e : Hid (cxd l = (va l 8, va (l.drop 8) 8, 0, 16)) := by show _ = _; unfold cxd; rw [if_neg h16]
    have hR := h.rs (by intro h'; rw [h'] at h16; simp at h16)
    obtain ⟨b, off, cap, h1, h2, h3, h4⟩ := hR
    have hc := cell_of_one h1
    have hmx := h3
    unfold maxLen at h3
    have h16' : ¬ (l.length : Int) < 16 := by omega
    have hpl := lt_of_heap h1
    have H1 : Hid (w.heap[p]? = some (.cells #[.slice (some ⟨b, off, none⟩) l.length cap] 78 (0, 0))) := h1
    have H4 : Hid (∀ (i c : Nat), l[i]? = some c → w.cell? ⟨b, off + i, none⟩ = some (.int .u8 (c : Int))) := h4
    have HM : Hid (cap ≤ maxLen) := hmx
    clear h1 h4 hmx
    go_enter Tryz.func78, Tryz.ntmps78
    go_wp2_with fail
    go_loopw [5] (fun i wr => ∃ (j : Nat), i = .int .i64 (j : Int) ∧ j ≤ 16 ∧ Fr no w wr ∧ wr.heap[w.heap.size]? = some (.cells #[.int .u64 (va l (min j 8) : Int), .int .u64 (va (l.drop 8) (j - 8) : Int)] 195 (0, 0))) (fun i _ => 16 - (intOf i).toNat)
    case atStart => exact ⟨0, rfl, by omega, (Fr.refl no w).alloc _ _, heap_alloc_new w _⟩
    case round =>
      obtain ⟨j, rfl, hj, hfr, hn⟩ := hrel
      have hc' : wr.cell? ⟨p, 0, none⟩ = some (.slice (some ⟨b, off, none⟩) l.length cap) := hfr.cell hc (fun f => f)
      have hz' := free_of_one (hfr.heap H1.out (fun f => f))
      have HN : Hid (wr.heap[w.heap.size]? = some (.cells #[.int .u64 (va l (min j 8) : Int), .int .u64 (va (l.drop 8) (j - 8) : Int)] 195 (0, 0))) := hn
      by_cases hlt : j < 16
      · obtain ⟨c, hcc⟩ : ∃ c, l[j]? = some c := ⟨_, List.getElem?_eq_getElem (by omega)⟩
        have hx : wr.cell? ⟨b, off + j, none⟩ = some (.int .u8 (c : Int)) := hfr.cell (H4.out j c hcc) (fun f => f)
        have hc256 : c < 256 := hl c (List.mem_of_getElem? hcc)
        by_cases hlt8 : j < 8
        · have c0 : wr.cell? ⟨w.heap.size, 0, none⟩ = some (.int .u64 (va l j : Int)) := by simp [World.cell?, hn, show min j 8 = j by omega]
          have f0 : wr.frozen? ⟨w.heap.size, 0, none⟩ = false := by simp [World.frozen?, hn]
          have d1 : (j : Int) / 8 = 0 := by omega
          have d2 : (j : Int) % 8 = j := by omega
          have ho := va_or l hl j c hlt8 hcc
          clear hn hcc hc
          go_wp2_with fail
          go_region
          go_wp2_with fail
          go_roundw
          case rel =>
            have T := (two_setD (u := .int .u64 (va l (j + 1) : Int)) HN.out).1
            rw [show j - 8 = 0 by omega] at T
            refine ⟨j + 1, by go_num, by omega, (hfr.setCell (p := ⟨w.heap.size, 0, none⟩) (fun h => absurd h (Nat.lt_irrefl _)) _).drew, ?_⟩
            rw [show min (j + 1) 8 = j + 1 by omega, show j + 1 - 8 = 0 by omega]
            exact T
          case measure => simp [intOf]; omega
        · obtain ⟨k, rfl⟩ : ∃ k, j = k + 8 := ⟨j - 8, by omega⟩
          have c0 : wr.cell? ⟨w.heap.size, 1, none⟩ = some (.int .u64 (va (l.drop 8) k : Int)) := by simp [World.cell?, hn]
          have f0 : wr.frozen? ⟨w.heap.size, 1, none⟩ = false := by simp [World.frozen?, hn]
          have d1 : ((k : Int) + 8) / 8 = 1 := by omega
          have d2 : ((k : Int) + 8) % 8 = k := by omega
          have ho := va_or (l.drop 8) (fun c hc => hl c (List.mem_of_mem_drop hc)) k c (by omega) (by rw [List.getElem?_drop, Nat.add_comm]; exact hcc)
          clear hn hcc hc
          go_wp2_with fail
          go_region
          go_wp2_with fail
          go_roundw
          case rel =>
            have T := (two_setD (u := .int .u64 (va (l.drop 8) (k + 1) : Int)) HN.out).2
            rw [show min (k + 8) 8 = 8 by omega] at T
            refine ⟨k + 8 + 1, by go_num, by omega, (hfr.setCell (p := ⟨w.heap.size, 1, none⟩) (fun h => absurd h (Nat.lt_irrefl _)) _).drew, ?_⟩
            rw [show min (k + 8 + 1) 8 = 8 by omega, show k + 8 + 1 - 8 = k + 1 by omega]
            exact T
          case measure => simp [intOf]; omega
      · have hj16 : j = 16 := by omega
        subst hj16
        rw [show min 16 8 = 8 by rfl, show 16 - 8 = 8 by rfl] at hn
        have hp' := hfr.heap H1.out (fun f => f)
        have M : ∀ off', (cap ≠ 16 → off' = off + 16) → _ := fun off' ho => Rs.moved (k := 16) (off' := off') hp' h2 HM.out (fun i c hi => hfr.cell (H4.out i c hi) (fun f => f)) (by omega) ho
        have gp : ∀ v : Value, (wr.setCell ⟨p, 0, none⟩ v).heap[w.heap.size]? = some (.cells #[.int .u64 (va l 8 : Int), .int .u64 (va (l.drop 8) 8 : Int)] 195 (0, 0)) := fun v => by
          rw [Below.heap_setCell wr ⟨p, 0, none⟩ v w.heap.size (by simp; omega)]
          exact hn
        have k0 : ∀ v : Value, (wr.setCell ⟨p, 0, none⟩ v).cell? ⟨w.heap.size, 0, none⟩ = some (.int .u64 (va l 8 : Int)) := fun v => by simp [World.cell?, gp]
        have k1 : ∀ v : Value, (wr.setCell ⟨p, 0, none⟩ v).cell? ⟨w.heap.size, 1, none⟩ = some (.int .u64 (va (l.drop 8) 8 : Int)) := fun v => by simp [World.cell?, gp]
        have hne : ¬ w.heap.size = p := by omega
        have h0a := hn
        clear hn hp' gp
        by_cases hck : cap = 16
        · have M1 := M off (fun h => absurd hck h)
          rw [show cap - 16 = 0 by omega, show l.length - 16 = 0 by omega] at M1
          have K0 := k0 (.slice (some ⟨b, off, none⟩) 0 0)
          have K1 := k1 (.slice (some ⟨b, off, none⟩) 0 0)
          have hl16 : l.length = 16 := by omega
          clear M k0 k1
          go_wp2_with fail
          refine (of_any _ _ _).mono ?_
          rintro e w2 ⟨rfl, rfl⟩
          go_wp2_with fail
          go_ret2
          rw [e.out]
          exact ⟨rfl, M1.1.rd, hfr.trans M1.2 (fun _ _ f => f.elim) (fun _ _ e => e)⟩
        · have M1 := M (off + 16) (fun _ => rfl)
          have K0 := k0 (.slice (some ⟨b, off + 16, none⟩) (l.length - 16) (cap - 16))
          have K1 := k1 (.slice (some ⟨b, off + 16, none⟩) (l.length - 16) (cap - 16))
          clear M k0 k1
          go_wp2_with fail
          refine (of_any _ _ _).mono ?_
          rintro e w2 ⟨rfl, rfl⟩
          go_wp2_with fail
          go_ret2
          rw [e.out]
          exact ⟨rfl, M1.1.rd, hfr.trans M1.2 (fun _ _ f => f.elim) (fun _ _ e => e)⟩
end Go.Proofs.YthncdbobjeeeaaaGreatDoor

/- What a reader's Cplx answers. -/
namespace Go.Proofs.YthncdbobjeeeaaaGreatDoor
open Go.ChangeShapes Go.WideShapes Go.ChangeAt Go.RowKit

theorem Fr.drewN {S : Nat → Prop} {a w : World} (h : Fr S a w) (n : Nat) : Fr S a (w.drewN n) := ⟨h.os, h.output, h.size, h.block, h.frozen⟩

theorem run_from8 (w : World) (b off n cap : Nat) (h : 8 ≤ n) (hc : ¬ cap = 8) : (Instr.slice 22 (.slice (some ⟨b, off, none⟩) n cap) (some (.int .i64 8)) none none).run Tryz.prog w = .ok (.slice (some ⟨b, off + 8, none⟩) (n - 8) (cap - 8)) w := by
  obtain ⟨i0, hi, hz0, hz1, hz2⟩ := info_parts Tryz.info5
  have hu : Tryz.prog.underlying 22 = some (.slice (Tryz.prog.elem 22)) := by kernel_rfl
  have he : Tryz.prog.elem 22 = 5 := by kernel_rfl
  rw [run_slice_l (P := Tryz.prog) w 22 (some ⟨b, off, none⟩) n cap hu .i64 8 (by omega) (by omega), he]
  simp [sizeOf, typeInfo, hi, hz1, sliced, hc, Addr.add]

theorem run_from8' (w : World) (b off n cap : Nat) (h : 8 ≤ n) (hc : ¬ cap = 8) : (Instr.sliceAt 22 (.slice (some ⟨b, off, none⟩) n cap) (some (.int .i64 8)) none none).run Tryz.prog w = .ok (.slice (some ⟨b, off + 8, none⟩) (n - 8) (cap - 8)) w := by
  rw [run_sliceAt_slice (P := Tryz.prog) w 22 _ _ _ _ (by kernel_rfl)]
  exact run_from8 w b off n cap h hc

theorem Rs.kept {t : TypeId} {w w' : World} {p : Nat} {l : List Nat} (h : Rs t w p l) (hf : Fr no w w') : Rs t w' p l := by
  obtain ⟨b, off, cap, h1, h2, h3, h4⟩ := h
  exact ⟨b, off, cap, hf.heap h1 (fun f => f), h2, h3, fun i c hi => hf.cell (h4 i c hi) (fun f => f)⟩

set_option maxRecDepth 100000 in
set_option maxHeartbeats 2000000 in
theorem readCplx_any (w : World) (p : Nat) (l : List Nat) (h : Rd 176 w p l) (hl : ∀ c ∈ l, c < 256) (hb : l.length ≤ 1099511627776) :
    Calls Tryz.prog 129 #[.pointer (some ⟨p, 0, none⟩)] w fun e w' => e = .returned (.tuple #[.complex .f64 (cxd l).1 (cxd l).2.1, .int .i64 ((cxd l).2.2.1 : Int)]) ∧ Rd 176 w' p (l.drop (cxd l).2.2.2) ∧ Fr (fun q => q = p) w w' := by
  by_cases h16 : l.length < 16
  · have e : Hid (cxd l = (0, 0, 30, 0)) := by show _ = _; unfold cxd; rw [if_pos h16]
    go_enter Tryz.func129, Tryz.ntmps129
    go_wp2_with fail
    refine (left_any w p l h).mono ?_
    rintro e w1 ⟨rfl, rfl⟩
    go_wp2_with fail
    go_ret2
    rw [e.out]
    exact ⟨rfl, h, Fr.refl _ _⟩
  · have e : Hid (cxd l = (va l 8, va (l.drop 8) 8, 0, 16)) := by show _ = _; unfold cxd; rw [if_neg h16]
    have hR := h.rs (by intro h'; rw [h'] at h16; simp at h16)
    have hRR := hR
    obtain ⟨b, off, cap, h1, h2, h3, h4⟩ := hR
    have hc := cell_of_one h1
    unfold maxLen at h3
    have F1 : ∀ n : Nat, Calls Tryz.prog 156 #[.slice (some ⟨b, off, none⟩) l.length cap] (w.drewN n) fun e w' => e = .returned (.float .f64 (va l 8)) ∧ w' = w.drewN n := fun n =>
      firstPart_any (w.drewN n) b off l.length cap l hl (by omega) rfl h2 h3 (fun i c hi => ((Fr.refl no w).drewN n).cell (h4 i c hi) (fun f => f))
    have F2 : ∀ n : Nat, Calls Tryz.prog 156 #[.slice (some ⟨b, off + 8, none⟩) (l.length - 8) (cap - 8)] (w.drewN n) fun e w' => e = .returned (.float .f64 (va (l.drop 8) 8)) ∧ w' = w.drewN n := fun n =>
      firstPart_any (w.drewN n) b (off + 8) (l.length - 8) (cap - 8) (l.drop 8) (fun c hc => hl c (List.mem_of_mem_drop hc)) (by rw [List.length_drop]; omega) (by rw [List.length_drop]) (by omega) (by omega) (fun i c hi => by
        rw [List.getElem?_drop] at hi
        have := ((Fr.refl no w).drewN n).cell (h4 _ c hi) (fun f => f)
        rw [Nat.add_assoc]
        exact this)
    have hne8 : ¬ cap = 8 := by omega
    have h16' : ¬ (l.length : Int) < 16 := by omega
    have h8c : 8 ≤ cap := by omega
    have hs8 := fun w' => run_from8 w' b off l.length cap (by omega) hne8
    have hs8' := fun w' => run_from8' w' b off l.length cap (by omega) hne8
    obtain ⟨v8, hv8⟩ : ∃ v8, Value.slice (some ⟨b, off + 8, none⟩) (l.length - 8) (cap - 8) = v8 := ⟨_, rfl⟩
    simp only [hv8] at F2 hs8 hs8'
    clear hv8
    clear h1 h4
    generalize va l 8 = x at *
    generalize va (l.drop 8) 8 = y at *
    go_enter Tryz.func129, Tryz.ntmps129
    go_wp2_with fail
    refine (left_any w p l h).mono ?_
    rintro e w1 ⟨rfl, rfl⟩
    go_wp2_with fail
    go_quiet (first | (go_at_call_of 156 v8; refine Calls.quiet_of_same (F2 _)) | (go_at_call 156; refine Calls.quiet_of_same (F1 _)))
    go_wp2_with fail
    have FN := fun n => (Fr.refl no w1).drewN n
    refine (skip_any _ p 16 l (hRR.kept (FN _)) (by omega)).mono ?_
    rintro e w2 ⟨rfl, r1, r2⟩
    have r3 := (FN _).trans r2 (U := fun q => q = p) (fun _ _ f => f.elim) (fun _ _ e => e)
    clear FN F1 F2
    go_wp2_with fail
    go_ret2
    rw [e.out]
    exact ⟨rfl, r1.rd, r3⟩
end Go.Proofs.YthncdbobjeeeaaaGreatDoor

