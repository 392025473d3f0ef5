/- What code.Get reads: the document's instructions, or its error. -/
import Derived.Test.YthncdbobjeeeaaaGreatDoorDocPuts
import Derived.Test.YthncdbobjeeeaaaGreatDoorDocReads
namespace Go.Proofs.YthncdbobjeeeaaaGreatDoor
open Go.ChangeShapes Go.WideShapes Go.ChangeAt Go.RowKit

/-- One instruction read: itself, the error, how many bytes. -/
def rone : List Nat → (Int × Int) × Nat × Nat
  | [] => ((0, 0), 30, 0)
  | c :: r => if od (c : Int) = -1 then ((0, 0), 40, 0) else if od (c : Int) = 0 then (((c : Int), 0), 0, 1)
    else if (rd r 0 0).2.1 ≠ 0 then ((0, 0), (rd r 0 0).2.1, 0) else if 999 < (rd r 0 0).1 then ((0, 0), 40, 0) else (((c : Int), ((rd r 0 0).1 : Int)), 0, 1 + (rd r 0 0).2.2)

theorem two_cells {w : World} {r : Nat} {x y : Value} {t : TypeId} (h : w.heap[r]? = some (.cells #[x, y] t (0, 0))) :
    w.cell? ⟨r, 0, none⟩ = some x ∧ w.cell? ⟨r, 1, none⟩ = some y ∧ w.frozen? ⟨r, 0, none⟩ = false ∧ w.frozen? ⟨r, 1, none⟩ = false := by
  refine ⟨?_, ?_, ?_, ?_⟩ <;> simp [World.cell?, World.frozen?, h]

theorem RB.set {w0 w : World} {p r : Nat} {l : List Nat} {x y : Int} {t : TypeId} (h : RB w0 w p l) (hr : w.heap[r]? = some (.cells #[.int .i64 x, .int .i64 y] t (0, 0))) (h0 : w0.heap.size ≤ r) (hp : r ≠ p) (u v : Value) :
    RB w0 ((w.setCell ⟨r, 0, none⟩ u).setCell ⟨r, 1, none⟩ v) p l := by
  have hf : Fr (fun k => k = r) w ((w.setCell ⟨r, 0, none⟩ u).setCell ⟨r, 1, none⟩ v) :=
    ((Fr.refl (fun k => k = r) w).setCell (p := ⟨r, 0, none⟩) (fun _ => rfl) u).setCell (p := ⟨r, 1, none⟩) (fun _ => rfl) v
  refine ⟨h.1.kept hf (fun e => hp e.symm) (fun k c hk e => ?_), h.2.1, h.2.2.new hf (fun i hi e => by omega)⟩
  unfold World.cell? at hk
  rw [e, hr] at hk
  obtain ⟨kb, ko, ke⟩ := k
  match ko, hk with
  | 0, hk => simp at hk
  | 1, hk => simp at hk
  | n + 2, hk => simp at hk

theorem two_set {w : World} {r : Nat} {x y u v : Value} {t : TypeId} (h : w.heap[r]? = some (.cells #[x, y] t (0, 0))) :
    ((w.setCell ⟨r, 0, none⟩ u).setCell ⟨r, 1, none⟩ v).heap[r]? = some (.cells #[u, v] t (0, 0)) := by
  have h1 : (w.setCell ⟨r, 0, none⟩ u).heap[r]? = some (.cells #[u, y] t (0, 0)) := by
    unfold World.setCell
    rw [Array.getElem?_modify, if_pos rfl, h]
    rfl
  unfold World.setCell at h1 ⊢
  rw [Array.getElem?_modify, if_pos rfl, h1]
  rfl

theorem results_ins (w : World) (r : Nat) (x y : Value) (h : w.heap[r]? = some (.cells #[x, y] 57 (0, 0))) (tmps : Array Value) (h2 : tmps.getD 2 undef = .pointer (some ⟨r, 0, none⟩)) :
    (results Tryz.f157 tmps).run Tryz.prog w = .ok (.tuple #[.agg #[x, y], tmps.getD 3 undef]) w := by
  have hl : (loadVar 57 ⟨r, 0, none⟩).run Tryz.prog w = .ok (.agg #[x, y]) w := by
    exact run_loadVar_row (P := Tryz.prog) w r 57 57 #[x, y] (0, 0) _ h Tryz.underlying57 rfl (by kernel_rfl)
  have h2' : tmps[2]?.getD undef = .pointer (some ⟨r, 0, none⟩) := by simpa using h2
  simp [results, asAddr, h2', hl]

set_option maxRecDepth 100000 in
set_option maxHeartbeats 2000000 in
theorem read_any (w0 w : World) (T : Tb w0) (p : Nat) (l : List Nat) (h : RB w0 w p l) (hl : ∀ c ∈ l, c < 256) (hb : l.length ≤ 1099511627776) :
    Calls Tryz.prog 157 #[.pointer (some ⟨p, 0, none⟩)] w fun e w' => e = .returned (.tuple #[ins (rone l).1.1 (rone l).1.2, .int .i64 ((rone l).2.1 : Int)]) ∧
      Fr (fun q => q = p) w w' ∧ ∃ r', RB w0 w' p r' ∧ ((rone l).2.1 = 0 → r' = l.drop (rone l).2.2) := by
  have hp : p < w.heap.size := by obtain ⟨⟨v, h1, _⟩, _, _⟩ := h; exact lt_of_heap h1
  have hW : w0.heap.size ≤ w.heap.size := h.2.2.size
  have ha : (w.alloc (.cells #[.int .i64 0, .int .i64 0] 57)).heap[w.heap.size]? = some (.cells #[.int .i64 0, .int .i64 0] 57 (0, 0)) := heap_alloc_new w _
  have hf : Fr no w (w.alloc (.cells #[.int .i64 0, .int .i64 0] 57)) := (Fr.refl no w).alloc _ _
  have h1 : RB w0 (w.alloc (.cells #[.int .i64 0, .int .i64 0] 57)) p l := ⟨h.1.kept hf (fun f => f) (fun _ _ _ f => f), h.2.1, h.2.2.new hf (fun _ _ f => f)⟩
  have B := readByte_any _ p l h1.1
  have K1 : Hid (∀ w2 r', Rd 176 w2 p r' → Fr (fun q => q = p) (w.alloc (.cells #[.int .i64 0, .int .i64 0] 57)) w2 → w2.heap[w.heap.size]? = some (.cells #[.int .i64 0, .int .i64 0] 57 (0, 0)) ∧ RB w0 w2 p r' ∧ Fr (fun q => q = p) w w2) := by
    intro w2 r' g1 g2
    exact ⟨g2.heap ha (fun e => by omega), h1.step g1 g2, hf.trans g2 (fun _ _ f => f.elim) (fun _ _ e => e)⟩
  have SET : Hid (∀ w2 r' u v, RB w0 w2 p r' → w2.heap[w.heap.size]? = some (.cells #[.int .i64 0, .int .i64 0] 57 (0, 0)) → Fr (fun q => q = p) w w2 →
      RB w0 ((w2.setCell ⟨w.heap.size, 0, none⟩ u).setCell ⟨w.heap.size, 1, none⟩ v) p r' ∧ Fr (fun q => q = p) w ((w2.setCell ⟨w.heap.size, 0, none⟩ u).setCell ⟨w.heap.size, 1, none⟩ v)) :=
    fun w2 r' u v g1 g2 g3 => ⟨g1.set g2 hW (by omega) u v, (g3.setCell (p := ⟨w.heap.size, 0, none⟩) (fun h => absurd h (Nat.lt_irrefl _)) u).setCell (p := ⟨w.heap.size, 1, none⟩) (fun h => absurd h (Nat.lt_irrefl _)) v⟩
  cases l with
  | nil =>
    have HR : Hid (rone [] = ((0, 0), 30, 0)) := rfl
    clear h hf h1 ha
    go_enter Tryz.func157, Tryz.ntmps157
    go_wp2_with fail
    refine B.mono ?_
    rintro e w2 ⟨rfl, g1, g2⟩
    obtain ⟨k1, k2, k3⟩ := K1.out w2 _ g1 g2
    obtain ⟨c0, c1, z0, z1⟩ := two_cells k1
    simp only [by1]
    clear g1 g2
    go_wp2_with fail
    refine bodyPost_ret (results_ins _ w.heap.size _ _ (two_set k1) _ rfl) rfl ?_
    rw [HR.out]
    exact ⟨rfl, (SET.out _ _ _ _ k2 k1 k3).2, _, (SET.out _ _ _ _ k2 k1 k3).1, fun h => by simp at h⟩
  | cons c r =>
    have hc := hl c (by simp)
    have hlr : ∀ d ∈ r, d < 256 := fun d hd => hl d (by simp [hd])
    have hbr : r.length ≤ 1099511627776 := by simp at hb; omega
    have HT : Hid (Tb w0) := T
    clear h hf h1 ha hl hb T
    have E : rone (c :: r) = if od (c : Int) = -1 then ((0, 0), 40, 0) else if od (c : Int) = 0 then (((c : Int), 0), 0, 1)
      else if (rd r 0 0).2.1 ≠ 0 then ((0, 0), (rd r 0 0).2.1, 0) else if 999 < (rd r 0 0).1 then ((0, 0), 40, 0) else (((c : Int), ((rd r 0 0).1 : Int)), 0, 1 + (rd r 0 0).2.2) := rfl
    rcases od_cases (c : Int) with e | e | ⟨e1, e2⟩
    · have HR : Hid (rone (c :: r) = ((0, 0), 40, 0)) := by show _ = _; rw [E, if_pos e]
      clear E
      go_enter Tryz.func157, Tryz.ntmps157
      go_wp2_with fail
      refine B.mono ?_
      rintro e' w2 ⟨rfl, g1, g2⟩
      obtain ⟨k1, k2, k3⟩ := K1.out w2 _ g1 g2
      obtain ⟨c0, c1, z0, z1⟩ := two_cells k1
      have O := operand_any w2 (HT.out.kept k2.2.2) (c : Int)
      rw [e] at O
      simp only [by1]
      clear g1 g2 e
      go_wp2_with fail
      refine O.mono ?_
      rintro e w3 ⟨rfl, rfl⟩
      go_wp2_with fail
      refine bodyPost_ret (results_ins _ w.heap.size _ _ (two_set k1) _ rfl) rfl ?_
      rw [HR.out]
      exact ⟨rfl, (SET.out _ _ _ _ k2 k1 k3).2, _, (SET.out _ _ _ _ k2 k1 k3).1, fun h => by simp at h⟩
    · have HR : Hid (rone (c :: r) = (((c : Int), 0), 0, 1)) := by show _ = _; rw [E, if_neg (by omega), if_pos e]
      clear E
      go_enter Tryz.func157, Tryz.ntmps157
      go_wp2_with fail
      refine B.mono ?_
      rintro e' w2 ⟨rfl, g1, g2⟩
      obtain ⟨k1, k2, k3⟩ := K1.out w2 _ g1 g2
      obtain ⟨c0, c1, z0, z1⟩ := two_cells k1
      have O := operand_any w2 (HT.out.kept k2.2.2) (c : Int)
      rw [e] at O
      simp only [by1]
      clear g1 g2 e
      go_wp2_with fail
      refine O.mono ?_
      rintro e w3 ⟨rfl, rfl⟩
      go_wp2_with fail
      refine bodyPost_ret (results_ins _ w.heap.size _ _ (two_set k1) _ rfl) rfl ?_
      rw [HR.out]
      exact ⟨rfl, (SET.out _ _ _ _ k2 k1 k3).2, _, (SET.out _ _ _ _ k2 k1 k3).1, fun _ => rfl⟩
    · have E' : rone (c :: r) = if (rd r 0 0).2.1 ≠ 0 then ((0, 0), (rd r 0 0).2.1, 0) else if 999 < (rd r 0 0).1 then ((0, 0), 40, 0) else (((c : Int), ((rd r 0 0).1 : Int)), 0, 1 + (rd r 0 0).2.2) := by
        rw [E, if_neg (by omega), if_neg (by omega)]
      have q1 : (od (c : Int) == 0) = false := by simp; omega
      have q2 : (od (c : Int) == -1) = false := by simp; omega
      clear E e1 e2
      have RU : Hid (∀ w3 : World, RB w0 w3 p r → Calls Tryz.prog 154 #[.pointer (some ⟨p, 0, none⟩)] w3 fun e w' => e = .returned (.tuple #[.int .u64 ((rd r 0 0).1 : Int), .int .i64 ((rd r 0 0).2.1 : Int)]) ∧ RB w0 w' p (r.drop (rd r 0 0).2.2) ∧ Fr (fun q => q = p) w3 w') := by
        intro w3 h3
        refine (readUint_any w3 p r h3.1 hlr hbr).mono ?_
        rintro e w' ⟨rfl, g1, _, g2⟩
        exact ⟨rfl, h3.step g1 g2, g2⟩
      have hrl := rd_lt r 0 0 hlr (by omega) (by omega)
      generalize rd r 0 0 = t at *
      obtain ⟨n, x, k⟩ := t
      simp only [] at *
      by_cases hx : x = 0
      · subst hx
        by_cases hbig : 999 < n
        · have HR : Hid (rone (c :: r) = ((0, 0), 40, 0)) := by show _ = _; rw [E', if_neg (by omega), if_pos hbig]
          clear E'
          go_enter Tryz.func157, Tryz.ntmps157
          go_wp2_with fail
          refine B.mono ?_
          rintro e' w2 ⟨rfl, g1, g2⟩
          obtain ⟨k1, k2, k3⟩ := K1.out w2 _ g1 g2
          have O := operand_any w2 (HT.out.kept k2.2.2) (c : Int)
          generalize od (c : Int) = z at *
          simp only [by1]
          clear g1 g2
          go_wp2_with fail
          refine O.mono ?_
          rintro e w3 ⟨rfl, rfl⟩
          go_wp2_with fail
          refine (RU.out w3 k2).mono ?_
          rintro e w4 ⟨rfl, h4, f4⟩
          have k4 := f4.heap k1 (fun e => by omega)
          have k5 := k3.trans f4 (fun _ _ e => e) (fun _ _ e => e)
          obtain ⟨c0, c1, z0, z1⟩ := two_cells k4
          clear O f4
          go_wp2_with fail
          refine bodyPost_ret (results_ins _ w.heap.size _ _ (two_set k4) _ rfl) rfl ?_
          rw [HR.out]
          exact ⟨rfl, (SET.out _ _ _ _ h4 k4 k5).2, _, (SET.out _ _ _ _ h4 k4 k5).1, fun h => by simp at h⟩
        · have HR : Hid (rone (c :: r) = (((c : Int), (n : Int)), 0, 1 + k)) := by show _ = _; rw [E', if_neg (by omega), if_neg hbig]
          clear E'
          go_enter Tryz.func157, Tryz.ntmps157
          go_wp2_with fail
          refine B.mono ?_
          rintro e' w2 ⟨rfl, g1, g2⟩
          obtain ⟨k1, k2, k3⟩ := K1.out w2 _ g1 g2
          have O := operand_any w2 (HT.out.kept k2.2.2) (c : Int)
          generalize od (c : Int) = z at *
          simp only [by1]
          clear g1 g2
          go_wp2_with fail
          refine O.mono ?_
          rintro e w3 ⟨rfl, rfl⟩
          go_wp2_with fail
          refine (RU.out w3 k2).mono ?_
          rintro e w4 ⟨rfl, h4, f4⟩
          have k4 := f4.heap k1 (fun e => by omega)
          have k5 := k3.trans f4 (fun _ _ e => e) (fun _ _ e => e)
          obtain ⟨c0, c1, z0, z1⟩ := two_cells k4
          clear O f4
          go_wp2_with fail
          refine bodyPost_ret (results_ins _ w.heap.size _ _ (two_set k4) _ rfl) rfl ?_
          rw [HR.out]
          refine ⟨rfl, (SET.out _ _ _ _ h4 k4 k5).2, _, (SET.out _ _ _ _ h4 k4 k5).1, fun _ => ?_⟩
          rw [Nat.add_comm, List.drop_succ_cons]
      · have HR : Hid (rone (c :: r) = ((0, 0), x, 0)) := by show _ = _; rw [E', if_pos hx]
        have hx' : ((x : Int) == 0) = false := by simp; omega
        clear E'
        go_enter Tryz.func157, Tryz.ntmps157
        go_wp2_with fail
        refine B.mono ?_
        rintro e' w2 ⟨rfl, g1, g2⟩
        obtain ⟨k1, k2, k3⟩ := K1.out w2 _ g1 g2
        have O := operand_any w2 (HT.out.kept k2.2.2) (c : Int)
        generalize od (c : Int) = z at *
        simp only [by1]
        clear g1 g2
        go_wp2_with fail
        refine O.mono ?_
        rintro e w3 ⟨rfl, rfl⟩
        go_wp2_with fail
        refine (RU.out w3 k2).mono ?_
        rintro e w4 ⟨rfl, h4, f4⟩
        have k4 := f4.heap k1 (fun e => by omega)
        have k5 := k3.trans f4 (fun _ _ e => e) (fun _ _ e => e)
        obtain ⟨c0, c1, z0, z1⟩ := two_cells k4
        clear O f4
        go_wp2_with fail
        refine bodyPost_ret (results_ins _ w.heap.size _ _ (two_set k4) _ rfl) rfl ?_
        rw [HR.out]
        exact ⟨rfl, (SET.out _ _ _ _ h4 k4 k5).2, _, (SET.out _ _ _ _ h4 k4 k5).1, fun h => absurd h hx⟩
end Go.Proofs.YthncdbobjeeeaaaGreatDoor
