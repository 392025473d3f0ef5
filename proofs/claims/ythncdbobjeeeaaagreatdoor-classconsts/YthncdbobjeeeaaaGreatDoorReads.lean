/- What a reader's other methods answer: Left, Byte, Int, Count, Text. -/
import Derived.Test.YthncdbobjeeeaaaGreatDoorReader
import Derived.Laws.BytesArg
namespace Go.Proofs.YthncdbobjeeeaaaGreatDoor
open Go.ChangeShapes Go.WideShapes Go.ChangeAt Go.RowKit

set_option maxRecDepth 100000 in
theorem readUint_none (w : World) (p : Nat) (ad : Option Addr) (cap : Nat) (h1 : w.heap[p]? = some (.cells #[.slice ad 0 cap] 176 (0, 0))) :
    Calls Tryz.prog 154 #[.pointer (some ⟨p, 0, none⟩)] w fun e w' => e = .returned (.tuple #[.int .u64 0, .int .i64 30]) ∧ w' = w := by
  have hc := cell_of_one h1
  clear h1
  go_enter Tryz.func154, Tryz.ntmps154
  go_wp2_with fail
  refine wp_label_one 0 (fun _ _ => False) (fun _ _ => 0) rfl ?_ (fun _ _ h => h.elim)
  intro K h0 hr hn'
  clear h0 hn'
  go_wp2_with fail
  go_step3
  rename_i hk
  refine hk _ _ ?_
  clear hk
  go_wp2_with fail
  go_ret2
  exact ⟨rfl, rfl⟩

theorem readUint_any (w : World) (p : Nat) (l : List Nat) (h : Rd 176 w p l) (hl : ∀ c ∈ l, c < 256) (hb : l.length ≤ 1099511627776) :
    Calls Tryz.prog 154 #[.pointer (some ⟨p, 0, none⟩)] w fun e w' => e = .returned (.tuple #[.int .u64 ((rd l 0 0).1 : Int), .int .i64 ((rd l 0 0).2.1 : Int)]) ∧ Rd 176 w' p (l.drop (rd l 0 0).2.2) ∧
      ((rd l 0 0).2.1 = 0 → Rs 176 w' p (l.drop (rd l 0 0).2.2)) ∧ Fr (fun q => q = p) w w' := by
  by_cases hn : l = []
  · subst hn
    have hR := h
    obtain ⟨v, h1, h2⟩ := h
    obtain ⟨o, cap, rfl, _⟩ := h2.shape
    refine (readUint_none w p o cap h1).mono ?_
    rintro e w' ⟨rfl, rfl⟩
    exact ⟨rfl, hR, fun h => by simp [rd] at h, Fr.refl _ _⟩
  · refine (readUint_some w p l (h.rs hn) hl hb).mono ?_
    rintro e w' ⟨rfl, h1, h2⟩
    exact ⟨rfl, h1.rd, fun _ => h1, h2⟩

theorem left_any (w : World) (p : Nat) (l : List Nat) (h : Rd 176 w p l) :
    Calls Tryz.prog 74 #[.pointer (some ⟨p, 0, none⟩)] w fun e w' => e = .returned (.int .i64 (l.length : Int)) ∧ w' = w := by
  obtain ⟨v, h1, h2⟩ := h
  obtain ⟨o, cap, rfl, _⟩ := h2.shape
  have hc := cell_of_one h1
  clear h1 h2
  go_enter Tryz.func74, Tryz.ntmps74
  go_wp2_with fail
  go_ret
  exact ⟨rfl, rfl⟩

/-- What Byte answers: the byte, the error, how many bytes it has read. -/
def by1 : List Nat → Nat × Nat × Nat
  | [] => (0, 30, 0)
  | c :: _ => (c, 0, 1)

theorem readByte_any (w : World) (p : Nat) (l : List Nat) (h : Rd 176 w p l) :
    Calls Tryz.prog 119 #[.pointer (some ⟨p, 0, none⟩)] w fun e w' => e = .returned (.tuple #[.int .u8 ((by1 l).1 : Int), .int .i64 ((by1 l).2.1 : Int)]) ∧ Rd 176 w' p (l.drop (by1 l).2.2) ∧ Fr (fun q => q = p) w w' := by
  cases l with
  | nil =>
    go_enter Tryz.func119, Tryz.ntmps119
    go_wp2_with fail
    refine (left_any w p [] h).mono ?_
    rintro e w' ⟨rfl, rfl⟩
    go_wp2_with fail
    go_ret2
    exact ⟨rfl, h, Fr.refl _ _⟩
  | cons c cs =>
    have hR := h.rs (by simp)
    have hR' := hR
    obtain ⟨b, off, cap, h1, h2, h3, h4⟩ := hR'
    have hc := cell_of_one h1
    have h0 : w.cell? ⟨b, off, none⟩ = some (.int .u8 (c : Int)) := h4 0 c rfl
    have hne : (((cs.length : Int) + 1) == 0) = false := by simp; omega
    clear h1 h4
    go_enter Tryz.func119, Tryz.ntmps119
    go_wp2_with fail
    refine (left_any w p _ h).mono ?_
    rintro e w' ⟨rfl, rfl⟩
    go_wp2_with fail
    refine (skip_any w' p 1 _ hR (by simp)).mono ?_
    rintro e w2 ⟨rfl, r1, r2⟩
    go_wp2_with fail
    go_ret2
    exact ⟨rfl, r1.rd, r2⟩

theorem and_one (u : Nat) (h : u < 2 ^ 64) : bits .and .u64 (u : Int) 1 = (u : Int) % 2 := by
  have := u64_and_nat u 1 (by omega) (by omega)
  rw [Nat.and_one_is_mod] at this
  simpa using this

theorem unfolded_any (w : World) (u : Nat) (h : u < 2 ^ 64) : Calls Tryz.prog 155 #[.int .u64 (u : Int)] w fun e w' => e = .returned (.int .i64 (unf u)) ∧ w' = w := by
  have ha := and_one u h
  by_cases h1 : u % 2 = 1
  · have hx := xor_neg ((u : Int) / 2) (by omega) (by omega)
    have h1' : ((u : Int) % 2 == 1) = true := by simp; omega
    have E : Hid (unf u = - ((u : Int) / 2) - 1) := by show _ = _; unfold unf; rw [if_pos h1]; omega
    go_enter Tryz.func155, Tryz.ntmps155
    go_wp2_with fail
    go_ret
    exact ⟨by rw [E.out]; rfl, rfl⟩
  · have h1' : ((u : Int) % 2 == 1) = false := by simp; omega
    have E : Hid (unf u = (u : Int) / 2) := by show _ = _; unfold unf; rw [if_neg h1]; omega
    go_enter Tryz.func155, Tryz.ntmps155
    go_wp2_with fail
    go_ret
    exact ⟨by rw [E.out]; rfl, rfl⟩

theorem rd_lt (l : List Nat) (i n : Nat) (hl : ∀ c ∈ l, c < 256) (hi : i ≤ 9) (hn : n < 2 ^ (7 * i)) : (rd l i n).1 < 2 ^ 64 := by
  induction l generalizing i n with
  | nil => simp [rd]
  | cons c cs ih =>
    have hc := hl c (by simp)
    unfold rd
    split
    · simp
    · rename_i h9
      have hb : i < 9 → n + c % 128 * 2 ^ (7 * i) < 2 ^ (7 * (i + 1)) := by
        intro h
        rw [show 7 * (i + 1) = 7 + 7 * i by omega, Nat.pow_add]
        have h1 : c % 128 ≤ 127 := by omega
        have h2 := Nat.mul_le_mul_right (2 ^ (7 * i)) h1
        omega
      split
      · split
        · simp
        · by_cases h : i = 9
          · subst h
            have : c = 1 := Classical.byContradiction fun h' => h9 ⟨rfl, h'⟩
            subst this
            simp at hn ⊢
            omega
          · have := hb (by omega)
            rw [show c % 128 = c by omega] at this
            exact Nat.lt_of_lt_of_le this (Nat.pow_le_pow_right (by omega) (by omega))
      · have h : i ≠ 9 := fun h => h9 ⟨h, by omega⟩
        have := hb (by omega)
        rw [show c % 128 = c - 128 by omega] at this
        exact ih (i + 1) _ (fun c hc => hl c (by simp [hc])) (by omega) this

theorem readInt_any (w : World) (p : Nat) (l : List Nat) (h : Rd 176 w p l) (hl : ∀ c ∈ l, c < 256) (hb : l.length ≤ 1099511627776) :
    Calls Tryz.prog 127 #[.pointer (some ⟨p, 0, none⟩)] w fun e w' => e = .returned (.tuple #[.int .i64 (unf (rd l 0 0).1), .int .i64 ((rd l 0 0).2.1 : Int)]) ∧ Rd 176 w' p (l.drop (rd l 0 0).2.2) ∧ Fr (fun q => q = p) w w' := by
  have hlt := rd_lt l 0 0 hl (by omega) (by omega)
  have U := readUint_any w p l h hl hb
  generalize rd l 0 0 = r at *
  go_enter Tryz.func127, Tryz.ntmps127
  go_wp2_with fail
  refine U.mono ?_
  rintro e w1 ⟨rfl, r1, _, r2⟩
  go_wp2_with fail
  refine (unfolded_any w1 r.1 hlt).mono ?_
  rintro e w2 ⟨rfl, rfl⟩
  go_wp2_with fail
  go_ret2
  exact ⟨rfl, r1, r2⟩

/-- What Count answers: the number, the error, how many bytes it has read. -/
def ct (l : List Nat) (most : Int) : Nat × Nat × Nat := if (rd l 0 0).2.1 ≠ 0 then rd l 0 0 else if most < ((rd l 0 0).1 : Int) then (0, 32, 0) else rd l 0 0

/-- A copy of a reader, at a new block. -/
theorem Rd.copy {w : World} {l : List Nat} {v : Value} (h2 : Sl w v l) : Rd 176 (w.alloc (.cells #[v] 176)) w.heap.size l ∧ Fr no w (w.alloc (.cells #[v] 176)) := by
  have hf : Fr no w (w.alloc (.cells #[v] 176)) := (Fr.refl no w).alloc _ _
  exact ⟨⟨v, heap_alloc_new w _, h2.kept hf (fun _ _ _ f => f)⟩, hf⟩

/-- It is handed back: what the copy at a holds is laid into the block p. -/
theorem Rs.back {w w2 : World} {p a : Nat} {l : List Nat} {v v2 : Value} (h1 : w.heap[p]? = some (.cells #[v] 176 (0, 0))) (ha : w.heap.size ≤ a) (hf : Fr (fun q => q = a) w w2) (hs : ∃ o n c, v = .slice o n c) (h2 : Rs 176 w2 a l)
    (hv : w2.cell? ⟨a, 0, none⟩ = some v2) : Rs 176 (w2.setCell ⟨p, 0, none⟩ v2) p l ∧ Fr (fun q => q = p) w (w2.setCell ⟨p, 0, none⟩ v2) := by
  obtain ⟨o, n, c, rfl⟩ := hs
  have hp : w2.heap[p]? = some (.cells #[.slice o n c] 176 (0, 0)) := hf.heap h1 (fun e => by have := lt_of_heap h1; omega)
  obtain ⟨b, off, cap, g1, g2, g3, g4⟩ := h2
  have e := cell_of_one g1
  rw [hv] at e
  simp only [Option.some.injEq] at e
  subst e
  have hF : Fr (fun q => q = p) w2 (w2.setCell ⟨p, 0, none⟩ (.slice (some ⟨b, off, none⟩) l.length cap)) := (Fr.refl (fun q => q = p) w2).setCell (p := ⟨p, 0, none⟩) (fun _ => rfl) _
  refine ⟨⟨b, off, cap, one_setCell hp, g2, g3, fun i c hi => hF.cell (g4 i c hi) (fun e => cell_apart hp (g4 i c hi) e)⟩, ?_⟩
  exact hf.trans hF (fun i hi e => by omega) (fun _ _ e => e)

theorem readCount_any (w : World) (p : Nat) (l : List Nat) (h : Rd 176 w p l) (hl : ∀ c ∈ l, c < 256) (hb : l.length ≤ 1099511627776) (most : Int) (hm1 : -9223372036854775808 ≤ most) (hm2 : most ≤ 9223372036854775807) :
    Calls Tryz.prog 125 #[.pointer (some ⟨p, 0, none⟩), .int .i64 most] w fun e w' => e = .returned (.tuple #[.int .i64 ((ct l most).1 : Int), .int .i64 ((ct l most).2.1 : Int)]) ∧ Rd 176 w' p (l.drop (ct l most).2.2) ∧
      ((ct l most).2.1 = 0 → Rs 176 w' p (l.drop (ct l most).2.2)) ∧ Fr (fun q => q = p) w w' := by
  have hlt := rd_lt l 0 0 hl (by omega) (by omega)
  have herr := rd_err l 0 0
  have hR := h
  obtain ⟨v, h1, h2⟩ := h
  obtain ⟨o, cap, rfl, _⟩ := h2.shape
  have hc := cell_of_one h1
  obtain ⟨hcp, hfr⟩ := Rd.copy h2
  have U := readUint_any _ w.heap.size l hcp hl hb
  have hW := lt_of_heap h1
  have Hct : Hid (ct l most = if (rd l 0 0).2.1 ≠ 0 then rd l 0 0 else if most < ((rd l 0 0).1 : Int) then (0, 32, 0) else rd l 0 0) := rfl
  generalize ct l most = c at *
  generalize rd l 0 0 = r at *
  obtain ⟨n, x, k⟩ := r
  simp only [] at *
  have keep : ∀ w2 : World, Fr (fun q => q = w.heap.size) (w.alloc (.cells #[.slice o l.length cap] 176)) w2 → Fr (fun q => q = w.heap.size) w w2 ∧ Fr no w w2 := fun w2 h =>
    ⟨hfr.trans h (fun _ _ f => f.elim) (fun _ _ f => f), hfr.trans h (fun _ _ f => f.elim) (fun i hi f => by subst f; exact absurd hi (Nat.lt_irrefl _))⟩
  have KEEP : Hid (∀ w2 : World, Fr (fun q => q = w.heap.size) (w.alloc (.cells #[.slice o l.length cap] 176)) w2 → Fr (fun q => q = w.heap.size) w w2 ∧ Fr no w w2) := keep
  clear keep hfr hcp
  by_cases hx : x = 0
  · subst hx
    by_cases hbig : most < (n : Int)
    · have e : Hid (c = (0, 32, 0)) := by show _ = _; rw [Hct.out, if_neg (by omega), if_pos hbig]
      by_cases hneg : most < 0
      · go_enter Tryz.func125, Tryz.ntmps125
        go_wp2_with fail
        refine U.mono ?_
        rintro e w2 ⟨rfl, r1, r3, r2⟩
        go_wp2_with fail
        go_ret2
        rw [e.out]
        have f := (KEEP.out w2 r2).2
        exact ⟨rfl, hR.kept f (fun f => f) (fun _ _ _ f => f), fun h => by simp at h, f.mono (fun _ _ f => f.elim)⟩
      · go_enter Tryz.func125, Tryz.ntmps125
        go_wp2_with fail
        refine U.mono ?_
        rintro e w2 ⟨rfl, r1, r3, r2⟩
        go_wp2_with fail
        go_ret2
        rw [e.out]
        have f := (KEEP.out w2 r2).2
        exact ⟨rfl, hR.kept f (fun f => f) (fun _ _ _ f => f), fun h => by simp at h, f.mono (fun _ _ f => f.elim)⟩
    · have e : Hid (c = (n, 0, k)) := by show _ = _; rw [Hct.out, if_neg (by omega), if_neg hbig]
      have hneg : ¬ most < 0 := by omega
      go_enter Tryz.func125, Tryz.ntmps125
      go_wp2_with fail
      refine U.mono ?_
      rintro e w2 ⟨rfl, r1, r3, r2⟩
      obtain ⟨b, off, cp, g1, g2⟩ := r3 trivial
      generalize (l.drop k).length = n1 at g1
      have gc := cell_of_one g1
      have hp2 := (KEEP.out w2 r2).2.heap h1 (fun f => f)
      have pc := cell_of_one hp2
      have pf := free_of_one hp2
      clear hp2 g1 g2
      go_wp2_with fail
      go_ret2
      rw [e.out]
      obtain ⟨q1, q2⟩ := Rs.back h1 (Nat.le_refl _) (KEEP.out w2 r2).1 ⟨_, _, _, rfl⟩ (r3 trivial) gc
      exact ⟨rfl, q1.rd, fun _ => q1, q2⟩
  · have e : Hid (c = (0, x, 0)) := by show _ = _; rw [Hct.out, if_pos hx]; exact herr hx
    have hx' : ((x : Int) == 0) = false := by simp; omega
    go_enter Tryz.func125, Tryz.ntmps125
    go_wp2_with fail
    refine U.mono ?_
    rintro e w2 ⟨rfl, r1, r3, r2⟩
    go_wp2_with fail
    go_ret2
    rw [e.out]
    have f := (KEEP.out w2 r2).2
    exact ⟨rfl, hR.kept f (fun f => f) (fun _ _ _ f => f), fun h => absurd h hx, f.mono (fun _ _ f => f.elim)⟩

/-- What Text answers: the bytes, the error, how many bytes it has read. -/
def tx (l : List Nat) (most : Int) : List Nat × Nat × Nat :=
  if (ct l most).2.1 ≠ 0 then ([], (ct l most).2.1, 0) else if (l.drop (ct l most).2.2).length < (ct l most).1 then ([], 30, 0) else ((l.drop (ct l most).2.2).take (ct l most).1, 0, (ct l most).2.2 + (ct l most).1)

theorem conv_text (w : World) (b off k cap : Nat) (l : List Nat) (hk : k ≤ l.length) (h : ∀ (i c : Nat), l[i]? = some c → w.cell? ⟨b, off + i, none⟩ = some (.int .u8 (c : Int))) :
    (convert 22 9 (.slice (some ⟨b, off, none⟩) k cap)).run Tryz.prog w = .ok (.string (bstr (l.take k))) w := by
  have hl : ((l.take k).map (fun c : Nat => (c : Int))).length = k := by simp; omega
  rw [run_convert_bytes_arg (P := Tryz.prog) w 22 5 Tryz.underlying22 Tryz.underlying5 b off k cap ((l.take k).map (fun c : Nat => (c : Int))) hl (fun i hi => by
    have hi' : i < l.length := by omega
    have := h i l[i] (List.getElem?_eq_getElem hi')
    rw [this]
    simp [hi, hi']) 9 Tryz.underlying9]
  unfold strOfNums bstr
  simp [Function.comp_def]

theorem ct_le (l : List Nat) (most : Int) : (ct l most).2.1 = 0 → 0 < (ct l most).2.2 ∧ (ct l most).2.2 ≤ l.length ∧ ((ct l most).1 : Int) ≤ most := by
  have h := rd_le l 0 0
  unfold ct
  split
  · intro h'; contradiction
  · rename_i hx
    split
    · intro h'; simp at h'
    · intro _
      have := h (by omega)
      omega

set_option maxRecDepth 100000 in
theorem readText_any (w : World) (p : Nat) (l : List Nat) (h : Rd 176 w p l) (hl : ∀ c ∈ l, c < 256) (hb : l.length ≤ 1099511627776) (most : Int) (hm1 : -9223372036854775808 ≤ most) (hm2 : most ≤ 9223372036854775807) :
    Calls Tryz.prog 122 #[.pointer (some ⟨p, 0, none⟩), .int .i64 most] w fun e w' => e = .returned (.tuple #[.string (bstr (tx l most).1), .int .i64 ((tx l most).2.1 : Int)]) ∧ Rd 176 w' p (l.drop (tx l most).2.2) ∧ Fr (fun q => q = p) w w' := by
  have hR := h
  obtain ⟨v, h1, h2⟩ := h
  obtain ⟨o, cap, rfl, _⟩ := h2.shape
  have hc := cell_of_one h1
  obtain ⟨hcp, hfr⟩ := Rd.copy h2
  have U := readCount_any _ w.heap.size l hcp hl hb most hm1 hm2
  have hW := lt_of_heap h1
  have hle := ct_le l most
  have Hct : Hid (tx l most = if (ct l most).2.1 ≠ 0 then ([], (ct l most).2.1, 0) else if (l.drop (ct l most).2.2).length < (ct l most).1 then ([], 30, 0) else ((l.drop (ct l most).2.2).take (ct l most).1, 0, (ct l most).2.2 + (ct l most).1)) := rfl
  generalize tx l most = t at *
  generalize ct l most = r at *
  obtain ⟨n, x, k⟩ := r
  simp only [] at *
  have keep : ∀ w2 : World, Fr (fun q => q = w.heap.size) (w.alloc (.cells #[.slice o l.length cap] 176)) w2 → Fr (fun q => q = w.heap.size) w w2 ∧ Fr no w w2 := fun w2 h =>
    ⟨hfr.trans h (fun _ _ f => f.elim) (fun _ _ f => f), hfr.trans h (fun _ _ f => f.elim) (fun i hi f => by subst f; exact absurd hi (Nat.lt_irrefl _))⟩
  have KEEP : Hid (∀ w2 : World, Fr (fun q => q = w.heap.size) (w.alloc (.cells #[.slice o l.length cap] 176)) w2 → Fr (fun q => q = w.heap.size) w w2 ∧ Fr no w w2) := keep
  clear keep hfr hcp
  by_cases hx : x = 0
  · subst hx
    obtain ⟨hk0, hkl, hnm⟩ := hle rfl
    by_cases hbig : (l.drop k).length < n
    · have e : Hid (t = ([], 30, 0)) := by show _ = _; rw [Hct.out, if_neg (by omega), if_pos hbig]
      clear hle
      have hbig' : l.length - k < n := by rw [List.length_drop] at hbig; exact hbig
      go_enter Tryz.func122, Tryz.ntmps122
      go_wp2_with fail
      refine U.mono ?_
      rintro e w2 ⟨rfl, r1, r3, r2⟩
      go_wp2_with fail
      refine (left_any w2 _ _ r1).mono ?_
      rintro e w2 ⟨rfl, rfl⟩
      have hlen : (l.drop k).length < n := hbig
      go_wp2_with fail
      go_ret2
      rw [e.out]
      have f := (KEEP.out _ r2).2
      exact ⟨rfl, hR.kept f (fun f => f) (fun _ _ _ f => f), f.mono (fun _ _ f => f.elim)⟩
    · have e : Hid (t = ((l.drop k).take n, 0, k + n)) := by show _ = _; rw [Hct.out, if_neg (by omega), if_neg hbig]
      clear hle
      have hbig' : n ≤ l.length - k := by rw [List.length_drop] at hbig; omega
      go_enter Tryz.func122, Tryz.ntmps122
      go_wp2_with fail
      refine U.mono ?_
      rintro e w2 ⟨rfl, r1, r3, r2⟩
      go_wp2_with fail
      refine (left_any w2 _ _ r1).mono ?_
      rintro e w2 ⟨rfl, rfl⟩
      have r3' := r3 trivial
      obtain ⟨b, off, cp, g1, g2, g3, g4⟩ := r3'
      have hcv := conv_text w2 b off n cp (l.drop k) (by omega) g4
      have gc := cell_of_one g1
      rw [List.length_drop] at gc g2
      unfold maxLen at g3
      clear g1 g4
      go_wp2_with fail
      refine (skip_any w2 _ n _ (r3 trivial) (by omega)).mono ?_
      rintro e w3 ⟨rfl, s1, s2⟩
      have f := (KEEP.out w2 r2).1.trans s2 (fun _ _ f => f) (fun _ _ f => f)
      have hp2 := f.heap h1 (fun f => by omega)
      have pc := cell_of_one hp2
      have pf := free_of_one hp2
      have s1' := s1
      obtain ⟨b2, off2, cp2, k1, _⟩ := s1'
      generalize ((l.drop k).drop n).length = n2 at k1
      have kc := cell_of_one k1
      clear hp2 k1
      go_wp2_with fail
      go_ret2
      rw [e.out]
      obtain ⟨q1, q2⟩ := Rs.back h1 (Nat.le_refl _) f ⟨_, _, _, rfl⟩ s1 kc
      rw [List.drop_drop] at q1
      exact ⟨rfl, q1.rd, q2⟩
  · have e : Hid (t = ([], x, 0)) := by show _ = _; rw [Hct.out, if_pos hx]
    have hx' : ((x : Int) == 0) = false := by simp; omega
    clear hle
    go_enter Tryz.func122, Tryz.ntmps122
    go_wp2_with fail
    refine U.mono ?_
    rintro e w2 ⟨rfl, r1, r3, r2⟩
    go_wp2_with fail
    go_ret2
    rw [e.out]
    have f := (KEEP.out w2 r2).2
    exact ⟨rfl, hR.kept f (fun f => f) (fun _ _ _ f => f), f.mono (fun _ _ f => f.elim)⟩
end Go.Proofs.YthncdbobjeeeaaaGreatDoor
