/- A text of the document's reader; the bits of complex numbers, read. -/
import Derived.Test.YthncdbobjeeeaaaGreatDoorDocReads
namespace Go.Proofs.YthncdbobjeeeaaaGreatDoor
open Go.ChangeShapes Go.WideShapes Go.ChangeAt Go.RowKit
set_option maxRecDepth 100000 in
theorem docText_any (w : World) (p : Nat) (l : List Nat) (h : Rd 78 w p l) (hl : ∀ c ∈ l, c < 256) (hb : l.length ≤ 1099511627776) (most : Int) (hm1 : -9223372036854775808 ≤ most) (hm2 : most ≤ 9223372036854775807) :
    Calls Tryz.prog 75 #[.pointer (some ⟨p, 0, none⟩), .int .i64 most] w fun e w' => e = .returned (.tuple #[.string (bstr (tx l most).1), .int .i64 ((tx l most).2.1 : Int)]) ∧ Rd 78 w' p (l.drop (tx l most).2.2) ∧ Fr (fun q => q = p) w w' := by
  have U := docCount_any w p l h hl hb most hm1 hm2
  have hle := ct_le l most
  obtain ⟨v, h1, h2⟩ := h
  obtain ⟨o, cap, e0, _⟩ := h2.shape
  have HB : Hid (∀ w' v', Fr (fun q => q = p) w w' → w'.heap[p]? = some (.cells #[v'] 78 (0, 0)) → Rd 78 (w'.setCell ⟨p, 0, none⟩ v) p l ∧ Fr (fun q => q = p) w (w'.setCell ⟨p, 0, none⟩ v)) := fun w' v' => Rd.restore h1 h2
  have hc := cell_of_one h1
  clear h1 h2
  generalize l.length = n0 at e0
  subst e0
  have Hct : Hid (tx l most = if (ct l most).2.1 ≠ 0 then ([], (ct l most).2.1, 0) else if (l.drop (ct l most).2.2).length < (ct l most).1 then ([], 30, 0) else ((l.drop (ct l most).2.2).take (ct l most).1, 0, (ct l most).2.2 + (ct l most).1)) := rfl
  generalize tx l most = t at *
  generalize ct l most = r at *
  obtain ⟨n, x, k⟩ := r
  simp only [] at *
  by_cases hx : x = 0
  · subst hx
    obtain ⟨hk0, hkl, hnm⟩ := hle rfl
    clear hle
    by_cases hbig : l.length - k < n
    · have e : Hid (t = ([], 30, 0)) := by show _ = _; rw [Hct.out, if_neg (by omega), if_pos (by rw [List.length_drop]; exact hbig)]
      go_enter Tryz.func75, Tryz.ntmps75
      go_wp2_with fail
      refine U.mono ?_
      rintro e w2 ⟨rfl, r1, r3, r2⟩
      obtain ⟨b, off, cp, g1, g2, g3, g4⟩ := r3 trivial
      have B := HB.out w2 _ r2 g1
      have gc := cell_of_one g1
      have gf := free_of_one g1
      rw [List.length_drop] at gc
      clear g1 g4 r3 r1
      go_wp2_with fail
      go_ret2
      rw [e.out]
      exact ⟨rfl, B⟩
    · have e : Hid (t = ((l.drop k).take n, 0, k + n)) := by show _ = _; rw [Hct.out, if_neg (by omega), if_neg (by rw [List.length_drop]; exact hbig)]
      go_enter Tryz.func75, Tryz.ntmps75
      go_wp2_with fail
      refine U.mono ?_
      rintro e w2 ⟨rfl, r1, r3, r2⟩
      obtain ⟨b, off, cp, g1, g2, g3, g4⟩ := r3 trivial
      have M : ∀ off', (cp ≠ n → off' = off + n) → _ := fun off' ho => Rs.moved (k := n) (off' := off') g1 g2 g3 g4 (by rw [List.length_drop]; omega) ho
      have hcv := conv_text w2 b off n cp (l.drop k) (by rw [List.length_drop]; omega) g4
      have gc := cell_of_one g1
      have gf := free_of_one g1
      rw [List.length_drop] at gc g2
      simp only [List.length_drop, List.drop_drop] at M
      unfold maxLen at g3
      clear g1 g4 r3 r1
      by_cases hck : cp = n
      · have M1 := M off (fun h => absurd hck h)
        rw [show cp - n = 0 by omega, show l.length - k - n = 0 by omega] at M1
        clear M
        subst hck
        go_wp2_with fail
        go_ret2
        rw [e.out]
        exact ⟨rfl, M1.1.rd, r2.trans M1.2 (fun _ _ e => e) (fun _ _ e => e)⟩
      · have M1 := M (off + n) (fun _ => rfl)
        clear M
        go_wp2_with fail
        go_ret2
        rw [e.out]
        exact ⟨rfl, M1.1.rd, r2.trans M1.2 (fun _ _ e => e) (fun _ _ e => e)⟩
  · have e : Hid (t = ([], x, 0)) := by show _ = _; rw [Hct.out, if_pos hx]
    have hx' : ((x : Int) == 0) = false := by simp; omega
    clear hle
    go_enter Tryz.func75, Tryz.ntmps75
    go_wp2_with fail
    refine U.mono ?_
    rintro e w2 ⟨rfl, r1, r3, r2⟩
    obtain ⟨v', g1, _⟩ := r1
    have gc := cell_of_one g1
    have gf := free_of_one g1
    have B := HB.out w2 v' r2 g1
    clear g1
    go_wp2_with fail
    go_ret2
    rw [e.out]
    exact ⟨rfl, B⟩

/-- The value of the first j bytes, the lowest first. -/
def va (l : List Nat) : Nat → Nat
  | 0 => 0
  | j + 1 => va l j + l.getD j 0 * 2 ^ (8 * j)

theorem va_lt (l : List Nat) (hl : ∀ c ∈ l, c < 256) (j : Nat) : va l j < 2 ^ (8 * j) := by
  induction j with
  | zero => simp [va]
  | succ j ih =>
    have hc : l.getD j 0 < 256 := by
      rw [List.getD_eq_getElem?_getD]
      cases e : l[j]? with
      | none => simp
      | some c => simpa using hl c (List.mem_of_getElem? e)
    rw [va, show 8 * (j + 1) = 8 + 8 * j by omega, Nat.pow_add]
    have h2 := Nat.mul_le_mul_right (2 ^ (8 * j)) (show l.getD j 0 ≤ 255 by omega)
    omega

theorem va_or (l : List Nat) (hl : ∀ c ∈ l, c < 256) (j c : Nat) (hj : j < 8) (hc : l[j]? = some c) : bits .or .u64 (va l j : Int) (IntKind.u64.wrap ((c : Int) * 2 ^ (8 * j))) = (va l (j + 1) : Int) := by
  have h1 := va_lt l hl j
  have h2 := va_lt l hl (j + 1)
  have e : va l (j + 1) = va l j + c * 2 ^ (8 * j) := by rw [va, List.getD_eq_getElem?_getD, hc]; rfl
  have h3 : va l (j + 1) < 2 ^ 64 := Nat.lt_of_lt_of_le h2 (Nat.pow_le_pow_right (by omega) (by omega))
  rw [e] at h3
  have hw : IntKind.u64.wrap ((c : Int) * 2 ^ (8 * j)) = ((c * 2 ^ (8 * j) : Nat) : Int) := by
    have e1 : (c : Int) * 2 ^ (8 * j) = ((c * 2 ^ (8 * j) : Nat) : Int) := by simp
    rw [e1]
    generalize c * 2 ^ (8 * j) = m at *
    simp [IntKind.wrap, IntKind.signed, IntKind.bits]
    omega
  rw [hw, or64 _ _ _ h1 h3, e]

set_option maxRecDepth 100000 in
theorem firstPart_any (w : World) (b off n cap : Nat) (l : List Nat) (hl : ∀ c ∈ l, c < 256) (h8 : 8 ≤ l.length) (hn : n = l.length) (hcap : n ≤ cap) (hm : cap ≤ 9223372036854775807) (h : ∀ (i c : Nat), l[i]? = some c → w.cell? ⟨b, off + i, none⟩ = some (.int .u8 (c : Int))) :
    Calls Tryz.prog 156 #[.slice (some ⟨b, off, none⟩) n cap] w fun e w' => e = .returned (.float .f64 (va l 8)) ∧ w' = w := by
  have hf := run_from (va l 8)
  have H : Hid (∀ (i c : Nat), l[i]? = some c → w.cell? ⟨b, off + i, none⟩ = some (.int .u8 (c : Int))) := h
  have hn8 : 8 ≤ n := by omega
  have HN : Hid (n = l.length) := hn
  clear h hn
  go_enter Tryz.func156, Tryz.ntmps156
  go_wp2_with fail
  go_loop [3, 5] (fun m i => ∃ (j : Nat), m = .int .u64 (va l j : Int) ∧ i = .int .i64 (j : Int) ∧ j ≤ 8) (fun _ i => 8 - (intOf i).toNat)
  case atStart => exact ⟨0, rfl, rfl, by omega⟩
  case round =>
    obtain ⟨j, rfl, rfl, hj⟩ := hrel
    by_cases hlt : j < 8
    · obtain ⟨c, hc⟩ : ∃ c, l[j]? = some c := ⟨_, List.getElem?_eq_getElem (by omega)⟩
      have hcell := H.out j c hc
      have hc256 : c < 256 := hl c (List.mem_of_getElem? hc)
      have ho := va_or l hl j c hlt hc
      have hv := Nat.lt_of_lt_of_le (va_lt l hl j) (Nat.pow_le_pow_right (show 0 < 2 by omega) (show 8 * j ≤ 64 by omega))
      clear hc
      obtain ⟨m', hm'⟩ : ∃ m', va l (j + 1) = m' := ⟨_, rfl⟩
      rw [hm'] at ho
      have HM : Hid (va l (j + 1) = m') := hm'
      clear hm'
      generalize va l j = m0 at *
      go_wp2_with fail
      go_round
      case rel => exact ⟨j + 1, by rw [HM.out], by go_num, by omega⟩
      case measure => simp [intOf]; omega
    · have : j = 8 := by omega
      subst this
      go_wp2_with fail
      go_ret
      exact ⟨rfl, rfl⟩
end Go.Proofs.YthncdbobjeeeaaaGreatDoor
