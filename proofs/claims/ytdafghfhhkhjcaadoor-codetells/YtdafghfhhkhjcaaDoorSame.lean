/- Whether two rows of instructions are the same; and what 'known' answers. -/
import Derived.Test.YtdafghfhhkhjcaaDoorDocGet
import Derived.BigRegion
namespace Go.Proofs.YtdafghfhhkhjcaaDoor
open Go.ChangeShapes Go.WideShapes Go.ChangeAt Go.RowKit

theorem list_ne {l m : List (Int × Int)} (k : Nat) (h : l[k]? ≠ m[k]?) : decide (l = m) = false := by
  rw [decide_eq_false_iff_not]
  intro e
  exact h (by rw [e])

theorem take_eq {l m : List (Int × Int)} (k : Nat) (x : Int × Int) (h : l.take k = m.take k) (h1 : l[k]? = some x) (h2 : m[k]? = some x) : l.take (k + 1) = m.take (k + 1) := by
  rw [take_next l k x h1, take_next m k x h2, h]

set_option maxRecDepth 100000 in
theorem same_any (w : World) (u v : Value) (l m : List (Int × Int)) (h1 : SlI w u l) (h2 : SlI w v m) :
    Calls Tryd.prog 25 #[u, v] w fun e w' => e = .returned (.bool (decide (l = m))) ∧ Fr no w w' := by
  obtain ⟨ad, cap, rfl, hcap, hmx, hit⟩ := h1
  obtain ⟨ad2, cap2, rfl, hcap2, hmx2, hit2⟩ := h2
  unfold maxLen at hmx hmx2
  have HI : Hid (∀ (i : Nat) (x : Int × Int), l[i]? = some x → ∃ b off, ad = some ⟨b, off, none⟩ ∧ w.cell? ⟨b, off + i * 2, none⟩ = some (.int .i64 x.1) ∧ w.cell? ⟨b, off + i * 2 + 1, none⟩ = some (.int .i64 x.2)) := hit
  have HJ : Hid (∀ (i : Nat) (x : Int × Int), m[i]? = some x → ∃ b off, ad2 = some ⟨b, off, none⟩ ∧ w.cell? ⟨b, off + i * 2, none⟩ = some (.int .i64 x.1) ∧ w.cell? ⟨b, off + i * 2 + 1, none⟩ = some (.int .i64 x.2)) := hit2
  clear hit hit2
  by_cases hlen : l.length = m.length
  · have hlen' : ((l.length : Int) == (m.length : Int)) = true := by simp; omega
    go_enter Tryd.func25, Tryd.ntmps25
    go_wp2_with fail
    go_loopw [5] (fun i wr => ∃ (k : Nat), i = .int .i64 (k : Int) ∧ k ≤ l.length ∧ l.take k = m.take k ∧ Fr no w wr) (fun i _ => l.length - (intOf i).toNat)
    case atStart => exact ⟨0, rfl, Nat.zero_le _, by simp, Fr.refl _ _⟩
    case round =>
      obtain ⟨k, rfl, hk, ht, hf⟩ := hrel
      have HT : Hid (l.take k = m.take k) := ht
      clear ht
      by_cases hlt : k < l.length
      · obtain ⟨⟨x, y⟩, hx⟩ : ∃ x, l[k]? = some x := ⟨_, List.getElem?_eq_getElem hlt⟩
        obtain ⟨⟨x2, y2⟩, hx2⟩ : ∃ x, m[k]? = some x := ⟨_, List.getElem?_eq_getElem (by omega)⟩
        obtain ⟨b, off, rfl, c0', c1'⟩ := HI.out k _ hx
        obtain ⟨b2, off2, rfl, d0', d1'⟩ := HJ.out k _ hx2
        have c0 := hf.cell c0' (fun f => f)
        have c1 := hf.cell c1' (fun f => f)
        have d0 := hf.cell d0' (fun f => f)
        have d1 := hf.cell d1' (fun f => f)
        have HX : Hid (l[k]? = some (x, y)) := hx
        have HX2 : Hid (m[k]? = some (x2, y2)) := hx2
        clear c0' c1' d0' d1' hx hx2
        simp only [] at c0 c1 d0 d1
        have hlt2 : k < m.length := by omega
        by_cases e1 : x = x2
        · subst e1
          by_cases e2 : y = y2
          · subst e2
            have HN : Hid (l.take (k + 1) = m.take (k + 1)) := take_eq k _ HT.out HX.out HX2.out
            go_wp2_with fail
            go_region
            go_wp2_with fail
            go_roundw
            case rel => exact ⟨k + 1, by go_num, by omega, HN.out, hf.drew⟩
            case measure => simp [intOf]; omega
          · have q2 : (y == y2) = false := by simpa using e2
            have E : Hid (decide (l = m) = false) := list_ne k (by rw [HX.out, HX2.out]; simp [e2])
            go_wp2_with fail
            go_region
            go_wp2_with fail
            go_ret
            exact ⟨by rw [E.out]; rfl, hf.drew⟩
        · have q1 : (x == x2) = false := by simpa using e1
          have E : Hid (decide (l = m) = false) := list_ne k (by rw [HX.out, HX2.out]; simp [e1])
          go_wp2_with fail
          go_region
          go_wp2_with fail
          go_ret
          exact ⟨by rw [E.out]; rfl, hf.drew⟩
      · have hkl : k = l.length := by omega
        subst hkl
        have E : Hid (decide (l = m) = true) := by
          show _ = _
          rw [decide_eq_true_iff]
          have := HT.out
          rwa [List.take_length, hlen, List.take_length] at this
        go_wp2_with fail
        go_ret
        exact ⟨by rw [E.out]; rfl, hf⟩
  · have hlen' : ((l.length : Int) == (m.length : Int)) = false := by simp; omega
    have E : Hid (decide (l = m) = false) := by show _ = _; rw [decide_eq_false_iff_not]; intro e; exact hlen (by rw [e])
    go_enter Tryd.func25, Tryd.ntmps25
    go_wp2_with fail
    go_ret
    exact ⟨by rw [E.out]; rfl, Fr.refl _ _⟩
end Go.Proofs.YtdafghfhhkhjcaaDoor
