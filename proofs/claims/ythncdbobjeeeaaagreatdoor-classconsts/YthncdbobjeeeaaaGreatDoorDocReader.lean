/- What the document's own reader answers: Uint, Int, Count, Text, Byte. -/
import Derived.Test.YthncdbobjeeeaaaGreatDoorRef
namespace Go.Proofs.YthncdbobjeeeaaaGreatDoor
open Go.ChangeShapes Go.WideShapes Go.ChangeAt Go.RowKit

theorem and_127 (c : Nat) (h : c < 256) : bits .and .u8 (c : Int) 127 = (c : Int) % 128 := by
  have key : ∀ d : Fin 256, d.val &&& 127 = d.val % 128 := by decide +kernel
  have h1 := u8_and_nat c 127 h (by omega)
  rw [key ⟨c, h⟩] at h1
  simpa using h1

set_option maxRecDepth 100000 in
theorem docUint_none (w : World) (p : Nat) (ad : Option Addr) (cap : Nat) (h1 : w.heap[p]? = some (.cells #[.slice ad 0 cap] 78 (0, 0))) :
    Calls Tryz.prog 131 #[.pointer (some ⟨p, 0, none⟩)] w fun e w' => e = .returned (.tuple #[.int .u64 0, .int .i64 30]) ∧ w' = w := by
  have hc := cell_of_one h1
  clear h1
  go_enter Tryz.func131, Tryz.ntmps131
  go_wp2_with fail
  go_loop [4, 5] (fun m i => m = .int .u64 0 ∧ i = .int .i64 0) (fun _ _ => 0)
  case atStart => exact ⟨rfl, rfl⟩
  case round =>
    obtain ⟨rfl, rfl⟩ := hrel
    go_wp2_with fail
    go_ret2
    exact ⟨rfl, rfl⟩

set_option maxRecDepth 100000 in
set_option maxHeartbeats 2000000 in
theorem docUint_some (w : World) (p : Nat) (l : List Nat) (h : Rs 78 w p l) (hl : ∀ c ∈ l, c < 256) (hb : l.length ≤ 1099511627776) :
    Calls Tryz.prog 131 #[.pointer (some ⟨p, 0, none⟩)] w fun e w' => e = .returned (.tuple #[.int .u64 ((rd l 0 0).1 : Int), .int .i64 ((rd l 0 0).2.1 : Int)]) ∧ Rs 78 w' p (l.drop (rd l 0 0).2.2) ∧ Fr (fun q => q = p) w w' := by
  have hR := h
  obtain ⟨b, off, cap, h1, h2, h3, h4⟩ := h
  have hc := cell_of_one h1
  have hz := free_of_one h1
  have hM : Hid (∀ k off', k ≤ l.length → (cap ≠ k → off' = off + k) → Rs 78 (w.setCell ⟨p, 0, none⟩ (.slice (some ⟨b, off', none⟩) (l.length - k) (cap - k))) p (l.drop k) ∧ Fr (fun q => q = p) w (w.setCell ⟨p, 0, none⟩ (.slice (some ⟨b, off', none⟩) (l.length - k) (cap - k)))) :=
    fun k off' hk ho => Rs.moved h1 h2 h3 h4 hk ho
  unfold maxLen at h3
  have H4 : Hid (∀ (i c : Nat), l[i]? = some c → w.cell? ⟨b, off + i, none⟩ = some (.int .u8 (c : Int))) := h4
  clear h1 h4
  go_enter Tryz.func131, Tryz.ntmps131
  go_wp2_with fail
  go_loop [4, 5] (fun m i => ∃ (j acc : Nat), m = .int .u64 (acc : Int) ∧ i = .int .i64 (j : Int) ∧ j ≤ 9 ∧ j ≤ l.length ∧ Hid (acc < 2 ^ (7 * j)) ∧ Hid (rd (l.drop j) j acc = rd l 0 0)) (fun _ i => 10 - (intOf i).toNat)
  case atStart => exact ⟨0, 0, rfl, rfl, by omega, by omega, by show 0 < 2 ^ (7 * 0); omega, rfl⟩
  case round =>
    obtain ⟨i, acc, rfl, rfl, hi, hil, HA, HR⟩ := hrel
    by_cases hend : i = l.length
    · have hlt : ¬ i < l.length := by omega
      go_wp2_with fail
      go_ret2
      have e : rd l 0 0 = (0, 30, 0) := by rw [← HR.out, hend]; simp [rd]
      rw [e]
      exact ⟨rfl, hR, Fr.refl _ _⟩
    · obtain ⟨c, hcl⟩ : ∃ c, l[i]? = some c := ⟨_, List.getElem?_eq_getElem (by omega)⟩
      have hcell := H4.out i c hcl
      have hc256 : c < 256 := hl c (List.mem_of_getElem? hcl)
      have hd : l.drop i = c :: l.drop (i + 1) := by
        have hlt : i < l.length := by omega
        rw [List.drop_eq_getElem_cons hlt]
        rw [List.getElem?_eq_getElem hlt] at hcl
        simp at hcl
        rw [hcl]
      have HD : Hid (rd l 0 0 = rd (c :: l.drop (i + 1)) i acc) := by show _ = _; rw [← HR.out, hd]
      clear hcl hd HR
      have hlt : i < l.length := by omega
      have ha7 := and_127 c hc256
      by_cases h9 : i = 9 ∧ c ≠ 1
      · obtain ⟨h9, h1⟩ := h9
        subst h9
        have h1' : ((c : Int) == 1) = false := by simp; omega
        go_wp2_with fail
        go_ret2
        have e : rd l 0 0 = (0, 31, 0) := by rw [HD.out]; simp [rd, h1]
        rw [e]
        exact ⟨rfl, hR, Fr.refl _ _⟩
      · have h9' : i = 9 → c % 128 ≤ 1 := fun h => by
          have : c = 1 := Classical.byContradiction fun h' => h9 ⟨h, h'⟩
          omega
        obtain ⟨ho, hlt64, hs⟩ := or64w acc c i hi HA.out h9'
        obtain ⟨m, hm⟩ : ∃ m, acc + c % 128 * 2 ^ (7 * i) = m := ⟨_, rfl⟩
        rw [hm] at ho hlt64 hs
        have HM : Hid (acc + c % 128 * 2 ^ (7 * i) = m) := hm
        have HS : Hid (i < 9 → m < 2 ^ (7 * (i + 1))) := hs
        clear hm hs h9'
        by_cases hz0 : 0 < i ∧ c = 0
        · obtain ⟨hz1, hz2⟩ := hz0
          subst hz2
          have hi9 : i ≠ 9 := fun h => h9 ⟨h, by omega⟩
          have h10 : ((i : Int) == 9) = false := by simp; omega
          clear h9
          go_wp2_with fail
          go_ret2
          have e : rd l 0 0 = (0, 31, 0) := by rw [HD.out]; simp [rd, hi9, hz1]
          rw [e]
          exact ⟨rfl, hR, Fr.refl _ _⟩
        · have H9 : Hid (¬ (i = 9 ∧ c ≠ 1)) := h9
          have HZ : Hid (¬ (0 < i ∧ c = 0)) := hz0
          have A7 : Hid (bits .and .u8 (c : Int) 127 = (c : Int) % 128) := ha7
          have fin : Hid (c < 128 → ∀ w' : World, Rs 78 w' p (l.drop (i + 1)) ∧ Fr (fun q => q = p) w w' → (Ending.returned (.tuple #[.int .u64 (m : Int), .int .i64 0]) = .returned (.tuple #[.int .u64 ((rd l 0 0).1 : Int), .int .i64 ((rd l 0 0).2.1 : Int)]) ∧ Rs 78 w' p (l.drop (rd l 0 0).2.2) ∧ Fr (fun q => q = p) w w')) := by
            intro h w' a
            have E : rd l 0 0 = (m, 0, i + 1) := by
              rw [HD.out, rd, if_neg H9.out, if_pos (by omega), if_neg HZ.out, ← HM.out, show c % 128 = c by omega]
            rw [E]
            exact ⟨rfl, a⟩
          by_cases h128 : c < 128
          · have hM1 : Hid (cap = i + 1 → Rs 78 (w.setCell ⟨p, 0, none⟩ (.slice (some ⟨b, off, none⟩) (l.length - (i + 1)) 0)) p (l.drop (i + 1)) ∧ Fr (fun q => q = p) w (w.setCell ⟨p, 0, none⟩ (.slice (some ⟨b, off, none⟩) (l.length - (i + 1)) 0))) := fun hck => by
              have M := hM.out (i + 1) off (by omega) (fun h => absurd hck h)
              rw [show cap - (i + 1) = 0 by omega] at M
              exact M
            have hM2 : Hid (Rs 78 (w.setCell ⟨p, 0, none⟩ (.slice (some ⟨b, off + (i + 1), none⟩) (l.length - (i + 1)) (cap - (i + 1)))) p (l.drop (i + 1)) ∧ Fr (fun q => q = p) w (w.setCell ⟨p, 0, none⟩ (.slice (some ⟨b, off + (i + 1), none⟩) (l.length - (i + 1)) (cap - (i + 1))))) :=
              hM.out (i + 1) (off + (i + 1)) (by omega) (fun _ => rfl)
            by_cases h9i : i = 9
            · have hc1 : c = 1 := Classical.byContradiction fun h' => h9 ⟨h9i, h'⟩
              subst hc1 h9i
              have ha1 : bits .and .u8 1 127 = 1 := A7.out
              have ho' : bits .or .u64 (acc : Int) 9223372036854775808 = (m : Int) := ho
              clear h9 hz0
              by_cases hck : cap = 10
              · have M := hM1.out hck
                go_wp2_with fail
                go_ret2
                exact fin.out (by omega) _ M
              · have M := hM2.out
                go_wp2_with fail
                go_ret2
                exact fin.out (by omega) _ M
            · have h10 : ((i : Int) == 9) = false := by simp; omega
              clear h9
              by_cases hi0 : 0 < i
              · have hc0 : ((c : Int) == 0) = false := by simp; omega
                clear hz0
                by_cases hck : cap = i + 1
                · have M := hM1.out hck
                  go_wp2_with fail
                  go_ret2
                  exact fin.out (by omega) _ M
                · have M := hM2.out
                  go_wp2_with fail
                  go_ret2
                  exact fin.out (by omega) _ M
              · have hi1 : ¬ (0 : Int) < (i : Int) := by omega
                clear hz0
                by_cases hck : cap = i + 1
                · have M := hM1.out hck
                  go_wp2_with fail
                  go_ret2
                  exact fin.out (by omega) _ M
                · have M := hM2.out
                  go_wp2_with fail
                  go_ret2
                  exact fin.out (by omega) _ M
          · have hi9 : i < 9 := by omega
            have h10 : ((i : Int) == 9) = false := by simp; omega
            have hc0 : ((c : Int) == 0) = false := by simp; omega
            have rel' : Hid (rd (l.drop (i + 1)) (i + 1) m = rd l 0 0) := by
              show _ = _
              rw [HD.out, rd, if_neg H9.out, if_neg (by omega), ← HM.out, show c % 128 = c - 128 by omega]
            clear h9 hz0
            by_cases hi0 : 0 < i
            · go_wp2_with fail
              go_round
              case rel => exact ⟨i + 1, m, by simp, by go_num, by omega, by omega, HS.out hi9, rel'⟩
              case measure => simp [intOf]; omega
            · have hi1 : ¬ (0 : Int) < (i : Int) := by omega
              go_wp2_with fail
              go_round
              case rel => exact ⟨i + 1, m, by simp, by go_num, by omega, by omega, HS.out hi9, rel'⟩
              case measure => simp [intOf]; omega
end Go.Proofs.YthncdbobjeeeaaaGreatDoor
