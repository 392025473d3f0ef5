/- What the methods of a reader answer, and where they leave it. -/
import Derived.Test.YthncdbobjeeeaaaGreatDoorMade
namespace Go.Proofs.YthncdbobjeeeaaaGreatDoor
open Go.ChangeShapes Go.WideShapes Go.ChangeAt Go.RowKit

theorem or64w (acc c i : Nat) (hi : i ≤ 9) (ha : acc < 2 ^ (7 * i)) (h9 : i = 9 → c % 128 ≤ 1) :
    bits .or .u64 (acc : Int) (IntKind.u64.wrap ((c : Int) % 128 * 2 ^ (7 * i))) = ((acc + c % 128 * 2 ^ (7 * i) : Nat) : Int) ∧ acc + c % 128 * 2 ^ (7 * i) < 2 ^ 64 ∧ (i < 9 → acc + c % 128 * 2 ^ (7 * i) < 2 ^ (7 * (i + 1))) := by
  have hs : i < 9 → acc + c % 128 * 2 ^ (7 * i) < 2 ^ (7 * (i + 1)) := by
    intro h
    rw [show 7 * (i + 1) = 7 + 7 * i by omega, Nat.pow_add]
    have h1 : c % 128 ≤ 127 := by omega
    have h2 := Nat.mul_le_mul_right (2 ^ (7 * i)) h1
    omega
  have hl : acc + c % 128 * 2 ^ (7 * i) < 2 ^ 64 := by
    by_cases h : i < 9
    · exact Nat.lt_of_lt_of_le (hs h) (Nat.pow_le_pow_right (by omega) (by omega))
    · have h9' : i = 9 := by omega
      subst h9'
      have h1 := Nat.mul_le_mul_right (2 ^ (7 * 9)) (h9 rfl)
      omega
  refine ⟨?_, hl, hs⟩
  have e : IntKind.u64.wrap ((c : Int) % 128 * 2 ^ (7 * i)) = ((c % 128 * 2 ^ (7 * i) : Nat) : Int) := by
    have e1 : (c : Int) % 128 * 2 ^ (7 * i) = ((c % 128 * 2 ^ (7 * i) : Nat) : Int) := by simp
    rw [e1]
    generalize c % 128 * 2 ^ (7 * i) = m at *
    simp [IntKind.wrap, IntKind.signed, IntKind.bits]
    omega
  rw [e]
  exact or64 _ _ _ ha hl

/-- A reader at block p, not of nil, whose bytes left are l. -/
def Rs (t : TypeId) (w : World) (p : Nat) (l : List Nat) : Prop :=
  ∃ b off cap, w.heap[p]? = some (.cells #[.slice (some ⟨b, off, none⟩) l.length cap] t (0, 0)) ∧ l.length ≤ cap ∧ cap ≤ maxLen ∧ ∀ (i c : Nat), l[i]? = some c → w.cell? ⟨b, off + i, none⟩ = some (.int .u8 (c : Int))

theorem Rs.rd {t : TypeId} {w : World} {p : Nat} {l : List Nat} (h : Rs t w p l) : Rd t w p l := by
  obtain ⟨b, off, cap, h1, h2, h3, h4⟩ := h
  exact ⟨_, h1, .inl ⟨b, off, cap, rfl, h2, h3, h4⟩⟩

theorem Rd.rs {t : TypeId} {w : World} {p : Nat} {l : List Nat} (h : Rd t w p l) (hl : l ≠ []) : Rs t w p l := by
  obtain ⟨v, h1, ⟨b, off, cap, rfl, h2, h3, h4⟩ | ⟨h, _⟩⟩ := h
  · exact ⟨b, off, cap, h1, h2, h3, h4⟩
  · exact absurd h hl

/-- A cell that holds a byte lies in no block of one slice. -/
theorem cell_apart {w : World} {p : Nat} {o : Option Addr} {n cap : Nat} {t : TypeId} (h : w.heap[p]? = some (.cells #[.slice o n cap] t (0, 0))) {k : Addr} {c : Int} (hk : w.cell? k = some (.int .u8 c)) : k.block ≠ p := by
  intro e
  unfold World.cell? at hk
  rw [e, h] at hk
  simp only [] at hk
  obtain ⟨kb, ko, ke⟩ := k
  cases ko with
  | zero => simp at hk
  | succ n => simp at hk

theorem Rd.apart {t : TypeId} {w : World} {p : Nat} {l : List Nat} (h : Rd t w p l) (k : Addr) (c : Int) (hk : w.cell? k = some (.int .u8 c)) : ¬ (k.block = p) := by
  obtain ⟨v, h1, h2⟩ := h
  obtain ⟨o, cap, rfl, _⟩ := h2.shape
  exact cell_apart h1 hk

theorem Rs.moved {t : TypeId} {w : World} {p k b off cap off' : Nat} {l : List Nat} (h1 : w.heap[p]? = some (.cells #[.slice (some ⟨b, off, none⟩) l.length cap] t (0, 0))) (h2 : l.length ≤ cap) (h3 : cap ≤ maxLen)
    (h4 : ∀ (i c : Nat), l[i]? = some c → w.cell? ⟨b, off + i, none⟩ = some (.int .u8 (c : Int))) (hk : k ≤ l.length) (ho : cap ≠ k → off' = off + k) :
    Rs t (w.setCell ⟨p, 0, none⟩ (.slice (some ⟨b, off', none⟩) (l.length - k) (cap - k))) p (l.drop k) ∧ Fr (fun q => q = p) w (w.setCell ⟨p, 0, none⟩ (.slice (some ⟨b, off', none⟩) (l.length - k) (cap - k))) := by
  have hf : Fr (fun q => q = p) w (w.setCell ⟨p, 0, none⟩ (.slice (some ⟨b, off', none⟩) (l.length - k) (cap - k))) := (Fr.refl (fun q => q = p) w).setCell (p := ⟨p, 0, none⟩) (fun _ => rfl) _
  refine ⟨⟨b, off', cap - k, ?_, by rw [List.length_drop]; omega, by omega, fun i c hi => ?_⟩, hf⟩
  · rw [List.length_drop]
    exact one_setCell h1
  · rw [List.getElem?_drop] at hi
    have hlt : k + i < l.length := by
      rcases Nat.lt_or_ge (k + i) l.length with h | h
      · exact h
      · rw [List.getElem?_eq_none h] at hi; simp at hi
    have hc := h4 _ _ hi
    have ho' := ho (by omega)
    rw [show off' + i = off + (k + i) by omega]
    exact hf.cell hc (fun e => cell_apart h1 hc e)

theorem skip_any (w : World) (p k : Nat) (l : List Nat) (h : Rs 176 w p l) (hk : k ≤ l.length) :
    Calls Tryz.prog 153 #[.pointer (some ⟨p, 0, none⟩), .int .i64 (k : Int)] w fun e w' => e = .returned (.tuple #[]) ∧ Rs 176 w' p (l.drop k) ∧ Fr (fun q => q = p) w w' := by
  obtain ⟨b, off, cap, h1, h2, h3, h4⟩ := h
  have hc := cell_of_one h1
  have hz := free_of_one h1
  have hk' : k ≤ cap := Nat.le_trans hk h2
  unfold maxLen at h3
  by_cases hck : cap = k
  · have M := Rs.moved (off' := off) h1 h2 h3 h4 hk (fun h => absurd hck h)
    rw [show cap - k = 0 by omega] at M
    go_enter Tryz.func153, Tryz.ntmps153
    go_wp2_with fail
    go_end0
    exact ⟨rfl, M⟩
  · go_enter Tryz.func153, Tryz.ntmps153
    go_wp2_with fail
    go_end0
    exact ⟨rfl, Rs.moved h1 h2 h3 h4 hk (fun _ => rfl)⟩

theorem rd_le (l : List Nat) (i n : Nat) : (rd l i n).2.1 = 0 → i < (rd l i n).2.2 ∧ (rd l i n).2.2 ≤ i + l.length := by
  induction l generalizing i n with
  | nil => intro h; simp [rd] at h
  | cons c cs ih =>
    unfold rd
    split
    · intro h; simp at h
    · split
      · split
        · intro h; simp at h
        · intro _; simp
      · intro h
        have := ih _ _ h
        simp only [List.length_cons]
        omega

theorem rd_err (l : List Nat) (i n : Nat) : (rd l i n).2.1 ≠ 0 → rd l i n = (0, (rd l i n).2.1, 0) := by
  induction l generalizing i n with
  | nil => intro _; simp [rd]
  | cons c cs ih =>
    unfold rd
    split
    · intro _; simp
    · split
      · split
        · intro _; simp
        · intro h; simp at h
      · intro h
        exact ih _ _ h

def ReadAt (w0 : World) (p : Nat) (l : List Nat) (a : Act) (w : World) : Prop :=
  ∃ (i acc : Nat) (u1 u2 u3 u4 u5 u6 u7 u8 u9 u10 u11 u12 u13 u14 u15 u16 u17 u18 u19 u20 u21 u22 u23 u24 u25 u26 u27 u28 u29 u30 u31 u32 u33 u34 u35 u36 u37 u38 u39 u40 u41 u42 u43 u44 u45 u46 u47 u48 : Value),
    a = { tmps := #[.pointer (some ⟨p, 0, none⟩), u1, u2, u3, u4, u5, u6, u7, u8, u9, u10, u11, u12, u13, u14, u15, u16, u17, u18, u19, u20, u21, u22, u23, u24, u25, u26, u27, u28, u29, u30, u31, u32, u33, u34, u35, u36, u37, u38, u39, u40, u41, u42, u43, u44, u45, u46, u47, u48], defers := [] } ∧ u4 = .int .u64 (acc : Int) ∧ u5 = .int .i64 (i : Int) ∧ w = w0 ∧
    i ≤ 9 ∧ i ≤ l.length ∧ acc < 2 ^ (7 * i) ∧ rd (l.drop i) i acc = rd l 0 0

set_option maxRecDepth 100000 in
set_option maxHeartbeats 1000000 in
theorem readUint_some (w : World) (p : Nat) (l : List Nat) (h : Rs 176 w p l) (hl : ∀ c ∈ l, c < 256) (hb : l.length ≤ 1099511627776) :
    Calls Tryz.prog 154 #[.pointer (some ⟨p, 0, none⟩)] w fun e w' => e = .returned (.tuple #[.int .u64 ((rd l 0 0).1 : Int), .int .i64 ((rd l 0 0).2.1 : Int)]) ∧ Rs 176 w' p (l.drop (rd l 0 0).2.2) ∧ Fr (fun q => q = p) w w' := by
  have hR := h
  obtain ⟨b, off, cap, h1, h2, h3, h4⟩ := h
  have hc := cell_of_one h1
  unfold maxLen at h3
  have H1 : Hid (w.heap[p]? = some (.cells #[.slice (some ⟨b, off, none⟩) l.length cap] 176 (0, 0))) := h1
  have H4 : Hid (∀ (i c : Nat), l[i]? = some c → w.cell? ⟨b, off + i, none⟩ = some (.int .u8 (c : Int))) := h4
  clear h1 h4
  go_enter Tryz.func154, Tryz.ntmps154
  go_wp2_with fail
  refine wp_label_one 0 (ReadAt w p l) (fun a' _ => 10 - (intOf (a'.tmps.getD 5 undef)).toNat) rfl ?_ ?_
  · intro K h0 hr hn'
    go_wp2_with fail
    go_step3
    rename_i hk
    exact hk _ _ (h0 _ _ ⟨0, 0, _, _, _, _, _, _, _, _, _, _, _, _, _, _, _, _, _, _, _, _, _, _, _, _, _, _, _, _, _, _, _, _, _, _, _, _, _, _, _, _, _, _, _, _, _, _, _, _, rfl, rfl, rfl, rfl, by omega, by omega, by simp, rfl⟩)
  · rintro a' w' ⟨i, acc, u1, u2, u3, u4, u5, u6, u7, u8, u9, u10, u11, u12, u13, u14, u15, u16, u17, u18, u19, u20, u21, u22, u23, u24, u25, u26, u27, u28, u29, u30, u31, u32, u33, u34, u35, u36, u37, u38, u39, u40, u41, u42, u43, u44, u45, u46, u47, u48, rfl, rfl, rfl, rfl, hi, hil, ha, hrd⟩ K hj hr hn'
    have HA : Hid (acc < 2 ^ (7 * i)) := ha
    have HR : Hid (rd (l.drop i) i acc = rd l 0 0) := hrd
    clear ha hrd
    by_cases hend : i = l.length
    · go_wp2_with fail
      refine hr _ _ ?_
      go_ret2
      have e : rd l 0 0 = (0, 30, 0) := by rw [← HR.out, hend]; simp [rd]
      rw [e]
      exact ⟨rfl, hR, Fr.refl _ _⟩
    · obtain ⟨c, hcl⟩ : ∃ c, l[i]? = some c := ⟨_, List.getElem?_eq_getElem (by omega)⟩
      have hcell := H4.out i c hcl
      have hc256 : c < 256 := hl c (List.mem_of_getElem? hcl)
      have hd : l.drop i = c :: l.drop (i + 1) := by
        have hlt : i < l.length := by omega
        rw [List.drop_eq_getElem_cons hlt]
        rw [List.getElem?_eq_getElem hlt] at hcl
        simp at hcl
        rw [hcl]
      have HD : Hid (rd l 0 0 = rd (c :: l.drop (i + 1)) i acc) := by show _ = _; rw [← HR.out, hd]
      clear hcl hd HR
      have hne : ((i : Int) == (l.length : Int)) = false := by simp; omega
      by_cases h9 : i = 9 ∧ c ≠ 1
      · obtain ⟨h9, h1⟩ := h9
        subst h9
        have h1' : ((c : Int) == 1) = false := by simp; omega
        go_wp2_with fail
        refine hr _ _ ?_
        go_ret2
        have e : rd l 0 0 = (0, 31, 0) := by rw [HD.out]; simp [rd, h1]
        rw [e]
        exact ⟨rfl, hR, Fr.refl _ _⟩
      · have h9' : i = 9 → c % 128 ≤ 1 := fun h => by
          have : c = 1 := Classical.byContradiction fun h' => h9 ⟨h, h'⟩
          omega
        obtain ⟨ho, hlt, hs⟩ := or64w acc c i hi HA.out h9'
        obtain ⟨m, hm⟩ : ∃ m, acc + c % 128 * 2 ^ (7 * i) = m := ⟨_, rfl⟩
        rw [hm] at ho hlt hs
        have HM : Hid (acc + c % 128 * 2 ^ (7 * i) = m) := hm
        have HS : Hid (i < 9 → m < 2 ^ (7 * (i + 1))) := hs
        clear hm hs h9'
        by_cases h128 : 128 ≤ c
        · have hi9 : i < 9 := by omega
          have H9 := h9
          clear h9
          have h10 : ((i : Int) + 1 == 10) = false := by simp; omega
          go_wp2_with fail
          go_step3
          refine hj _ _ ⟨i + 1, m, _, _, _, _, _, _, _, _, _, _, _, _, _, _, _, _, _, _, _, _, _, _, _, _, _, _, _, _, _, _, _, _, _, _, _, _, _, _, _, _, _, _, _, _, _, _, _, _, rfl, by simp, by simp, rfl, by omega, by omega, HS.out hi9, ?_⟩ ?_
          · rw [HD.out, rd]
            rw [if_neg H9, if_neg (by omega), ← HM.out, show c % 128 = c - 128 by omega]
          · simp [intOf]; omega
        · by_cases hz : 0 < i ∧ c = 0
          · obtain ⟨hz1, hz2⟩ := hz
            subst hz2
            have hi9 : i ≠ 9 := fun h => h9 ⟨h, by omega⟩
            have h10 : ((i : Int) + 1 == 10) = false := by simp; omega
            clear h9
            go_wp2_with fail
            refine hr _ _ ?_
            go_ret2
            have e : rd l 0 0 = (0, 31, 0) := by rw [HD.out]; simp [rd, hi9, hz1]
            rw [e]
            exact ⟨rfl, hR, Fr.refl _ _⟩
          · have e : rd l 0 0 = (m, 0, i + 1) := by
              rw [HD.out, rd, if_neg h9, if_pos (by omega), if_neg hz, ← HM.out, show c % 128 = c by omega]
            have E : Hid (rd l 0 0 = (m, 0, i + 1)) := e
            have hend' : i + 1 ≤ l.length := by omega
            have key : ∀ wz : World, Rs 176 wz p (l.drop (i + 1)) → Fr (fun q => q = p) w' wz → (Ending.returned (.tuple #[.int .u64 (m : Int), .int .i64 0]) = .returned (.tuple #[.int .u64 ((rd l 0 0).1 : Int), .int .i64 ((rd l 0 0).2.1 : Int)]) ∧ Rs 176 wz p (l.drop (rd l 0 0).2.2) ∧ Fr (fun q => q = p) w' wz) := by
              intro wz a1 a2
              rw [E.out]
              exact ⟨rfl, a1, a2⟩
            have KEY : Hid (∀ wz : World, Rs 176 wz p (l.drop (i + 1)) → Fr (fun q => q = p) w' wz → (Ending.returned (.tuple #[.int .u64 (m : Int), .int .i64 0]) = .returned (.tuple #[.int .u64 ((rd l 0 0).1 : Int), .int .i64 ((rd l 0 0).2.1 : Int)]) ∧ Rs 176 wz p (l.drop (rd l 0 0).2.2) ∧ Fr (fun q => q = p) w' wz)) := key
            clear e key
            by_cases h9i : i = 9
            · have hc1 : c = 1 := Classical.byContradiction fun h' => h9 ⟨h9i, h'⟩
              subst hc1 h9i
              clear h9 hz
              have ho' : bits .or .u64 (acc : Int) 9223372036854775808 = (m : Int) := ho
              go_wp2_with fail
              refine (skip_any w' p 10 l hR hend').mono ?_
              rintro e w2 ⟨rfl, hR2, hF2⟩
              go_wp2_with fail
              refine hr _ _ ?_
              go_ret2
              exact KEY.out _ hR2 hF2
            · have h10 : ((i : Int) + 1 == 10) = false := by simp; omega
              clear h9
              by_cases hc0 : c = 0
              · have hi0 : ¬ (1 : Int) < (i : Int) + 1 := by omega
                have hc0' : ((c : Int) == 0) = true := by simp; omega
                clear hz hc0
                go_wp2_with fail
                refine (skip_any w' p (i + 1) l hR hend').mono ?_
                rintro e w2 ⟨rfl, hR2, hF2⟩
                go_wp2_with fail
                refine hr _ _ ?_
                go_ret2
                exact KEY.out _ hR2 hF2
              · have hc0' : ((c : Int) == 0) = false := by simp; omega
                clear hz
                go_wp2_with fail
                refine (skip_any w' p (i + 1) l hR hend').mono ?_
                rintro e w2 ⟨rfl, hR2, hF2⟩
                go_wp2_with fail
                refine hr _ _ ?_
                go_ret2
                exact KEY.out _ hR2 hF2
end Go.Proofs.YthncdbobjeeeaaaGreatDoor
