/- What the methods of a reader answer, and where they leave it. -/
import Derived.Test.YthncdbobjeeeaaaGreatDoorGa
import Derived.Laws.BytesArg
namespace Go.Proofs.YthncdbobjeeeaaaGreatDoor
open Go.ChangeShapes Go.WideShapes Go.ChangeAt Go.RowKit

theorem or64w (acc c i : Nat) (hi : i ≤ 9) (ha : acc < 2 ^ (7 * i)) (h9 : i = 9 → c % 128 ≤ 1) :
    bits .or .u64 (acc : Int) (IntKind.u64.wrap ((c : Int) % 128 * 2 ^ (7 * i))) = ((acc + c % 128 * 2 ^ (7 * i) : Nat) : Int) ∧ acc + c % 128 * 2 ^ (7 * i) < 2 ^ 64 ∧ (i < 9 → acc + c % 128 * 2 ^ (7 * i) < 2 ^ (7 * (i + 1))) := by
  have hs : i < 9 → acc + c % 128 * 2 ^ (7 * i) < 2 ^ (7 * (i + 1)) := by
    intro h
    rw [show 7 * (i + 1) = 7 + 7 * i by omega, Nat.pow_add]
    have h1 : c % 128 ≤ 127 := by omega
    have h2 := Nat.mul_le_mul_right (2 ^ (7 * i)) h1
    omega
  have hl : acc + c % 128 * 2 ^ (7 * i) < 2 ^ 64 := by
    by_cases h : i < 9
    · exact Nat.lt_of_lt_of_le (hs h) (Nat.pow_le_pow_right (by omega) (by omega))
    · have h9' : i = 9 := by omega
      subst h9'
      have h1 := Nat.mul_le_mul_right (2 ^ (7 * 9)) (h9 rfl)
      omega
  refine ⟨?_, hl, hs⟩
  have e : IntKind.u64.wrap ((c : Int) % 128 * 2 ^ (7 * i)) = ((c % 128 * 2 ^ (7 * i) : Nat) : Int) := by
    have e1 : (c : Int) % 128 * 2 ^ (7 * i) = ((c % 128 * 2 ^ (7 * i) : Nat) : Int) := by simp
    rw [e1]
    generalize c % 128 * 2 ^ (7 * i) = m at *
    simp [IntKind.wrap, IntKind.signed, IntKind.bits]
    omega
  rw [e]
  exact or64 _ _ _ ha hl

/-- A reader at block p, not of nil, whose bytes left are l. -/
def Rs (t : TypeId) (w : World) (p : Nat) (l : List Nat) : Prop :=
  ∃ b off cap, w.heap[p]? = some (.cells #[.slice (some ⟨b, off, none⟩) l.length cap] t (0, 0)) ∧ l.length ≤ cap ∧ cap ≤ maxLen ∧ ∀ (i c : Nat), l[i]? = some c → w.cell? ⟨b, off + i, none⟩ = some (.int .u8 (c : Int))

theorem Rs.rd {t : TypeId} {w : World} {p : Nat} {l : List Nat} (h : Rs t w p l) : Rd t w p l := by
  obtain ⟨b, off, cap, h1, h2, h3, h4⟩ := h
  exact ⟨_, h1, .inl ⟨b, off, cap, rfl, h2, h3, h4⟩⟩

theorem Rd.rs {t : TypeId} {w : World} {p : Nat} {l : List Nat} (h : Rd t w p l) (hl : l ≠ []) : Rs t w p l := by
  obtain ⟨v, h1, ⟨b, off, cap, rfl, h2, h3, h4⟩ | ⟨h, _⟩⟩ := h
  · exact ⟨b, off, cap, h1, h2, h3, h4⟩
  · exact absurd h hl

/-- A cell that holds a byte lies in no block of one slice. -/
theorem cell_apart {w : World} {p : Nat} {o : Option Addr} {n cap : Nat} {t : TypeId} (h : w.heap[p]? = some (.cells #[.slice o n cap] t (0, 0))) {k : Addr} {c : Int} (hk : w.cell? k = some (.int .u8 c)) : k.block ≠ p := by
  intro e
  unfold World.cell? at hk
  rw [e, h] at hk
  simp only [] at hk
  obtain ⟨kb, ko, ke⟩ := k
  cases ko with
  | zero => simp at hk
  | succ n => simp at hk

theorem Rd.apart {t : TypeId} {w : World} {p : Nat} {l : List Nat} (h : Rd t w p l) (k : Addr) (c : Int) (hk : w.cell? k = some (.int .u8 c)) : ¬ (k.block = p) := by
  obtain ⟨v, h1, h2⟩ := h
  obtain ⟨o, cap, rfl, _⟩ := h2.shape
  exact cell_apart h1 hk

theorem Rs.moved {t : TypeId} {w : World} {p k b off cap off' : Nat} {l : List Nat} (h1 : w.heap[p]? = some (.cells #[.slice (some ⟨b, off, none⟩) l.length cap] t (0, 0))) (h2 : l.length ≤ cap) (h3 : cap ≤ maxLen)
    (h4 : ∀ (i c : Nat), l[i]? = some c → w.cell? ⟨b, off + i, none⟩ = some (.int .u8 (c : Int))) (hk : k ≤ l.length) (ho : cap ≠ k → off' = off + k) :
    Rs t (w.setCell ⟨p, 0, none⟩ (.slice (some ⟨b, off', none⟩) (l.length - k) (cap - k))) p (l.drop k) ∧ Fr (fun q => q = p) w (w.setCell ⟨p, 0, none⟩ (.slice (some ⟨b, off', none⟩) (l.length - k) (cap - k))) := by
  have hf : Fr (fun q => q = p) w (w.setCell ⟨p, 0, none⟩ (.slice (some ⟨b, off', none⟩) (l.length - k) (cap - k))) := (Fr.refl (fun q => q = p) w).setCell (p := ⟨p, 0, none⟩) (fun _ => rfl) _
  refine ⟨⟨b, off', cap - k, ?_, by rw [List.length_drop]; omega, by omega, fun i c hi => ?_⟩, hf⟩
  · rw [List.length_drop]
    exact one_setCell h1
  · rw [List.getElem?_drop] at hi
    have hlt : k + i < l.length := by
      rcases Nat.lt_or_ge (k + i) l.length with h | h
      · exact h
      · rw [List.getElem?_eq_none h] at hi; simp at hi
    have hc := h4 _ _ hi
    have ho' := ho (by omega)
    rw [show off' + i = off + (k + i) by omega]
    exact hf.cell hc (fun e => cell_apart h1 hc e)

theorem skip_any (w : World) (p k : Nat) (l : List Nat) (h : Rs 176 w p l) (hk : k ≤ l.length) :
    Calls Tryz.prog 153 #[.pointer (some ⟨p, 0, none⟩), .int .i64 (k : Int)] w fun e w' => e = .returned (.tuple #[]) ∧ Rs 176 w' p (l.drop k) ∧ Fr (fun q => q = p) w w' := by
  obtain ⟨b, off, cap, h1, h2, h3, h4⟩ := h
  have hc := cell_of_one h1
  have hz := free_of_one h1
  have hk' : k ≤ cap := Nat.le_trans hk h2
  unfold maxLen at h3
  by_cases hck : cap = k
  · have M := Rs.moved (off' := off) h1 h2 h3 h4 hk (fun h => absurd hck h)
    rw [show cap - k = 0 by omega] at M
    go_enter Tryz.func153, Tryz.ntmps153
    go_wp2_with fail
    go_end0
    exact ⟨rfl, M⟩
  · go_enter Tryz.func153, Tryz.ntmps153
    go_wp2_with fail
    go_end0
    exact ⟨rfl, Rs.moved h1 h2 h3 h4 hk (fun _ => rfl)⟩

theorem rd_le (l : List Nat) (i n : Nat) : (rd l i n).2.1 = 0 → i < (rd l i n).2.2 ∧ (rd l i n).2.2 ≤ i + l.length := by
  induction l generalizing i n with
  | nil => intro h; simp [rd] at h
  | cons c cs ih =>
    unfold rd
    split
    · intro h; simp at h
    · split
      · split
        · intro h; simp at h
        · intro _; simp
      · intro h
        have := ih _ _ h
        simp only [List.length_cons]
        omega

theorem rd_err (l : List Nat) (i n : Nat) : (rd l i n).2.1 ≠ 0 → rd l i n = (0, (rd l i n).2.1, 0) := by
  induction l generalizing i n with
  | nil => intro _; simp [rd]
  | cons c cs ih =>
    unfold rd
    split
    · intro _; simp
    · split
      · split
        · intro _; simp
        · intro h; simp at h
      · intro h
        exact ih _ _ h

def ReadAt (w0 : World) (p : Nat) (l : List Nat) (a : Act) (w : World) : Prop :=
  ∃ (i acc : Nat) (u1 u2 u3 u4 u5 u6 u7 u8 u9 u10 u11 u12 u13 u14 u15 u16 u17 u18 u19 u20 u21 u22 u23 u24 u25 u26 u27 u28 u29 u30 u31 u32 u33 u34 u35 u36 u37 u38 u39 u40 u41 u42 u43 u44 u45 u46 u47 u48 : Value),
    a = { tmps := #[.pointer (some ⟨p, 0, none⟩), u1, u2, u3, u4, u5, u6, u7, u8, u9, u10, u11, u12, u13, u14, u15, u16, u17, u18, u19, u20, u21, u22, u23, u24, u25, u26, u27, u28, u29, u30, u31, u32, u33, u34, u35, u36, u37, u38, u39, u40, u41, u42, u43, u44, u45, u46, u47, u48], defers := [] } ∧ u4 = .int .u64 (acc : Int) ∧ u5 = .int .i64 (i : Int) ∧ w = w0 ∧
    i ≤ 9 ∧ i ≤ l.length ∧ acc < 2 ^ (7 * i) ∧ rd (l.drop i) i acc = rd l 0 0

set_option maxRecDepth 100000 in
set_option maxHeartbeats 1000000 in
theorem readUint_some (w : World) (p : Nat) (l : List Nat) (h : Rs 176 w p l) (hl : ∀ c ∈ l, c < 256) (hb : l.length ≤ 1099511627776) :
    Calls Tryz.prog 154 #[.pointer (some ⟨p, 0, none⟩)] w fun e w' => e = .returned (.tuple #[.int .u64 ((rd l 0 0).1 : Int), .int .i64 ((rd l 0 0).2.1 : Int)]) ∧ Rs 176 w' p (l.drop (rd l 0 0).2.2) ∧ Fr (fun q => q = p) w w' := by
  have hR := h
  obtain ⟨b, off, cap, h1, h2, h3, h4⟩ := h
  have hc := cell_of_one h1
  unfold maxLen at h3
  have H1 : Hid (w.heap[p]? = some (.cells #[.slice (some ⟨b, off, none⟩) l.length cap] 176 (0, 0))) := h1
  have H4 : Hid (∀ (i c : Nat), l[i]? = some c → w.cell? ⟨b, off + i, none⟩ = some (.int .u8 (c : Int))) := h4
  clear h1 h4
  go_enter Tryz.func154, Tryz.ntmps154
  go_wp2_with fail
  refine wp_label_one 0 (ReadAt w p l) (fun a' _ => 10 - (intOf (a'.tmps.getD 5 undef)).toNat) rfl ?_ ?_
  · intro K h0 hr hn'
    go_wp2_with fail
    go_step3
    rename_i hk
    exact hk _ _ (h0 _ _ ⟨0, 0, _, _, _, _, _, _, _, _, _, _, _, _, _, _, _, _, _, _, _, _, _, _, _, _, _, _, _, _, _, _, _, _, _, _, _, _, _, _, _, _, _, _, _, _, _, _, _, _, rfl, rfl, rfl, rfl, by omega, by omega, by simp, rfl⟩)
  · rintro a' w' ⟨i, acc, u1, u2, u3, u4, u5, u6, u7, u8, u9, u10, u11, u12, u13, u14, u15, u16, u17, u18, u19, u20, u21, u22, u23, u24, u25, u26, u27, u28, u29, u30, u31, u32, u33, u34, u35, u36, u37, u38, u39, u40, u41, u42, u43, u44, u45, u46, u47, u48, rfl, rfl, rfl, rfl, hi, hil, ha, hrd⟩ K hj hr hn'
    have HA : Hid (acc < 2 ^ (7 * i)) := ha
    have HR : Hid (rd (l.drop i) i acc = rd l 0 0) := hrd
    clear ha hrd
    by_cases hend : i = l.length
    · go_wp2_with fail
      refine hr _ _ ?_
      go_ret2
      have e : rd l 0 0 = (0, 30, 0) := by rw [← HR.out, hend]; simp [rd]
      rw [e]
      exact ⟨rfl, hR, Fr.refl _ _⟩
    · obtain ⟨c, hcl⟩ : ∃ c, l[i]? = some c := ⟨_, List.getElem?_eq_getElem (by omega)⟩
      have hcell := H4.out i c hcl
      have hc256 : c < 256 := hl c (List.mem_of_getElem? hcl)
      have hd : l.drop i = c :: l.drop (i + 1) := by
        have hlt : i < l.length := by omega
        rw [List.drop_eq_getElem_cons hlt]
        rw [List.getElem?_eq_getElem hlt] at hcl
        simp at hcl
        rw [hcl]
      have HD : Hid (rd l 0 0 = rd (c :: l.drop (i + 1)) i acc) := by show _ = _; rw [← HR.out, hd]
      clear hcl hd HR
      have hne : ((i : Int) == (l.length : Int)) = false := by simp; omega
      by_cases h9 : i = 9 ∧ c ≠ 1
      · obtain ⟨h9, h1⟩ := h9
        subst h9
        have h1' : ((c : Int) == 1) = false := by simp; omega
        go_wp2_with fail
        refine hr _ _ ?_
        go_ret2
        have e : rd l 0 0 = (0, 31, 0) := by rw [HD.out]; simp [rd, h1]
        rw [e]
        exact ⟨rfl, hR, Fr.refl _ _⟩
      · have h9' : i = 9 → c % 128 ≤ 1 := fun h => by
          have : c = 1 := Classical.byContradiction fun h' => h9 ⟨h, h'⟩
          omega
        obtain ⟨ho, hlt, hs⟩ := or64w acc c i hi HA.out h9'
        obtain ⟨m, hm⟩ : ∃ m, acc + c % 128 * 2 ^ (7 * i) = m := ⟨_, rfl⟩
        rw [hm] at ho hlt hs
        have HM : Hid (acc + c % 128 * 2 ^ (7 * i) = m) := hm
        have HS : Hid (i < 9 → m < 2 ^ (7 * (i + 1))) := hs
        clear hm hs h9'
        by_cases h128 : 128 ≤ c
        · have hi9 : i < 9 := by omega
          have H9 := h9
          clear h9
          have h10 : ((i : Int) + 1 == 10) = false := by simp; omega
          go_wp2_with fail
          go_step3
          refine hj _ _ ⟨i + 1, m, _, _, _, _, _, _, _, _, _, _, _, _, _, _, _, _, _, _, _, _, _, _, _, _, _, _, _, _, _, _, _, _, _, _, _, _, _, _, _, _, _, _, _, _, _, _, _, _, rfl, by simp, by simp, rfl, by omega, by omega, HS.out hi9, ?_⟩ ?_
          · rw [HD.out, rd]
            rw [if_neg H9, if_neg (by omega), ← HM.out, show c % 128 = c - 128 by omega]
          · simp [intOf]; omega
        · by_cases hz : 0 < i ∧ c = 0
          · obtain ⟨hz1, hz2⟩ := hz
            subst hz2
            have hi9 : i ≠ 9 := fun h => h9 ⟨h, by omega⟩
            have h10 : ((i : Int) + 1 == 10) = false := by simp; omega
            clear h9
            go_wp2_with fail
            refine hr _ _ ?_
            go_ret2
            have e : rd l 0 0 = (0, 31, 0) := by rw [HD.out]; simp [rd, hi9, hz1]
            rw [e]
            exact ⟨rfl, hR, Fr.refl _ _⟩
          · have e : rd l 0 0 = (m, 0, i + 1) := by
              rw [HD.out, rd, if_neg h9, if_pos (by omega), if_neg hz, ← HM.out, show c % 128 = c by omega]
            have E : Hid (rd l 0 0 = (m, 0, i + 1)) := e
            have hend' : i + 1 ≤ l.length := by omega
            have key : ∀ wz : World, Rs 176 wz p (l.drop (i + 1)) → Fr (fun q => q = p) w' wz → (Ending.returned (.tuple #[.int .u64 (m : Int), .int .i64 0]) = .returned (.tuple #[.int .u64 ((rd l 0 0).1 : Int), .int .i64 ((rd l 0 0).2.1 : Int)]) ∧ Rs 176 wz p (l.drop (rd l 0 0).2.2) ∧ Fr (fun q => q = p) w' wz) := by
              intro wz a1 a2
              rw [E.out]
              exact ⟨rfl, a1, a2⟩
            have KEY : Hid (∀ wz : World, Rs 176 wz p (l.drop (i + 1)) → Fr (fun q => q = p) w' wz → (Ending.returned (.tuple #[.int .u64 (m : Int), .int .i64 0]) = .returned (.tuple #[.int .u64 ((rd l 0 0).1 : Int), .int .i64 ((rd l 0 0).2.1 : Int)]) ∧ Rs 176 wz p (l.drop (rd l 0 0).2.2) ∧ Fr (fun q => q = p) w' wz)) := key
            clear e key
            by_cases h9i : i = 9
            · have hc1 : c = 1 := Classical.byContradiction fun h' => h9 ⟨h9i, h'⟩
              subst hc1 h9i
              clear h9 hz
              have ho' : bits .or .u64 (acc : Int) 9223372036854775808 = (m : Int) := ho
              go_wp2_with fail
              refine (skip_any w' p 10 l hR hend').mono ?_
              rintro e w2 ⟨rfl, hR2, hF2⟩
              go_wp2_with fail
              refine hr _ _ ?_
              go_ret2
              exact KEY.out _ hR2 hF2
            · have h10 : ((i : Int) + 1 == 10) = false := by simp; omega
              clear h9
              by_cases hc0 : c = 0
              · have hi0 : ¬ (1 : Int) < (i : Int) + 1 := by omega
                have hc0' : ((c : Int) == 0) = true := by simp; omega
                clear hz hc0
                go_wp2_with fail
                refine (skip_any w' p (i + 1) l hR hend').mono ?_
                rintro e w2 ⟨rfl, hR2, hF2⟩
                go_wp2_with fail
                refine hr _ _ ?_
                go_ret2
                exact KEY.out _ hR2 hF2
              · have hc0' : ((c : Int) == 0) = false := by simp; omega
                clear hz
                go_wp2_with fail
                refine (skip_any w' p (i + 1) l hR hend').mono ?_
                rintro e w2 ⟨rfl, hR2, hF2⟩
                go_wp2_with fail
                refine hr _ _ ?_
                go_ret2
                exact KEY.out _ hR2 hF2
end Go.Proofs.YthncdbobjeeeaaaGreatDoor

/- What a reader's other methods answer: Left, Byte, Int, Count, Text. -/
namespace Go.Proofs.YthncdbobjeeeaaaGreatDoor
open Go.ChangeShapes Go.WideShapes Go.ChangeAt Go.RowKit

set_option maxRecDepth 100000 in
theorem readUint_none (w : World) (p : Nat) (ad : Option Addr) (cap : Nat) (h1 : w.heap[p]? = some (.cells #[.slice ad 0 cap] 176 (0, 0))) :
    Calls Tryz.prog 154 #[.pointer (some ⟨p, 0, none⟩)] w fun e w' => e = .returned (.tuple #[.int .u64 0, .int .i64 30]) ∧ w' = w := by
  have hc := cell_of_one h1
  clear h1
  go_enter Tryz.func154, Tryz.ntmps154
  go_wp2_with fail
  refine wp_label_one 0 (fun _ _ => False) (fun _ _ => 0) rfl ?_ (fun _ _ h => h.elim)
  intro K h0 hr hn'
  clear h0 hn'
  go_wp2_with fail
  go_step3
  rename_i hk
  refine hk _ _ ?_
  clear hk
  go_wp2_with fail
  go_ret2
  exact ⟨rfl, rfl⟩

theorem readUint_any (w : World) (p : Nat) (l : List Nat) (h : Rd 176 w p l) (hl : ∀ c ∈ l, c < 256) (hb : l.length ≤ 1099511627776) :
    Calls Tryz.prog 154 #[.pointer (some ⟨p, 0, none⟩)] w fun e w' => e = .returned (.tuple #[.int .u64 ((rd l 0 0).1 : Int), .int .i64 ((rd l 0 0).2.1 : Int)]) ∧ Rd 176 w' p (l.drop (rd l 0 0).2.2) ∧
      ((rd l 0 0).2.1 = 0 → Rs 176 w' p (l.drop (rd l 0 0).2.2)) ∧ Fr (fun q => q = p) w w' := by
  by_cases hn : l = []
  · subst hn
    have hR := h
    obtain ⟨v, h1, h2⟩ := h
    obtain ⟨o, cap, rfl, _⟩ := h2.shape
    refine (readUint_none w p o cap h1).mono ?_
    rintro e w' ⟨rfl, rfl⟩
    exact ⟨rfl, hR, fun h => by simp [rd] at h, Fr.refl _ _⟩
  · refine (readUint_some w p l (h.rs hn) hl hb).mono ?_
    rintro e w' ⟨rfl, h1, h2⟩
    exact ⟨rfl, h1.rd, fun _ => h1, h2⟩

theorem left_any (w : World) (p : Nat) (l : List Nat) (h : Rd 176 w p l) :
    Calls Tryz.prog 74 #[.pointer (some ⟨p, 0, none⟩)] w fun e w' => e = .returned (.int .i64 (l.length : Int)) ∧ w' = w := by
  obtain ⟨v, h1, h2⟩ := h
  obtain ⟨o, cap, rfl, _⟩ := h2.shape
  have hc := cell_of_one h1
  clear h1 h2
  go_enter Tryz.func74, Tryz.ntmps74
  go_wp2_with fail
  go_ret
  exact ⟨rfl, rfl⟩

/-- What Byte answers: the byte, the error, how many bytes it has read. -/
def by1 : List Nat → Nat × Nat × Nat
  | [] => (0, 30, 0)
  | c :: _ => (c, 0, 1)

theorem readByte_any (w : World) (p : Nat) (l : List Nat) (h : Rd 176 w p l) :
    Calls Tryz.prog 119 #[.pointer (some ⟨p, 0, none⟩)] w fun e w' => e = .returned (.tuple #[.int .u8 ((by1 l).1 : Int), .int .i64 ((by1 l).2.1 : Int)]) ∧ Rd 176 w' p (l.drop (by1 l).2.2) ∧ Fr (fun q => q = p) w w' := by
  cases l with
  | nil =>
    go_enter Tryz.func119, Tryz.ntmps119
    go_wp2_with fail
    refine (left_any w p [] h).mono ?_
    rintro e w' ⟨rfl, rfl⟩
    go_wp2_with fail
    go_ret2
    exact ⟨rfl, h, Fr.refl _ _⟩
  | cons c cs =>
    have hR := h.rs (by simp)
    have hR' := hR
    obtain ⟨b, off, cap, h1, h2, h3, h4⟩ := hR'
    have hc := cell_of_one h1
    have h0 : w.cell? ⟨b, off, none⟩ = some (.int .u8 (c : Int)) := h4 0 c rfl
    have hne : (((cs.length : Int) + 1) == 0) = false := by simp; omega
    clear h1 h4
    go_enter Tryz.func119, Tryz.ntmps119
    go_wp2_with fail
    refine (left_any w p _ h).mono ?_
    rintro e w' ⟨rfl, rfl⟩
    go_wp2_with fail
    refine (skip_any w' p 1 _ hR (by simp)).mono ?_
    rintro e w2 ⟨rfl, r1, r2⟩
    go_wp2_with fail
    go_ret2
    exact ⟨rfl, r1.rd, r2⟩

theorem and_one (u : Nat) (h : u < 2 ^ 64) : bits .and .u64 (u : Int) 1 = (u : Int) % 2 := by
  have := u64_and_nat u 1 (by omega) (by omega)
  rw [Nat.and_one_is_mod] at this
  simpa using this

theorem unfolded_any (w : World) (u : Nat) (h : u < 2 ^ 64) : Calls Tryz.prog 155 #[.int .u64 (u : Int)] w fun e w' => e = .returned (.int .i64 (unf u)) ∧ w' = w := by
  have ha := and_one u h
  by_cases h1 : u % 2 = 1
  · have hx := xor_neg ((u : Int) / 2) (by omega) (by omega)
    have h1' : ((u : Int) % 2 == 1) = true := by simp; omega
    have E : Hid (unf u = - ((u : Int) / 2) - 1) := by show _ = _; unfold unf; rw [if_pos h1]; omega
    go_enter Tryz.func155, Tryz.ntmps155
    go_wp2_with fail
    go_ret
    exact ⟨by rw [E.out]; rfl, rfl⟩
  · have h1' : ((u : Int) % 2 == 1) = false := by simp; omega
    have E : Hid (unf u = (u : Int) / 2) := by show _ = _; unfold unf; rw [if_neg h1]; omega
    go_enter Tryz.func155, Tryz.ntmps155
    go_wp2_with fail
    go_ret
    exact ⟨by rw [E.out]; rfl, rfl⟩

theorem rd_lt (l : List Nat) (i n : Nat) (hl : ∀ c ∈ l, c < 256) (hi : i ≤ 9) (hn : n < 2 ^ (7 * i)) : (rd l i n).1 < 2 ^ 64 := by
  induction l generalizing i n with
  | nil => simp [rd]
  | cons c cs ih =>
    have hc := hl c (by simp)
    unfold rd
    split
    · simp
    · rename_i h9
      have hb : i < 9 → n + c % 128 * 2 ^ (7 * i) < 2 ^ (7 * (i + 1)) := by
        intro h
        rw [show 7 * (i + 1) = 7 + 7 * i by omega, Nat.pow_add]
        have h1 : c % 128 ≤ 127 := by omega
        have h2 := Nat.mul_le_mul_right (2 ^ (7 * i)) h1
        omega
      split
      · split
        · simp
        · by_cases h : i = 9
          · subst h
            have : c = 1 := Classical.byContradiction fun h' => h9 ⟨rfl, h'⟩
            subst this
            simp at hn ⊢
            omega
          · have := hb (by omega)
            rw [show c % 128 = c by omega] at this
            exact Nat.lt_of_lt_of_le this (Nat.pow_le_pow_right (by omega) (by omega))
      · have h : i ≠ 9 := fun h => h9 ⟨h, by omega⟩
        have := hb (by omega)
        rw [show c % 128 = c - 128 by omega] at this
        exact ih (i + 1) _ (fun c hc => hl c (by simp [hc])) (by omega) this

theorem readInt_any (w : World) (p : Nat) (l : List Nat) (h : Rd 176 w p l) (hl : ∀ c ∈ l, c < 256) (hb : l.length ≤ 1099511627776) :
    Calls Tryz.prog 127 #[.pointer (some ⟨p, 0, none⟩)] w fun e w' => e = .returned (.tuple #[.int .i64 (unf (rd l 0 0).1), .int .i64 ((rd l 0 0).2.1 : Int)]) ∧ Rd 176 w' p (l.drop (rd l 0 0).2.2) ∧ Fr (fun q => q = p) w w' := by
  have hlt := rd_lt l 0 0 hl (by omega) (by omega)
  have U := readUint_any w p l h hl hb
  generalize rd l 0 0 = r at *
  go_enter Tryz.func127, Tryz.ntmps127
  go_wp2_with fail
  refine U.mono ?_
  rintro e w1 ⟨rfl, r1, _, r2⟩
  go_wp2_with fail
  refine (unfolded_any w1 r.1 hlt).mono ?_
  rintro e w2 ⟨rfl, rfl⟩
  go_wp2_with fail
  go_ret2
  exact ⟨rfl, r1, r2⟩

/-- What Count answers: the number, the error, how many bytes it has read. -/
def ct (l : List Nat) (most : Int) : Nat × Nat × Nat := if (rd l 0 0).2.1 ≠ 0 then rd l 0 0 else if most < ((rd l 0 0).1 : Int) then (0, 32, 0) else rd l 0 0

/-- A copy of a reader, at a new block. -/
theorem Rd.copy {w : World} {l : List Nat} {v : Value} (h2 : Sl w v l) : Rd 176 (w.alloc (.cells #[v] 176)) w.heap.size l ∧ Fr no w (w.alloc (.cells #[v] 176)) := by
  have hf : Fr no w (w.alloc (.cells #[v] 176)) := (Fr.refl no w).alloc _ _
  exact ⟨⟨v, heap_alloc_new w _, h2.kept hf (fun _ _ _ f => f)⟩, hf⟩

/-- It is handed back: what the copy at a holds is laid into the block p. -/
theorem Rs.back {w w2 : World} {p a : Nat} {l : List Nat} {v v2 : Value} (h1 : w.heap[p]? = some (.cells #[v] 176 (0, 0))) (ha : w.heap.size ≤ a) (hf : Fr (fun q => q = a) w w2) (hs : ∃ o n c, v = .slice o n c) (h2 : Rs 176 w2 a l)
    (hv : w2.cell? ⟨a, 0, none⟩ = some v2) : Rs 176 (w2.setCell ⟨p, 0, none⟩ v2) p l ∧ Fr (fun q => q = p) w (w2.setCell ⟨p, 0, none⟩ v2) := by
  obtain ⟨o, n, c, rfl⟩ := hs
  have hp : w2.heap[p]? = some (.cells #[.slice o n c] 176 (0, 0)) := hf.heap h1 (fun e => by have := lt_of_heap h1; omega)
  obtain ⟨b, off, cap, g1, g2, g3, g4⟩ := h2
  have e := cell_of_one g1
  rw [hv] at e
  simp only [Option.some.injEq] at e
  subst e
  have hF : Fr (fun q => q = p) w2 (w2.setCell ⟨p, 0, none⟩ (.slice (some ⟨b, off, none⟩) l.length cap)) := (Fr.refl (fun q => q = p) w2).setCell (p := ⟨p, 0, none⟩) (fun _ => rfl) _
  refine ⟨⟨b, off, cap, one_setCell hp, g2, g3, fun i c hi => hF.cell (g4 i c hi) (fun e => cell_apart hp (g4 i c hi) e)⟩, ?_⟩
  exact hf.trans hF (fun i hi e => by omega) (fun _ _ e => e)

theorem readCount_any (w : World) (p : Nat) (l : List Nat) (h : Rd 176 w p l) (hl : ∀ c ∈ l, c < 256) (hb : l.length ≤ 1099511627776) (most : Int) (hm1 : -9223372036854775808 ≤ most) (hm2 : most ≤ 9223372036854775807) :
    Calls Tryz.prog 125 #[.pointer (some ⟨p, 0, none⟩), .int .i64 most] w fun e w' => e = .returned (.tuple #[.int .i64 ((ct l most).1 : Int), .int .i64 ((ct l most).2.1 : Int)]) ∧ Rd 176 w' p (l.drop (ct l most).2.2) ∧
      ((ct l most).2.1 = 0 → Rs 176 w' p (l.drop (ct l most).2.2)) ∧ Fr (fun q => q = p) w w' := by
  have hlt := rd_lt l 0 0 hl (by omega) (by omega)
  have herr := rd_err l 0 0
  have hR := h
  obtain ⟨v, h1, h2⟩ := h
  obtain ⟨o, cap, rfl, _⟩ := h2.shape
  have hc := cell_of_one h1
  obtain ⟨hcp, hfr⟩ := Rd.copy h2
  have U := readUint_any _ w.heap.size l hcp hl hb
  have hW := lt_of_heap h1
  have Hct : Hid (ct l most = if (rd l 0 0).2.1 ≠ 0 then rd l 0 0 else if most < ((rd l 0 0).1 : Int) then (0, 32, 0) else rd l 0 0) := rfl
  generalize ct l most = c at *
  generalize rd l 0 0 = r at *
  obtain ⟨n, x, k⟩ := r
  simp only [] at *
  have keep : ∀ w2 : World, Fr (fun q => q = w.heap.size) (w.alloc (.cells #[.slice o l.length cap] 176)) w2 → Fr (fun q => q = w.heap.size) w w2 ∧ Fr no w w2 := fun w2 h =>
    ⟨hfr.trans h (fun _ _ f => f.elim) (fun _ _ f => f), hfr.trans h (fun _ _ f => f.elim) (fun i hi f => by subst f; exact absurd hi (Nat.lt_irrefl _))⟩
  have KEEP : Hid (∀ w2 : World, Fr (fun q => q = w.heap.size) (w.alloc (.cells #[.slice o l.length cap] 176)) w2 → Fr (fun q => q = w.heap.size) w w2 ∧ Fr no w w2) := keep
  clear keep hfr hcp
  by_cases hx : x = 0
  · subst hx
    by_cases hbig : most < (n : Int)
    · have e : Hid (c = (0, 32, 0)) := by show _ = _; rw [Hct.out, if_neg (by omega), if_pos hbig]
      by_cases hneg : most < 0
      · go_enter Tryz.func125, Tryz.ntmps125
        go_wp2_with fail
        refine U.mono ?_
        rintro e w2 ⟨rfl, r1, r3, r2⟩
        go_wp2_with fail
        go_ret2
        rw [e.out]
        have f := (KEEP.out w2 r2).2
        exact ⟨rfl, hR.kept f (fun f => f) (fun _ _ _ f => f), fun h => by simp at h, f.mono (fun _ _ f => f.elim)⟩
      · go_enter Tryz.func125, Tryz.ntmps125
        go_wp2_with fail
        refine U.mono ?_
        rintro e w2 ⟨rfl, r1, r3, r2⟩
        go_wp2_with fail
        go_ret2
        rw [e.out]
        have f := (KEEP.out w2 r2).2
        exact ⟨rfl, hR.kept f (fun f => f) (fun _ _ _ f => f), fun h => by simp at h, f.mono (fun _ _ f => f.elim)⟩
    · have e : Hid (c = (n, 0, k)) := by show _ = _; rw [Hct.out, if_neg (by omega), if_neg hbig]
      have hneg : ¬ most < 0 := by omega
      go_enter Tryz.func125, Tryz.ntmps125
      go_wp2_with fail
      refine U.mono ?_
      rintro e w2 ⟨rfl, r1, r3, r2⟩
      obtain ⟨b, off, cp, g1, g2⟩ := r3 trivial
      generalize (l.drop k).length = n1 at g1
      have gc := cell_of_one g1
      have hp2 := (KEEP.out w2 r2).2.heap h1 (fun f => f)
      have pc := cell_of_one hp2
      have pf := free_of_one hp2
      clear hp2 g1 g2
      go_wp2_with fail
      go_ret2
      rw [e.out]
      obtain ⟨q1, q2⟩ := Rs.back h1 (Nat.le_refl _) (KEEP.out w2 r2).1 ⟨_, _, _, rfl⟩ (r3 trivial) gc
      exact ⟨rfl, q1.rd, fun _ => q1, q2⟩
  · have e : Hid (c = (0, x, 0)) := by show _ = _; rw [Hct.out, if_pos hx]; exact herr hx
    have hx' : ((x : Int) == 0) = false := by simp; omega
    go_enter Tryz.func125, Tryz.ntmps125
    go_wp2_with fail
    refine U.mono ?_
    rintro e w2 ⟨rfl, r1, r3, r2⟩
    go_wp2_with fail
    go_ret2
    rw [e.out]
    have f := (KEEP.out w2 r2).2
    exact ⟨rfl, hR.kept f (fun f => f) (fun _ _ _ f => f), fun h => absurd h hx, f.mono (fun _ _ f => f.elim)⟩

/-- What Text answers: the bytes, the error, how many bytes it has read. -/
def tx (l : List Nat) (most : Int) : List Nat × Nat × Nat :=
  if (ct l most).2.1 ≠ 0 then ([], (ct l most).2.1, 0) else if (l.drop (ct l most).2.2).length < (ct l most).1 then ([], 30, 0) else ((l.drop (ct l most).2.2).take (ct l most).1, 0, (ct l most).2.2 + (ct l most).1)

theorem conv_text (w : World) (b off k cap : Nat) (l : List Nat) (hk : k ≤ l.length) (h : ∀ (i c : Nat), l[i]? = some c → w.cell? ⟨b, off + i, none⟩ = some (.int .u8 (c : Int))) :
    (convert 22 9 (.slice (some ⟨b, off, none⟩) k cap)).run Tryz.prog w = .ok (.string (bstr (l.take k))) w := by
  have hl : ((l.take k).map (fun c : Nat => (c : Int))).length = k := by simp; omega
  rw [run_convert_bytes_arg (P := Tryz.prog) w 22 5 Tryz.underlying22 Tryz.underlying5 b off k cap ((l.take k).map (fun c : Nat => (c : Int))) hl (fun i hi => by
    have hi' : i < l.length := by omega
    have := h i l[i] (List.getElem?_eq_getElem hi')
    rw [this]
    simp [hi, hi']) 9 Tryz.underlying9]
  unfold strOfNums bstr
  simp [Function.comp_def]

theorem ct_le (l : List Nat) (most : Int) : (ct l most).2.1 = 0 → 0 < (ct l most).2.2 ∧ (ct l most).2.2 ≤ l.length ∧ ((ct l most).1 : Int) ≤ most := by
  have h := rd_le l 0 0
  unfold ct
  split
  · intro h'; contradiction
  · rename_i hx
    split
    · intro h'; simp at h'
    · intro _
      have := h (by omega)
      omega

set_option maxRecDepth 100000 in
theorem readText_any (w : World) (p : Nat) (l : List Nat) (h : Rd 176 w p l) (hl : ∀ c ∈ l, c < 256) (hb : l.length ≤ 1099511627776) (most : Int) (hm1 : -9223372036854775808 ≤ most) (hm2 : most ≤ 9223372036854775807) :
    Calls Tryz.prog 122 #[.pointer (some ⟨p, 0, none⟩), .int .i64 most] w fun e w' => e = .returned (.tuple #[.string (bstr (tx l most).1), .int .i64 ((tx l most).2.1 : Int)]) ∧ Rd 176 w' p (l.drop (tx l most).2.2) ∧ Fr (fun q => q = p) w w' := by
  have hR := h
  obtain ⟨v, h1, h2⟩ := h
  obtain ⟨o, cap, rfl, _⟩ := h2.shape
  have hc := cell_of_one h1
  obtain ⟨hcp, hfr⟩ := Rd.copy h2
  have U := readCount_any _ w.heap.size l hcp hl hb most hm1 hm2
  have hW := lt_of_heap h1
  have hle := ct_le l most
  have Hct : Hid (tx l most = if (ct l most).2.1 ≠ 0 then ([], (ct l most).2.1, 0) else if (l.drop (ct l most).2.2).length < (ct l most).1 then ([], 30, 0) else ((l.drop (ct l most).2.2).take (ct l most).1, 0, (ct l most).2.2 + (ct l most).1)) := rfl
  generalize tx l most = t at *
  generalize ct l most = r at *
  obtain ⟨n, x, k⟩ := r
  simp only [] at *
  have keep : ∀ w2 : World, Fr (fun q => q = w.heap.size) (w.alloc (.cells #[.slice o l.length cap] 176)) w2 → Fr (fun q => q = w.heap.size) w w2 ∧ Fr no w w2 := fun w2 h =>
    ⟨hfr.trans h (fun _ _ f => f.elim) (fun _ _ f => f), hfr.trans h (fun _ _ f => f.elim) (fun i hi f => by subst f; exact absurd hi (Nat.lt_irrefl _))⟩
  have KEEP : Hid (∀ w2 : World, Fr (fun q => q = w.heap.size) (w.alloc (.cells #[.slice o l.length cap] 176)) w2 → Fr (fun q => q = w.heap.size) w w2 ∧ Fr no w w2) := keep
  clear keep hfr hcp
  by_cases hx : x = 0
  · subst hx
    obtain ⟨hk0, hkl, hnm⟩ := hle rfl
    by_cases hbig : (l.drop k).length < n
    · have e : Hid (t = ([], 30, 0)) := by show _ = _; rw [Hct.out, if_neg (by omega), if_pos hbig]
      clear hle
      have hbig' : l.length - k < n := by rw [List.length_drop] at hbig; exact hbig
      go_enter Tryz.func122, Tryz.ntmps122
      go_wp2_with fail
      refine U.mono ?_
      rintro e w2 ⟨rfl, r1, r3, r2⟩
      go_wp2_with fail
      refine (left_any w2 _ _ r1).mono ?_
      rintro e w2 ⟨rfl, rfl⟩
      have hlen : (l.drop k).length < n := hbig
      go_wp2_with fail
      go_ret2
      rw [e.out]
      have f := (KEEP.out _ r2).2
      exact ⟨rfl, hR.kept f (fun f => f) (fun _ _ _ f => f), f.mono (fun _ _ f => f.elim)⟩
    · have e : Hid (t = ((l.drop k).take n, 0, k + n)) := by show _ = _; rw [Hct.out, if_neg (by omega), if_neg hbig]
      clear hle
      have hbig' : n ≤ l.length - k := by rw [List.length_drop] at hbig; omega
      go_enter Tryz.func122, Tryz.ntmps122
      go_wp2_with fail
      refine U.mono ?_
      rintro e w2 ⟨rfl, r1, r3, r2⟩
      go_wp2_with fail
      refine (left_any w2 _ _ r1).mono ?_
      rintro e w2 ⟨rfl, rfl⟩
      have r3' := r3 trivial
      obtain ⟨b, off, cp, g1, g2, g3, g4⟩ := r3'
      have hcv := conv_text w2 b off n cp (l.drop k) (by omega) g4
      have gc := cell_of_one g1
      rw [List.length_drop] at gc g2
      unfold maxLen at g3
      clear g1 g4
      go_wp2_with fail
      refine (skip_any w2 _ n _ (r3 trivial) (by omega)).mono ?_
      rintro e w3 ⟨rfl, s1, s2⟩
      have f := (KEEP.out w2 r2).1.trans s2 (fun _ _ f => f) (fun _ _ f => f)
      have hp2 := f.heap h1 (fun f => by omega)
      have pc := cell_of_one hp2
      have pf := free_of_one hp2
      have s1' := s1
      obtain ⟨b2, off2, cp2, k1, _⟩ := s1'
      generalize ((l.drop k).drop n).length = n2 at k1
      have kc := cell_of_one k1
      clear hp2 k1
      go_wp2_with fail
      go_ret2
      rw [e.out]
      obtain ⟨q1, q2⟩ := Rs.back h1 (Nat.le_refl _) f ⟨_, _, _, rfl⟩ s1 kc
      rw [List.drop_drop] at q1
      exact ⟨rfl, q1.rd, q2⟩
  · have e : Hid (t = ([], x, 0)) := by show _ = _; rw [Hct.out, if_pos hx]
    have hx' : ((x : Int) == 0) = false := by simp; omega
    clear hle
    go_enter Tryz.func122, Tryz.ntmps122
    go_wp2_with fail
    refine U.mono ?_
    rintro e w2 ⟨rfl, r1, r3, r2⟩
    go_wp2_with fail
    go_ret2
    rw [e.out]
    have f := (KEEP.out w2 r2).2
    exact ⟨rfl, hR.kept f (fun f => f) (fun _ _ _ f => f), f.mono (fun _ _ f => f.elim)⟩
end Go.Proofs.YthncdbobjeeeaaaGreatDoor

/- A writer and a reader of the call's own, against the world in which the call began; and what 'known' answers. -/
namespace Go.Proofs.YthncdbobjeeeaaaGreatDoor
open Go.ChangeShapes Go.WideShapes Go.ChangeAt Go.RowKit

theorem Fr.new {S : Nat → Prop} {w w1 w2 : World} (h : Fr no w w1) (k : Fr S w1 w2) (hS : ∀ i, i < w.heap.size → ¬ S i) : Fr no w w2 :=
  h.trans k (fun _ _ f => f) (fun i hi s => hS i hi s)

/-- A writer at p, newer than w0, that holds l. -/
def WB (w0 w : World) (p : Nat) (l : List Nat) : Prop := ∃ v, Wt w p v l ∧ w0.heap.size ≤ p ∧ (∀ k, v.ownBlock = some k → w0.heap.size ≤ k) ∧ Fr no w0 w

theorem WB.fr {w0 w : World} {p : Nat} {l : List Nat} (h : WB w0 w p l) : Fr no w0 w := h.elim fun _ h => h.2.2.2

theorem WB.step {w0 w w' : World} {p : Nat} {v v' : Value} {l' : List Nat} (h1 : w0.heap.size ≤ p) (h2 : ∀ k, v.ownBlock = some k → w0.heap.size ≤ k) (h3 : Fr no w0 w) (ht : Wt w' p v' l') (hs : Sp (fun k => k = p) v w v' w') : WB w0 w' p l' := by
  refine ⟨v', ht, h1, fun k hk => ?_, h3.new hs.1 (fun i hi s => s.elim (fun e => by omega) (fun e => by have := h2 i e; omega))⟩
  rcases Nat.lt_or_ge k w.heap.size with h | h
  · exact h2 k (hs.2 k h hk)
  · exact Nat.le_trans h3.size h

theorem wb_new (w0 w : World) (h : Fr no w0 w) : Calls Tryz.prog 40 #[] w fun e w' => ∃ p, e = .returned (.pointer (some ⟨p, 0, none⟩)) ∧ WB w0 w' p [] := by
  refine (new_any w).mono ?_
  rintro e w' ⟨rfl, h1, h2⟩
  exact ⟨_, rfl, nv, h1, h.size, fun k hk => by simp [nv, Value.ownBlock] at hk, h.new h2 (fun _ _ f => f)⟩

theorem wb_byte (w0 w : World) (p : Nat) (l : List Nat) (h : WB w0 w p l) (hb : l.length + 1 ≤ 1099511627776) (c : Nat) :
    Calls Tryz.prog 41 #[.pointer (some ⟨p, 0, none⟩), .int .u8 (c : Int)] w fun e w' => e = .returned (.tuple #[]) ∧ WB w0 w' p (l ++ [c]) := by
  obtain ⟨v, h0, h1, h2, h3⟩ := h
  refine (byte_any w p v l h0 hb c).mono ?_
  rintro e w' ⟨rfl, v', ht, hs⟩
  exact ⟨rfl, WB.step h1 h2 h3 ht hs⟩

theorem wb_uint (w0 w : World) (p : Nat) (l : List Nat) (h : WB w0 w p l) (hb : l.length + 10 ≤ 1099511627776) (n : Nat) (hn : n < 2 ^ 64) :
    Calls Tryz.prog 93 #[.pointer (some ⟨p, 0, none⟩), .int .u64 (n : Int)] w fun e w' => e = .returned (.tuple #[]) ∧ WB w0 w' p (l ++ enc n) := by
  obtain ⟨v, h0, h1, h2, h3⟩ := h
  refine (uint_any w p v l h0 hb n hn).mono ?_
  rintro e w' ⟨rfl, v', ht, hs⟩
  exact ⟨rfl, WB.step h1 h2 h3 ht hs⟩

theorem wb_int (w0 w : World) (p : Nat) (l : List Nat) (h : WB w0 w p l) (hb : l.length + 10 ≤ 1099511627776) (n : Int) (hn1 : -9223372036854775808 ≤ n) (hn2 : n ≤ 9223372036854775807) :
    Calls Tryz.prog 95 #[.pointer (some ⟨p, 0, none⟩), .int .i64 n] w fun e w' => e = .returned (.tuple #[]) ∧ WB w0 w' p (l ++ enc (fo n)) := by
  obtain ⟨v, h0, h1, h2, h3⟩ := h
  refine (int_any w p v l h0 hb n hn1 hn2).mono ?_
  rintro e w' ⟨rfl, v', ht, hs⟩
  exact ⟨rfl, WB.step h1 h2 h3 ht hs⟩

theorem wb_text (w0 w : World) (p : Nat) (l : List Nat) (h : WB w0 w p l) (s : ByteArray) (hb : l.length + 10 + s.size ≤ 1099511627776) :
    Calls Tryz.prog 42 #[.pointer (some ⟨p, 0, none⟩), .string s] w fun e w' => e = .returned (.tuple #[]) ∧ WB w0 w' p (l ++ (enc s.size ++ nl s)) := by
  obtain ⟨v, h0, h1, h2, h3⟩ := h
  refine (text_any w p v l h0 s hb).mono ?_
  rintro e w' ⟨rfl, v', ht, hs⟩
  exact ⟨rfl, WB.step h1 h2 h3 ht hs⟩

theorem WB.kept {w0 w w' : World} {p : Nat} {l : List Nat} (h : WB w0 w p l) (hf : Fr no w w') : WB w0 w' p l := by
  obtain ⟨v, h0, h1, h2, h3⟩ := h
  exact ⟨v, h0.kept hf (fun f => f) (fun _ _ f => f), h1, h2, h3.new hf (fun _ _ f => f)⟩

theorem wb_bytes (w0 w : World) (p : Nat) (l : List Nat) (h : WB w0 w p l) (hb : l.length ≤ 1099511627776) :
    Calls Tryz.prog 49 #[.pointer (some ⟨p, 0, none⟩)] w fun e w' => ∃ v', e = .returned v' ∧ Own w' v' l ∧ WB w0 w' p l ∧ Fr no w w' ∧ ∀ k, v'.ownBlock = some k → w.heap.size ≤ k := by
  have h' := h
  obtain ⟨v, h0, h1, h2, h3⟩ := h
  refine (bytes_any w p v l h0 hb).mono ?_
  rintro e w' ⟨v', rfl, ht, hs⟩
  have hf := hs.fresh
  exact ⟨v', rfl, ht, h'.kept hf.1, hf.1, fun k hk => Nat.le_of_not_lt fun h => hf.2 k h hk⟩

/-- A reader at p, newer than w0, whose bytes left are l. -/
def RB (w0 w : World) (p : Nat) (l : List Nat) : Prop := Rd 176 w p l ∧ w0.heap.size ≤ p ∧ Fr no w0 w

theorem rb_open (w0 w : World) (hf : Fr no w0 w) (v : Value) (l : List Nat) (h : Sl w v l) (hb : l.length ≤ 1099511627776) :
    Calls Tryz.prog 60 #[v] w fun e w' => ∃ p, e = .returned (.pointer (some ⟨p, 0, none⟩)) ∧ RB w0 w' p l := by
  refine (open_any w v l h hb).mono ?_
  rintro e w' ⟨p, rfl, h1, h2, h3⟩
  exact ⟨p, rfl, h2, Nat.le_trans hf.size h1, hf.new h3 (fun _ _ f => f)⟩

theorem RB.step {w0 w w' : World} {p : Nat} {l l' : List Nat} (h : RB w0 w p l) (h1 : Rd 176 w' p l') (h2 : Fr (fun q => q = p) w w') : RB w0 w' p l' :=
  ⟨h1, h.2.1, h.2.2.new h2 (fun i hi e => by have := h.2.1; omega)⟩

theorem rb_uint (w0 w : World) (p : Nat) (l : List Nat) (h : RB w0 w p l) (hl : ∀ c ∈ l, c < 256) (hb : l.length ≤ 1099511627776) :
    Calls Tryz.prog 154 #[.pointer (some ⟨p, 0, none⟩)] w fun e w' => e = .returned (.tuple #[.int .u64 ((rd l 0 0).1 : Int), .int .i64 ((rd l 0 0).2.1 : Int)]) ∧ RB w0 w' p (l.drop (rd l 0 0).2.2) := by
  refine (readUint_any w p l h.1 hl hb).mono ?_
  rintro e w' ⟨rfl, h1, _, h2⟩
  exact ⟨rfl, h.step h1 h2⟩

theorem rb_int (w0 w : World) (p : Nat) (l : List Nat) (h : RB w0 w p l) (hl : ∀ c ∈ l, c < 256) (hb : l.length ≤ 1099511627776) :
    Calls Tryz.prog 127 #[.pointer (some ⟨p, 0, none⟩)] w fun e w' => e = .returned (.tuple #[.int .i64 (unf (rd l 0 0).1), .int .i64 ((rd l 0 0).2.1 : Int)]) ∧ RB w0 w' p (l.drop (rd l 0 0).2.2) := by
  refine (readInt_any w p l h.1 hl hb).mono ?_
  rintro e w' ⟨rfl, h1, h2⟩
  exact ⟨rfl, h.step h1 h2⟩

theorem rb_byte (w0 w : World) (p : Nat) (l : List Nat) (h : RB w0 w p l) :
    Calls Tryz.prog 119 #[.pointer (some ⟨p, 0, none⟩)] w fun e w' => e = .returned (.tuple #[.int .u8 ((by1 l).1 : Int), .int .i64 ((by1 l).2.1 : Int)]) ∧ RB w0 w' p (l.drop (by1 l).2.2) := by
  refine (readByte_any w p l h.1).mono ?_
  rintro e w' ⟨rfl, h1, h2⟩
  exact ⟨rfl, h.step h1 h2⟩

theorem rb_count (w0 w : World) (p : Nat) (l : List Nat) (h : RB w0 w p l) (hl : ∀ c ∈ l, c < 256) (hb : l.length ≤ 1099511627776) (most : Int) (hm1 : -9223372036854775808 ≤ most) (hm2 : most ≤ 9223372036854775807) :
    Calls Tryz.prog 125 #[.pointer (some ⟨p, 0, none⟩), .int .i64 most] w fun e w' => e = .returned (.tuple #[.int .i64 ((ct l most).1 : Int), .int .i64 ((ct l most).2.1 : Int)]) ∧ RB w0 w' p (l.drop (ct l most).2.2) := by
  refine (readCount_any w p l h.1 hl hb most hm1 hm2).mono ?_
  rintro e w' ⟨rfl, h1, _, h2⟩
  exact ⟨rfl, h.step h1 h2⟩

theorem rb_text (w0 w : World) (p : Nat) (l : List Nat) (h : RB w0 w p l) (hl : ∀ c ∈ l, c < 256) (hb : l.length ≤ 1099511627776) (most : Int) (hm1 : -9223372036854775808 ≤ most) (hm2 : most ≤ 9223372036854775807) :
    Calls Tryz.prog 122 #[.pointer (some ⟨p, 0, none⟩), .int .i64 most] w fun e w' => e = .returned (.tuple #[.string (bstr (tx l most).1), .int .i64 ((tx l most).2.1 : Int)]) ∧ RB w0 w' p (l.drop (tx l most).2.2) := by
  refine (readText_any w p l h.1 hl hb most hm1 hm2).mono ?_
  rintro e w' ⟨rfl, h1, h2⟩
  exact ⟨rfl, h.step h1 h2⟩

theorem conv_own (w : World) (v : Value) (l : List Nat) (h : Own w v l) : (convert 22 9 v).run Tryz.prog w = .ok (.string (bstr l)) w := by
  rcases h.sl with ⟨b, off, cap, rfl, _, _, hc⟩ | ⟨rfl, ad, cap, rfl, _, h0⟩
  · have := conv_text w b off l.length cap l (Nat.le_refl _) hc
    rwa [List.take_length] at this
  · rcases h.2 with ⟨e, _⟩ | ⟨g, cp, cur, e, _⟩
    · simp at e
      obtain ⟨rfl, rfl⟩ := e
      exact run_convert_bytes_nil (P := Tryz.prog) w 22 5 Tryz.underlying22 Tryz.underlying5 0 0 9 Tryz.underlying9
    · simp at e
      obtain ⟨rfl, rfl⟩ := e
      exact conv_text w g 0 0 _ [] (by simp) (fun i c hi => by simp at hi)

theorem src_two (w : World) : Sl (w.alloc (.cells #[.int .u8 128, .int .u8 0] 5)) (.slice (some ⟨w.heap.size, 0, none⟩) 2 2) [128, 0] := by
  refine .inl ⟨w.heap.size, 0, 2, rfl, by simp, by unfold maxLen; omega, fun i c hi => ?_⟩
  match i, hi with
  | 0, hi => simp at hi; subst hi; simp
  | 1, hi => simp at hi; subst hi; simp
end Go.Proofs.YthncdbobjeeeaaaGreatDoor

/- What is read of what was written, without memory: a number, a count, a text. -/
namespace Go.Proofs.YthncdbobjeeeaaaGreatDoor

theorem ct_enc (n : Nat) (l : List Nat) (most : Int) (hn : n < 2 ^ 64) : ct (enc n ++ l) most = if most < (n : Int) then (0, 32, 0) else (n, 0, (enc n).length) := by
  unfold ct
  rw [rd_enc n l hn]
  rw [if_neg (by simp)]

theorem ct_big (n : Nat) (l : List Nat) (most : Int) (hn : n < 2 ^ 64) (h : most < (n : Int)) : ct (enc n ++ l) most = (0, 32, 0) := by rw [ct_enc n l most hn, if_pos h]

theorem ct_fits (n : Nat) (l : List Nat) (most : Int) (hn : n < 2 ^ 64) (h : ¬ most < (n : Int)) : ct (enc n ++ l) most = (n, 0, (enc n).length) := by rw [ct_enc n l most hn, if_neg h]

theorem tx_big (m l : List Nat) (most : Int) (hn : m.length < 2 ^ 64) (h : most < (m.length : Int)) : tx (enc m.length ++ (m ++ l)) most = ([], 32, 0) := by
  unfold tx
  rw [ct_big _ _ _ hn h, if_pos (by simp)]

theorem tx_fits (m l : List Nat) (most : Int) (hn : m.length < 2 ^ 64) (h : ¬ most < (m.length : Int)) : tx (enc m.length ++ (m ++ l)) most = (m, 0, (enc m.length).length + m.length) := by
  unfold tx
  rw [ct_fits _ _ _ hn h, if_neg (by simp)]
  simp only [List.drop_left, List.take_left]
  rw [if_neg (by simp)]

theorem bytes_enc (n : Nat) : ∀ c ∈ enc n, c < 256 := en_byte 9 n

theorem bytes_append {l m : List Nat} (hl : ∀ c ∈ l, c < 256) (hm : ∀ c ∈ m, c < 256) : ∀ c ∈ l ++ m, c < 256 := by
  intro c hc
  rcases List.mem_append.1 hc with h | h
  · exact hl c h
  · exact hm c h
end Go.Proofs.YthncdbobjeeeaaaGreatDoor

/- What is cut off is too short: numbers and texts, without memory; and a slice's beginning. -/
namespace Go.Proofs.YthncdbobjeeeaaaGreatDoor

theorem rd_cut (f n i acc k : Nat) (hf : f + i = 9) (hn : n < 2 ^ (7 * f + 1)) (hk : k < (en f n).length) : rd ((en f n).take k) i acc = (0, 30, 0) := by
  induction f generalizing n i acc k with
  | zero =>
    have : k = 0 := by simp [en] at hk; omega
    subst this
    simp [rd]
  | succ f ih =>
    cases k with
    | zero => simp [rd]
    | succ k =>
      by_cases h : n < 128
      · rw [en_small _ n h] at hk
        simp at hk
      · rw [en_step f n (by omega)] at hk ⊢
        have hi : ¬ i = 9 := by omega
        rw [List.take_succ_cons, rd, if_neg (by simp [hi]), if_neg (by omega)]
        refine ih _ _ _ _ (by omega) ?_ (by simpa using hk)
        rw [show 7 * (f + 1) + 1 = 7 + (7 * f + 1) by omega, Nat.pow_add] at hn
        omega

theorem rd_cut_enc (n k : Nat) (hn : n < 2 ^ 64) (hk : k < (enc n).length) : rd ((enc n).take k) 0 0 = (0, 30, 0) := rd_cut 9 n 0 0 k rfl hn hk

theorem tx_cut (m : List Nat) (k : Nat) (most : Int) (hn : m.length < 2 ^ 64) (hm : ¬ most < (m.length : Int)) (hk : k < (enc m.length ++ m).length) : tx ((enc m.length ++ m).take k) most = ([], 30, 0) := by
  rw [List.take_append]
  by_cases h : k < (enc m.length).length
  · rw [show k - (enc m.length).length = 0 by omega, List.take_zero, List.append_nil]
    unfold tx ct
    rw [rd_cut_enc _ _ hn h]
    simp
  · rw [List.take_of_length_le (by omega)]
    unfold tx
    rw [ct_fits _ _ _ hn hm, if_neg (by simp)]
    simp only [List.drop_left]
    rw [List.length_append] at hk
    rw [if_pos (by rw [List.length_take]; omega)]

theorem tx_uncut (m l : List Nat) (k : Nat) (most : Int) (hn : m.length < 2 ^ 64) (hm : ¬ most < (m.length : Int)) (hk : ¬ k < (enc m.length ++ m).length) :
    tx (((enc m.length ++ m) ++ l).take k) most = (m, 0, (enc m.length ++ m).length) ∧ (((enc m.length ++ m) ++ l).take k).drop (enc m.length ++ m).length = l.take (k - (enc m.length ++ m).length) := by
  have e : (((enc m.length ++ m) ++ l).take k) = (enc m.length ++ m) ++ l.take (k - (enc m.length ++ m).length) := by
    rw [List.take_append, List.take_of_length_le (by omega)]
  rw [e]
  constructor
  · rw [List.append_assoc, tx_fits _ _ _ hn hm, List.length_append]
  · exact List.drop_left

theorem take_early (l m : List Nat) (k : Nat) (hk : k < l.length) : (l ++ m).take k = l.take k := by
  rw [List.take_append, show k - l.length = 0 by omega, List.take_zero, List.append_nil]

theorem Sl.take {w : World} {b off n cap : Nat} {l : List Nat} (h : Sl w (.slice (some ⟨b, off, none⟩) n cap) l) (k : Nat) (hk : k ≤ l.length) : Sl w (.slice (some ⟨b, off, none⟩) k cap) (l.take k) := by
  have hlen : (l.take k).length = k := by rw [List.length_take]; omega
  rcases h with ⟨b', off', cap', e, h1, h2, h3⟩ | ⟨rfl, ad, cap', e, h1, h2⟩
  · simp only [Value.slice.injEq, Option.some.injEq, Addr.mk.injEq, and_true] at e
    obtain ⟨⟨rfl, rfl⟩, rfl, rfl⟩ := e
    refine .inl ⟨b, off, cap, by rw [hlen], by omega, h2, fun i c hi => h3 i c ?_⟩
    rw [List.getElem?_take] at hi
    split at hi
    · exact hi
    · simp at hi
  · simp at hk
    subst hk
    simp only [Value.slice.injEq] at e
    obtain ⟨rfl, rfl, rfl⟩ := e
    exact .inr ⟨rfl, _, cap, rfl, h1, fun h => by simp at h⟩
end Go.Proofs.YthncdbobjeeeaaaGreatDoor

