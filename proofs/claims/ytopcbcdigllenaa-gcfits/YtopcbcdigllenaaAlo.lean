/- Where there is room. -/
import Derived.Test.YtopcbcdigllenaaFac
namespace Go.Proofs.Ytopcbcdigllenaa
open Go.ChangeShapes Go.WideShapes Go.ChangeAt Go.RowKit

/-- Whether a block has room for an object of n words. -/
def Blk.room (n : Nat) : Blk → Bool
  | .free j => decide (n + 1 ≤ j.length)
  | .obj _ _ => false

/-- How many words lie ahead of the first block that has room. -/
def roomAt (n : Nat) : List Blk → Option Nat
  | [] => none
  | b :: r => if b.room n then some 0 else (roomAt n r).map (· + b.len)

/-- An object in a free block. -/
def carve (c n : Nat) (j : List Nat) : List Blk := .obj c (List.replicate n 0) :: (if j.length = n + 1 then [] else [.free (j.drop (n + 2))])

/-- An object in the first block that has room. -/
def allocB (c n : Nat) : List Blk → List Blk
  | [] => []
  | .free j :: r => if n + 1 ≤ j.length then carve c n j ++ r else .free j :: allocB c n r
  | .obj d ws :: r => .obj d ws :: allocB c n r

theorem roomAt_split {n : Nat} {bs : List Blk} {o : Nat} (h : roomAt n bs = some o) : ∃ pre j post, bs = pre ++ .free j :: post ∧ o = siz pre ∧ n + 1 ≤ j.length ∧ ∀ c, allocB c n bs = pre ++ carve c n j ++ post := by
  induction bs generalizing o with
  | nil => simp [roomAt] at h
  | cons b r ih =>
    rw [roomAt] at h
    cases b with
    | free j =>
      by_cases hr : n + 1 ≤ j.length
      · simp [Blk.room, hr] at h
        exact ⟨[], j, r, rfl, by rw [← h]; rfl, hr, fun c => by simp [allocB, hr]⟩
      · simp [Blk.room, hr] at h
        obtain ⟨o', ho, rfl⟩ := h
        obtain ⟨pre, j', post, rfl, rfl, hj, hc⟩ := ih ho
        exact ⟨.free j :: pre, j', post, rfl, by rw [siz_cons]; omega, hj, fun c => by simp [allocB, hr, hc]⟩
    | obj d ws =>
      simp [Blk.room] at h
      obtain ⟨o', ho, rfl⟩ := h
      obtain ⟨pre, j', post, rfl, rfl, hj, hc⟩ := ih ho
      exact ⟨.obj d ws :: pre, j', post, rfl, by rw [siz_cons]; omega, hj, fun c => by simp [allocB, hc]⟩

theorem roomAt_none {n : Nat} {bs : List Blk} (h : roomAt n bs = none) : (∀ j, Blk.free j ∈ bs → j.length < n + 1) ∧ ∀ c, allocB c n bs = bs := by
  induction bs with
  | nil => exact ⟨by simp, fun c => rfl⟩
  | cons b r ih =>
    rw [roomAt] at h
    cases b with
    | free j =>
      by_cases hr : n + 1 ≤ j.length
      · simp [Blk.room, hr] at h
      · simp [Blk.room, hr] at h
        obtain ⟨h1, h2⟩ := ih h
        exact ⟨fun j' hj' => by simp at hj'; rcases hj' with rfl | hj'; omega; exact h1 j' hj', fun c => by simp [allocB, hr, h2]⟩
    | obj d ws =>
      simp [Blk.room] at h
      obtain ⟨h1, h2⟩ := ih h
      exact ⟨fun j' hj' => by simp at hj'; exact h1 j' hj', fun c => by simp [allocB, h2]⟩

def RoomAt (w : World) (p : Nat) (bs : List Blk) (n : Nat) (x : Act) (wr : World) : Prop :=
  ∃ (k : Nat) (pre post : List Blk) (m : Nat) (z : Int) (u2 u3 u6 u7 u8 u9 u10 u11 u12 u13 u14 u15 u16 u17 u18 u19 u20 u21 u22 u23 u24 u25 u26 u27 u28 u29 u30 : Value), x = { tmps := #[.pointer (some ⟨p, 0, none⟩), .int .i64 (n : Int), u2, u3, .int .i64 0, .int .i64 z, u6, u7, u8, u9, u10, u11, u12, u13, u14, u15, u16, u17, u18, u19, u20, u21, u22, u23, u24, u25, u26, u27, u28, u29, u30], defers := [] } ∧ z = (k : Int) + 1 ∧ bs = pre ++ post ∧ k = siz pre ∧ roomAt n bs = (roomAt n post).map (· + k) ∧ wr = w.drewN m

/-- The address that room tells. -/
def rmA : Option Nat → Int
  | some o => (o : Int) + 1
  | none => 0

set_option maxRecDepth 100000 in
set_option maxHeartbeats 1000000 in
theorem room_any (w : World) (p g : Nat) (bs : List Blk) (h : HP w p g bs) (n : Nat) :
    Calls Try.prog 37 #[.pointer (some ⟨p, 0, none⟩), .int .i64 (n : Int)] w fun e w' => e = .returned (.int .i64 (rmA (roomAt n bs))) ∧ ∃ m, w' = w.drewN m := by
  have HH : Hid (HP w p g bs) := h
  have hc := h.cell
  have hl := h.len
  clear h
  generalize hq : (flat bs).length = q at *
  go_enter Try.func37, Try.ntmps37
  go_wp2_with fail
  refine wp_label_one 0 (RoomAt w p bs n) (fun x _ => 5000 - (intOf (x.tmps.getD 5 undef)).toNat) rfl ?_ ?_
  · intro K h0 hr hn
    go_wp2_with fail
    go_step3
    rename_i hk
    exact hk _ _ (h0 _ _ ⟨0, [], bs, 0, _, _, _, _, _, _, _, _, _, _, _, _, _, _, _, _, _, _, _, _, _, _, _, _, _, _, _, _, rfl, rfl, rfl, rfl, by simp, rfl⟩)
  · rintro x wr ⟨k, pre, post, m, z, u2, u3, u6, u7, u8, u9, u10, u11, u12, u13, u14, u15, u16, u17, u18, u19, u20, u21, u22, u23, u24, u25, u26, u27, u28, u29, u30, rfl, rfl, he, hk, hb, rfl⟩ K hj hr hn
    have HB : Hid (roomAt n bs = (roomAt n post).map (· + k)) := hb
    have HE : Hid (bs = pre ++ post) := he
    have HK : Hid (k = siz pre) := hk
    have hc' : (w.drewN m).cell? ⟨p, 0, none⟩ = some (.slice (some ⟨g, 0, none⟩) q q) := hc
    generalize hW : w.drewN m = W at *
    have HW' : Hid (W = w.drewN m) := hW.symm
    clear hb he hk hc hW
    cases post with
    | nil =>
      have hkq : k = q := by
        have := HE.out
        rw [List.append_nil] at this
        rw [HK.out, ← this, ← hq]
        rfl
      have ht : (q : Int) < (k : Int) + 1 := by omega
      go_wp2_with fail
      refine hr _ _ ?_
      go_ret
      refine ⟨?_, m, HW'.out⟩
      rw [HB.out]
      rfl
    | cons b r =>
      have hsz : k + b.len + siz r = q := by
        have e1 : siz bs = q := hq
        rw [HE.out, siz_append, siz_cons, ← HK.out] at e1
        omega
      have hpos := b.len_pos
      have ht : ¬ ((q : Int) < (k : Int) + 1) := by omega
      have hd : (flat bs)[k]? = some (2 * b.len + b.bit) := by rw [HE.out, HK.out]; exact flat_head pre b r
      have IOb := isObject_any W p g (flat bs) (by rw [HW'.out]; exact HH.out.drewN m) k b.len b.bit hd (by omega) b.bit_le
      have LO : ∀ m', Calls Try.prog 41 #[.pointer (some ⟨p, 0, none⟩), .int .i64 ((k : Int) + 1)] (W.drewN m') fun e w' => e = .returned (.int .i64 (b.len : Int)) ∧ ∃ m'', w' = (W.drewN m').drewN m'' :=
        fun m' => length_any (W.drewN m') p g (flat bs) (by rw [HW'.out]; exact (HH.out.drewN m).drewN m') k b.len b.bit hd (by omega) b.bit_le
      rw [b.bit_obj] at IOb
      clear hd
      by_cases hrm : b.room n = true
      · have hR : Hid (roomAt n bs = some k) := by
          rw [Hid, HB.out, roomAt, if_pos hrm]
          simp
        obtain ⟨j, rfl, hjn⟩ : ∃ j, b = .free j ∧ n + 1 ≤ j.length := by
          cases b with
          | free j => exact ⟨j, rfl, by simpa [Blk.room] using hrm⟩
          | obj c ws => simp [Blk.room] at hrm
        have hge : (n : Int) ≤ ((Blk.free j).len : Int) - 2 := by simp only [Blk.len]; omega
        have IOb' : Calls Try.prog 54 #[.pointer (some ⟨p, 0, none⟩), .int .i64 ((k : Int) + 1)] W fun e w' => e = .returned (.bool false) ∧ ∃ m, w' = W.drewN m := IOb
        clear hrm IOb
        generalize (Blk.free j).len = bl at *
        go_wp2_with fail
        refine IOb'.mono ?_
        rintro e w1 ⟨rfl, m1, rfl⟩
        go_wp2_with fail
        refine (LO m1).mono ?_
        rintro e w1 ⟨rfl, m2, rfl⟩
        go_wp2_with fail
        refine hr _ _ ?_
        go_ret
        exact ⟨by rw [hR.out]; rfl, m + m1 + m2, by rw [HW'.out]; simp [Nat.add_assoc]⟩
      · have hR : Hid (roomAt n bs = (roomAt n r).map (· + (k + b.len))) := by
          rw [Hid, HB.out, roomAt, if_neg hrm, Option.map_map]
          congr 1
          funext x
          simp
          omega
        cases b with
        | obj c ws =>
          have IOb' : Calls Try.prog 54 #[.pointer (some ⟨p, 0, none⟩), .int .i64 ((k : Int) + 1)] W fun e w' => e = .returned (.bool true) ∧ ∃ m, w' = W.drewN m := IOb
          clear IOb
          have HSZ : Hid (siz (pre ++ [Blk.obj c ws]) = k + (Blk.obj c ws).len) := by rw [Hid, siz_append, siz_cons, siz_nil, HK.out]; omega
          clear hrm
          generalize hbl : (Blk.obj c ws).len = bl at *
          go_wp2_with fail
          refine IOb'.mono ?_
          rintro e w1 ⟨rfl, m1, rfl⟩
          go_wp2_with fail
          refine (LO m1).mono ?_
          rintro e w1 ⟨rfl, m2, rfl⟩
          go_wp2_with fail
          go_step3
          refine hj _ _ ⟨k + bl, pre ++ [Blk.obj c ws], r, m + m1 + m2, _, _, _, _, _, _, _, _, _, _, _, _, _, _, _, _, _, _, _, _, _, _, _, _, _, _, _, _, rfl, ?_, ?_, ?_, hR.out, ?_⟩ ?_
          · omega
          · rw [HE.out]; simp
          · rw [HSZ.out]
          · rw [HW'.out]; simp [Nat.add_assoc]
          · simp [intOf]; omega
        | free j =>
          have hge : decide ((n : Int) ≤ ((Blk.free j).len : Int) - 2) = false := by
            have : ¬ (n + 1 ≤ j.length) := by simpa [Blk.room] using hrm
            simp only [Blk.len]
            exact decide_eq_false (by omega)
          have IOb' : Calls Try.prog 54 #[.pointer (some ⟨p, 0, none⟩), .int .i64 ((k : Int) + 1)] W fun e w' => e = .returned (.bool false) ∧ ∃ m, w' = W.drewN m := IOb
          clear IOb
          have HSZ : Hid (siz (pre ++ [Blk.free j]) = k + (Blk.free j).len) := by rw [Hid, siz_append, siz_cons, siz_nil, HK.out]; omega
          clear hrm
          generalize hbl : (Blk.free j).len = bl at *
          go_wp2_with fail
          refine IOb'.mono ?_
          rintro e w1 ⟨rfl, m1, rfl⟩
          go_wp2_with fail
          refine (LO m1).mono ?_
          rintro e w1 ⟨rfl, m2, rfl⟩
          go_wp2_with fail
          refine (LO (m1 + m2)).mono ?_
          rintro e w1 ⟨rfl, m3, rfl⟩
          go_wp2_with fail
          go_step3
          refine hj _ _ ⟨k + bl, pre ++ [Blk.free j], r, m + m1 + m2 + m3, _, _, _, _, _, _, _, _, _, _, _, _, _, _, _, _, _, _, _, _, _, _, _, _, _, _, _, _, rfl, ?_, ?_, ?_, hR.out, ?_⟩ ?_
          · omega
          · rw [HE.out]; simp
          · rw [HSZ.out]
          · rw [HW'.out]; simp [Nat.add_assoc]
          · simp [intOf]; omega
end Go.Proofs.Ytopcbcdigllenaa
