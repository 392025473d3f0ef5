/- Whether an object begins at an address, and has a word. -/
import Derived.Test.YtopcbcdigllenaaRd
namespace Go.Proofs.Ytopcbcdigllenaa
open Go.ChangeShapes Go.WideShapes Go.ChangeAt Go.RowKit

/-- Whether an object begins at address a, the first block's being 1. -/
def beg : List Blk → Int → Bool
  | [], _ => false
  | b :: r, a => if a = 1 then b.isObj else beg r (a - (b.len : Int))

theorem beg_low (bs : List Blk) (a : Int) (h : a < 1) : beg bs a = false := by
  induction bs generalizing a with
  | nil => rfl
  | cons b r ih =>
    have := b.len_pos
    rw [beg, if_neg (by omega)]
    exact ih _ (by omega)

theorem beg_split {bs : List Blk} {a : Int} (h : beg bs a = true) : ∃ pre c ws post, bs = pre ++ .obj c ws :: post ∧ a = (siz pre : Int) + 1 := by
  induction bs generalizing a with
  | nil => simp [beg] at h
  | cons b r ih =>
    rw [beg] at h
    by_cases e : a = 1
    · rw [if_pos e] at h
      cases b with
      | free j => simp [Blk.isObj] at h
      | obj c ws => exact ⟨[], c, ws, r, rfl, by simp [siz_nil, e]⟩
    · rw [if_neg e] at h
      obtain ⟨pre, c, ws, post, rfl, he⟩ := ih h
      exact ⟨b :: pre, c, ws, post, rfl, by rw [siz_cons]; omega⟩

theorem beg_at (pre post : List Blk) (b : Blk) : beg (pre ++ b :: post) ((siz pre : Int) + 1) = b.isObj := by
  induction pre with
  | nil => simp [beg, siz_nil]
  | cons x r ih =>
    have := x.len_pos
    rw [List.cons_append, beg, if_neg (by rw [siz_cons]; omega), siz_cons]
    rw [show ((x.len + siz r : Nat) : Int) + 1 - (x.len : Int) = (siz r : Int) + 1 by omega]
    exact ih

theorem Blk.bit_obj (b : Blk) : (b.bit == 1) = b.isObj := by cases b <;> rfl
theorem Blk.bit_le (b : Blk) : b.bit ≤ 1 := by cases b <;> simp [Blk.bit]

def BegAt (w : World) (p : Nat) (bs : List Blk) (a : Int) (x : Act) (wr : World) : Prop :=
  ∃ (k : Nat) (pre post : List Blk) (m : Nat) (z : Int) (u2 u3 u6 u7 u8 u9 u10 u11 u12 u13 u14 u15 u16 u17 u18 u19 u20 u21 u22 u23 u24 u25 u26 u27 u28 : Value), x = { tmps := #[.pointer (some ⟨p, 0, none⟩), .int .i64 a, u2, u3, .bool false, .int .i64 z, u6, u7, u8, u9, u10, u11, u12, u13, u14, u15, u16, u17, u18, u19, u20, u21, u22, u23, u24, u25, u26, u27, u28], defers := [] } ∧ z = (k : Int) + 1 ∧ bs = pre ++ post ∧ k = siz pre ∧ beg bs a = beg post (a - (k : Int)) ∧ wr = w.drewN m

set_option maxRecDepth 100000 in
set_option maxHeartbeats 1000000 in
theorem begins_any (w : World) (p g : Nat) (bs : List Blk) (h : HP w p g bs) (a : Int) (ha : a ≤ 9223372036854775807) :
    Calls Try.prog 40 #[.pointer (some ⟨p, 0, none⟩), .int .i64 a] w fun e w' => e = .returned (.bool (beg bs a)) ∧ ∃ m, w' = w.drewN m := by
  have HH : Hid (HP w p g bs) := h
  have hc := h.cell
  have hl := h.len
  clear h
  generalize hq : (flat bs).length = q at *
  go_enter Try.func40, Try.ntmps40
  go_wp2_with fail
  refine wp_label_one 0 (BegAt w p bs a) (fun x _ => 5000 - (intOf (x.tmps.getD 5 undef)).toNat) rfl ?_ ?_
  · intro K h0 hr hn
    go_wp2_with fail
    go_step3
    rename_i hk
    exact hk _ _ (h0 _ _ ⟨0, [], bs, 0, _, _, _, _, _, _, _, _, _, _, _, _, _, _, _, _, _, _, _, _, _, _, _, _, _, _, rfl, rfl, rfl, rfl, by simp, rfl⟩)
  · rintro x wr ⟨k, pre, post, m, z, u2, u3, u6, u7, u8, u9, u10, u11, u12, u13, u14, u15, u16, u17, u18, u19, u20, u21, u22, u23, u24, u25, u26, u27, u28, rfl, rfl, he, hk, hb, rfl⟩ K hj hr hn
    have HB : Hid (beg bs a = beg post (a - (k : Int))) := hb
    have HE : Hid (bs = pre ++ post) := he
    have HK : Hid (k = siz pre) := hk
    have hc' : (w.drewN m).cell? ⟨p, 0, none⟩ = some (.slice (some ⟨g, 0, none⟩) q q) := hc
    generalize hW : w.drewN m = W at *
    have HW' : Hid (W = w.drewN m) := hW.symm
    clear hb he hk hc hW
    cases post with
    | nil =>
      have hkq : k = q := by
        have := HE.out
        rw [List.append_nil] at this
        rw [HK.out, ← this, ← hq]
        rfl
      have ht : (q : Int) < (k : Int) + 1 := by omega
      go_wp2_with fail
      refine hr _ _ ?_
      go_ret
      refine ⟨?_, m, HW'.out⟩
      rw [HB.out]
      rfl
    | cons b r =>
      have hsz : k + b.len + siz r = q := by
        have e1 : siz bs = q := hq
        rw [HE.out, siz_append, siz_cons, ← HK.out] at e1
        omega
      have hpos := b.len_pos
      have ht : ¬ ((q : Int) < (k : Int) + 1) := by omega
      have hd : (flat bs)[k]? = some (2 * b.len + b.bit) := by rw [HE.out, HK.out]; exact flat_head pre b r
      have IOb := isObject_any W p g (flat bs) (by rw [HW'.out]; exact HH.out.drewN m) k b.len b.bit hd (by omega) b.bit_le
      have LO := length_any W p g (flat bs) (by rw [HW'.out]; exact HH.out.drewN m) k b.len b.bit hd (by omega) b.bit_le
      rw [b.bit_obj] at IOb
      clear hd
      by_cases hlow : a < (k : Int) + 1
      · have hbf : Hid (beg bs a = false) := by rw [Hid, HB.out]; exact beg_low _ _ (by omega)
        go_wp2_with fail
        refine hr _ _ ?_
        go_ret
        exact ⟨by rw [hbf.out]; rfl, m, HW'.out⟩
      · by_cases heq : (k : Int) + 1 = a
        · subst heq
          have hbf : Hid (beg bs ((k : Int) + 1) = b.isObj) := by rw [Hid, HB.out, beg, if_pos (by omega)]
          go_wp2_with fail
          refine IOb.mono ?_
          rintro e w1 ⟨rfl, m1, rfl⟩
          go_wp2_with fail
          refine hr _ _ ?_
          go_ret
          exact ⟨by rw [hbf.out]; rfl, m + m1, by rw [HW'.out]; simp⟩
        · have hne : ((k : Int) + 1 == a) = false := by simp [heq]
          have hbf : Hid (beg bs a = beg r (a - ((k + b.len : Nat) : Int))) := by rw [Hid, HB.out, beg, if_neg (by omega)]; congr 1; omega
          go_wp2_with fail
          refine LO.mono ?_
          rintro e w1 ⟨rfl, m1, rfl⟩
          go_wp2_with fail
          go_step3
          refine hj _ _ ⟨k + b.len, pre ++ [b], r, m + m1, _, _, _, _, _, _, _, _, _, _, _, _, _, _, _, _, _, _, _, _, _, _, _, _, _, _, rfl, ?_, ?_, ?_, hbf.out, ?_⟩ ?_
          · omega
          · rw [HE.out]; simp
          · rw [siz_append, siz_cons, siz_nil, HK.out]; omega
          · rw [HW'.out]; simp
          · simp [intOf]; omega
end Go.Proofs.Ytopcbcdigllenaa
