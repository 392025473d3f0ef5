/- Fits: whether an object of so many words would find a free block. -/
import Derived.Test.YtopcbcdigllenaaG9
namespace Go.Proofs.Ytopcbcdigllenaa
open Go.ChangeShapes Go.WideShapes Go.ChangeAt Go.RowKit

def fitsP (bs : List Blk) (words : Int) : Bool := decide (0 ≤ words) && (freesA 0 bs).any (fun b => decide (words ≤ b.2 - 2))

theorem any_next {α : Type} (l : List α) (f : α → Bool) (t : Nat) (x : α) (h : l[t]? = some x) : (l.take (t + 1)).any f = ((l.take t).any f || f x) := by
  rw [take_next l t x h, List.any_append]
  simp

theorem freesA_in (k : Nat) (bs : List Blk) : ∀ x ∈ freesA k bs, 1 ≤ x.2 ∧ x.2 ≤ (siz bs : Int) := by
  induction bs generalizing k with
  | nil => intro x hx; simp [freesA] at hx
  | cons b r ih =>
    intro x hx
    rw [siz_cons]
    have hp := b.len_pos
    cases b with
    | free j =>
      rw [freesA] at hx
      rcases List.mem_cons.1 hx with hx | hx
      · subst hx
        simp only
        omega
      · have := ih _ x hx
        omega
    | obj c ws =>
      rw [freesA] at hx
      have := ih _ x hx
      omega

set_option maxHeartbeats 4000000 in
set_option maxRecDepth 100000 in
theorem fits_any (w : World) (p g : Nat) (bs : List Blk) (h : HP w p g bs) (words : Int) :
    Calls Try.prog 30 #[.pointer (some ⟨p, 0, none⟩), .int .i64 words] w fun e w' => e = .returned (.bool (fitsP bs words)) ∧ Fr no w w' := by
  have FA := free_any w p g bs h
  have hfl := h.len
  have hsz : siz bs = (flat bs).length := rfl
  have hin := freesA_in 0 bs
  have hln1 := (freesA_len 0 bs).1
  rw [hsz] at hin hln1
  clear h hsz
  by_cases h0 : words < 0
  · have HZ : Hid (fitsP bs words = false) := by
      rw [Hid]
      unfold fitsP
      rw [decide_eq_false (by omega), Bool.false_and]
    clear FA hin
    go_enter Try.func30, Try.ntmps30
    go_wp2_with fail
    go_ret
    exact ⟨by rw [HZ.out]; rfl, Fr.refl _ _⟩
  · have HZ : Hid (fitsP bs words = (freesA 0 bs).any (fun b => decide (words ≤ b.2 - 2))) := by
      rw [Hid]
      unfold fitsP
      rw [decide_eq_true (by omega), Bool.true_and]
    generalize fitsP bs words = res at *
    generalize freesA 0 bs = F at *
    generalize (flat bs).length = m at *
    go_enter Try.func30, Try.ntmps30
    go_wp2_with fail
    refine FA.mono ?_
    rintro e w1 ⟨v, rfl, o1, n1, f1⟩
    obtain ⟨ov, cv, hv⟩ := o1.form
    subst hv
    generalize hln : F.length = n at *
    have H1 : Hid (OwnG elB w1 (.slice ov n cv) F ∧ Fr no w w1) := ⟨o1, f1⟩
    clear o1 n1 f1 FA
    go_wp2_with fail
    go_loopw [12] (fun i wr => ∃ t : Nat, i = .int .i64 (t : Int) ∧ t ≤ n ∧ (F.take t).any (fun b => decide (words ≤ b.2 - 2)) = false ∧ OwnG elB wr (.slice ov n cv) F ∧ Fr no w wr) (fun i _ => n - (intOf i).toNat)
    case atStart => exact ⟨0, rfl, Nat.zero_le _, rfl, H1.out⟩
    case round =>
      clear H1
      obtain ⟨t, rfl, htn, hany, ho, hfr⟩ := hrel
      by_cases hti : t < n
      · obtain ⟨x, hx⟩ : ∃ x, F[t]? = some x := ⟨_, List.getElem?_eq_getElem (by omega)⟩
        have hnx := any_next F (fun b => decide (words ≤ b.2 - 2)) t x hx
        have hxb := hin x (List.mem_of_getElem? hx)
        obtain ⟨b0, o0, hov, hc1, hc2⟩ := (ho.rd elB_ok).at2 hx
        subst hov
        obtain ⟨x1, x2⟩ := x
        simp only at hnx hxb hc1 hc2
        rw [hany, Bool.false_or] at hnx
        have hti' : (t : Int) < (n : Int) := by omega
        have HX : Hid (OwnG elB (wr.alloc (.cells #[.int .i64 x1, .int .i64 x2] 85)) (.slice (some ⟨b0, o0, none⟩) n cv) F ∧ Fr no w (wr.alloc (.cells #[.int .i64 x1, .int .i64 x2] 85))) := ⟨ho.keep ((Fr.refl no wr).alloc _ _), hfr.alloc _ _⟩
        have HA : Hid (F.any (fun b => decide (words ≤ b.2 - 2)) = false → True) := fun _ => trivial
        by_cases hw : words ≤ x2 - 2
        · have hd : decide (words ≤ x2 - 2) = true := decide_eq_true hw
          have HR : Hid (res = true) := by
            rw [Hid, HZ.out, List.any_eq_true]
            exact ⟨(x1, x2), List.mem_of_getElem? hx, hd⟩
          clear hnx hx ho hfr hany HZ hin
          go_wp2_with fail
          go_ret
          exact ⟨by rw [HR.out]; rfl, HX.out.2⟩
        · have hd : decide (words ≤ x2 - 2) = false := decide_eq_false hw
          rw [hd] at hnx
          have HN : Hid ((F.take (t + 1)).any (fun b => decide (words ≤ b.2 - 2)) = false) := hnx
          clear hnx hx ho hfr hany HZ hin
          go_wp2_with fail
          go_roundw
          case rel => exact ⟨t + 1, by go_num, by omega, HN.out, HX.out⟩
          case measure => simp [intOf]; omega
      · obtain rfl : t = n := by omega
        have HR : Hid (res = false ∧ Fr no w wr) := by
          rw [List.take_of_length_le (by omega)] at hany
          exact ⟨HZ.out.trans hany, hfr⟩
        clear hany ho hfr HZ hin
        go_wp2_with fail
        go_ret
        exact ⟨by rw [HR.out.1]; rfl, HR.out.2⟩
end Go.Proofs.Ytopcbcdigllenaa
