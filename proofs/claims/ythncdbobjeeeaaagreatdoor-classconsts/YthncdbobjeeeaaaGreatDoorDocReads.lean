/- What the document's own reader answers: Int, Count, Text, Byte. -/
import Derived.Test.YthncdbobjeeeaaaGreatDoorDocReader
namespace Go.Proofs.YthncdbobjeeeaaaGreatDoor
open Go.ChangeShapes Go.WideShapes Go.ChangeAt Go.RowKit

theorem docUint_any (w : World) (p : Nat) (l : List Nat) (h : Rd 78 w p l) (hl : ∀ c ∈ l, c < 256) (hb : l.length ≤ 1099511627776) :
    Calls Tryz.prog 131 #[.pointer (some ⟨p, 0, none⟩)] w fun e w' => e = .returned (.tuple #[.int .u64 ((rd l 0 0).1 : Int), .int .i64 ((rd l 0 0).2.1 : Int)]) ∧ Rd 78 w' p (l.drop (rd l 0 0).2.2) ∧
      ((rd l 0 0).2.1 = 0 → Rs 78 w' p (l.drop (rd l 0 0).2.2)) ∧ Fr (fun q => q = p) w w' := by
  by_cases hn : l = []
  · subst hn
    have hR := h
    obtain ⟨v, h1, h2⟩ := h
    obtain ⟨o, cap, rfl, _⟩ := h2.shape
    refine (docUint_none w p o cap h1).mono ?_
    rintro e w' ⟨rfl, rfl⟩
    exact ⟨rfl, hR, fun h => by simp [rd] at h, Fr.refl _ _⟩
  · refine (docUint_some w p l (h.rs hn) hl hb).mono ?_
    rintro e w' ⟨rfl, h1, h2⟩
    exact ⟨rfl, h1.rd, fun _ => h1, h2⟩

theorem docInt_any (w : World) (p : Nat) (l : List Nat) (h : Rd 78 w p l) (hl : ∀ c ∈ l, c < 256) (hb : l.length ≤ 1099511627776) :
    Calls Tryz.prog 77 #[.pointer (some ⟨p, 0, none⟩)] w fun e w' => e = .returned (.tuple #[.int .i64 (unf (rd l 0 0).1), .int .i64 ((rd l 0 0).2.1 : Int)]) ∧ Rd 78 w' p (l.drop (rd l 0 0).2.2) ∧ Fr (fun q => q = p) w w' := by
  have hlt := rd_lt l 0 0 hl (by omega) (by omega)
  have U := docUint_any w p l h hl hb
  generalize rd l 0 0 = r at *
  by_cases h1 : r.1 % 2 = 1
  · have h1' : ((r.1 : Int) % 2 == 1) = true := by simp; omega
    have E : Hid (unf r.1 = - ((r.1 : Int) / 2) - 1) := by show _ = _; unfold unf; rw [if_pos h1]; omega
    clear h1
    go_enter Tryz.func77, Tryz.ntmps77
    go_wp2_with fail
    refine U.mono ?_
    rintro e w1 ⟨rfl, r1, _, r2⟩
    go_wp2_with fail
    go_ret2
    exact ⟨by rw [E.out]; rfl, r1, r2⟩
  · have h1' : ((r.1 : Int) % 2 == 1) = false := by simp; omega
    have E : Hid (unf r.1 = (r.1 : Int) / 2) := by show _ = _; unfold unf; rw [if_neg h1]; omega
    clear h1
    go_enter Tryz.func77, Tryz.ntmps77
    go_wp2_with fail
    refine U.mono ?_
    rintro e w1 ⟨rfl, r1, _, r2⟩
    go_wp2_with fail
    go_ret2
    exact ⟨by rw [E.out]; rfl, r1, r2⟩

/-- The slice that was there is laid back. -/
theorem Rd.restore {w w' : World} {p : Nat} {l : List Nat} {v v' : Value} (h1 : w.heap[p]? = some (.cells #[v] 78 (0, 0))) (h2 : Sl w v l) (hf : Fr (fun q => q = p) w w') (h3 : w'.heap[p]? = some (.cells #[v'] 78 (0, 0))) :
    Rd 78 (w'.setCell ⟨p, 0, none⟩ v) p l ∧ Fr (fun q => q = p) w (w'.setCell ⟨p, 0, none⟩ v) := by
  have hF : Fr (fun q => q = p) w' (w'.setCell ⟨p, 0, none⟩ v) := (Fr.refl (fun q => q = p) w').setCell (p := ⟨p, 0, none⟩) (fun _ => rfl) _
  have hT := hf.trans hF (fun _ _ e => e) (fun _ _ e => e)
  exact ⟨⟨v, one_setCell h3, h2.kept hT (Rd.apart ⟨v, h1, h2⟩)⟩, hT⟩

theorem docCount_any (w : World) (p : Nat) (l : List Nat) (h : Rd 78 w p l) (hl : ∀ c ∈ l, c < 256) (hb : l.length ≤ 1099511627776) (most : Int) (hm1 : -9223372036854775808 ≤ most) (hm2 : most ≤ 9223372036854775807) :
    Calls Tryz.prog 76 #[.pointer (some ⟨p, 0, none⟩), .int .i64 most] w fun e w' => e = .returned (.tuple #[.int .i64 ((ct l most).1 : Int), .int .i64 ((ct l most).2.1 : Int)]) ∧ Rd 78 w' p (l.drop (ct l most).2.2) ∧
      ((ct l most).2.1 = 0 → Rs 78 w' p (l.drop (ct l most).2.2)) ∧ Fr (fun q => q = p) w w' := by
  have hlt := rd_lt l 0 0 hl (by omega) (by omega)
  have herr := rd_err l 0 0
  have U := docUint_any w p l h hl hb
  obtain ⟨v, h1, h2⟩ := h
  obtain ⟨o, cap, e0, _⟩ := h2.shape
  have HB : Hid (∀ w' v', Fr (fun q => q = p) w w' → w'.heap[p]? = some (.cells #[v'] 78 (0, 0)) → Rd 78 (w'.setCell ⟨p, 0, none⟩ v) p l ∧ Fr (fun q => q = p) w (w'.setCell ⟨p, 0, none⟩ v)) := fun w' v' => Rd.restore h1 h2
  have hc := cell_of_one h1
  clear h1 h2
  generalize l.length = n0 at e0
  subst e0
  have Hct : Hid (ct l most = if (rd l 0 0).2.1 ≠ 0 then rd l 0 0 else if most < ((rd l 0 0).1 : Int) then (0, 32, 0) else rd l 0 0) := rfl
  generalize ct l most = c at *
  generalize rd l 0 0 = r at *
  obtain ⟨n, x, k⟩ := r
  simp only [] at *
  by_cases hx : x = 0
  · subst hx
    by_cases hbig : most < (n : Int)
    · have e : Hid (c = (0, 32, 0)) := by show _ = _; rw [Hct.out, if_neg (by omega), if_pos hbig]
      by_cases hneg : most < 0
      · go_enter Tryz.func76, Tryz.ntmps76
        go_wp2_with fail
        refine U.mono ?_
        rintro e w2 ⟨rfl, r1, r3, r2⟩
        obtain ⟨v', g1, _⟩ := r1
        have gc := cell_of_one g1
        have gf := free_of_one g1
        have B := HB.out w2 v' r2 g1
        clear g1
        go_wp2_with fail
        go_ret2
        rw [e.out]
        exact ⟨rfl, B.1, fun h => by simp at h, B.2⟩
      · go_enter Tryz.func76, Tryz.ntmps76
        go_wp2_with fail
        refine U.mono ?_
        rintro e w2 ⟨rfl, r1, r3, r2⟩
        obtain ⟨v', g1, _⟩ := r1
        have gc := cell_of_one g1
        have gf := free_of_one g1
        have B := HB.out w2 v' r2 g1
        clear g1
        go_wp2_with fail
        go_ret2
        rw [e.out]
        exact ⟨rfl, B.1, fun h => by simp at h, B.2⟩
    · have e : Hid (c = (n, 0, k)) := by show _ = _; rw [Hct.out, if_neg (by omega), if_neg hbig]
      have hneg : ¬ most < 0 := by omega
      go_enter Tryz.func76, Tryz.ntmps76
      go_wp2_with fail
      refine U.mono ?_
      rintro e w2 ⟨rfl, r1, r3, r2⟩
      go_wp2_with fail
      go_ret2
      rw [e.out]
      exact ⟨rfl, r1, fun _ => r3 trivial, r2⟩
  · have e : Hid (c = (0, x, 0)) := by show _ = _; rw [Hct.out, if_pos hx]; exact herr hx
    have hx' : ((x : Int) == 0) = false := by simp; omega
    go_enter Tryz.func76, Tryz.ntmps76
    go_wp2_with fail
    refine U.mono ?_
    rintro e w2 ⟨rfl, r1, r3, r2⟩
    obtain ⟨v', g1, _⟩ := r1
    have gc := cell_of_one g1
    have gf := free_of_one g1
    have B := HB.out w2 v' r2 g1
    clear g1
    go_wp2_with fail
    go_ret2
    rw [e.out]
    exact ⟨rfl, B.1, fun h => absurd h hx, B.2⟩

set_option maxRecDepth 100000 in
theorem docByte_any (w : World) (p : Nat) (l : List Nat) (h : Rd 78 w p l) :
    Calls Tryz.prog 79 #[.pointer (some ⟨p, 0, none⟩)] w fun e w' => e = .returned (.tuple #[.int .u8 ((by1 l).1 : Int), .int .i64 ((by1 l).2.1 : Int)]) ∧ Rd 78 w' p (l.drop (by1 l).2.2) ∧ Fr (fun q => q = p) w w' := by
  cases l with
  | nil =>
    have hR := h
    obtain ⟨v, h1, h2⟩ := h
    obtain ⟨o, cap, rfl, _⟩ := h2.shape
    have hc := cell_of_one h1
    clear h1 h2
    go_enter Tryz.func79, Tryz.ntmps79
    go_wp2_with fail
    go_ret2
    exact ⟨rfl, hR, Fr.refl _ _⟩
  | cons c cs =>
    have hR := h.rs (by simp)
    obtain ⟨b, off, cap, h1, h2, h3, h4⟩ := hR
    have M : ∀ off', (cap ≠ 1 → off' = off + 1) → _ := fun off' ho => Rs.moved (k := 1) (off' := off') h1 h2 h3 h4 (by simp) ho
    have hc := cell_of_one h1
    have hf := free_of_one h1
    have h0 : w.cell? ⟨b, off, none⟩ = some (.int .u8 (c : Int)) := h4 0 c rfl
    have hne : (((cs.length : Int) + 1) == 0) = false := by simp; omega
    unfold maxLen at h3
    clear h1 h4
    rw [List.length_cons] at h2 hc
    simp only [List.length_cons, Nat.add_sub_cancel] at M
    by_cases hck : cap = 1
    · have M1 := M off (fun h => absurd hck h)
      rw [show cap - 1 = 0 by omega] at M1
      clear M
      go_enter Tryz.func79, Tryz.ntmps79
      go_wp2_with fail
      go_ret2
      exact ⟨rfl, M1.1.rd, M1.2⟩
    · have M1 := M (off + 1) (fun _ => rfl)
      clear M
      go_enter Tryz.func79, Tryz.ntmps79
      go_wp2_with fail
      go_ret2
      exact ⟨rfl, M1.1.rd, M1.2⟩
end Go.Proofs.YthncdbobjeeeaaaGreatDoor
