/- Numbers of the program's lexer. -/
import Derived.Test.YtmpahllkbpofnaaPd
namespace Go.Proofs.Ytmpahllkbpofnaa
open Go.ChangeShapes Go.WideShapes Go.ChangeAt Go.RowKit

/-- A number at a text's head. -/
def nbErr (t : ByteArray) : Nat := Y.errR (nl t)
def nbTok (t : ByteArray) : Tk := Y.mk (if Y.sufR (nl t) (Y.tw digitB (nl t)) then 4 else 3) 0 ((nl t).take (Y.endR (nl t)))

theorem headT_nl (p : Nat → Bool) (t : ByteArray) : nl (headT p t) = (nl t).take (Y.tw p (nl t)) := by
  unfold headT
  rw [Y.nl_ext, List.drop_zero, Nat.sub_zero]
theorem headT_size (p : Nat → Bool) (t : ByteArray) : (headT p t).size = Y.tw p (nl t) := by
  rw [← nl_length, headT_nl, List.length_take]
  have := Y.tw_le p (nl t)
  omega
theorem headT_all (p : Nat → Bool) (t : ByteArray) : ∀ j, j < (headT p t).size → p ((nl (headT p t)).getD j 0) = true := by
  intro j hj
  have hl : j < (nl (headT p t)).length := by rw [nl_length]; exact hj
  rw [List.getD_eq_getElem?_getD, List.getElem?_eq_getElem hl, Option.getD_some]
  refine Y.tw_take p (nl t) _ ?_
  rw [← headT_nl]
  exact List.getElem_mem hl
theorem tw_zero {p : Nat → Bool} {l : List Nat} : Y.tw p l = 0 ↔ ¬ (0 < l.length ∧ p (l.getD 0 0) = true) := by
  cases l with
  | nil => simp [Y.tw_nil]
  | cons c r =>
    cases hc : p c
    · simp [Y.tw_no hc, hc]
    · simp [Y.tw_yes hc, hc]
theorem headT_empty (p : Nat → Bool) (t : ByteArray) : (headT p t).toList.isEmpty = !(decide (0 < t.size) && p ((nl t).getD 0 0)) := by
  rw [Y.size_list, headT_size]
  by_cases h : 0 < t.size ∧ p ((nl t).getD 0 0) = true
  · rw [decide_eq_false (fun e => tw_zero.1 e (by rw [nl_length]; exact h)), decide_eq_true h.1, h.2]
    rfl
  · rw [decide_eq_true (tw_zero.2 (by rw [nl_length]; exact h))]
    have e : (decide (0 < t.size) && p ((nl t).getD 0 0)) = false := by
      rw [Bool.eq_false_iff]
      intro e
      simp only [Bool.and_eq_true, decide_eq_true_eq] at e
      exact h e
    rw [e]
    rfl
/-- What is behind the digits. -/
theorem part_cases (t : ByteArray) (D : Nat) (hD : D = Y.tw digitB (nl t)) :
    (partT (t.extract D t.size) = ⟨#[99]⟩ ∧ D < t.size ∧ (nl t).getD D 0 = 99) ∨ (partT (t.extract D t.size) = ⟨#[105]⟩ ∧ D < t.size ∧ (nl t).getD D 0 = 105) ∨ (partT (t.extract D t.size) = ⟨#[]⟩ ∧ Y.sufR (nl t) D = false) := by
  have hh : (nl (t.extract D t.size)).head? = (nl t)[D]? := by
    rw [Y.sign_ext, List.head?_drop]
  by_cases hlt : D < t.size
  · have hg : (nl t)[D]? = some ((nl t).getD D 0) := by
      rw [List.getD_eq_getElem?_getD, List.getElem?_eq_getElem (by rw [nl_length]; exact hlt), Option.getD_some]
    by_cases h1 : (nl t).getD D 0 = 99
    · exact .inl ⟨by unfold partT; rw [if_pos (by rw [hh, hg, h1])], hlt, h1⟩
    · by_cases h2 : (nl t).getD D 0 = 105
      · exact .inr (.inl ⟨by unfold partT; rw [if_neg (by rw [hh, hg, h2]; simp), if_pos (by rw [hh, hg, h2])], hlt, h2⟩)
      · refine .inr (.inr ⟨by unfold partT; rw [if_neg (by rw [hh, hg]; simpa using h1), if_neg (by rw [hh, hg]; simpa using h2)], ?_⟩)
        unfold Y.sufR
        rw [decide_eq_false h1, decide_eq_false h2]
        simp
  · have hg : (nl t)[D]? = none := List.getElem?_eq_none (by rw [nl_length]; omega)
    refine .inr (.inr ⟨by unfold partT; rw [if_neg (by rw [hh, hg]; simp), if_neg (by rw [hh, hg]; simp)], ?_⟩)
    unfold Y.sufR
    rw [decide_eq_false (by rw [nl_length]; exact hlt)]
    rfl

/-- What a number's parts say of its error, its end, its token. -/
theorem nb_parts (t : ByteArray) (D : Nat) (hD : D = Y.tw digitB (nl t)) (E : Nat) (hE : E = Y.endR (nl t)) :
    (t.extract 0 E).size = E ∧ E ≤ t.size ∧ D ≤ t.size ∧ D ≤ E := by
  have h1 := Y.tw_le digitB (nl t)
  rw [nl_length] at h1
  have h2 : E ≤ t.size ∧ D ≤ E := by
    rw [hE]
    unfold Y.endR
    split
    · rename_i hs
      unfold Y.sufR at hs
      simp only [Bool.and_eq_true, decide_eq_true_eq] at hs
      rw [nl_length] at hs
      omega
    · omega
  refine ⟨?_, h2.1, by omega, h2.2⟩
  rw [ByteArray.size_extract]
  omega
theorem letB_behind (t : ByteArray) (E : Nat) (hE : E ≤ t.size) : (headT Y.letN (t.extract E t.size)).toList.isEmpty = !(decide (E < (nl t).length) && Y.letN ((nl t).getD E 0)) := by
  rw [headT_empty, Y.sign_ext, Y.getD_drop, Nat.add_zero]
  congr 2
  rw [nl_length, ByteArray.size_extract]
  exact decide_eq_decide.2 (by omega)

set_option maxRecDepth 100000 in
set_option maxHeartbeats 4000000 in
theorem pNumber (w : World) (t : ByteArray) (ht : t.size ≤ 100000) :
    Calls Try.prog 24 #[.string t] w fun e w' => ∃ x, e = .returned (.tuple #[tkV x, .int .i64 (nbErr t : Nat)]) ∧ Hid (nbErr t = 0 → x = nbTok t) ∧ Fr no w w' := by
  have scx := store_cx
  have HH := fun w => head23 w t ht
  have hsz := headT_size digitB t
  have HV := fun w h => pValue w (headT digitB t) h (headT_all digitB t)
  have hdn0 := headT_nl digitB t
  rw [← hsz] at hdn0
  have hdn : Hid _ := hdn0
  clear hdn0
  generalize headT digitB t = dg at *
  obtain ⟨hp1, hp2, hp3, hp4⟩ := nb_parts t dg.size hsz _ rfl
  have HC := part_cases t dg.size hsz
  have HL := letB_behind t _ hp2
  have HPT := fun w => pPart w (t.extract dg.size t.size) (by rw [ByteArray.size_extract]; omega)
  have HN := fun w => head37 w (t.extract (Y.endR (nl t)) t.size) (by rw [ByteArray.size_extract]; omega)
  generalize headT Y.letN (t.extract (Y.endR (nl t)) t.size) = hd at *
  have HS : Hid (nbErr t = if 18 < dg.size then 32 else if Y.sufR (nl t) dg.size && decide (15 < dg.size) then 32 else if !hd.toList.isEmpty then 180 else 0) := by
    show _ = _
    unfold nbErr Y.errR
    rw [HL, ← hsz, Bool.not_not]
  have HT : Hid (nbTok t = Y.mk (if Y.sufR (nl t) dg.size then 4 else 3) 0 ((nl t).take (Y.endR (nl t)))) := by
    show _ = _
    unfold nbTok
    rw [← hsz]
  have hed : Y.endR (nl t) = if Y.sufR (nl t) dg.size then dg.size + 1 else dg.size := by
    unfold Y.endR
    rw [← hsz]
  have hbt := Y.ext_bytes t 0 (Y.endR (nl t))
  rw [Nat.zero_add, List.drop_zero] at hbt
  clear HL hsz
  generalize hEE : nbErr t = E at *
  have HE : Hid _ := HS.out
  clear hEE HS
  have hd0 : (0 : Int) ≤ (dg.size : Int) := by omega
  have hd1 : (dg.size : Int) ≤ (t.size : Int) := by omega
  go_enter Try.func24, Try.ntmps24
  go_wp2_with fail
  refine new_calls fun W hR F0 => ?_
  generalize hrr : w.heap.size = r at hR ⊢
  have HE0 : Hid (_ ∧ _ ∧ _) := ⟨hR, F0, Nat.le_of_eq hrr⟩
  obtain ⟨z0, z1, z2, z3, z4⟩ := box5 hR
  have fz := fun o => frozen_at (o := o) hR
  clear hR F0 hrr
  refine (HH W).mono ?_
  rintro _ W ⟨rfl, rfl⟩
  clear HH
  rcases HC with hC | hC | hC
  · obtain ⟨hpt, hlt, hch⟩ := hC
    have hsf : Y.sufR (nl t) dg.size = true := by
      unfold Y.sufR
      rw [hch, decide_eq_true (by rw [nl_length]; exact hlt)]
      rfl
    rw [hsf] at hed
    simp only [if_true] at hed
    rw [hpt] at HPT
    rw [hed] at HN hp2 hbt hp1
    have HEE : Hid (E = if 15 < dg.size then 32 else if !hd.toList.isEmpty then 180 else 0) := by
      show _ = _
      rw [HE.out, hsf]
      by_cases h15 : 15 < dg.size
      · rw [if_pos h15]
        simp [h15]
      · rw [if_neg h15, if_neg (by omega)]
        simp [h15]
    have HTT : Hid (dg.size ≤ 15 → nbTok t = ⟨4, 0, t.extract 0 (dg.size + 1), 0, floatOfInt .f64 (Y.dec (nl dg) : Int), 0⟩) := by
      intro h15
      have hl := Y.take_last (r := nl t) (d := dg.size) (by rw [nl_length]; exact hlt)
      rw [HT.out, hsf, hed]
      simp only [if_true]
      rw [Y.mk4c (by rw [hl.1, hch]), hl.2, ← hdn.out, ← hbt]
      rfl
    clear HE HT hsf hed hch hbt
    by_cases hm : 15 < dg.size
    · have hm' : (15 : Int) < (dg.size : Int) := by omega
      obtain rfl : E = 32 := HEE.out.trans (if_pos hm)
      clear HV HTT HEE HN hpt
      go_wp2_with fail
      refine (HPT _).mono ?_
      rintro _ W ⟨rfl, rfl⟩
      go_wp2_with fail
      refine ret2 (y := .int .i64 32) HE0.out.1 fun w' G => ⟨⟨0, 0, ⟨#[]⟩, 0, 0, 0⟩, rfl, fun h => by omega, HE0.out.2.1.newBk G HE0.out.2.2⟩
    · have hm' : ¬ (15 : Int) < (dg.size : Int) := by omega
      rw [if_neg hm] at HEE
      have hTT := HTT.out (by omega)
      have HTK : Hid _ := hTT
      have HVV := fun w => HV w (by omega)
      have hs1 : ((dg.size : Int) + 1) ≤ (t.size : Int) := by omega
      have hs0 : (0 : Int) ≤ ((dg.size : Int) + 1) := by omega
      clear HV HTT hTT hpt
      cases hl : hd.toList.isEmpty
      · rw [hl] at HEE
        simp only [Bool.not_false, if_true] at HEE
        obtain rfl : E = 180 := HEE.out
        clear HVV HEE
        go_wp2_with fail
        refine (HPT _).mono ?_
        rintro _ W ⟨rfl, rfl⟩
        go_wp2_with fail
        refine (HN _).mono ?_
        rintro _ W ⟨rfl, rfl⟩
        go_wp2_with fail
        refine ret2 (y := .int .i64 180) HE0.out.1 fun w' G => ⟨⟨0, 0, ⟨#[]⟩, 0, 0, 0⟩, rfl, fun h => by omega, HE0.out.2.1.newBk G HE0.out.2.2⟩
      · rw [hl] at HEE
        simp only [Bool.not_true, Bool.false_eq_true, if_false] at HEE
        obtain rfl : E = 0 := HEE.out
        clear HEE
        go_wp2_with fail
        refine (HPT _).mono ?_
        rintro _ W ⟨rfl, rfl⟩
        go_wp2_with fail
        refine (HN _).mono ?_
        rintro _ W ⟨rfl, rfl⟩
        go_wp2_with fail
        refine (HVV _).mono ?_
        rintro _ W ⟨rfl, rfl⟩
        go_wp2_with fail
        refine ret2 (y := .int .i64 0) HE0.out.1 fun w' G => ⟨⟨4, 0, t.extract 0 (dg.size + 1), 0, floatOfInt .f64 (Y.dec (nl dg) : Int), 0⟩, rfl, HTK.out.symm, HE0.out.2.1.newBk G HE0.out.2.2⟩
  · obtain ⟨hpt, hlt, hch⟩ := hC
    have hsf : Y.sufR (nl t) dg.size = true := by
      unfold Y.sufR
      rw [hch, decide_eq_true (by rw [nl_length]; exact hlt)]
      rfl
    rw [hsf] at hed
    simp only [if_true] at hed
    rw [hpt] at HPT
    rw [hed] at HN hp2 hbt hp1
    have HEE : Hid (E = if 15 < dg.size then 32 else if !hd.toList.isEmpty then 180 else 0) := by
      show _ = _
      rw [HE.out, hsf]
      by_cases h15 : 15 < dg.size
      · rw [if_pos h15]
        simp [h15]
      · rw [if_neg h15, if_neg (by omega)]
        simp [h15]
    have HTT : Hid (dg.size ≤ 15 → nbTok t = ⟨4, 0, t.extract 0 (dg.size + 1), 0, 0, floatOfInt .f64 (Y.dec (nl dg) : Int)⟩) := by
      intro h15
      have hl := Y.take_last (r := nl t) (d := dg.size) (by rw [nl_length]; exact hlt)
      rw [HT.out, hsf, hed]
      simp only [if_true]
      rw [Y.mk4i (by rw [hl.1, hch]; decide), hl.2, ← hdn.out, ← hbt]
      rfl
    clear HE HT hsf hed hch hbt
    by_cases hm : 15 < dg.size
    · have hm' : (15 : Int) < (dg.size : Int) := by omega
      obtain rfl : E = 32 := HEE.out.trans (if_pos hm)
      clear HV HTT HEE HN hpt
      go_wp2_with fail
      refine (HPT _).mono ?_
      rintro _ W ⟨rfl, rfl⟩
      go_wp2_with fail
      refine ret2 (y := .int .i64 32) HE0.out.1 fun w' G => ⟨⟨0, 0, ⟨#[]⟩, 0, 0, 0⟩, rfl, fun h => by omega, HE0.out.2.1.newBk G HE0.out.2.2⟩
    · have hm' : ¬ (15 : Int) < (dg.size : Int) := by omega
      rw [if_neg hm] at HEE
      have hTT := HTT.out (by omega)
      have HTK : Hid _ := hTT
      have HVV := fun w => HV w (by omega)
      have hs1 : ((dg.size : Int) + 1) ≤ (t.size : Int) := by omega
      have hs0 : (0 : Int) ≤ ((dg.size : Int) + 1) := by omega
      clear HV HTT hTT hpt
      cases hl : hd.toList.isEmpty
      · rw [hl] at HEE
        simp only [Bool.not_false, if_true] at HEE
        obtain rfl : E = 180 := HEE.out
        clear HVV HEE
        go_wp2_with fail
        refine (HPT _).mono ?_
        rintro _ W ⟨rfl, rfl⟩
        go_wp2_with fail
        refine (HN _).mono ?_
        rintro _ W ⟨rfl, rfl⟩
        go_wp2_with fail
        refine ret2 (y := .int .i64 180) HE0.out.1 fun w' G => ⟨⟨0, 0, ⟨#[]⟩, 0, 0, 0⟩, rfl, fun h => by omega, HE0.out.2.1.newBk G HE0.out.2.2⟩
      · rw [hl] at HEE
        simp only [Bool.not_true, Bool.false_eq_true, if_false] at HEE
        obtain rfl : E = 0 := HEE.out
        clear HEE
        go_wp2_with fail
        refine (HPT _).mono ?_
        rintro _ W ⟨rfl, rfl⟩
        go_wp2_with fail
        refine (HN _).mono ?_
        rintro _ W ⟨rfl, rfl⟩
        go_wp2_with fail
        refine (HVV _).mono ?_
        rintro _ W ⟨rfl, rfl⟩
        go_wp2_with fail
        refine ret2 (y := .int .i64 0) HE0.out.1 fun w' G => ⟨⟨4, 0, t.extract 0 (dg.size + 1), 0, 0, floatOfInt .f64 (Y.dec (nl dg) : Int)⟩, rfl, HTK.out.symm, HE0.out.2.1.newBk G HE0.out.2.2⟩
  · obtain ⟨hpt, hsf⟩ := hC
    rw [hsf] at hed
    simp only [Bool.false_eq_true, if_false] at hed
    rw [hpt] at HPT
    rw [hed] at HN hp2 hbt hp1
    have HEE : Hid (E = if 18 < dg.size then 32 else if !hd.toList.isEmpty then 180 else 0) := by
      show _ = _
      rw [HE.out, hsf]
      rfl
    have HTT : Hid (dg.size ≤ 18 → nbTok t = ⟨3, 0, t.extract 0 dg.size, (Y.dec (nl dg) : Int), 0, 0⟩) := by
      intro _
      rw [HT.out, hsf, hed]
      simp only [Bool.false_eq_true, if_false]
      rw [Y.mk3, hbt, ← hdn.out]
      rfl
    clear HE HT hsf hed hbt
    by_cases hm : 18 < dg.size
    · have hm' : (18 : Int) < (dg.size : Int) := by omega
      obtain rfl : E = 32 := HEE.out.trans (if_pos hm)
      clear HV HTT HEE HN hpt
      go_wp2_with fail
      refine (HPT _).mono ?_
      rintro _ W ⟨rfl, rfl⟩
      go_wp2_with fail
      refine ret2 (y := .int .i64 32) HE0.out.1 fun w' G => ⟨⟨0, 0, ⟨#[]⟩, 0, 0, 0⟩, rfl, fun h => by omega, HE0.out.2.1.newBk G HE0.out.2.2⟩
    · have hm' : ¬ (18 : Int) < (dg.size : Int) := by omega
      rw [if_neg hm] at HEE
      have hTT := HTT.out (by omega)
      have HTK : Hid _ := hTT
      have HVV := fun w => HV w (by omega)
      have hs1 : (dg.size : Int) ≤ (t.size : Int) := by omega
      have hs0 : (0 : Int) ≤ (dg.size : Int) := by omega
      clear HV HTT hTT hpt
      cases hl : hd.toList.isEmpty
      · rw [hl] at HEE
        simp only [Bool.not_false, if_true] at HEE
        obtain rfl : E = 180 := HEE.out
        clear HVV HEE
        go_wp2_with fail
        refine (HPT _).mono ?_
        rintro _ W ⟨rfl, rfl⟩
        go_wp2_with fail
        refine (HN _).mono ?_
        rintro _ W ⟨rfl, rfl⟩
        go_wp2_with fail
        refine ret2 (y := .int .i64 180) HE0.out.1 fun w' G => ⟨⟨0, 0, ⟨#[]⟩, 0, 0, 0⟩, rfl, fun h => by omega, HE0.out.2.1.newBk G HE0.out.2.2⟩
      · rw [hl] at HEE
        simp only [Bool.not_true, Bool.false_eq_true, if_false] at HEE
        obtain rfl : E = 0 := HEE.out
        clear HEE
        go_wp2_with fail
        refine (HPT _).mono ?_
        rintro _ W ⟨rfl, rfl⟩
        go_wp2_with fail
        refine (HN _).mono ?_
        rintro _ W ⟨rfl, rfl⟩
        go_wp2_with fail
        refine (HVV _).mono ?_
        rintro _ W ⟨rfl, rfl⟩
        go_wp2_with fail
        refine ret2 (y := .int .i64 0) HE0.out.1 fun w' G => ⟨⟨3, 0, t.extract 0 dg.size, (Y.dec (nl dg) : Int), 0, 0⟩, rfl, HTK.out.symm, HE0.out.2.1.newBk G HE0.out.2.2⟩
end Go.Proofs.Ytmpahllkbpofnaa
