/- Numbers of the document's lexer. -/
import Derived.Test.YtmpahllkbpofnaaXb
import Derived.Deep.LoopGhost
namespace Go.Proofs.Ytmpahllkbpofnaa
open Go.ChangeShapes Go.WideShapes Go.ChangeAt Go.RowKit

theorem res3 {f : Func} {W : World} {r : Nat} {x0 x1 x2 x3 x4 : Value} (h : W.heap[r]? = some (.cells #[x0, x1, x2, x3, x4] 35 (0, 0))) (tmps : Array Value) (y z : Value) (hf : f.results = #[.cell 4 35, .tmp 5, .tmp 6]) (h2 : tmps.getD 4 undef = .pointer (some ⟨r, 0, none⟩)) (h3 : tmps.getD 5 undef = y) (h4 : tmps.getD 6 undef = z) :
    (results f tmps).run Try.prog W = .ok (.tuple #[.agg #[x0, x1, x2, x3, x4], y, z]) W := by
  have h2' : tmps[4]?.getD undef = .pointer (some ⟨r, 0, none⟩) := by simpa using h2
  have h3' : tmps[5]?.getD undef = y := by simpa using h3
  have h4' : tmps[6]?.getD undef = z := by simpa using h4
  simp [results, hf, asAddr, h2', h3', h4', load43 h]

theorem at0_eq (s : ByteArray) (i : Nat) (h : i < s.size) : at0 s i = s[i].toNat := by
  unfold at0
  rw [List.getD_eq_getElem?_getD, nl_get s i h, Option.getD_some]

theorem digit_le {c : Nat} (h : digitB c = true) : 48 ≤ c ∧ c ≤ 57 := by simpa [digitB] using h

theorem runTo_next {p : Nat → Bool} {l : List Nat} {k i E : Nat} (h : runTo p l k i = E) (hk : l.length - i ≤ k) (hi : i < l.length) (hp : p (l.getD i 0) = true) : ∃ k', l.length - (i + 1) ≤ k' ∧ runTo p l k' (i + 1) = E := by
  obtain ⟨k, rfl⟩ : ∃ k0, k = k0 + 1 := ⟨k - 1, by omega⟩
  unfold runTo at h
  rw [hp, decide_eq_true hi] at h
  exact ⟨k, by omega, by simpa using h⟩
theorem runTo_here {p : Nat → Bool} {l : List Nat} {k i E : Nat} (h : runTo p l k i = E) (hp : l.length ≤ i ∨ p (l.getD i 0) = false) : E = i := by
  cases k with
  | zero => exact h.symm
  | succ k =>
    unfold runTo at h
    rcases hp with hp | hp
    · rw [decide_eq_false (by omega)] at h
      simpa using h.symm
    · rw [hp] at h
      simpa using h.symm

theorem num_step {n c : Nat} (hn : n < 10 ^ 17) (h1 : 48 ≤ c) (h2 : c ≤ 57) : wrap64 (wrap64 (10 * (n : Int)) + ((c : Int) - 48) % 256) = ((10 * n + (c - 48) : Nat) : Int) := by
  have e1 : wrap64 (10 * (n : Int)) = 10 * (n : Int) := by unfold wrap64; omega
  rw [e1]
  unfold wrap64
  omega

theorem pow17 {j : Nat} (h : j ≤ 17) : 10 ^ j ≤ 10 ^ 17 := Nat.pow_le_pow_right (by omega) h

theorem suf_c {s : ByteArray} {i : Nat} (h : i < s.size) (hc : s[i].toNat = 99 ∨ s[i].toNat = 105) : suf s i = true := by
  unfold suf sufC sufI
  rw [at0_eq s i h, decide_eq_true h]
  rcases hc with hc | hc <;> rw [hc] <;> rfl
theorem suf_no {s : ByteArray} {i : Nat} (h : i < s.size) (h1 : ¬ s[i].toNat = 99) (h2 : ¬ s[i].toNat = 105) : suf s i = false := by
  unfold suf sufC sufI
  rw [at0_eq s i h, decide_eq_false h1, decide_eq_false h2, Bool.and_false]
  rfl
theorem letAt_in {s : ByteArray} {i : Nat} (h : i < s.size) : letAt s i = letterB s[i].toNat false := by
  unfold letAt
  rw [at0_eq s i h, decide_eq_true h, Bool.true_and]
theorem letAt_out {s : ByteArray} {i : Nat} (h : ¬ i < s.size) : letAt s i = false := by
  unfold letAt
  rw [decide_eq_false h, Bool.false_and]
theorem numEnd_y {s : ByteArray} {E : Nat} (h : suf s E = true) : numEnd s E = E + 1 := by
  unfold numEnd
  rw [if_pos h]
theorem numEnd_n {s : ByteArray} {E : Nat} (h : suf s E = false) : numEnd s E = E := by
  unfold numEnd
  rw [if_neg (by rw [h]; exact Bool.false_ne_true)]
theorem numErr_big {s : ByteArray} {a j : Nat} (h : suf s (a + j) = true) (hj : 15 < j) : numErr s a (a + j) = 32 := by
  unfold numErr
  rw [h, decide_eq_true (by omega : 15 < a + j - a)]
  split <;> rfl
theorem numErr_sm {s : ByteArray} {a j : Nat} {b : Bool} (h : suf s (a + j) = false ∨ ¬ 15 < j) (hj : j ≤ 18) (hl : letAt s (numEnd s (a + j)) = b) : numErr s a (a + j) = if b then 180 else 0 := by
  unfold numErr
  rw [if_neg (by omega), hl]
  rcases h with h | h
  · rw [h]; rfl
  · rw [decide_eq_false (by omega : ¬ 15 < a + j - a), Bool.and_false]; rfl

theorem numTok_c {s : ByteArray} {a j : Nat} (h : a + j < s.size) (hc : s[a + j].toNat = 99) : numTok s a (a + j) = ⟨4, a, s.extract a (a + j + 1), 0, floatOfInt .f64 (decN (nl s) a j : Int), 0⟩ := by
  unfold numTok sufC
  rw [at0_eq s _ h, decide_eq_true h, hc, Nat.add_sub_cancel_left]
  rfl
theorem numTok_i {s : ByteArray} {a j : Nat} (h : a + j < s.size) (hc : s[a + j].toNat = 105) : numTok s a (a + j) = ⟨4, a, s.extract a (a + j + 1), 0, 0, floatOfInt .f64 (decN (nl s) a j : Int)⟩ := by
  unfold numTok sufC sufI
  rw [at0_eq s _ h, decide_eq_true h, hc, Nat.add_sub_cancel_left]
  rfl
theorem numTok_n {s : ByteArray} {a j : Nat} (h : suf s (a + j) = false) : numTok s a (a + j) = ⟨3, a, s.extract a (a + j), (decN (nl s) a j : Int), 0, 0⟩ := by
  unfold suf at h
  rw [Bool.or_eq_false_iff] at h
  unfold numTok
  rw [h.1, h.2, Nat.add_sub_cancel_left]
  rfl

section
variable {f : Func} {R : Ending → World → Prop} {W : World} {r : Nat} {x0 x1 x2 x3 x4 y0 y1 y2 y3 y4 y z : Value} {tmps : Array Value}
theorem ret3 (h : W.heap[r]? = some (.cells #[y0, y1, y2, y3, y4] 35 (0, 0))) (hR : ∀ w', Fr (Bk r) W w' → R (.returned (.tuple #[.agg #[x0, x1, x2, x3, x4], y, z])) w') (hf : f.results = #[.cell 4 35, .tmp 5, .tmp 6] := by kernel_rfl) (h2 : tmps.getD 4 undef = .pointer (some ⟨r, 0, none⟩) := by kernel_rfl) (h3 : tmps.getD 5 undef = y := by kernel_rfl) (h4 : tmps.getD 6 undef = z := by kernel_rfl) :
    bodyPost Try.prog f R .ret { tmps := tmps, defers := [] } (sets5 W r x0 x1 x2 x3 x4) := bodyPost_ret (res3 (sets5_heap h) tmps y z hf h2 h3 h4) rfl (hR _ sets5_fr)
end
theorem frozenA {w : World} {g : Nat} {c : Array Value} {t : TypeId} (h : w.heap[g]? = some (.cells c t (0, 0))) (cs : Array Value) (t' : TypeId) (o : Nat) : (w.alloc (.cells cs t')).frozen? ⟨g, o, none⟩ = false := frozen_at (((Fr.refl no w).alloc cs t').heap h (fun f => f))

set_option maxRecDepth 100000 in
set_option maxHeartbeats 4000000 in
theorem number_any (w : World) (s : ByteArray) (at' : Nat) (hat : at' < s.size) (hs : s.size ≤ 100000) :
    Calls Try.prog 30 #[.string s, .int .i64 (at' : Int)] w fun e w' => ∃ x y, e = .returned (.tuple #[tkV x, .int .i64 y, .int .i64 (numErr s at' (digE s at') : Nat)]) ∧ Hid (numErr s at' (digE s at') = 0 → x = numTok s at' (digE s at') ∧ y = (numEnd s (digE s at') : Nat)) ∧ Fr no w w' := by
  have scx := store_cx
  generalize hE : digE s at' = E
  have HE : Hid (digE s at' = E) := hE
  clear hE
  generalize hZ : numErr s at' E = Z
  have HZ : Hid (numErr s at' E = Z) := hZ
  clear hZ
  go_enter Try.func30, Try.ntmps30
  go_wp2_with fail
  refine new_wp fun W hR F0 => ?_
  generalize hrr : w.heap.size = r at hR ⊢
  have HE0 : Hid (_ ∧ _ ∧ _) := ⟨hR, F0, Nat.le_of_eq hrr⟩
  clear hR F0 hrr
  go_loopw [7, 8] (fun i n wr => wr = W ∧ ∃ k j : Nat, i = .int .i64 ((at' + j : Nat) : Int) ∧ n = .int .i64 (decN (nl s) at' j : Int) ∧ j ≤ 18 ∧ at' + j ≤ s.size ∧ Hid (s.size - (at' + j) ≤ k ∧ runTo digitB (nl s) k (at' + j) = E) ∧ Hid (∀ i, i < j → digitB ((nl s).getD (at' + i) 0) = true)) (fun i _ _ => s.size - (intOf i).toNat)
  case atStart => exact ⟨rfl, (nl s).length, 0, rfl, rfl, by omega, by omega, ⟨by rw [nl_length]; omega, HE.out⟩, fun i h => by omega⟩
  case round =>
    obtain ⟨rfl, k, j, rfl, rfl, hj, hjs, HK, HD⟩ := hrel
    by_cases hlt : at' + j < s.size
    · have hlt' : ((at' + j : Nat) : Int) < (s.size : Int) := by omega
      have DG := digit_any wr s[at' + j].toNat
      have hge0 : (0 : Int) ≤ ((at' + j : Nat) : Int) := by omega
      have HA : Hid ((nl s).getD (at' + j) 0 = s[at' + j].toNat) := at0_eq s (at' + j) hlt
      cases hd : digitB s[at' + j].toNat
      · rw [hd] at DG
        have hEj : E = at' + j := runTo_here HK.out.2 (.inr (by rw [HA.out]; exact hd))
        obtain ⟨z0, z1, z2, z3, z4⟩ := box5 HE0.out.1
        have a0 := alloc_cell z0
        have a1 := alloc_cell z1
        have a2 := alloc_cell z2
        have a3 := alloc_cell z3
        have a4 := alloc_cell z4
        have fz := frozenA HE0.out.1
        clear z0 z1 z2 z3 z4
        subst hEj
        have hj0 : (0 : Int) ≤ (j : Int) := by omega
        have hdf : ((at' + j : Nat) : Int) - (at' : Int) = (j : Int) := by omega
        by_cases h99 : s[at' + j].toNat = 99
        · skip
          have hsuf : suf s (at' + j) = true := suf_c hlt (.inl h99)
          rw [h99] at DG
          by_cases h15 : 15 < j
          · have hz : Z = 32 := HZ.out.symm.trans (numErr_big hsuf h15)
            subst hz
            go_wp2_with fail
            refine DG.mono ?_
            rintro _ _ ⟨rfl, rfl⟩
            go_wp2_with fail
            refine ret3 (y := .int .i64 0) (z := .int .i64 32) (((Fr.refl no _).alloc _ _).heap HE0.out.1 (fun f => f)) fun w' G => ⟨⟨3, at', ⟨#[]⟩, (decN (nl s) at' j), 0, 0⟩, 0, rfl, fun h => by omega, ((HE0.out.2.1).alloc _ _).newBk G HE0.out.2.2⟩
          · have HTOK : Hid _ := numTok_c hlt h99
            have hE0 := numEnd_y hsuf
            have hE1 : numEnd s (at' + j) = (at' + j + 1) := hE0
            have e0 : (0 : Int) ≤ (at' : Int) := by omega
            have e2 : (at' : Int) ≤ ((at' : Int) + (j : Int) + 1) := by omega
            have e3 : ((at' : Int) + (j : Int) + 1) ≤ (s.size : Int) := by omega
            have e4 : ¬ ((at' : Int) + (j : Int) + 1) < (at' : Int) := by omega
            have e5 : ¬ (at' + j + 1) < at' := by omega
            by_cases hn : (at' + j + 1) < s.size
            · have hn' : ((at' : Int) + (j : Int) + 1) < (s.size : Int) := by omega
              cases hl : letterB s[(at' + j + 1)].toNat false
              · have hz := numErr_sm (s := s) (a := at') (.inr h15) hj (by rw [hE1, letAt_in hn, hl])
                rw [HZ.out] at hz
                simp only [Bool.false_eq_true, if_false] at hz
                subst hz
                have LT := letter_any
                have HEND : Hid (numEnd s (at' + j) = (at' + j + 1)) := hE1
                have HLT := fun w => LT w s[(at' + j + 1)].toNat false
                rw [hl] at HLT
                clear LT hE1 hE0 hl
                go_wp2_with fail
                refine DG.mono ?_
                rintro _ _ ⟨rfl, rfl⟩
                go_wp2_with fail
                skip
                refine (HLT _).mono ?_
                rintro _ _ ⟨rfl, rfl⟩
                go_wp2_with fail
                refine ret3 (y := .int .i64 (((at' : Int) + (j : Int) + 1))) (z := .int .i64 0) (((Fr.refl no _).alloc _ _).heap HE0.out.1 (fun f => f)) fun w' G => ⟨⟨4, at', s.extract at' ((at' + j + 1)), 0, (floatOfInt .f64 (decN (nl s) at' j : Int)), 0⟩, _, rfl, ⟨HTOK.out.symm, by rw [HEND.out]; rfl⟩, ((HE0.out.2.1).alloc _ _).newBk G HE0.out.2.2⟩
              · have hz := numErr_sm (s := s) (a := at') (.inr h15) hj (by rw [hE1, letAt_in hn, hl])
                rw [HZ.out] at hz
                simp only [if_true] at hz
                subst hz
                have LT := letter_any
                have HEND : Hid (numEnd s (at' + j) = (at' + j + 1)) := hE1
                have HLT := fun w => LT w s[(at' + j + 1)].toNat false
                rw [hl] at HLT
                clear LT hE1 hE0 hl
                go_wp2_with fail
                refine DG.mono ?_
                rintro _ _ ⟨rfl, rfl⟩
                go_wp2_with fail
                skip
                refine (HLT _).mono ?_
                rintro _ _ ⟨rfl, rfl⟩
                go_wp2_with fail
                refine ret3 (y := .int .i64 0) (z := .int .i64 180) (((Fr.refl no _).alloc _ _).heap HE0.out.1 (fun f => f)) fun w' G => ⟨⟨4, at', ⟨#[]⟩, 0, (floatOfInt .f64 (decN (nl s) at' j : Int)), 0⟩, 0, rfl, fun h => by omega, ((HE0.out.2.1).alloc _ _).newBk G HE0.out.2.2⟩
            · have hz := numErr_sm (s := s) (a := at') (.inr h15) hj (by rw [hE1, letAt_out hn])
              rw [HZ.out] at hz
              simp only [Bool.false_eq_true, if_false] at hz
              subst hz
              have hn' : ¬ ((at' : Int) + (j : Int) + 1) < (s.size : Int) := by omega
              have HEND : Hid (numEnd s (at' + j) = (at' + j + 1)) := hE1
              clear hE1 hE0
              go_wp2_with fail
              refine DG.mono ?_
              rintro _ _ ⟨rfl, rfl⟩
              go_wp2_with fail
              refine ret3 (y := .int .i64 (((at' : Int) + (j : Int) + 1))) (z := .int .i64 0) (((Fr.refl no _).alloc _ _).heap HE0.out.1 (fun f => f)) fun w' G => ⟨⟨4, at', s.extract at' ((at' + j + 1)), 0, (floatOfInt .f64 (decN (nl s) at' j : Int)), 0⟩, _, rfl, ⟨HTOK.out.symm, by rw [HEND.out]; rfl⟩, ((HE0.out.2.1).alloc _ _).newBk G HE0.out.2.2⟩
        · by_cases h105 : s[at' + j].toNat = 105
          · skip
            have hsuf : suf s (at' + j) = true := suf_c hlt (.inr h105)
            rw [h105] at DG
            by_cases h15 : 15 < j
            · have hz : Z = 32 := HZ.out.symm.trans (numErr_big hsuf h15)
              subst hz
              go_wp2_with fail
              refine DG.mono ?_
              rintro _ _ ⟨rfl, rfl⟩
              go_wp2_with fail
              refine ret3 (y := .int .i64 0) (z := .int .i64 32) (((Fr.refl no _).alloc _ _).heap HE0.out.1 (fun f => f)) fun w' G => ⟨⟨3, at', ⟨#[]⟩, (decN (nl s) at' j), 0, 0⟩, 0, rfl, fun h => by omega, ((HE0.out.2.1).alloc _ _).newBk G HE0.out.2.2⟩
            · have HTOK : Hid _ := numTok_i hlt h105
              have hE0 := numEnd_y hsuf
              have hE1 : numEnd s (at' + j) = (at' + j + 1) := hE0
              have e0 : (0 : Int) ≤ (at' : Int) := by omega
              have e2 : (at' : Int) ≤ ((at' : Int) + (j : Int) + 1) := by omega
              have e3 : ((at' : Int) + (j : Int) + 1) ≤ (s.size : Int) := by omega
              have e4 : ¬ ((at' : Int) + (j : Int) + 1) < (at' : Int) := by omega
              have e5 : ¬ (at' + j + 1) < at' := by omega
              by_cases hn : (at' + j + 1) < s.size
              · have hn' : ((at' : Int) + (j : Int) + 1) < (s.size : Int) := by omega
                cases hl : letterB s[(at' + j + 1)].toNat false
                · have hz := numErr_sm (s := s) (a := at') (.inr h15) hj (by rw [hE1, letAt_in hn, hl])
                  rw [HZ.out] at hz
                  simp only [Bool.false_eq_true, if_false] at hz
                  subst hz
                  have LT := letter_any
                  have HEND : Hid (numEnd s (at' + j) = (at' + j + 1)) := hE1
                  have HLT := fun w => LT w s[(at' + j + 1)].toNat false
                  rw [hl] at HLT
                  clear LT hE1 hE0 hl
                  go_wp2_with fail
                  refine DG.mono ?_
                  rintro _ _ ⟨rfl, rfl⟩
                  go_wp2_with fail
                  skip
                  refine (HLT _).mono ?_
                  rintro _ _ ⟨rfl, rfl⟩
                  go_wp2_with fail
                  refine ret3 (y := .int .i64 (((at' : Int) + (j : Int) + 1))) (z := .int .i64 0) (((Fr.refl no _).alloc _ _).heap HE0.out.1 (fun f => f)) fun w' G => ⟨⟨4, at', s.extract at' ((at' + j + 1)), 0, 0, (floatOfInt .f64 (decN (nl s) at' j : Int))⟩, _, rfl, ⟨HTOK.out.symm, by rw [HEND.out]; rfl⟩, ((HE0.out.2.1).alloc _ _).newBk G HE0.out.2.2⟩
                · have hz := numErr_sm (s := s) (a := at') (.inr h15) hj (by rw [hE1, letAt_in hn, hl])
                  rw [HZ.out] at hz
                  simp only [if_true] at hz
                  subst hz
                  have LT := letter_any
                  have HEND : Hid (numEnd s (at' + j) = (at' + j + 1)) := hE1
                  have HLT := fun w => LT w s[(at' + j + 1)].toNat false
                  rw [hl] at HLT
                  clear LT hE1 hE0 hl
                  go_wp2_with fail
                  refine DG.mono ?_
                  rintro _ _ ⟨rfl, rfl⟩
                  go_wp2_with fail
                  skip
                  refine (HLT _).mono ?_
                  rintro _ _ ⟨rfl, rfl⟩
                  go_wp2_with fail
                  refine ret3 (y := .int .i64 0) (z := .int .i64 180) (((Fr.refl no _).alloc _ _).heap HE0.out.1 (fun f => f)) fun w' G => ⟨⟨4, at', ⟨#[]⟩, 0, 0, (floatOfInt .f64 (decN (nl s) at' j : Int))⟩, 0, rfl, fun h => by omega, ((HE0.out.2.1).alloc _ _).newBk G HE0.out.2.2⟩
              · have hz := numErr_sm (s := s) (a := at') (.inr h15) hj (by rw [hE1, letAt_out hn])
                rw [HZ.out] at hz
                simp only [Bool.false_eq_true, if_false] at hz
                subst hz
                have hn' : ¬ ((at' : Int) + (j : Int) + 1) < (s.size : Int) := by omega
                have HEND : Hid (numEnd s (at' + j) = (at' + j + 1)) := hE1
                clear hE1 hE0
                go_wp2_with fail
                refine DG.mono ?_
                rintro _ _ ⟨rfl, rfl⟩
                go_wp2_with fail
                refine ret3 (y := .int .i64 (((at' : Int) + (j : Int) + 1))) (z := .int .i64 0) (((Fr.refl no _).alloc _ _).heap HE0.out.1 (fun f => f)) fun w' G => ⟨⟨4, at', s.extract at' ((at' + j + 1)), 0, 0, (floatOfInt .f64 (decN (nl s) at' j : Int))⟩, _, rfl, ⟨HTOK.out.symm, by rw [HEND.out]; rfl⟩, ((HE0.out.2.1).alloc _ _).newBk G HE0.out.2.2⟩
          · have hsuf : suf s (at' + j) = false := suf_no hlt h99 h105
            have g99 : ((s[at' + j].toNat : Int) == 99) = false := by simp; omega
            have g105 : ((s[at' + j].toNat : Int) == 105) = false := by simp; omega
            have HTOK : Hid _ := numTok_n hsuf
            have hE0 := numEnd_n hsuf
            have hE1 : numEnd s (at' + j) = (at' + j) := hE0
            have e0 : (0 : Int) ≤ (at' : Int) := by omega
            have e2 : (at' : Int) ≤ ((at' : Int) + (j : Int)) := by omega
            have e3 : ((at' : Int) + (j : Int)) ≤ (s.size : Int) := by omega
            have e4 : ¬ ((at' : Int) + (j : Int)) < (at' : Int) := by omega
            have e5 : ¬ (at' + j) < at' := by omega
            have hn := hlt
            cases hl : letterB s[(at' + j)].toNat false
            · have hz := numErr_sm (s := s) (a := at') (.inl hsuf) hj (by rw [hE1, letAt_in hn, hl])
              rw [HZ.out] at hz
              simp only [Bool.false_eq_true, if_false] at hz
              subst hz
              have LT := letter_any
              have HEND : Hid (numEnd s (at' + j) = (at' + j)) := hE1
              have HLT := fun w => LT w s[(at' + j)].toNat false
              rw [hl] at HLT
              clear LT hE1 hE0 hl
              go_wp2_with fail
              refine DG.mono ?_
              rintro _ _ ⟨rfl, rfl⟩
              go_wp2_with fail
              skip
              refine (HLT _).mono ?_
              rintro _ _ ⟨rfl, rfl⟩
              go_wp2_with fail
              refine ret3 (y := .int .i64 (((at' : Int) + (j : Int)))) (z := .int .i64 0) (((Fr.refl no _).alloc _ _).heap HE0.out.1 (fun f => f)) fun w' G => ⟨⟨3, at', s.extract at' ((at' + j)), (decN (nl s) at' j), 0, 0⟩, _, rfl, ⟨HTOK.out.symm, by rw [HEND.out]; rfl⟩, ((HE0.out.2.1).alloc _ _).newBk G HE0.out.2.2⟩
            · have hz := numErr_sm (s := s) (a := at') (.inl hsuf) hj (by rw [hE1, letAt_in hn, hl])
              rw [HZ.out] at hz
              simp only [if_true] at hz
              subst hz
              have LT := letter_any
              have HEND : Hid (numEnd s (at' + j) = (at' + j)) := hE1
              have HLT := fun w => LT w s[(at' + j)].toNat false
              rw [hl] at HLT
              clear LT hE1 hE0 hl
              go_wp2_with fail
              refine DG.mono ?_
              rintro _ _ ⟨rfl, rfl⟩
              go_wp2_with fail
              skip
              refine (HLT _).mono ?_
              rintro _ _ ⟨rfl, rfl⟩
              go_wp2_with fail
              refine ret3 (y := .int .i64 0) (z := .int .i64 180) (((Fr.refl no _).alloc _ _).heap HE0.out.1 (fun f => f)) fun w' G => ⟨⟨3, at', ⟨#[]⟩, (decN (nl s) at' j), 0, 0⟩, 0, rfl, fun h => by omega, ((HE0.out.2.1).alloc _ _).newBk G HE0.out.2.2⟩
      · rw [hd] at DG
        have hc := digit_le hd
        have HN := runTo_next HK.out.2 (by rw [nl_length]; exact HK.out.1) (by rw [nl_length]; exact hlt) (by rw [HA.out]; exact hd)
        have HNN : Hid _ := HN
        clear HN
        by_cases hj18 : 18 ≤ j
        · have hz : Z = 32 := by
            rw [← HZ.out]
            obtain ⟨k', h1, h2⟩ := HNN.out
            have := runTo_ge digitB (nl s) k' (at' + j + 1)
            unfold numErr
            rw [if_pos (by omega)]
          subst hz
          obtain ⟨z0, z1, z2, z3, z4⟩ := box5 HE0.out.1
          have fz := fun o => frozen_at (o := o) HE0.out.1
          go_wp2_with fail
          refine DG.mono ?_
          rintro _ _ ⟨rfl, rfl⟩
          go_wp2_with fail
          refine ret3 (y := .int .i64 0) (z := .int .i64 32) HE0.out.1 fun w' G => ⟨⟨0, 0, ⟨#[]⟩, 0, 0, 0⟩, 0, rfl, fun h => by omega, HE0.out.2.1.newBk G HE0.out.2.2⟩
        · have hn18 : decN (nl s) at' j < 10 ^ 17 := Nat.lt_of_lt_of_le (decN_lt (nl s) at' j (fun i hi => (digit_le (HD.out i hi)).2)) (pow17 (by omega))
          have HW : Hid (wrap64 (wrap64 (10 * (decN (nl s) at' j : Int)) + ((s[at' + j].toNat : Int) - 48) % 256) = ((decN (nl s) at' (j + 1) : Nat) : Int)) := by
            rw [Hid, num_step hn18 hc.1 hc.2, decN, HA.out]
          have HD2 : Hid (∀ i, i < j + 1 → digitB ((nl s).getD (at' + i) 0) = true) := fun i hi => by
            rcases Nat.lt_succ_iff_lt_or_eq.1 hi with h | rfl
            · exact HD.out i h
            · rw [HA.out]; exact hd
          clear hn18 hc
          go_wp2_with fail
          refine DG.mono ?_
          rintro _ _ ⟨rfl, rfl⟩
          go_wp2_with fail
          go_roundw
          case rel =>
            obtain ⟨k', h1, h2⟩ := HNN.out
            exact ⟨trivial, k', j + 1, by congr 1, by rw [HW.out], by omega, by omega, ⟨by rw [nl_length] at h1; exact h1, h2⟩, HD2.out⟩
          case measure => simp [intOf]; omega
    · have hEj : E = at' + j := runTo_here HK.out.2 (.inl (by rw [nl_length]; omega))
      have hsz : s.size = at' + j := by omega
      have hz : Z = 0 := by
        rw [← HZ.out]
        unfold numErr numEnd suf sufC sufI letAt
        rw [hEj, decide_eq_false (by omega : ¬ at' + j < s.size)]
        simp only [Bool.false_and, Bool.false_or, Bool.false_eq_true, if_false]
        rw [if_neg (by omega), decide_eq_false (by omega : ¬ at' + j < s.size)]
        rfl
      subst hz
      have e0 : (0 : Int) ≤ (at' : Int) := by omega
      have e2 : (at' : Int) ≤ (at' : Int) + (j : Int) := by omega
      have e3 : (at' : Int) + (j : Int) ≤ (s.size : Int) := by omega
      have e4 : ¬ (at' : Int) + (j : Int) < (at' : Int) := by omega
      have e5 : ¬ at' + j < at' := by omega
      have HSZ : Hid _ := hsz
      have HEJ : Hid _ := hEj
      clear hsz hEj
      have hne : ¬ ((at' + j : Nat) : Int) < (s.size : Int) := by omega
      obtain ⟨z0, z1, z2, z3, z4⟩ := box5 HE0.out.1
      have a0 := alloc_cell z0
      have a1 := alloc_cell z1
      have a2 := alloc_cell z2
      have a3 := alloc_cell z3
      have a4 := alloc_cell z4
      have fz := frozenA HE0.out.1
      clear z0 z1 z2 z3 z4
      go_wp2_with fail
      have HSF : suf s (at' + j) = false := by
        unfold suf sufC sufI
        rw [decide_eq_false (by have := HSZ.out; omega : ¬ at' + j < s.size)]
        rfl
      have hEnd := numEnd_n HSF
      have hTok := numTok_n HSF
      refine ret3 (y := .int .i64 ((at' : Int) + (j : Int))) (z := .int .i64 0) (((Fr.refl no _).alloc _ _).heap HE0.out.1 (fun f => f)) fun w' G => ⟨⟨3, at', s.extract at' (at' + j), decN (nl s) at' j, 0, 0⟩, _, rfl, ⟨by rw [HEJ.out, hTok], by rw [HEJ.out, hEnd]; rfl⟩, ((HE0.out.2.1).alloc _ _).newBk G HE0.out.2.2⟩
end Go.Proofs.Ytmpahllkbpofnaa
