/- What num.Parse answers: for every text the integer of which it is the decimal text, and true; 0 and false, if there is none. -/
import Derived.Test.YtkeadhplijclcaaArith
import Derived.Test.YtkeadhplijclcaaDigits
namespace Go.Proofs.Ytkeadhplijclcaa
open Go.ChangeShapes Go.WideShapes Go.ChangeAt Go.RowKit

/-- At the label 'digit'. -/
def DigitAt (s : ByteArray) (neg : Bool) (w : World) (a' : Act) (w' : World) : Prop :=
  ∃ (k V : Nat) (v4 v5 v6 u7 u8 u9 u10 u11 u12 u13 u14 u15 u16 u17 u18 u19 u20 u21 u22 u23 u24 u25 u26 u27 u28 u29 u30 u31 u32 u33 u34 u35 u36 u37 u38 u39 u40 u41 u42 u43 u44 u45 u46 u47 u48 u49 u50 u51 u52 u53 u54 u55 u56 u57 u58 u59 u60 u61 u62 u63 u64 u65 u66 u67 : Value),
    a' = { tmps := #[.string s, undef, .int .i64 0, .bool false, v4, v5, v6, u7, u8, u9, u10, u11, u12, u13, u14, u15, u16, u17, u18, u19, u20, u21, u22, u23, u24, u25, u26, u27, u28, u29, u30, u31, u32, u33, u34, u35, u36, u37, u38, u39, u40, u41, u42, u43, u44, u45, u46, u47, u48, u49, u50, u51, u52, u53, u54, u55, u56, u57, u58, u59, u60, u61, u62, u63, u64, u65, u66, u67], defers := [] } ∧
    v4 = .int .u64 (V : Int) ∧ v5 = .int .i64 (k : Int) ∧ v6 = .int .u64 ((most neg : Nat) : Int) ∧ w = w' ∧ Dig s neg k V

/-- At the label 'none'. -/
def NoneAt (s : ByteArray) (w : World) (a' : Act) (w' : World) : Prop :=
  ∃ (v4 v5 v6 u7 u8 u9 u10 u11 u12 u13 u14 u15 u16 u17 u18 u19 u20 u21 u22 u23 u24 u25 u26 u27 u28 u29 u30 u31 u32 u33 u34 u35 u36 u37 u38 u39 u40 u41 u42 u43 u44 u45 u46 u47 u48 u49 u50 u51 u52 u53 u54 u55 u56 u57 u58 u59 u60 u61 u62 u63 u64 u65 u66 u67 : Value),
    a' = { tmps := #[.string s, undef, .int .i64 0, .bool false, v4, v5, v6, u7, u8, u9, u10, u11, u12, u13, u14, u15, u16, u17, u18, u19, u20, u21, u22, u23, u24, u25, u26, u27, u28, u29, u30, u31, u32, u33, u34, u35, u36, u37, u38, u39, u40, u41, u42, u43, u44, u45, u46, u47, u48, u49, u50, u51, u52, u53, u54, u55, u56, u57, u58, u59, u60, u61, u62, u63, u64, u65, u66, u67], defers := [] } ∧ w = w' ∧ NoInt s

/-- Whether a text begins with '-'. -/
def signed (s : ByteArray) : Bool := (nl s).head? == some 45

theorem signed_yes {s : ByteArray} (h : 0 < s.size) (hc : s[0].toNat = 45) : signed s = true := by
  obtain ⟨c, t, e, e1, _⟩ := list_cases h
  unfold signed; rw [e, e1, hc]; rfl
theorem signed_no {s : ByteArray} (h : 0 < s.size) (hc : s[0].toNat ≠ 45) : signed s = false := by
  obtain ⟨c, t, e, e1, _⟩ := list_cases h
  unfold signed; rw [e, e1]; simpa using hc
theorem signed_at {s : ByteArray} (h : 0 < s.size) : (((s[0].toNat : Nat) : Int) == 45) = signed s := by
  by_cases hc : s[0].toNat = 45
  · rw [signed_yes h hc, hc]; rfl
  · rw [signed_no h hc, beq_eq_false_iff_ne]; omega

set_option maxHeartbeats 2000000 in
theorem parse_any (s : ByteArray) (hs : s.size ≤ maxLen) (w : World) : Calls Try.prog 13 #[.string s] w fun e w' => e = .returned (.tuple #[.int .i64 (pv s), .bool (pok s)]) ∧ w = w' := by
  unfold maxLen at hs
  go_enter Try.func13, Try.ntmps13
  go_wp2
  refine wp_label_two 1 0 (by decide) (DigitAt s (signed s) w) (NoneAt s w) (fun a' _ => s.size - (intOf (a'.tmps.getD 5 undef)).toNat) rfl rfl ?_ ?_ ?_
  · intro K h0 h1 hr
    by_cases hq : (s.toList == [48]) = true
    · obtain ⟨e1, e2⟩ := parsed_zero hq
      have E : Hid (pv s = 0 ∧ pok s = true) := ⟨e1, e2⟩
      clear e1 e2
      go_wp2
      go_ret2
      exact ⟨by rw [E.out.1, E.out.2]; rfl, rfl⟩
    · have hq' : (s.toList == [48]) = false := by simpa using hq
      clear hq
      by_cases hz : s.size = 0
      · have hno := no_empty hz
        have H : Hid (NoInt s) := hno
        clear hno
        go_wp2
        go_step3
        exact h1 _ _ ⟨_, _, _, _, _, _, _, _, _, _, _, _, _, _, _, _, _, _, _, _, _, _, _, _, _, _, _, _, _, _, _, _, _, _, _, _, _, _, _, _, _, _, _, _, _, _, _, _, _, _, _, _, _, _, _, _, _, _, _, _, _, _, _, _, rfl, rfl, H.out⟩
      · have hpos : 0 < s.size := by omega
        have hz0 : ((0 : Int) == (s.size : Int)) = false := by rw [beq_eq_false_iff_ne]; omega
        clear hz
        by_cases hc : s[0].toNat = 45
        · have H45 : Hid (s[0].toNat = 45) := hc
          have hc' : (((s[0].toNat : Nat) : Int) == 45) = true := by rw [hc]; rfl
          clear hc
          by_cases h1s : s.size = 1
          · have H : Hid (NoInt s) := no_dash h1s H45.out
            have hh : ((1 : Int) == (s.size : Int)) = true := by rw [h1s]; rfl
            have H1 : Hid (s.size = 1) := h1s
            clear h1s
            go_wp2
            go_step3
            exact h1 _ _ ⟨_, _, _, _, _, _, _, _, _, _, _, _, _, _, _, _, _, _, _, _, _, _, _, _, _, _, _, _, _, _, _, _, _, _, _, _, _, _, _, _, _, _, _, _, _, _, _, _, _, _, _, _, _, _, _, _, _, _, _, _, _, _, _, _, rfl, rfl, H.out⟩
          · have h1lt : 1 < s.size := by omega
            have hh : ((1 : Int) == (s.size : Int)) = false := by rw [beq_eq_false_iff_ne]; omega
            clear h1s
            by_cases hd : s[1].toNat = 48
            · have H : Hid (NoInt s) := no_zero_neg h1lt H45.out hd
              have hd' : (((s[1].toNat : Nat) : Int) == 48) = true := by rw [hd]; rfl
              clear hd
              go_wp2
              go_step3
              exact h1 _ _ ⟨_, _, _, _, _, _, _, _, _, _, _, _, _, _, _, _, _, _, _, _, _, _, _, _, _, _, _, _, _, _, _, _, _, _, _, _, _, _, _, _, _, _, _, _, _, _, _, _, _, _, _, _, _, _, _, _, _, _, _, _, _, _, _, _, rfl, rfl, H.out⟩
            · have H : Hid (Dig s (signed s) 1 0) := by rw [signed_yes hpos H45.out]; exact start_neg h1lt H45.out hd
              have HM : Hid (most (signed s) = 9223372036854775808) := by rw [signed_yes hpos H45.out]; rfl
              have hd' : (((s[1].toNat : Nat) : Int) == 48) = false := by rw [beq_eq_false_iff_ne]; omega
              clear hd
              go_wp2
              go_step3
              rename_i hk
              refine hk _ _ (h0 _ _ ?_)
              exact ⟨1, 0, _, _, _, _, _, _, _, _, _, _, _, _, _, _, _, _, _, _, _, _, _, _, _, _, _, _, _, _, _, _, _, _, _, _, _, _, _, _, _, _, _, _, _, _, _, _, _, _, _, _, _, _, _, _, _, _, _, _, _, _, _, _, _, _, rfl, rfl, rfl, by rw [HM.out]; rfl, rfl, H.out⟩
        · have hc' : (((s[0].toNat : Nat) : Int) == 45) = false := by rw [beq_eq_false_iff_ne]; omega
          by_cases hd : s[0].toNat = 48
          · have H : Hid (NoInt s) := no_zero_pos hpos hd hq'
            have hd' : (((s[0].toNat : Nat) : Int) == 48) = true := by rw [hd]; rfl
            clear hd hc
            go_wp2
            go_step3
            exact h1 _ _ ⟨_, _, _, _, _, _, _, _, _, _, _, _, _, _, _, _, _, _, _, _, _, _, _, _, _, _, _, _, _, _, _, _, _, _, _, _, _, _, _, _, _, _, _, _, _, _, _, _, _, _, _, _, _, _, _, _, _, _, _, _, _, _, _, _, rfl, rfl, H.out⟩
          · have H : Hid (Dig s (signed s) 0 0) := by rw [signed_no hpos hc]; exact start_pos hpos hc hd
            have HM : Hid (most (signed s) = 9223372036854775807) := by rw [signed_no hpos hc]; rfl
            have hd' : (((s[0].toNat : Nat) : Int) == 48) = false := by rw [beq_eq_false_iff_ne]; omega
            clear hd hc
            go_wp2
            go_step3
            rename_i hk
            refine hk _ _ (h0 _ _ ?_)
            exact ⟨0, 0, _, _, _, _, _, _, _, _, _, _, _, _, _, _, _, _, _, _, _, _, _, _, _, _, _, _, _, _, _, _, _, _, _, _, _, _, _, _, _, _, _, _, _, _, _, _, _, _, _, _, _, _, _, _, _, _, _, _, _, _, _, _, _, _, rfl, rfl, rfl, by rw [HM.out]; rfl, rfl, H.out⟩
  · rintro a' w' ⟨k, V, v4, v5, v6, u7, u8, u9, u10, u11, u12, u13, u14, u15, u16, u17, u18, u19, u20, u21, u22, u23, u24, u25, u26, u27, u28, u29, u30, u31, u32, u33, u34, u35, u36, u37, u38, u39, u40, u41, u42, u43, u44, u45, u46, u47, u48, u49, u50, u51, u52, u53, u54, u55, u56, u57, u58, u59, u60, u61, u62, u63, u64, u65, u66, u67, rfl, rfl, rfl, rfl, rfl, hD⟩ K hj h1 hr
    obtain ⟨hks, hVm⟩ := hD.size
    have hM1 : ((most (signed s) : Nat) : Int) ≤ 9223372036854775808 := by unfold most; split <;> omega
    have hVI : (V : Int) ≤ ((most (signed s) : Nat) : Int) := by omega
    have hpos : 0 < s.size := by omega
    have hsg := signed_at hpos
    have HD : Hid (Dig s (signed s) k V) := hD
    clear hD
    by_cases hc1 : ((s[k].toNat : Nat) : Int) < 48
    · have H : Hid (NoInt s) := HD.out.no hks (Or.inl (by omega))
      go_wp2
      go_step3
      exact h1 _ _ ⟨_, _, _, _, _, _, _, _, _, _, _, _, _, _, _, _, _, _, _, _, _, _, _, _, _, _, _, _, _, _, _, _, _, _, _, _, _, _, _, _, _, _, _, _, _, _, _, _, _, _, _, _, _, _, _, _, _, _, _, _, _, _, _, _, rfl, rfl, H.out⟩
    · by_cases hc2 : 57 < ((s[k].toNat : Nat) : Int)
      · have H : Hid (NoInt s) := HD.out.no hks (Or.inr (Or.inl (by omega)))
        go_wp2
        go_step3
        exact h1 _ _ ⟨_, _, _, _, _, _, _, _, _, _, _, _, _, _, _, _, _, _, _, _, _, _, _, _, _, _, _, _, _, _, _, _, _, _, _, _, _, _, _, _, _, _, _, _, _, _, _, _, _, _, _, _, _, _, _, _, _, _, _, _, _, _, _, _, rfl, rfl, H.out⟩
      · by_cases hv : ((most (signed s) : Nat) : Int) / 10 < (V : Int)
        · have H : Hid (NoInt s) := HD.out.no hks (Or.inr (Or.inr (Or.inl (by omega))))
          go_wp2
          go_step3
          exact h1 _ _ ⟨_, _, _, _, _, _, _, _, _, _, _, _, _, _, _, _, _, _, _, _, _, _, _, _, _, _, _, _, _, _, _, _, _, _, _, _, _, _, _, _, _, _, _, _, _, _, _, _, _, _, _, _, _, _, _, _, _, _, _, _, _, _, _, _, rfl, rfl, H.out⟩
        · by_cases ho : ((most (signed s) : Nat) : Int) < (V : Int) * 10 + (((s[k].toNat : Nat) : Int) - 48)
          · have H : Hid (NoInt s) := HD.out.no hks (Or.inr (Or.inr (Or.inr (by omega))))
            go_wp2
            go_step3
            exact h1 _ _ ⟨_, _, _, _, _, _, _, _, _, _, _, _, _, _, _, _, _, _, _, _, _, _, _, _, _, _, _, _, _, _, _, _, _, _, _, _, _, _, _, _, _, _, _, _, _, _, _, _, _, _, _, _, _, _, _, _, _, _, _, _, _, _, _, _, rfl, rfl, H.out⟩
          · by_cases hn : ((k : Int) + 1) < (s.size : Int)
            · have H : Hid (Dig s (signed s) (k + 1) (V * 10 + (s[k].toNat - 48))) := HD.out.next hks (by omega) (by omega) (by omega) (by omega)
              go_wp2
              go_step3
              refine hj _ _ ?_ ?_
              · have e1 : (V : Int) * 10 + (((s[k].toNat : Nat) : Int) - 48) = ((V * 10 + (s[k].toNat - 48) : Nat) : Int) := by omega
                exact ⟨k + 1, V * 10 + (s[k].toNat - 48), _, _, _, _, _, _, _, _, _, _, _, _, _, _, _, _, _, _, _, _, _, _, _, _, _, _, _, _, _, _, _, _, _, _, _, _, _, _, _, _, _, _, _, _, _, _, _, _, _, _, _, _, _, _, _, _, _, _, _, _, _, _, _, _, rfl, by rw [e1], by go_num, rfl, rfl, H.out⟩
              · simp [intOf]; omega
            · obtain ⟨e1, e2⟩ := HD.out.last hks (by omega) (by omega) (by omega) (by omega)
              have ex : ((V * 10 + (s[k].toNat - 48) : Nat) : Int) = (V : Int) * 10 + (((s[k].toNat : Nat) : Int) - 48) := by omega
              rw [ex] at e2
              have E1 : Hid (pok s = true) := e1
              by_cases hb : signed s = true
              · rw [hb] at hsg
                have E2 : Hid (pv s = wrap64 (-wrap64 ((V : Int) * 10 + (((s[k].toNat : Nat) : Int) - 48)))) := by
                  show pv s = _
                  rw [e2, hb, if_pos rfl]; unfold wrap64; omega
                clear e1 e2 ex hb
                go_wp2
                go_ret2
                exact ⟨by rw [E1.out, E2.out]; rfl, rfl⟩
              · have hb' : signed s = false := by simpa using hb
                have hm : most (signed s) = 9223372036854775807 := by rw [hb']; rfl
                rw [hb'] at hsg
                have E2 : Hid (pv s = wrap64 ((V : Int) * 10 + (((s[k].toNat : Nat) : Int) - 48))) := by
                  show pv s = _
                  rw [e2, hb', if_neg (by simp)]; unfold wrap64; omega
                clear e1 e2 ex hb hb' hm
                go_wp2
                go_ret2
                exact ⟨by rw [E1.out, E2.out]; rfl, rfl⟩
  · rintro a' w' ⟨v4, v5, v6, u7, u8, u9, u10, u11, u12, u13, u14, u15, u16, u17, u18, u19, u20, u21, u22, u23, u24, u25, u26, u27, u28, u29, u30, u31, u32, u33, u34, u35, u36, u37, u38, u39, u40, u41, u42, u43, u44, u45, u46, u47, u48, u49, u50, u51, u52, u53, u54, u55, u56, u57, u58, u59, u60, u61, u62, u63, u64, u65, u66, u67, rfl, rfl, hno⟩ K hr
    obtain ⟨e1, e2⟩ := parsed_no hno
    have E : Hid (pv s = 0 ∧ pok s = false) := ⟨e1, e2⟩
    clear e1 e2 hno
    go_wp2
    go_ret2
    exact ⟨by rw [E.out.1, E.out.2]; rfl, rfl⟩
end Go.Proofs.Ytkeadhplijclcaa
