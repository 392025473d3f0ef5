/- Digits are a number: the statement's walk. -/
import Derived.Test.YtmpahllkbpofnaaKu
namespace Go.Proofs.Ytmpahllkbpofnaa
open Go.ChangeShapes Go.WideShapes Go.ChangeAt Go.RowKit

theorem order_self (d : Ieee.Datum) (h : d.isNaN = false) : d.order d = some .eq := by
  cases d with
  | nan s f => simp [Ieee.Datum.isNaN] at h
  | infinity s =>
    unfold Ieee.Datum.order
    cases s <;> rfl
  | number s m p =>
    unfold Ieee.Datum.order
    simp
theorem read_num (f : Ieee.Format) (x : Nat) (h : x ≤ f.infRung) (h1 : f.infRung < f.signWeight) : (f.read x).isNaN = false := by
  unfold Ieee.Format.read
  rw [Nat.mod_eq_of_lt (Nat.lt_of_le_of_lt h h1)]
  simp only
  by_cases a : x < f.binade
  · rw [if_pos a]
    rfl
  · rw [if_neg a]
    by_cases b : x < f.infRung
    · rw [if_pos b]
      rfl
    · rw [if_neg b, if_pos (by omega)]
      rfl
theorem near_le (f : Ieee.Format) (m : Nat) : f.nearest false m 0 ≤ f.infRung := by
  unfold Ieee.Format.nearest Ieee.Format.word
  split
  · exact Nat.zero_le _
  · exact Nat.min_le_right _ _
theorem order_near (f : Ieee.Format) (m : Nat) (h1 : f.infRung < f.signWeight) : f.order (f.nearest false m 0) (f.nearest false m 0) = some .eq := by
  unfold Ieee.Format.order
  exact order_self _ (read_num f _ (near_le f m) h1)
theorem double_top : Ieee.double.infRung < Ieee.double.signWeight := by
  show (2 ^ 11 - 1) * 2 ^ 52 < 2 ^ (11 + 52)
  omega
/-- A whole number's float is like itself. -/
theorem feq_nat (n : Nat) : Op.floatEq .f64 (floatOfInt .f64 (n : Int)) (floatOfInt .f64 (n : Int)) = true := by
  have e : floatOfInt .f64 (n : Int) = FloatKind.f64.format.nearest false n 0 := by
    unfold floatOfInt FloatKind.nearest FloatKind.encode
    rw [decide_eq_false (by omega : ¬ (n : Int) < 0)]
    rfl
  rw [e]
  unfold Op.floatEq
  rw [order_near FloatKind.f64.format n double_top]
  rfl

theorem idx0 (w : World) : (Instr.index 37 (.agg #[.string ⟨#[]⟩, .string ⟨#[99]⟩, .string ⟨#[105]⟩, .string ⟨#[120]⟩]) (.int .u8 0)).run Try.prog w = .ok (.string ⟨#[]⟩) w := by kernel_rfl
theorem idx1 (w : World) : (Instr.index 37 (.agg #[.string ⟨#[]⟩, .string ⟨#[99]⟩, .string ⟨#[105]⟩, .string ⟨#[120]⟩]) (.int .u8 1)).run Try.prog w = .ok (.string ⟨#[99]⟩) w := by kernel_rfl
theorem idx2 (w : World) : (Instr.index 37 (.agg #[.string ⟨#[]⟩, .string ⟨#[99]⟩, .string ⟨#[105]⟩, .string ⟨#[120]⟩]) (.int .u8 2)).run Try.prog w = .ok (.string ⟨#[105]⟩) w := by kernel_rfl
theorem idx3 (w : World) : (Instr.index 37 (.agg #[.string ⟨#[]⟩, .string ⟨#[99]⟩, .string ⟨#[105]⟩, .string ⟨#[120]⟩]) (.int .u8 3)).run Try.prog w = .ok (.string ⟨#[120]⟩) w := by kernel_rfl
theorem z48 (l : List Nat) : (⟨#[48]⟩ : ByteArray) ++ Y.bytes l = Y.bytes (48 :: l) := (Y.bytes_app [48] l).symm
theorem cat_sp (l t : List Nat) : (⟨#[32]⟩ : ByteArray) ++ Y.bytes l ++ Y.bytes t = Y.bytes (32 :: (l ++ t)) := by
  rw [show (32 :: (l ++ t)) = [32] ++ l ++ t from rfl, Y.bytes_app, Y.bytes_app]
  rfl
theorem rep_succ (k : Nat) (d : List Nat) : 48 :: (List.replicate k 48 ++ d) = List.replicate (k + 1) 48 ++ d := rfl
theorem mk_kind (k a : Nat) (t : List Nat) : (Y.mk k a t).kind = (k : Int) := by
  unfold Y.mk
  split
  · rename_i h; subst h; rfl
  · split
    · rename_i h; subst h; split <;> rfl
    · rfl

set_option maxRecDepth 100000 in
set_option maxHeartbeats 8000000 in
theorem numbers_all (w : World) (n : Int) (how zs : Nat) (hn1 : -9223372036854775808 ≤ n) (hn2 : n ≤ 9223372036854775807) (hh : how ≤ 255) (hz : zs ≤ 255) :
    Calls Try.prog 5 #[.int .i64 n, .int .u8 (how : Int), .int .u8 (zs : Int)] w fun e w' => e = .returned (.bool true) ∧ Fr no w w' := by
  have KN := known_any w
  by_cases h0 : n < 0
  · go_enter Try.func5, Try.ntmps5
    go_wp2_with fail
    refine KN.mono ?_
    rintro _ w1 ⟨rfl, f1⟩
    have HF : Hid (Fr no w w1) := f1
    clear f1
    go_wp2_with fail
    go_ret
    exact ⟨rfl, HF.out⟩
  · obtain ⟨m, rfl⟩ : ∃ m : Nat, n = (m : Int) := ⟨n.toNat, by omega⟩
    have NP := fun w => numPrint w m (by omega)
    have hZ : ((zs : Int) % 12) = ((zs % 12 : Nat) : Int) := by omega
    have hZ2 : zs % 12 ≤ 11 := by omega
    have HFE : Hid (Op.floatEq .f64 (floatOfInt .f64 (m : Int)) (floatOfInt .f64 (m : Int)) = true) := feq_nat m
    go_enter Try.func5, Try.ntmps5
    go_wp2_with fail
    refine KN.mono ?_
    rintro _ w1 ⟨rfl, f1⟩
    have HF : Hid (Fr no w w1) := f1
    clear f1
    go_wp2_with fail
    refine (NP _).mono ?_
    rintro _ w2 ⟨d, rfl, HD, f2⟩
    have HF2 : Hid (Fr no w w2) := HF.out.and f2
    clear f2 HF
    generalize hq : zs % 12 = Z at *
    clear hq
    go_wp2_with fail
    go_loopw [7, 8] (fun sv iv wr => wr = w2 ∧ ∃ k : Nat, iv = .int .i64 (k : Int) ∧ k ≤ Z ∧ sv = .string (Y.bytes (List.replicate k 48 ++ d))) (fun _ iv _ => Z - (intOf iv).toNat)
    case atStart => exact ⟨rfl, 0, rfl, Nat.zero_le _, rfl⟩
    case round =>
      obtain ⟨hwr, k, rfl, hk, rfl⟩ := hrel
      subst hwr
      have k0 : (0 : Int) ≤ (k : Int) := by omega
      have HDL := HD.out.2.2.1
      by_cases hlt : k < Z
      · have hlt' : (k : Int) < (Z : Int) := by omega
        have hsz : (Y.bytes (List.replicate k 48 ++ d)).size ≤ 100 := by rw [Y.size_bytes, List.length_append, List.length_replicate]; omega
        have hc := z48 (List.replicate k 48 ++ d)
        rw [rep_succ] at hc
        clear HDL
        go_wp2_with fail
        go_roundw
        case rel => exact ⟨trivial, k + 1, by congr 1, by omega, rfl⟩
        case measure => simp [intOf]; omega
      · obtain rfl : k = Z := by omega
        have hlt' : ¬ (k : Int) < (k : Int) := by omega
        have HP : Hid ((∀ c ∈ List.replicate k 48 ++ d, digitB c = true) ∧ List.replicate k 48 ++ d ≠ [] ∧ (List.replicate k 48 ++ d).length ≤ 30 ∧ Y.dec (List.replicate k 48 ++ d) = m) :=
          ⟨Y.zeros_dig HD.out.1, by simp [HD.out.2.1], by rw [List.length_append, List.length_replicate]; omega, by rw [Y.dec_zeros]; exact HD.out.2.2.2⟩
        clear hlt hk HDL HD hlt'
        generalize List.replicate k 48 ++ d = D at *
        have hsz : (Y.bytes D).size = D.length := Y.size_bytes D
        have hD30 := HP.out.2.2.1
        rcases (show how % 4 = 0 ∨ how % 4 = 1 ∨ how % 4 = 2 ∨ how % 4 = 3 by omega) with hr | hr | hr | hr
        · have hr' : (how : Int) % 4 = 0 := by omega
          clear hr
          have ix := idx0
          have hcat := cat_sp D []
          rw [List.append_nil] at hcat
          have HX := Y.lex_num HP.out.1 HP.out.2.1 (by omega)
          have PA := fun w => pAll w (Y.bytes (32 :: D))
          rw [HX] at PA
          clear HX
          have hc1 : (⟨#[32]⟩ ++ Y.bytes D : ByteArray).size ≤ 100 := by rw [Y.size_app, hsz]; have : (⟨#[32]⟩ : ByteArray).size = 1 := rfl; omega
          rw [show (Y.bytes [] : ByteArray) = ⟨#[]⟩ from rfl] at hcat
          by_cases hb : 18 < D.length
          · rw [if_pos hb] at PA
            have e1 : (18 : Int) < (D.length : Int) := by omega
            clear hb HP
            go_wp2_with fail
            refine (PA _).mono ?_
            rintro _ w3 ⟨v3, rfl, ⟨o3, -⟩, f3⟩
            obtain ⟨oo, cc, rfl⟩ := o3.form
            have HG : Hid (Fr no w w3) := HF2.out.and f3
            clear o3 f3
            go_wp2_with fail
            all_goals
              go_ret
              exact ⟨rfl, HG.out⟩
          · rw [if_neg hb] at PA
            have e1 : ¬ (18 : Int) < (D.length : Int) := by omega
            have hm : Y.mk 3 1 D = ⟨3, 1, Y.bytes D, (m : Int), 0, 0⟩ := by rw [Y.mk3, HP.out.2.2.2]; rfl
            rw [hm] at PA
            clear hm hb HP
            have hcat2 : Y.bytes D ++ (⟨#[]⟩ : ByteArray) = Y.bytes D := by rw [show (⟨#[]⟩ : ByteArray) = Y.bytes [] from rfl, ← Y.bytes_app, List.append_nil]
            have hfe : (FloatKind.f64.format.order (floatOfInt .f64 (m : Int)) (floatOfInt .f64 (m : Int)) == some Ordering.eq) = true := HFE.out
            have hfz : (FloatKind.f64.format.order 0 0 == some Ordering.eq) = true := by kernel_rfl
            go_wp2_with fail
            refine (PA _).mono ?_
            rintro _ w3 ⟨v3, rfl, ⟨o3, -⟩, f3⟩
            obtain ⟨oo, cc, rfl⟩ := o3.form
            have HG : Hid (Fr no w w3) := HF2.out.and f3
            obtain ⟨b, off, rfl, hcl⟩ := tk_at o3.sl (k := 0) rfl
            have c0 := hcl 0 _ rfl
            have c1 := hcl 1 _ rfl
            have c2 := hcl 2 _ rfl
            have c3 := hcl 3 _ rfl
            have c4 := hcl 4 _ rfl
            simp only [Nat.add_zero, Nat.zero_mul] at c0 c1 c2 c3 c4
            clear o3 f3 hcl
            go_wp2_with fail
            all_goals
              go_ret
              exact ⟨rfl, HG.out⟩
        · have hr' : (how : Int) % 4 = 1 := by omega
          clear hr
          have ix := idx1
          have hcat := cat_sp D [99]
          have HX := Y.lex_cplx (e := 99) (.inl rfl) HP.out.1 HP.out.2.1 (by omega)
          have PA := fun w => pAll w (Y.bytes (32 :: (D ++ [99])))
          rw [HX] at PA
          clear HX
          have hc1 : (⟨#[32]⟩ ++ Y.bytes D : ByteArray).size ≤ 100 := by rw [Y.size_app, hsz]; have : (⟨#[32]⟩ : ByteArray).size = 1 := rfl; omega
          rw [show (Y.bytes [99] : ByteArray) = ⟨#[99]⟩ from rfl] at hcat
          by_cases hb : 15 < D.length
          · rw [if_pos hb] at PA
            by_cases hb2 : 18 < D.length
            · have e1 : (18 : Int) < (D.length : Int) := by omega
              clear hb hb2 HP
              go_wp2_with fail
              refine (PA _).mono ?_
              rintro _ w3 ⟨v3, rfl, ⟨o3, -⟩, f3⟩
              obtain ⟨oo, cc, rfl⟩ := o3.form
              have HG : Hid (Fr no w w3) := HF2.out.and f3
              clear o3 f3
              go_wp2_with fail
              all_goals
                go_ret
                exact ⟨rfl, HG.out⟩
            · have e1 : ¬ (18 : Int) < (D.length : Int) := by omega
              have e2 : (15 : Int) < (D.length : Int) := by omega
              clear hb hb2 HP
              go_wp2_with fail
              refine (PA _).mono ?_
              rintro _ w3 ⟨v3, rfl, ⟨o3, -⟩, f3⟩
              obtain ⟨oo, cc, rfl⟩ := o3.form
              have HG : Hid (Fr no w w3) := HF2.out.and f3
              clear o3 f3
              go_wp2_with fail
              all_goals
                go_ret
                exact ⟨rfl, HG.out⟩
          · rw [if_neg hb] at PA
            have e1 : ¬ (18 : Int) < (D.length : Int) := by omega
            have e2 : ¬ (15 : Int) < (D.length : Int) := by omega
            have hm : Y.mk 4 1 (D ++ [99]) = ⟨4, 1, Y.bytes (D ++ [99]), 0, floatOfInt .f64 (m : Int), 0⟩ := by rw [Y.mk4c (by simp), List.dropLast_concat, HP.out.2.2.2]; rfl
            rw [hm] at PA
            clear hm hb HP
            have hcat2 : Y.bytes D ++ ⟨#[99]⟩ = Y.bytes (D ++ [99]) := (Y.bytes_app D [99]).symm
            have hfe : (FloatKind.f64.format.order (floatOfInt .f64 (m : Int)) (floatOfInt .f64 (m : Int)) == some Ordering.eq) = true := HFE.out
            have hfz : (FloatKind.f64.format.order 0 0 == some Ordering.eq) = true := by kernel_rfl
            go_wp2_with fail
            refine (PA _).mono ?_
            rintro _ w3 ⟨v3, rfl, ⟨o3, -⟩, f3⟩
            obtain ⟨oo, cc, rfl⟩ := o3.form
            have HG : Hid (Fr no w w3) := HF2.out.and f3
            obtain ⟨b, off, rfl, hcl⟩ := tk_at o3.sl (k := 0) rfl
            have c0 := hcl 0 _ rfl
            have c1 := hcl 1 _ rfl
            have c2 := hcl 2 _ rfl
            have c3 := hcl 3 _ rfl
            have c4 := hcl 4 _ rfl
            simp only [Nat.add_zero, Nat.zero_mul] at c0 c1 c2 c3 c4
            clear o3 f3 hcl
            go_wp2_with fail
            all_goals
              go_ret
              exact ⟨rfl, HG.out⟩
        · have hr' : (how : Int) % 4 = 2 := by omega
          clear hr
          have ix := idx2
          have hcat := cat_sp D [105]
          have HX := Y.lex_cplx (e := 105) (.inr rfl) HP.out.1 HP.out.2.1 (by omega)
          have PA := fun w => pAll w (Y.bytes (32 :: (D ++ [105])))
          rw [HX] at PA
          clear HX
          have hc1 : (⟨#[32]⟩ ++ Y.bytes D : ByteArray).size ≤ 100 := by rw [Y.size_app, hsz]; have : (⟨#[32]⟩ : ByteArray).size = 1 := rfl; omega
          rw [show (Y.bytes [105] : ByteArray) = ⟨#[105]⟩ from rfl] at hcat
          by_cases hb : 15 < D.length
          · rw [if_pos hb] at PA
            by_cases hb2 : 18 < D.length
            · have e1 : (18 : Int) < (D.length : Int) := by omega
              clear hb hb2 HP
              go_wp2_with fail
              refine (PA _).mono ?_
              rintro _ w3 ⟨v3, rfl, ⟨o3, -⟩, f3⟩
              obtain ⟨oo, cc, rfl⟩ := o3.form
              have HG : Hid (Fr no w w3) := HF2.out.and f3
              clear o3 f3
              go_wp2_with fail
              all_goals
                go_ret
                exact ⟨rfl, HG.out⟩
            · have e1 : ¬ (18 : Int) < (D.length : Int) := by omega
              have e2 : (15 : Int) < (D.length : Int) := by omega
              clear hb hb2 HP
              go_wp2_with fail
              refine (PA _).mono ?_
              rintro _ w3 ⟨v3, rfl, ⟨o3, -⟩, f3⟩
              obtain ⟨oo, cc, rfl⟩ := o3.form
              have HG : Hid (Fr no w w3) := HF2.out.and f3
              clear o3 f3
              go_wp2_with fail
              all_goals
                go_ret
                exact ⟨rfl, HG.out⟩
          · rw [if_neg hb] at PA
            have e1 : ¬ (18 : Int) < (D.length : Int) := by omega
            have e2 : ¬ (15 : Int) < (D.length : Int) := by omega
            have hm : Y.mk 4 1 (D ++ [105]) = ⟨4, 1, Y.bytes (D ++ [105]), 0, 0, floatOfInt .f64 (m : Int)⟩ := by rw [Y.mk4i (by simp), List.dropLast_concat, HP.out.2.2.2]; rfl
            rw [hm] at PA
            clear hm hb HP
            have hcat2 : Y.bytes D ++ ⟨#[105]⟩ = Y.bytes (D ++ [105]) := (Y.bytes_app D [105]).symm
            have hfe : (FloatKind.f64.format.order (floatOfInt .f64 (m : Int)) (floatOfInt .f64 (m : Int)) == some Ordering.eq) = true := HFE.out
            have hfz : (FloatKind.f64.format.order 0 0 == some Ordering.eq) = true := by kernel_rfl
            go_wp2_with fail
            refine (PA _).mono ?_
            rintro _ w3 ⟨v3, rfl, ⟨o3, -⟩, f3⟩
            obtain ⟨oo, cc, rfl⟩ := o3.form
            have HG : Hid (Fr no w w3) := HF2.out.and f3
            obtain ⟨b, off, rfl, hcl⟩ := tk_at o3.sl (k := 0) rfl
            have c0 := hcl 0 _ rfl
            have c1 := hcl 1 _ rfl
            have c2 := hcl 2 _ rfl
            have c3 := hcl 3 _ rfl
            have c4 := hcl 4 _ rfl
            simp only [Nat.add_zero, Nat.zero_mul] at c0 c1 c2 c3 c4
            clear o3 f3 hcl
            go_wp2_with fail
            all_goals
              go_ret
              exact ⟨rfl, HG.out⟩
        · have hr' : (how : Int) % 4 = 3 := by omega
          clear hr
          have ix := idx3
          have hcat := cat_sp D [120]
          have HX := Y.lex_numx HP.out.1 HP.out.2.1 (by omega)
          have PA := fun w => pAll w (Y.bytes (32 :: (D ++ [120])))
          rw [HX] at PA
          clear HX
          have hc1 : (⟨#[32]⟩ ++ Y.bytes D : ByteArray).size ≤ 100 := by rw [Y.size_app, hsz]; have : (⟨#[32]⟩ : ByteArray).size = 1 := rfl; omega
          rw [show (Y.bytes [120] : ByteArray) = ⟨#[120]⟩ from rfl] at hcat
          by_cases hb : 18 < D.length
          · rw [if_pos hb] at PA
            have e1 : (18 : Int) < (D.length : Int) := by omega
            clear hb HP
            go_wp2_with fail
            refine (PA _).mono ?_
            rintro _ w3 ⟨v3, rfl, ⟨o3, -⟩, f3⟩
            obtain ⟨oo, cc, rfl⟩ := o3.form
            have HG : Hid (Fr no w w3) := HF2.out.and f3
            clear o3 f3
            go_wp2_with fail
            all_goals
              go_ret
              exact ⟨rfl, HG.out⟩
          · rw [if_neg hb] at PA
            have e1 : ¬ (18 : Int) < (D.length : Int) := by omega
            clear hb HP
            go_wp2_with fail
            refine (PA _).mono ?_
            rintro _ w3 ⟨v3, rfl, ⟨o3, -⟩, f3⟩
            obtain ⟨oo, cc, rfl⟩ := o3.form
            have HG : Hid (Fr no w w3) := HF2.out.and f3
            clear o3 f3
            go_wp2_with fail
            all_goals
              go_ret
              exact ⟨rfl, HG.out⟩
end Go.Proofs.Ytmpahllkbpofnaa
