/- What the document's own small functions of complex numbers answer (the reference of the statement CplxTells). -/
import Derived.Test.YtlehddfefinadaaParse
import Derived.BigQuiet
import Derived.Deep.QuietTactic
namespace Go.Proofs.Ytlehddfefinadaa
open Go.ChangeShapes Go.WideShapes Go.ChangeAt Go.RowKit
open Ieee (double)

theorem refadd_any (a b c d : Nat) (w : World) : Calls Try.prog 16 #[.complex .f64 a b, .complex .f64 c d] w fun e w' => ∃ re im, e = .returned (.complex .f64 re im) ∧ Sums a b c d re im ∧ Grown w w' := by
  obtain ⟨r1, v1, o1, g1, e1⟩ := run_add 26 a c w
  obtain ⟨r2, v2, o2, g2, e2⟩ := run_add 26 b d v1
  go_enter Try.func16, Try.ntmps16
  go_wp2
  go_ret
  exact ⟨r1, r2, rfl, ⟨o1, o2⟩, grown_trans g1 g2⟩
theorem refsub_any (a b c d : Nat) (w : World) : Calls Try.prog 18 #[.complex .f64 a b, .complex .f64 c d] w fun e w' => ∃ re im, e = .returned (.complex .f64 re im) ∧ Diffs a b c d re im ∧ Grown w w' := by
  obtain ⟨r1, v1, o1, g1, e1⟩ := run_sub 26 a c w
  obtain ⟨r2, v2, o2, g2, e2⟩ := run_sub 26 b d v1
  go_enter Try.func18, Try.ntmps18
  go_wp2
  go_ret
  exact ⟨r1, r2, rfl, ⟨o1, o2⟩, grown_trans g1 g2⟩
theorem refmul_any (a b c d : Nat) (w : World) : Calls Try.prog 20 #[.complex .f64 a b, .complex .f64 c d] w fun e w' => ∃ re im, e = .returned (.complex .f64 re im) ∧ Prod a b c d re im ∧ Grown w w' := by
  obtain ⟨t1, v1, o1, g1, e1⟩ := run_mul 26 a c w
  obtain ⟨t2, v2, o2, g2, e2⟩ := run_mul 26 b d v1
  obtain ⟨re, v3, o3, g3, e3⟩ := run_sub 26 t1 t2 v2
  obtain ⟨t3, v4, o4, g4, e4⟩ := run_mul 26 a d v3
  obtain ⟨t4, v5, o5, g5, e5⟩ := run_mul 26 b c v4
  obtain ⟨im, v6, o6, g6, e6⟩ := run_add 26 t3 t4 v5
  go_enter Try.func20, Try.ntmps20
  go_wp2
  go_ret
  exact ⟨re, im, rfl, ⟨t1, t2, t3, t4, o1, o2, o3, o4, o5, o6⟩, grown_trans g1 (grown_trans g2 (grown_trans g3 (grown_trans g4 (grown_trans g5 g6))))⟩
theorem refnorm_any (a b : Nat) (w : World) : Calls Try.prog 11 #[.complex .f64 a b] w fun e w' => ∃ n, e = .returned (.float .f64 n) ∧ Nrm a b n ∧ Grown w w' := by
  obtain ⟨t1, v1, o1, g1, e1⟩ := run_mul 26 a a w
  obtain ⟨t2, v2, o2, g2, e2⟩ := run_mul 26 b b v1
  obtain ⟨n, v3, o3, g3, e3⟩ := run_add 26 t1 t2 v2
  go_enter Try.func11, Try.ntmps11
  go_wp2
  go_ret
  exact ⟨n, rfl, ⟨t1, t2, o1, o2, o3⟩, grown_trans g1 (grown_trans g2 g3)⟩

theorem cast_beq (a b : Nat) : ((a : Int) == (b : Int)) = (a == b) := by
  by_cases h : a = b
  · subst h; simp
  · have h1 : (a == b) = false := by simpa using h
    rw [h1, beq_eq_false_iff_ne]
    omega

theorem part_any (a b : Nat) (w : World) : Calls Try.prog 34 #[.float .f64 a, .float .f64 b] w fun e w' => e = .returned (.bool (alk a b)) ∧ w = w' := by
  have hbits := run_bits
  have hcast := cast_beq a b
  have HA : Hid (alk a b = ((a == b) || ((double.order a a != some .eq) && (double.order b b != some .eq)))) := rfl
  by_cases hn : (FloatKind.f64.format.order a a != some .eq) = true
  · by_cases hm : (FloatKind.f64.format.order b b != some .eq) = true
    · go_enter Try.func34, Try.ntmps34
      go_wp2
      go_ret
      exact ⟨by rw [HA.out, show (double.order a a != some .eq) = true from hn, show (double.order b b != some .eq) = true from hm]; simp, rfl⟩
    · have hm' : (FloatKind.f64.format.order b b != some .eq) = false := by simpa using hm
      go_enter Try.func34, Try.ntmps34
      go_wp2
      go_ret
      exact ⟨by rw [HA.out, show (double.order b b != some .eq) = false from hm']; simp, rfl⟩
  · have hn' : (FloatKind.f64.format.order a a != some .eq) = false := by simpa using hn
    go_enter Try.func34, Try.ntmps34
    go_wp2
    go_ret
    exact ⟨by rw [HA.out, show (double.order a a != some .eq) = false from hn']; simp, rfl⟩

theorem alike_any (a b c d : Nat) (w : World) : Calls Try.prog 14 #[.complex .f64 a b, .complex .f64 c d] w fun e w' => e = .returned (.bool (alk a c && alk b d)) ∧ w = w' := by
  by_cases h : alk a c = true
  · go_enter Try.func14, Try.ntmps14
    go_wp2_with fail
    refine (part_any a c _).mono ?_
    rintro e w1 ⟨rfl, rfl⟩
    go_wp2_with fail
    refine (part_any b d _).mono ?_
    rintro e w1 ⟨rfl, rfl⟩
    go_wp2
    go_ret
    exact ⟨by simp [h], rfl⟩
  · have h' : alk a c = false := by simpa using h
    clear h
    go_enter Try.func14, Try.ntmps14
    go_wp2_with fail
    refine (part_any a c _).mono ?_
    rintro e w1 ⟨rfl, rfl⟩
    go_wp2
    go_ret
    exact ⟨by simp [h'], rfl⟩

/-- Is a part a NaN? -/
def nn (a b : Nat) : Bool := (double.order a a != some .eq) || (double.order b b != some .eq)

theorem nan_any (a b : Nat) (w : World) : Calls Try.prog 21 #[.complex .f64 a b] w fun e w' => e = .returned (.bool (nn a b)) ∧ w = w' := by
  by_cases hn : (FloatKind.f64.format.order a a != some .eq) = true
  · have HA : Hid (nn a b = true) := by show nn a b = true; unfold nn; rw [show (double.order a a != some .eq) = true from hn]; rfl
    go_enter Try.func21, Try.ntmps21
    go_wp2
    go_ret
    exact ⟨by rw [HA.out]; rfl, rfl⟩
  · have hn' : (FloatKind.f64.format.order a a != some .eq) = false := by simpa using hn
    have HA : Hid (nn a b = (double.order b b != some .eq)) := by show nn a b = _; unfold nn; rw [show (double.order a a != some .eq) = false from hn']; rfl
    go_enter Try.func21, Try.ntmps21
    go_wp2
    go_ret
    exact ⟨by rw [HA.out]; rfl, rfl⟩

theorem refsame_any (a b c d : Nat) (w : World) : Calls Try.prog 22 #[.complex .f64 a b, .complex .f64 c d] w fun e w' => e = .returned (.bool ((a == c) && (b == d))) ∧ w = w' := by
  have h1 := cast_beq a c
  have h2 := cast_beq b d
  by_cases h : (a == c) = true
  · go_enter Try.func22, Try.ntmps22
    go_wp2_with fail
    refine (bits_any a b _).mono ?_
    rintro e w1 ⟨rfl, rfl⟩
    go_wp2_with fail
    refine (bits_any c d _).mono ?_
    rintro e w1 ⟨rfl, rfl⟩
    go_wp2
    go_ret
    exact ⟨by simp [h], rfl⟩
  · have h' : (a == c) = false := by simpa using h
    clear h
    go_enter Try.func22, Try.ntmps22
    go_wp2_with fail
    refine (bits_any a b _).mono ?_
    rintro e w1 ⟨rfl, rfl⟩
    go_wp2_with fail
    refine (bits_any c d _).mono ?_
    rintro e w1 ⟨rfl, rfl⟩
    go_wp2
    go_ret
    exact ⟨by simp [h'], rfl⟩

theorem xor_bits (b : Nat) (h : b < 2 ^ 64) : bits .xor .u64 (b : Int) 9223372036854775808 = ((Op.negFloat .f64 b : Nat) : Int) := by
  rw [u64_xor _ _ (by omega) (by omega) (by omega) (by omega)]
  rfl
theorem refconj_any (a b : Nat) (hb : b < 2 ^ 64) (w : World) : Calls Try.prog 24 #[.complex .f64 a b] w fun e w' => e = .returned (.complex .f64 a (Op.negFloat .f64 b)) ∧ w = w' := by
  have hbits := run_bits
  have hf := run_from (Op.negFloat .f64 b)
  have hx := xor_bits b hb
  go_enter Try.func24, Try.ntmps24
  go_wp2
  go_ret
  exact ⟨rfl, rfl⟩

theorem ext_digit (d : Nat) (h : d < 16) : (⟨#[48, 49, 50, 51, 52, 53, 54, 55, 56, 57, 97, 98, 99, 100, 101, 102]⟩ : ByteArray).extract d (d + 1) = bstr [hd d] := by
  have key : ∀ d : Fin 16, (⟨#[48, 49, 50, 51, 52, 53, 54, 55, 56, 57, 97, 98, 99, 100, 101, 102]⟩ : ByteArray).extract d.val (d.val + 1) = bstr [hd d.val] := by decide +kernel
  exact key ⟨d, h⟩

theorem slice_digit (d : Nat) (h : d < 16) (w : World) : (Instr.slice 9 (.string ⟨#[48, 49, 50, 51, 52, 53, 54, 55, 56, 57, 97, 98, 99, 100, 101, 102]⟩) (some (.int .u64 (d : Int))) (some (.int .u64 ((d : Int) + 1))) none).run Try.prog w = .ok (.string (bstr [hd d])) w := by
  have e : ByteArray.size ⟨#[48, 49, 50, 51, 52, 53, 54, 55, 56, 57, 97, 98, 99, 100, 101, 102]⟩ = 16 := rfl
  rw [run_slice_string w 9 _ .u64 .u64 (d : Int) ((d : Int) + 1) Try.underlying9 (by omega) (by omega) (by rw [e]; omega)]
  rw [show ((d : Int) + 1).toNat = d + 1 by omega, Int.toNat_natCast, ext_digit d h]

theorem and_digit (n j : Nat) (hn : n < 2 ^ 64) (hj : j < 16) : bits .and .u64 ((n : Int) / 2 ^ (60 - 4 * j)) 15 = ((n / 16 ^ (15 - j) % 16 : Nat) : Int) := by
  have e1 : (16 : Nat) ^ (15 - j) = 2 ^ (60 - 4 * j) := by
    rw [show (16 : Nat) = 2 ^ 4 by decide, ← Nat.pow_mul]
    congr 1
    omega
  have e2 : (n : Int) / 2 ^ (60 - 4 * j) = ((n / 16 ^ (15 - j) : Nat) : Int) := by
    rw [e1]
    norm_cast
  have hlt : n / 16 ^ (15 - j) ≤ n := Nat.div_le_self _ _
  rw [e2, show (15 : Int) = ((15 : Nat) : Int) from rfl, u64_and_nat _ 15 (by omega) (by omega)]
  have := Nat.and_two_pow_sub_one_eq_mod (n / 16 ^ (15 - j)) 4
  rw [show (2 : Nat) ^ 4 - 1 = 15 by decide, show (2 : Nat) ^ 4 = 16 by decide] at this
  rw [this]

set_option maxHeartbeats 1000000 in
theorem hex_any (l : List Nat) (hl : l.length ≤ 17) (n : Nat) (hn : n < 2 ^ 64) (w : World) : Calls Try.prog 38 #[.string (bstr l), .int .u64 (n : Int)] w fun e w' => e = .returned (.string (bstr (l ++ hxs 16 n))) ∧ w = w' := by
  go_enter Try.func38, Try.ntmps38
  go_wp2
  go_loop [0, 5] (fun s i => ∃ j : Nat, j ≤ 16 ∧ s = .string (bstr (l ++ hxs j n)) ∧ i = .int .i64 (60 - 4 * (j : Int))) (fun _ i => (intOf i + 4).toNat)
  case atStart => exact ⟨0, by omega, by simp [hxs], rfl⟩
  case round =>
    obtain ⟨j, hj, rfl, rfl⟩ := hrel
    by_cases hlt : j < 16
    · have hand := and_digit n j hn hlt
      obtain ⟨d, ed⟩ : ∃ d, n / 16 ^ (15 - j) % 16 = d := ⟨_, rfl⟩
      have hd16 : d < 16 := by rw [← ed]; exact Nat.mod_lt _ (by omega)
      rw [ed] at hand
      have ED : Hid (n / 16 ^ (15 - j) % 16 = d) := ed
      clear ed
      have hext := slice_digit d hd16
      have hs1 : (bstr (l ++ hxs j n)).size ≤ 40 := by rw [bstr_size, List.length_append, hxs_length]; omega
      have hs2 : (bstr [hd d]).size = 1 := by rw [bstr_size]; rfl
      have hap := bstr_append (l ++ hxs j n) [hd d]
      go_wp2_with fail
      have e1 : l ++ (hxs j n ++ [hd d]) = l ++ hxs (j + 1) n := by rw [hxs_succ, ED.out]
      go_round
      case rel => exact ⟨j + 1, by omega, by rw [e1], by go_num⟩
      case measure => simp [intOf]; omega
    · have e16 : j = 16 := by omega
      clear hlt hj
      subst e16
      go_wp2_with fail
      go_ret
      exact ⟨rfl, rfl⟩

theorem hex_at (s : ByteArray) (l : List Nat) (h : s = bstr l) (hl : l.length ≤ 17) (n : Nat) (hn : n < 2 ^ 64) (w : World) : Calls Try.prog 38 #[.string s, .int .u64 (n : Int)] w fun e w' => e = .returned (.string (bstr (l ++ hxs 16 n))) ∧ w = w' := by
  subst h
  exact hex_any l hl n hn w

theorem ptx_parts (a b : Nat) : [99] ++ hxs 16 a ++ hxs 16 b = ptx a b := by
  unfold ptx
  rw [List.append_assoc, List.cons_append, List.nil_append]
theorem one_more (a : Nat) : ([99] ++ hxs 16 a).length ≤ 17 := by
  rw [List.length_append, hxs_length, List.length_cons, List.length_nil]
  omega
theorem letter_c : (⟨#[99]⟩ : ByteArray) = bstr [99] := by decide

theorem refprint_any (a b : Nat) (ha : a < 2 ^ 64) (hb : b < 2 ^ 64) (w : World) : Calls Try.prog 27 #[.complex .f64 a b] w fun e w' => e = .returned (.string (bstr (ptx a b))) ∧ w = w' := by
  go_enter Try.func27, Try.ntmps27
  go_wp2_with fail
  refine (bits_any a b _).mono ?_
  rintro e w1 ⟨rfl, rfl⟩
  go_wp2_with fail
  refine (hex_at _ [99] letter_c (by decide) a ha _).mono ?_
  rintro e w1 ⟨rfl, rfl⟩
  go_wp2_with fail
  refine (hex_at _ ([99] ++ hxs 16 a) rfl (one_more a) b hb _).mono ?_
  rintro e w1 ⟨rfl, rfl⟩
  rw [ptx_parts a b]
  go_wp2_with fail
  go_ret
  exact ⟨rfl, rfl⟩

set_option maxHeartbeats 1000000 in
theorem unhex_any (s : ByteArray) (hs : s.size = 16) (w : World) : Calls Try.prog 33 #[.string s] w fun e w' => e = .returned (.int .u64 (uval (nl s) : Int)) ∧ w = w' := by
  go_enter Try.func33, Try.ntmps33
  go_wp2
  go_loop [3, 4] (fun b i => ∃ j : Nat, j ≤ 16 ∧ b = .int .u64 (uval ((nl s).take j) : Int) ∧ i = .int .i64 (j : Int)) (fun _ i => 16 - (intOf i).toNat)
  case atStart => exact ⟨0, by omega, rfl, rfl⟩
  case round =>
    obtain ⟨j, hj, rfl, rfl⟩ := hrel
    obtain ⟨t, et⟩ : ∃ t, uval ((nl s).take j) = t := ⟨_, rfl⟩
    rw [et]
    have ET : Hid (uval ((nl s).take j) = t) := et
    have htl : ((nl s).take j).length = j := by rw [List.length_take, nl_length]; omega
    have ht := uval_lt ((nl s).take j)
    rw [htl, et] at ht
    clear et htl
    by_cases hlt : j < 16
    · have hjs : j < s.size := by omega
      have hc : s[j].toNat < 256 := s[j].toNat_lt
      have hp : 16 ^ j ≤ 16 ^ 15 := Nat.pow_le_pow_right (by omega) (by omega)
      have ht' : t < 1152921504606846976 := by omega
      have TS : Hid (uval ((nl s).take (j + 1)) = t * 16 + dg s[j].toNat) := by
        show uval ((nl s).take (j + 1)) = t * 16 + dg s[j].toNat
        rw [take_succ_nl s j hjs, uval_snoc, ET.out]
      clear ht hp
      have hdl := dg_lt s[j].toNat
      go_wp2_with fail
      all_goals
        have hor : ∀ x : Int, x = (dg s[j].toNat : Int) → bits .or .u64 ((t : Int) * 16) x = ((t * 16 + dg s[j].toNat : Nat) : Int) := by
          intro x hx
          have := u64_or_nat (t * 16) (dg s[j].toNat) (by omega) (by omega)
          rw [or_digit t _ hdl] at this
          rw [← this, hx]
          norm_cast
        go_round
        case rel => exact ⟨j + 1, by omega, by rw [TS.out]; exact congrArg (Value.int .u64) (hor _ (by unfold dg; split <;> (try split) <;> omega)), by go_num⟩
        case measure => simp [intOf]; omega
    · have e16 : j = 16 := by omega
      clear hlt ht hj
      subst e16
      have e0 : (nl s).take 16 = nl s := List.take_of_length_le (by rw [nl_length]; omega)
      have EV : Hid (uval (nl s) = t) := by show uval (nl s) = t; rw [← e0]; exact ET.out
      clear e0
      go_wp2_with fail
      go_ret
      exact ⟨by rw [EV.out]; rfl, rfl⟩
end Go.Proofs.Ytlehddfefinadaa
