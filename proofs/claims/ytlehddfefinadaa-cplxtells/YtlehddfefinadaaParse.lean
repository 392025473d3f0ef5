/- What cplx.Parse answers: of every text whether it is a complex number's, and which number's; it writes nothing. -/
import Derived.Test.YtlehddfefinadaaPrint
import Derived.Lib.Bytealg
import Derived.Laws.BitsAllLaws
namespace Go.Proofs.Ytlehddfefinadaa
open Go.ChangeShapes Go.WideShapes Go.ChangeAt Go.RowKit

/-- Where a letter stands among the digits. -/
def ix (c : Nat) : Int := if isHex c then (dg c : Int) else -1

theorem index_digits (k : Nat) (hk : k < 256) : Lib.indexByte [48, 49, 50, 51, 52, 53, 54, 55, 56, 57, 97, 98, 99, 100, 101, 102] k.toUInt8 = ix k := by
  have key : ∀ k : Fin 256, Lib.indexByte [48, 49, 50, 51, 52, 53, 54, 55, 56, 57, 97, 98, 99, 100, 101, 102] k.val.toUInt8 = ix k.val := by decide +kernel
  exact key ⟨k, hk⟩

theorem run_index (k : Nat) (hk : k < 256) (w : World) : (callFunc 43 #[.string ⟨#[48, 49, 50, 51, 52, 53, 54, 55, 56, 57, 97, 98, 99, 100, 101, 102]⟩, .int .u8 (k : Int)]).run Try.prog w = .ok (.value (.int .i64 (ix k))) w := by
  rw [run_callFunc_extern (e := Extern.BytealgIndexByte.indexByte) Try.func43 (by kernel_rfl) (by kernel_rfl) (by kernel_rfl) (by kernel_rfl), Lib.run_indexByteString, Int.toNat_natCast, index_digits k hk]
  rfl

theorem index2_any (k : Nat) (hk : k < 256) (w : World) : Calls Try.prog 42 #[.string ⟨#[48, 49, 50, 51, 52, 53, 54, 55, 56, 57, 97, 98, 99, 100, 101, 102]⟩, .int .u8 (k : Int)] w fun e w' => e = .returned (.int .i64 (ix k)) ∧ w = w' := by
  have h := run_index k hk
  go_enter Try.func42, Try.ntmps42
  go_wp2
  go_ret
  exact ⟨rfl, rfl⟩
theorem index_any (k : Nat) (hk : k < 256) (w : World) : Calls Try.prog 39 #[.string ⟨#[48, 49, 50, 51, 52, 53, 54, 55, 56, 57, 97, 98, 99, 100, 101, 102]⟩, .int .u8 (k : Int)] w fun e w' => e = .returned (.int .i64 (ix k)) ∧ w = w' := by
  go_enter Try.func39, Try.ntmps39
  go_wp2_with fail
  refine (index2_any k hk _).mono ?_
  rintro e w' ⟨rfl, rfl⟩
  go_wp2
  go_ret
  exact ⟨rfl, rfl⟩

theorem take_succ_nl (s : ByteArray) (j : Nat) (h : j < s.size) : (nl s).take (j + 1) = (nl s).take j ++ [s[j].toNat] := by
  rw [List.take_add_one, nl_get s j h]
  rfl

/-- What is read of sixteen letters. -/
def rv (s : ByteArray) : Nat := if (nl s).all isHex then uval (nl s) else 0
def rok (s : ByteArray) : Bool := (nl s).all isHex

set_option maxHeartbeats 400000 in
theorem readpart_any (s : ByteArray) (hs : s.size = 16) (w : World) : Calls Try.prog 32 #[.string s] w fun e w' => e = .returned (.tuple #[.float .f64 (rv s), .bool (rok s)]) ∧ w = w' := by
  go_enter Try.func32, Try.ntmps32
  go_wp2
  go_loop [4, 9] (fun b i => ∃ j : Nat, j ≤ 16 ∧ b = .int .u64 (uval ((nl s).take j) : Int) ∧ i = .int .i64 (j : Int) ∧ ((nl s).take j).all isHex = true) (fun _ i => 16 - (intOf i).toNat)
  case atStart => exact ⟨0, by omega, rfl, rfl, rfl⟩
  case round =>
    obtain ⟨j, hj, rfl, rfl, hall⟩ := hrel
    obtain ⟨t, et⟩ : ∃ t, uval ((nl s).take j) = t := ⟨_, rfl⟩
    rw [et]
    have ET : Hid (uval ((nl s).take j) = t) := et
    have HA : Hid (((nl s).take j).all isHex = true) := hall
    have htl : ((nl s).take j).length = j := by rw [List.length_take, nl_length]; omega
    have ht := uval_lt ((nl s).take j)
    rw [htl, et] at ht
    clear et hall htl
    by_cases hlt : j < 16
    · have hjs : j < s.size := by omega
      have hc : s[j].toNat < 256 := s[j].toNat_lt
      have hp : 16 ^ j ≤ 16 ^ 15 := Nat.pow_le_pow_right (by omega) (by omega)
      have ht' : t < 1152921504606846976 := by omega
      have TS : Hid ((nl s).take (j + 1) = (nl s).take j ++ [s[j].toNat]) := take_succ_nl s j hjs
      clear ht hp
      by_cases hx : isHex s[j].toNat = true
      · have hix : ix s[j].toNat = (dg s[j].toNat : Int) := by unfold ix; rw [if_pos hx]
        have hdl := dg_lt s[j].toNat
        have hor : bits .or .u64 ((t : Int) * 16) (dg s[j].toNat : Int) = ((t * 16 + dg s[j].toNat : Nat) : Int) := by
          have := u64_or_nat (t * 16) (dg s[j].toNat) (by omega) (by omega)
          rw [or_digit t _ hdl] at this
          rw [← this]
          norm_cast
        go_wp2_with fail
        refine (index_any _ hc _).mono ?_
        rintro e w' ⟨rfl, rfl⟩
        go_wp2_with fail
        have e1 : uval ((nl s).take (j + 1)) = t * 16 + dg s[j].toNat := by rw [TS.out, uval_snoc, ET.out]
        have e2 : ((nl s).take (j + 1)).all isHex = true := by rw [TS.out, List.all_append, HA.out]; simp [hx]
        go_round
        case rel => exact ⟨j + 1, by omega, by rw [e1]; go_num, by go_num, e2⟩
        case measure => simp [intOf]; omega
      · have hix : ix s[j].toNat = -1 := by unfold ix; rw [if_neg hx]
        go_wp2_with fail
        refine (index_any _ hc _).mono ?_
        rintro e w' ⟨rfl, rfl⟩
        go_wp2_with fail
        have e1 : (nl s).all isHex = false := by
          rw [List.all_eq_false]
          refine ⟨s[j].toNat, ?_, hx⟩
          have := nl_get s j hjs
          exact List.mem_of_getElem? this
        have e2 : rv s = 0 := by unfold rv; rw [e1]; rfl
        have e3 : rok s = false := e1
        go_ret2
        exact ⟨by rw [e2, e3]; rfl, rfl⟩
    · have e16 : j = 16 := by omega
      clear hlt ht hj
      subst e16
      have hff := run_from t
      go_wp2_with fail
      have e0 : (nl s).take 16 = nl s := List.take_of_length_le (by rw [nl_length]; omega)
      have e1 : (nl s).all isHex = true := by rw [← e0]; exact HA.out
      have e2 : rv s = t := by unfold rv; rw [e1, if_pos rfl, ← e0]; exact ET.out
      have e3 : rok s = true := e1
      go_ret2
      exact ⟨by rw [e2, e3]; rfl, rfl⟩

theorem nl_extract (s : ByteArray) (a b : Nat) : nl (s.extract a b) = ((nl s).drop a).take (b - a) := by
  unfold nl
  rw [ByteArray.data_extract, Array.toList_extract, List.extract_eq_take_drop, List.map_take, List.map_drop]

/-- What is read of a whole text. -/
def pre (s : ByteArray) : Nat := if good (nl s) then vre (nl s) else 0
def pim (s : ByteArray) : Nat := if good (nl s) then vim (nl s) else 0
def per (s : ByteArray) : Int := if good (nl s) then 0 else 20

theorem parsed_no {s : ByteArray} (h : good (nl s) = false) : pre s = 0 ∧ pim s = 0 ∧ per s = 20 := by
  unfold pre pim per
  rw [h]
  exact ⟨rfl, rfl, rfl⟩
theorem parsed_yes {s : ByteArray} (h : good (nl s) = true) : pre s = vre (nl s) ∧ pim s = vim (nl s) ∧ per s = 0 := by
  unfold pre pim per
  rw [h]
  exact ⟨rfl, rfl, rfl⟩

theorem nl_head (s : ByteArray) (h : 0 < s.size) : (nl s).head? = some s[0].toNat := by
  rw [← nl_get s 0 h, List.head?_eq_getElem?]

theorem good_split (s : ByteArray) (hs : s.size = 33) : good (nl s) = (decide (s[0].toNat = 99) && (rok (s.extract 1 17) && rok (s.extract 17 33))) := by
  have h0 := nl_head s (by omega)
  have e1 : nl (s.extract 1 17) = (nl s).tail.take 16 := by rw [nl_extract, List.drop_one]
  have e2 : nl (s.extract 17 33) = (nl s).tail.drop 16 := by
    rw [nl_extract, List.take_of_length_le (by rw [List.length_drop, nl_length]; omega), ← List.drop_one, List.drop_drop]
  unfold good rok
  rw [e1, e2, nl_length, decide_eq_true hs, h0, ← List.all_append, List.take_append_drop]
  congr 1
theorem read_split (s : ByteArray) (h1 : rok (s.extract 1 17) = true) (h2 : rok (s.extract 17 33) = true) (hs : s.size = 33) : rv (s.extract 1 17) = vre (nl s) ∧ rv (s.extract 17 33) = vim (nl s) := by
  have e1 : nl (s.extract 1 17) = (nl s).tail.take 16 := by rw [nl_extract, List.drop_one]
  have e2 : nl (s.extract 17 33) = (nl s).tail.drop 16 := by
    rw [nl_extract, List.take_of_length_le (by rw [List.length_drop, nl_length]; omega), ← List.drop_one, List.drop_drop]
  unfold rok at h1 h2
  unfold rv vre vim
  rw [h1, h2, e1, e2]
  exact ⟨rfl, rfl⟩

set_option maxHeartbeats 400000 in
theorem parse_any (s : ByteArray) (w : World) : Calls Try.prog 12 #[.string s] w fun e w' => e = .returned (.tuple #[.complex .f64 (pre s) (pim s), .int .i64 (per s)]) ∧ w = w' := by
  by_cases hs : s.size = 33
  · have HG : Hid (good (nl s) = (decide (s[0].toNat = 99) && (rok (s.extract 1 17) && rok (s.extract 17 33)))) := good_split s hs
    have hz1 : (s.extract 1 17).size = 16 := by rw [ByteArray.size_extract]; omega
    have hz2 : (s.extract 17 33).size = 16 := by rw [ByteArray.size_extract]; omega
    by_cases hc : s[0].toNat = 99
    · by_cases h1 : rok (s.extract 1 17) = true
      · by_cases h2 : rok (s.extract 17 33) = true
        · have HR : Hid (rv (s.extract 1 17) = vre (nl s) ∧ rv (s.extract 17 33) = vim (nl s)) := read_split s h1 h2 hs
          have HP : Hid (pre s = vre (nl s) ∧ pim s = vim (nl s) ∧ per s = 0) := parsed_yes (by rw [HG.out, h1, h2, decide_eq_true hc]; rfl)
          go_enter Try.func12, Try.ntmps12
          go_wp2_with fail
          refine (readpart_any _ hz1 _).mono ?_
          rintro e w' ⟨rfl, rfl⟩
          go_wp2_with fail
          refine (readpart_any _ hz2 _).mono ?_
          rintro e w' ⟨rfl, rfl⟩
          go_wp2_with fail
          go_ret2
          exact ⟨by rw [HP.out.1, HP.out.2.1, HP.out.2.2, ← HR.out.1, ← HR.out.2]; rfl, rfl⟩
        · have h2' : rok (s.extract 17 33) = false := by simpa using h2
          have HP : Hid (pre s = 0 ∧ pim s = 0 ∧ per s = 20) := parsed_no (by rw [HG.out, h1, h2', decide_eq_true hc]; rfl)
          clear h2
          go_enter Try.func12, Try.ntmps12
          go_wp2_with fail
          refine (readpart_any _ hz1 _).mono ?_
          rintro e w' ⟨rfl, rfl⟩
          go_wp2_with fail
          refine (readpart_any _ hz2 _).mono ?_
          rintro e w' ⟨rfl, rfl⟩
          go_wp2_with fail
          go_ret2
          exact ⟨by rw [HP.out.1, HP.out.2.1, HP.out.2.2]; rfl, rfl⟩
      · have h1' : rok (s.extract 1 17) = false := by simpa using h1
        have HP : Hid (pre s = 0 ∧ pim s = 0 ∧ per s = 20) := parsed_no (by rw [HG.out, h1', decide_eq_true hc]; rfl)
        clear h1
        go_enter Try.func12, Try.ntmps12
        go_wp2_with fail
        refine (readpart_any _ hz1 _).mono ?_
        rintro e w' ⟨rfl, rfl⟩
        go_wp2_with fail
        refine (readpart_any _ hz2 _).mono ?_
        rintro e w' ⟨rfl, rfl⟩
        go_wp2_with fail
        go_ret2
        exact ⟨by rw [HP.out.1, HP.out.2.1, HP.out.2.2]; rfl, rfl⟩
    · have HP : Hid (pre s = 0 ∧ pim s = 0 ∧ per s = 20) := parsed_no (by rw [HG.out, decide_eq_false hc]; rfl)
      go_enter Try.func12, Try.ntmps12
      go_wp2_with fail
      go_ret2
      exact ⟨by rw [HP.out.1, HP.out.2.1, HP.out.2.2]; rfl, rfl⟩
  · have HP : Hid (pre s = 0 ∧ pim s = 0 ∧ per s = 20) := parsed_no (by unfold good; rw [nl_length, decide_eq_false hs]; rfl)
    go_enter Try.func12, Try.ntmps12
    go_wp2_with fail
    go_ret2
    exact ⟨by rw [HP.out.1, HP.out.2.1, HP.out.2.2]; rfl, rfl⟩

theorem back {a b : Nat} (ha : a < 2 ^ 64) (hb : b < 2 ^ 64) : pre (bstr (ptx a b)) = a ∧ pim (bstr (ptx a b)) = b ∧ per (bstr (ptx a b)) = 0 := by
  have e := nl_bstr _ (ptx_lt a b)
  have hg : good (nl (bstr (ptx a b))) = true := by rw [e]; exact good_ptx a b
  obtain ⟨h1, h2, h3⟩ := parsed_yes hg
  obtain ⟨v1, v2⟩ := v_ptx ha hb
  rw [h1, h2, h3, e, v1, v2]
  exact ⟨rfl, rfl, rfl⟩
theorem print_size (a b : Nat) : (bstr (ptx a b)).size = 33 := by rw [bstr_size, ptx_length]
theorem print_fits (a b : Nat) : (bstr (ptx a b)).size ≤ maxLen := by rw [print_size]; unfold maxLen; omega

set_option maxHeartbeats 400000 in
theorem known_any (w : World) : Calls Try.prog 8 #[] w fun e w' => e = .returned (.bool true) ∧ Grown w w' := by
  have hper : per ⟨#[99, 48, 48]⟩ = 20 := by decide
  have hsz := print_size 0 4607182418800017408
  go_enter Try.func8, Try.ntmps8
  go_wp2_with fail
  refine (parse_any _ _).mono ?_
  rintro e w1 ⟨rfl, rfl⟩
  go_wp2_with fail
  refine (mul_any _ _ _ _ _).mono ?_
  rintro e w1 ⟨re, im, rfl, hp, g1⟩
  obtain ⟨rfl, rfl⟩ : re = 13830554455654793216 ∧ im = 0 := by
    obtain ⟨t1, t2, t3, t4, o1, o2, o3, o4, o5, o6⟩ := hp
    rw [show Ieee.double.mul 0 0 = some 0 by decide] at o1
    rw [show Ieee.double.mul 4607182418800017408 4607182418800017408 = some 4607182418800017408 by decide] at o2
    rw [show Ieee.double.mul 0 4607182418800017408 = some 0 by decide] at o4
    rw [show Ieee.double.mul 4607182418800017408 0 = some 0 by decide] at o5
    obtain rfl := o1.some
    obtain rfl := o2.some
    obtain rfl := o4.some
    obtain rfl := o5.some
    rw [show Ieee.double.sub 0 4607182418800017408 = some 13830554455654793216 by decide +kernel] at o3
    rw [show Ieee.double.add 0 0 = some 0 by decide] at o6
    exact ⟨o3.some, o6.some⟩
  go_wp2_with fail
  refine (same_any _ _ _ _ (by omega) (by omega) (by omega) (by omega) _).mono ?_
  rintro e w2 ⟨rfl, rfl⟩
  have hs1 : (alk 13830554455654793216 13830554455654793216 && alk 0 0) = true := by decide +kernel
  go_wp2_with fail
  refine (print_any _ _ (by omega) (by omega) _).mono ?_
  rintro e w2 ⟨rfl, g2⟩
  go_wp2_with fail
  refine (copysign_known _).mono ?_
  rintro e w3 ⟨rfl, rfl⟩
  go_wp2_with fail
  refine (same_any _ _ _ _ (by omega) (by omega) (by omega) (by omega) _).mono ?_
  rintro e w3 ⟨rfl, rfl⟩
  have hs2 : (alk 0 9223372036854775808 && alk 0 0) = false := by decide +kernel
  go_wp2_with fail
  go_ret
  exact ⟨rfl, grown_trans g1 g2⟩
end Go.Proofs.Ytlehddfefinadaa
