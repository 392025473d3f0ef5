/- Letters make a name. -/
import Derived.Test.YtmpahllkbpofnaaKn
import Derived.Test.YtmpahllkbpofnaaYb
namespace Go.Proofs.Ytmpahllkbpofnaa
open Go.ChangeShapes Go.WideShapes Go.ChangeAt Go.RowKit

theorem nameL_len : ∀ n, (Y.nameL n).length = n
  | 0 => rfl
  | n + 1 => by
    show (Y.nameL n ++ _).length = _
    rw [List.length_append, nameL_len n]
    rfl
theorem name_step (k : Nat) : Y.bytes (Y.nameL k) ++ Y.bytes [[97, 49, 95, 36, 90].getD (k % 5) 0] = Y.bytes (Y.nameL (k + 1)) := (Y.bytes_app _ _).symm
theorem piece (k : Nat) : (⟨#[97, 49, 95, 36, 90]⟩ : ByteArray).extract (k % 5) (k % 5 + 1) = Y.bytes [[97, 49, 95, 36, 90].getD (k % 5) 0] := by
  have h : k % 5 < 5 := Nat.mod_lt _ (by omega)
  revert h
  generalize k % 5 = j
  intro h
  have : ∀ j < 5, (⟨#[97, 49, 95, 36, 90]⟩ : ByteArray).extract j (j + 1) = Y.bytes [[97, 49, 95, 36, 90].getD j 0] := by
    intro j hj
    rcases (show j = 0 ∨ j = 1 ∨ j = 2 ∨ j = 3 ∨ j = 4 by omega) with rfl | rfl | rfl | rfl | rfl <;> rfl
  exact this j h
theorem under (l : List Nat) : Y.bytes l ++ (⟨#[95]⟩ : ByteArray) = Y.bytes (l ++ [95]) := (Y.bytes_app l [95]).symm

/-- What the program's lexer answers of a name, or of a keyword. -/
theorem name_lex (l : List Nat) (b : Bool) (c : Nat) (x : List Nat) (hl : l = c :: x) (h1 : letterB c true = true) (h2 : ∀ d ∈ c :: x, Y.letN d = true) (h8 : l.length ≤ 26) (hw : isWord (Y.bytes l) = b) :
    lexR (Y.bytes l) = if 20 < l.length then (0, [], 32) else (0, [⟨if b then 2 else 1, 0, Y.bytes l, 0, 0, 0⟩, Y.endT (Y.bytes l)], 0) := by
  subst hl
  rw [Y.lex_name h1 h2 (by omega), hw]
  cases b <;> rfl

theorem words_ok (l : List Nat) (h : l ∈ [[99, 108, 97, 115, 115], [115, 121, 110, 99], [110, 111, 116, 105, 102, 121, 97, 108, 108], [105, 115], [118, 111, 108, 97, 116, 105, 108, 101], [105, 110, 116, 115]]) : isWord (Y.bytes l) = true ∧ isWord (Y.bytes (l ++ [95])) = false ∧ ∃ c x, l = c :: x ∧ letterB c true = true ∧ (∀ d ∈ c :: x, Y.letN d = true) ∧ l.length ≤ 9 := by
  have e : ∀ t : List Nat, (Y.bytes t).toList = t.map UInt8.ofNat := fun t => by rw [ByteArray.toList_eq]; rfl
  rw [isWord_eq, isWord_eq, e, e]
  simp only [List.mem_cons, List.not_mem_nil, or_false] at h
  rcases h with rfl | rfl | rfl | rfl | rfl | rfl
  · exact ⟨rfl, rfl, _, _, rfl, rfl, by decide, by decide⟩
  · exact ⟨rfl, rfl, _, _, rfl, rfl, by decide, by decide⟩
  · exact ⟨rfl, rfl, _, _, rfl, rfl, by decide, by decide⟩
  · exact ⟨rfl, rfl, _, _, rfl, rfl, by decide, by decide⟩
  · exact ⟨rfl, rfl, _, _, rfl, rfl, by decide, by decide⟩
  · exact ⟨rfl, rfl, _, _, rfl, rfl, by decide, by decide⟩

set_option maxRecDepth 100000 in
set_option maxHeartbeats 8000000 in
theorem names_all (w : World) (n : Nat) (b : Bool) (wh : Nat) (hn : n ≤ 255) (hw : wh ≤ 255) :
    Calls Try.prog 7 #[.int .u8 (n : Int), .bool b, .int .u8 (wh : Int)] w fun e w' => e = .returned (.bool true) ∧ Fr no w w' := by
  have KN := known_any w
  have hN : ((n : Int) % 26) = ((n % 26 : Nat) : Int) := by omega
  have hN2 : n % 26 < 26 := by omega
  generalize hq : n % 26 = N at *
  clear hq
  go_enter Try.func7, Try.ntmps7
  go_wp2_with fail
  refine KN.mono ?_
  rintro _ w1 ⟨rfl, f1⟩
  have HF : Hid (Fr no w w1) := f1
  clear f1
  go_wp2_with fail
  go_loopw [7, 8] (fun sv iv wr => wr = w1 ∧ ∃ k : Nat, iv = .int .i64 (k : Int) ∧ k ≤ N + 1 ∧ sv = .string (Y.bytes (Y.nameL k))) (fun _ iv _ => N + 1 - (intOf iv).toNat)
  case atStart => exact ⟨rfl, 0, rfl, by omega, rfl⟩
  case round =>
    obtain ⟨hwr, k, rfl, hk, rfl⟩ := hrel
    subst hwr
    have k0 : (0 : Int) ≤ (k : Int) := by omega
    by_cases hlt : k ≤ N
    · have hlt' : (k : Int) ≤ (N : Int) := by omega
      have hk5 : ((k : Int) % 5) = ((k % 5 : Nat) : Int) := by omega
      have hsz : (Y.bytes (Y.nameL k)).size ≤ 100 := by rw [Y.size_bytes, nameL_len]; omega
      have hc := name_step k
      have hp := piece k
      have h51 : k % 5 < 5 := Nat.mod_lt _ (by omega)
      have hs1 : (Y.bytes [[97, 49, 95, 36, 90].getD (k % 5) 0]).size = 1 := rfl
      have hk1 : Y.nameL (k + 1) = Y.nameL (k + 1) := rfl
      generalize [97, 49, 95, 36, 90].getD (k % 5) 0 = ch at *
      generalize k % 5 = j at *
      have j0 : (0 : Int) ≤ (j : Int) := by omega
      have j1 : (j : Int) ≤ (j : Int) + 1 := by omega
      have j2 : (j : Int) + 1 ≤ 5 := by omega
      have j3 : ¬ (j : Int) + 1 < (j : Int) := by omega
      have j4 : ((j : Int) + 1).toNat = j + 1 := by omega
      clear h51
      go_wp2_with fail
      go_roundw
      case rel => exact ⟨trivial, k + 1, by congr 1, by omega, rfl⟩
      case measure => simp [intOf]; omega
    · obtain rfl : k = N + 1 := by omega
      have hlt' : ¬ ((N : Int) + 1) ≤ (N : Int) := by omega
      clear hlt hk
      cases b
      · obtain ⟨x, hx1, hx2, hx3⟩ := Y.name_all N hN2
        obtain ⟨hw1, hw2⟩ := Y.name_word N hN2
        have hsz : (Y.bytes (Y.nameL (N + 1))).size = N + 1 := by rw [Y.size_bytes, nameL_len]
        have HX := name_lex (Y.nameL (N + 1)) false 97 x hx1 rfl hx2 (by rw [nameL_len]; omega) hw1
        have PA := fun w => pAll w (Y.bytes (Y.nameL (N + 1)))
        have PW := fun w => pWord w (Y.bytes (Y.nameL (N + 1)))
        have PU := fun w => pWord w (Y.bytes (Y.nameL (N + 1) ++ [95]))
        have hu := under (Y.nameL (N + 1))
        rw [HX, nameL_len] at PA
        rw [hw1] at PW
        rw [hw2] at PU
        clear HX hx1 hx2 hx3 hw1 hw2
        generalize Y.bytes (Y.nameL (N + 1) ++ [95]) = SU at *
        generalize Y.bytes (Y.nameL (N + 1)) = S at *
        by_cases h20 : 20 < N + 1
        · rw [if_pos h20] at PA
          have e1 : (20 : Int) < (N : Int) + 1 := by omega
          go_wp2_with fail
          refine (PA _).mono ?_
          rintro _ w3 ⟨v3, rfl, ⟨o3, -⟩, f3⟩
          obtain ⟨oo, cc, rfl⟩ := o3.form
          have HG : Hid (Fr no w w3) := (HF.out.alloc _ _).and f3
          clear o3 f3
          go_wp2_with fail
          all_goals
            go_ret
            exact ⟨rfl, HG.out⟩
        · rw [if_neg h20] at PA
          have e1 : ¬ (20 : Int) < (N : Int) + 1 := by omega
          have hs1 : S.size ≤ 100 := by omega
          go_wp2_with fail
          refine (PA _).mono ?_
          rintro _ w3 ⟨v3, rfl, ⟨o3, -⟩, f3⟩
          obtain ⟨oo, cc, rfl⟩ := o3.form
          obtain ⟨b0, off, rfl, hcl⟩ := tk_at o3.sl (k := 0) rfl
          have c0 := hcl 0 _ rfl
          have c2 := hcl 2 _ rfl
          simp only [Nat.add_zero, Nat.zero_mul] at c0 c2
          have HG : Hid (Fr no w w3) := (HF.out.alloc _ _).and f3
          clear o3 f3 hcl
          go_wp2_with fail
          refine (PW _).mono ?_
          rintro _ w3 ⟨rfl, rfl⟩
          go_wp2_with fail
          refine (PU _).mono ?_
          rintro _ w3 ⟨rfl, rfl⟩
          go_wp2_with fail
          all_goals
            go_ret
            exact ⟨rfl, HG.out⟩
      · rcases (show wh % 6 = 0 ∨ wh % 6 = 1 ∨ wh % 6 = 2 ∨ wh % 6 = 3 ∨ wh % 6 = 4 ∨ wh % 6 = 5 by omega) with h6 | h6 | h6 | h6 | h6 | h6
        · have h6' : (wh : Int) % 6 = 0 := by omega
          obtain ⟨hw1, hw2, c0, x, hx1, hx2, hx3, hx4⟩ := words_ok [99, 108, 97, 115, 115] (by simp)
          have HX := name_lex [99, 108, 97, 115, 115] true c0 x hx1 hx2 hx3 (by decide) hw1
          have PA := fun w => pAll w (Y.bytes [99, 108, 97, 115, 115])
          have PW := fun w => pWord w (Y.bytes [99, 108, 97, 115, 115])
          have PU := fun w => pWord w (Y.bytes ([99, 108, 97, 115, 115] ++ [95]))
          have hu := under [99, 108, 97, 115, 115]
          rw [HX, if_neg (by decide)] at PA
          rw [hw1] at PW
          rw [hw2] at PU
          clear HX hx1 hx2 hx3 hx4 hw1 hw2 h6
          have hsz : (Y.bytes [99, 108, 97, 115, 115]).size = 5 := rfl
          generalize Y.bytes ([99, 108, 97, 115, 115] ++ [95]) = SU at *
          rw [show Y.bytes [99, 108, 97, 115, 115] = ⟨#[99, 108, 97, 115, 115]⟩ from rfl] at *
          go_wp2_with fail
          refine (PA _).mono ?_
          rintro _ w3 ⟨v3, rfl, ⟨o3, -⟩, f3⟩
          obtain ⟨oo, cc, rfl⟩ := o3.form
          obtain ⟨b0, off, rfl, hcl⟩ := tk_at o3.sl (k := 0) rfl
          have c0 := hcl 0 _ rfl
          have c2 := hcl 2 _ rfl
          simp only [Nat.add_zero, Nat.zero_mul] at c0 c2
          have HG : Hid (Fr no w w3) := (HF.out.alloc _ _).and f3
          clear o3 f3 hcl
          go_wp2_with fail
          refine (PW _).mono ?_
          rintro _ w3 ⟨rfl, rfl⟩
          go_wp2_with fail
          refine (PU _).mono ?_
          rintro _ w3 ⟨rfl, rfl⟩
          go_wp2_with fail
          all_goals
            go_ret
            exact ⟨rfl, HG.out⟩
        · have h6' : (wh : Int) % 6 = 1 := by omega
          obtain ⟨hw1, hw2, c0, x, hx1, hx2, hx3, hx4⟩ := words_ok [115, 121, 110, 99] (by simp)
          have HX := name_lex [115, 121, 110, 99] true c0 x hx1 hx2 hx3 (by decide) hw1
          have PA := fun w => pAll w (Y.bytes [115, 121, 110, 99])
          have PW := fun w => pWord w (Y.bytes [115, 121, 110, 99])
          have PU := fun w => pWord w (Y.bytes ([115, 121, 110, 99] ++ [95]))
          have hu := under [115, 121, 110, 99]
          rw [HX, if_neg (by decide)] at PA
          rw [hw1] at PW
          rw [hw2] at PU
          clear HX hx1 hx2 hx3 hx4 hw1 hw2 h6
          have hsz : (Y.bytes [115, 121, 110, 99]).size = 4 := rfl
          generalize Y.bytes ([115, 121, 110, 99] ++ [95]) = SU at *
          rw [show Y.bytes [115, 121, 110, 99] = ⟨#[115, 121, 110, 99]⟩ from rfl] at *
          go_wp2_with fail
          refine (PA _).mono ?_
          rintro _ w3 ⟨v3, rfl, ⟨o3, -⟩, f3⟩
          obtain ⟨oo, cc, rfl⟩ := o3.form
          obtain ⟨b0, off, rfl, hcl⟩ := tk_at o3.sl (k := 0) rfl
          have c0 := hcl 0 _ rfl
          have c2 := hcl 2 _ rfl
          simp only [Nat.add_zero, Nat.zero_mul] at c0 c2
          have HG : Hid (Fr no w w3) := (HF.out.alloc _ _).and f3
          clear o3 f3 hcl
          go_wp2_with fail
          refine (PW _).mono ?_
          rintro _ w3 ⟨rfl, rfl⟩
          go_wp2_with fail
          refine (PU _).mono ?_
          rintro _ w3 ⟨rfl, rfl⟩
          go_wp2_with fail
          all_goals
            go_ret
            exact ⟨rfl, HG.out⟩
        · have h6' : (wh : Int) % 6 = 2 := by omega
          obtain ⟨hw1, hw2, c0, x, hx1, hx2, hx3, hx4⟩ := words_ok [110, 111, 116, 105, 102, 121, 97, 108, 108] (by simp)
          have HX := name_lex [110, 111, 116, 105, 102, 121, 97, 108, 108] true c0 x hx1 hx2 hx3 (by decide) hw1
          have PA := fun w => pAll w (Y.bytes [110, 111, 116, 105, 102, 121, 97, 108, 108])
          have PW := fun w => pWord w (Y.bytes [110, 111, 116, 105, 102, 121, 97, 108, 108])
          have PU := fun w => pWord w (Y.bytes ([110, 111, 116, 105, 102, 121, 97, 108, 108] ++ [95]))
          have hu := under [110, 111, 116, 105, 102, 121, 97, 108, 108]
          rw [HX, if_neg (by decide)] at PA
          rw [hw1] at PW
          rw [hw2] at PU
          clear HX hx1 hx2 hx3 hx4 hw1 hw2 h6
          have hsz : (Y.bytes [110, 111, 116, 105, 102, 121, 97, 108, 108]).size = 9 := rfl
          generalize Y.bytes ([110, 111, 116, 105, 102, 121, 97, 108, 108] ++ [95]) = SU at *
          rw [show Y.bytes [110, 111, 116, 105, 102, 121, 97, 108, 108] = ⟨#[110, 111, 116, 105, 102, 121, 97, 108, 108]⟩ from rfl] at *
          go_wp2_with fail
          refine (PA _).mono ?_
          rintro _ w3 ⟨v3, rfl, ⟨o3, -⟩, f3⟩
          obtain ⟨oo, cc, rfl⟩ := o3.form
          obtain ⟨b0, off, rfl, hcl⟩ := tk_at o3.sl (k := 0) rfl
          have c0 := hcl 0 _ rfl
          have c2 := hcl 2 _ rfl
          simp only [Nat.add_zero, Nat.zero_mul] at c0 c2
          have HG : Hid (Fr no w w3) := (HF.out.alloc _ _).and f3
          clear o3 f3 hcl
          go_wp2_with fail
          refine (PW _).mono ?_
          rintro _ w3 ⟨rfl, rfl⟩
          go_wp2_with fail
          refine (PU _).mono ?_
          rintro _ w3 ⟨rfl, rfl⟩
          go_wp2_with fail
          all_goals
            go_ret
            exact ⟨rfl, HG.out⟩
        · have h6' : (wh : Int) % 6 = 3 := by omega
          obtain ⟨hw1, hw2, c0, x, hx1, hx2, hx3, hx4⟩ := words_ok [105, 115] (by simp)
          have HX := name_lex [105, 115] true c0 x hx1 hx2 hx3 (by decide) hw1
          have PA := fun w => pAll w (Y.bytes [105, 115])
          have PW := fun w => pWord w (Y.bytes [105, 115])
          have PU := fun w => pWord w (Y.bytes ([105, 115] ++ [95]))
          have hu := under [105, 115]
          rw [HX, if_neg (by decide)] at PA
          rw [hw1] at PW
          rw [hw2] at PU
          clear HX hx1 hx2 hx3 hx4 hw1 hw2 h6
          have hsz : (Y.bytes [105, 115]).size = 2 := rfl
          generalize Y.bytes ([105, 115] ++ [95]) = SU at *
          rw [show Y.bytes [105, 115] = ⟨#[105, 115]⟩ from rfl] at *
          go_wp2_with fail
          refine (PA _).mono ?_
          rintro _ w3 ⟨v3, rfl, ⟨o3, -⟩, f3⟩
          obtain ⟨oo, cc, rfl⟩ := o3.form
          obtain ⟨b0, off, rfl, hcl⟩ := tk_at o3.sl (k := 0) rfl
          have c0 := hcl 0 _ rfl
          have c2 := hcl 2 _ rfl
          simp only [Nat.add_zero, Nat.zero_mul] at c0 c2
          have HG : Hid (Fr no w w3) := (HF.out.alloc _ _).and f3
          clear o3 f3 hcl
          go_wp2_with fail
          refine (PW _).mono ?_
          rintro _ w3 ⟨rfl, rfl⟩
          go_wp2_with fail
          refine (PU _).mono ?_
          rintro _ w3 ⟨rfl, rfl⟩
          go_wp2_with fail
          all_goals
            go_ret
            exact ⟨rfl, HG.out⟩
        · have h6' : (wh : Int) % 6 = 4 := by omega
          obtain ⟨hw1, hw2, c0, x, hx1, hx2, hx3, hx4⟩ := words_ok [118, 111, 108, 97, 116, 105, 108, 101] (by simp)
          have HX := name_lex [118, 111, 108, 97, 116, 105, 108, 101] true c0 x hx1 hx2 hx3 (by decide) hw1
          have PA := fun w => pAll w (Y.bytes [118, 111, 108, 97, 116, 105, 108, 101])
          have PW := fun w => pWord w (Y.bytes [118, 111, 108, 97, 116, 105, 108, 101])
          have PU := fun w => pWord w (Y.bytes ([118, 111, 108, 97, 116, 105, 108, 101] ++ [95]))
          have hu := under [118, 111, 108, 97, 116, 105, 108, 101]
          rw [HX, if_neg (by decide)] at PA
          rw [hw1] at PW
          rw [hw2] at PU
          clear HX hx1 hx2 hx3 hx4 hw1 hw2 h6
          have hsz : (Y.bytes [118, 111, 108, 97, 116, 105, 108, 101]).size = 8 := rfl
          generalize Y.bytes ([118, 111, 108, 97, 116, 105, 108, 101] ++ [95]) = SU at *
          rw [show Y.bytes [118, 111, 108, 97, 116, 105, 108, 101] = ⟨#[118, 111, 108, 97, 116, 105, 108, 101]⟩ from rfl] at *
          go_wp2_with fail
          refine (PA _).mono ?_
          rintro _ w3 ⟨v3, rfl, ⟨o3, -⟩, f3⟩
          obtain ⟨oo, cc, rfl⟩ := o3.form
          obtain ⟨b0, off, rfl, hcl⟩ := tk_at o3.sl (k := 0) rfl
          have c0 := hcl 0 _ rfl
          have c2 := hcl 2 _ rfl
          simp only [Nat.add_zero, Nat.zero_mul] at c0 c2
          have HG : Hid (Fr no w w3) := (HF.out.alloc _ _).and f3
          clear o3 f3 hcl
          go_wp2_with fail
          refine (PW _).mono ?_
          rintro _ w3 ⟨rfl, rfl⟩
          go_wp2_with fail
          refine (PU _).mono ?_
          rintro _ w3 ⟨rfl, rfl⟩
          go_wp2_with fail
          all_goals
            go_ret
            exact ⟨rfl, HG.out⟩
        · have h6' : (wh : Int) % 6 = 5 := by omega
          obtain ⟨hw1, hw2, c0, x, hx1, hx2, hx3, hx4⟩ := words_ok [105, 110, 116, 115] (by simp)
          have HX := name_lex [105, 110, 116, 115] true c0 x hx1 hx2 hx3 (by decide) hw1
          have PA := fun w => pAll w (Y.bytes [105, 110, 116, 115])
          have PW := fun w => pWord w (Y.bytes [105, 110, 116, 115])
          have PU := fun w => pWord w (Y.bytes ([105, 110, 116, 115] ++ [95]))
          have hu := under [105, 110, 116, 115]
          rw [HX, if_neg (by decide)] at PA
          rw [hw1] at PW
          rw [hw2] at PU
          clear HX hx1 hx2 hx3 hx4 hw1 hw2 h6
          have hsz : (Y.bytes [105, 110, 116, 115]).size = 4 := rfl
          generalize Y.bytes ([105, 110, 116, 115] ++ [95]) = SU at *
          rw [show Y.bytes [105, 110, 116, 115] = ⟨#[105, 110, 116, 115]⟩ from rfl] at *
          go_wp2_with fail
          refine (PA _).mono ?_
          rintro _ w3 ⟨v3, rfl, ⟨o3, -⟩, f3⟩
          obtain ⟨oo, cc, rfl⟩ := o3.form
          obtain ⟨b0, off, rfl, hcl⟩ := tk_at o3.sl (k := 0) rfl
          have c0 := hcl 0 _ rfl
          have c2 := hcl 2 _ rfl
          simp only [Nat.add_zero, Nat.zero_mul] at c0 c2
          have HG : Hid (Fr no w w3) := (HF.out.alloc _ _).and f3
          clear o3 f3 hcl
          go_wp2_with fail
          refine (PW _).mono ?_
          rintro _ w3 ⟨rfl, rfl⟩
          go_wp2_with fail
          refine (PU _).mono ?_
          rintro _ w3 ⟨rfl, rfl⟩
          go_wp2_with fail
          all_goals
            go_ret
            exact ⟨rfl, HG.out⟩
end Go.Proofs.Ytmpahllkbpofnaa
