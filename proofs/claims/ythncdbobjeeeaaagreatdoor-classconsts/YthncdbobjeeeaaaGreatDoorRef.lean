/- The bits of complex numbers, a writer's Cplx, and what the document's own functions append. -/
import Derived.Test.YthncdbobjeeeaaaGreatDoorBack
import Derived.WalkLawsBesides
namespace Go.Proofs.YthncdbobjeeeaaaGreatDoor
open Go.ChangeShapes Go.WideShapes Go.ChangeAt Go.RowKit

theorem run_bits (a : Nat) (w : World) : (callFunc 142 #[.float .f64 a]).run Tryz.prog w = .ok (.value (.int .u64 (a : Int))) w := by
  rw [run_callFunc_extern (e := Extern.MathFloatBits.float64bits) Tryz.func142 (by kernel_rfl) (by kernel_rfl) (by kernel_rfl) (by kernel_rfl)]
  rfl
theorem run_from (a : Nat) (w : World) : (callFunc 158 #[.int .u64 (a : Int)]).run Tryz.prog w = .ok (.value (.float .f64 a)) w := by
  rw [run_callFunc_extern (e := Extern.MathFloatBits.float64frombits) Tryz.func158 (by kernel_rfl) (by kernel_rfl) (by kernel_rfl) (by kernel_rfl)]
  rfl

theorem bits_any (a b : Nat) (w : World) : Calls Tryz.prog 91 #[.complex .f64 a b] w fun e w' => e = .returned (.tuple #[.int .u64 (a : Int), .int .u64 (b : Int)]) ∧ w' = w := by
  have hb := run_bits
  go_enter Tryz.func91, Tryz.ntmps91
  go_wp2
  go_ret2
  exact ⟨rfl, rfl⟩

theorem of_any (a b : Nat) (w : World) : Calls Tryz.prog 132 #[.int .u64 (a : Int), .int .u64 (b : Int)] w fun e w' => e = .returned (.complex .f64 a b) ∧ w' = w := by
  have hb := run_from
  go_enter Tryz.func132, Tryz.ntmps132
  go_wp2
  go_ret
  exact ⟨rfl, rfl⟩

/-- The first j bytes of n, the lowest first. -/
def le (n : Nat) : Nat → List Nat
  | 0 => []
  | j + 1 => le n j ++ [n / 256 ^ j % 256]

theorem le_length (n j : Nat) : (le n j).length = j := by
  induction j with
  | zero => rfl
  | succ j ih => simp [le, ih]

theorem le_byte (n j : Nat) : ∀ c ∈ le n j, c < 256 := by
  induction j with
  | zero => intro c hc; simp [le] at hc
  | succ j ih => exact bytes_append ih (fun c hc => by simp at hc; omega)

set_option maxRecDepth 100000 in
theorem part_any (w : World) (p : Nat) (v : Value) (l : List Nat) (h : Wt w p v l) (hb : l.length + 8 ≤ 1099511627776) (n : Nat) (hn : n < 2 ^ 64) :
    Calls Tryz.prog 144 #[.pointer (some ⟨p, 0, none⟩), .float .f64 n] w fun e w' => e = .returned (.tuple #[]) ∧ ∃ v', Wt w' p v' (l ++ le n 8) ∧ Sp (fun k => k = p) v w v' w' := by
  have hbits := run_bits
  go_enter Tryz.func144, Tryz.ntmps144
  go_wp2_with fail
  go_loopw [4, 7] (fun m i wr => ∃ (j : Nat), m = .int .u64 ((n / 256 ^ j : Nat) : Int) ∧ i = .int .i64 (j : Int) ∧ j ≤ 8 ∧ ∃ v', Wt wr p v' (l ++ le n j) ∧ Sp (fun k => k = p) v w v' wr) (fun _ i _ => 8 - (intOf i).toNat)
  case atStart => exact ⟨0, by simp, rfl, by omega, v, by simpa [le] using h, Sp.refl _ _ _⟩
  case round =>
    obtain ⟨j, rfl, rfl, hj, v1, hw1, hs1⟩ := hrel
    have hlt : n / 256 ^ j < 2 ^ 64 := Nat.lt_of_le_of_lt (Nat.div_le_self _ _) hn
    have e1 : n / 256 ^ (j + 1) = n / 256 ^ j / 256 := by rw [Nat.pow_succ, Nat.div_div_eq_div_mul]
    have HE : Hid (n / 256 ^ (j + 1) = n / 256 ^ j / 256) := e1
    have HLE : Hid (le n (j + 1) = le n j ++ [n / 256 ^ j % 256]) := rfl
    clear e1
    generalize n / 256 ^ j = m at *
    by_cases h8 : j < 8
    · go_wp2_with fail
      refine (byte_any wr p v1 _ hw1 (by rw [List.length_append, le_length]; omega) (m % 256)).mono ?_
      rintro e w2 ⟨rfl, v2, hw2, hs2⟩
      rw [List.append_assoc, ← HLE.out] at hw2
      go_wp2_with fail
      go_roundw
      case rel => exact ⟨j + 1, by rw [HE.out]; go_num, by go_num, by omega, v2, hw2, hs1.trans hs2⟩
      case measure => simp [intOf]; omega
    · have : j = 8 := by omega
      subst this
      go_wp2_with fail
      go_end0
      exact ⟨rfl, v1, hw1, hs1⟩

theorem cplx_any (w : World) (p : Nat) (v : Value) (l : List Nat) (h : Wt w p v l) (hb : l.length + 16 ≤ 1099511627776) (a b : Nat) (ha : a < 2 ^ 64) (hb' : b < 2 ^ 64) :
    Calls Tryz.prog 96 #[.pointer (some ⟨p, 0, none⟩), .complex .f64 a b] w fun e w' => e = .returned (.tuple #[]) ∧ ∃ v', Wt w' p v' (l ++ (le a 8 ++ le b 8)) ∧ Sp (fun k => k = p) v w v' w' := by
  go_enter Tryz.func96, Tryz.ntmps96
  go_wp2_with fail
  refine (part_any w p v l h (by omega) a ha).mono ?_
  rintro e w1 ⟨rfl, v1, h1, s1⟩
  go_wp2_with fail
  refine (part_any w1 p v1 _ h1 (by rw [List.length_append, le_length]; omega) b hb').mono ?_
  rintro e w2 ⟨rfl, v2, h2, s2⟩
  rw [List.append_assoc] at h2
  go_wp2_with fail
  go_end0
  exact ⟨rfl, v2, h2, s1.trans s2⟩

/-- One byte behind a slice of one's own. -/
theorem own_alloc {w : World} {v : Value} {l : List Nat} (h : Own w v l) (c : Array Value) (t : TypeId) : Own (w.alloc (.cells c t)) v l := h.kept ((Fr.refl no w).alloc c t) (fun _ _ f => f)

set_option maxRecDepth 100000 in
theorem ref_uint (w : World) (u : Value) (l : List Nat) (h : Own w u l) (hb : l.length + 10 ≤ 1099511627776) (n : Nat) (hn : n < 2 ^ 64) :
    Calls Tryz.prog 138 #[u, .int .u64 (n : Int)] w fun e w' => ∃ u', e = .returned u' ∧ Own w' u' (l ++ enc n) ∧ Sp no u w u' w' := by
  go_enter Tryz.func138, Tryz.ntmps138
  go_wp2_with fail
  go_loopw [0, 1] (fun s m wr => ∃ (f r : Nat) (l' : List Nat), m = .int .u64 (r : Int) ∧ Own wr s l' ∧ Sp no u w s wr ∧ l' ++ en f r = l ++ enc n ∧ r < 2 ^ (7 * f + 1)) (fun _ m _ => (intOf m).toNat)
  case atStart => exact ⟨9, n, l, rfl, h, Sp.refl _ _ _, rfl, hn⟩
  case round =>
    obtain ⟨f, m, l', rfl, ho, hs, hl, hm⟩ := hrel
    rename_i s
    have HL : Hid (l' ++ en f m = l ++ enc n) := hl
    have HM : Hid (m < 2 ^ (7 * f + 1)) := hm
    have hlen : l'.length + (en f m).length = l.length + (enc n).length := by have := congrArg List.length hl; simpa using this
    have h10 := enc_length n
    have h1 := en_length f m
    have hbb : ∀ c : Nat, l'.length + ([c] : List Nat).length ≤ 1099511627776 := fun c => by simp; omega
    clear hl hm hlen h10 h1
    by_cases h128 : 128 ≤ m
    · have e8 := or8 m
      have hS := src_one wr (m % 128 + 128)
      have o1 := own_alloc ho #[.int .u8 ((m % 128 + 128 : Nat) : Int)] 5
      obtain ⟨o, n1, cp, e0⟩ := ho.form
      subst e0
      go_wp2_with (at_builtin; refine wpList_apd _ rfl rfl (.tmp 7) (.tmp 11) 22 rfl _ l' rfl o1 _ rfl [m % 128 + 128] hS (hbb _) ?_; intro v' w' hown hsp; obtain ⟨o', n2, cp', e2⟩ := hown.form; subst e2)
      obtain ⟨f, rfl⟩ : ∃ g, f = g + 1 := by
        cases f with
        | zero => exact absurd HM.out (by omega)
        | succ g => exact ⟨g, rfl⟩
      go_roundw
      case rel =>
        refine ⟨f, m / 128, l' ++ [m % 128 + 128], by go_num, hown, hs.trans hsp.alloc, ?_, ?_⟩
        · rw [← HL.out, en_step f m h128]; simp
        · have h2 := HM.out
          rw [show 7 * (f + 1) + 1 = 7 + (7 * f + 1) by omega, Nat.pow_add] at h2
          omega
      case measure => simp [intOf]; omega
    · have hS := src_one wr m
      have o1 := own_alloc ho #[.int .u8 (m : Int)] 5
      obtain ⟨o, n1, cp, e0⟩ := ho.form
      subst e0
      go_wp2_with (at_builtin; refine wpList_apd _ rfl rfl (.tmp 15) (.tmp 18) 22 rfl _ l' rfl o1 _ rfl [m] hS (hbb _) ?_; intro v' w' hown hsp)
      go_ret
      refine ⟨_, rfl, ?_, hs.trans hsp.alloc⟩
      rw [← HL.out, en_small f m (by omega)]
      exact hown

theorem ref_int (w : World) (u : Value) (l : List Nat) (h : Own w u l) (hb : l.length + 10 ≤ 1099511627776) (n : Int) (h1 : -9223372036854775808 ≤ n) (h2 : n ≤ 9223372036854775807) :
    Calls Tryz.prog 139 #[u, .int .i64 n] w fun e w' => ∃ u', e = .returned u' ∧ Own w' u' (l ++ enc (fo n)) ∧ Sp no u w u' w' := by
  have U := ref_uint w u l h hb (fo n) (fo_lt n h1 h2)
  by_cases hneg : n < 0
  · have E : (fo n : Int) = -(n + 1) * 2 + 1 := by unfold fo; rw [if_pos hneg]; omega
    rw [E] at U
    clear E
    go_enter Tryz.func139, Tryz.ntmps139
    go_wp2_with fail
    refine U.mono ?_
    rintro e w' ⟨u', rfl, h3, h4⟩
    go_wp2_with fail
    go_ret
    exact ⟨u', rfl, h3, h4⟩
  · have E : (fo n : Int) = n * 2 := by unfold fo; rw [if_neg hneg]; omega
    rw [E] at U
    clear E
    go_enter Tryz.func139, Tryz.ntmps139
    go_wp2_with fail
    refine U.mono ?_
    rintro e w' ⟨u', rfl, h3, h4⟩
    go_wp2_with fail
    go_ret
    exact ⟨u', rfl, h3, h4⟩

set_option maxRecDepth 100000 in
theorem ref_text (w : World) (u : Value) (l : List Nat) (h : Own w u l) (s : ByteArray) (hb : l.length + 10 + s.size ≤ 1099511627776) :
    Calls Tryz.prog 83 #[u, .string s] w fun e w' => ∃ u', e = .returned u' ∧ Own w' u' (l ++ (enc s.size ++ nl s)) ∧ Sp no u w u' w' := by
  go_enter Tryz.func83, Tryz.ntmps83
  go_wp2_with fail
  refine (ref_uint w u l h (by omega) s.size (by omega)).mono ?_
  rintro e w1 ⟨u1, rfl, o1, s1⟩
  have hS := src_string w1 s
  have hb' : (l ++ enc s.size).length + (nl s).length ≤ 1099511627776 := by have := enc_length s.size; rw [nl_length]; simp; omega
  obtain ⟨o, n1, cp, e0⟩ := o1.form
  subst e0
  go_wp2_with (at_builtin; refine wpList_apd _ rfl rfl (.tmp 9) (.tmp 10) 9 rfl _ (l ++ enc s.size) rfl o1 (.string s) rfl (nl s) hS hb' ?_; intro v' w' hown hsp)
  go_ret
  rw [List.append_assoc] at hown
  exact ⟨_, rfl, hown, s1.trans hsp⟩

set_option maxRecDepth 100000 in
theorem ref_eight (w : World) (u : Value) (l : List Nat) (h : Own w u l) (hb : l.length + 8 ≤ 1099511627776) (n : Nat) (_hn : n < 2 ^ 64) :
    Calls Tryz.prog 161 #[u, .int .u64 (n : Int)] w fun e w' => ∃ u', e = .returned u' ∧ Own w' u' (l ++ le n 8) ∧ Sp no u w u' w' := by
  go_enter Tryz.func161, Tryz.ntmps161
  go_wp2_with fail
  go_loopw [0, 5] (fun s i wr => ∃ (j : Nat), i = .int .i64 (j : Int) ∧ j ≤ 8 ∧ Own wr s (l ++ le n j) ∧ Sp no u w s wr) (fun _ i _ => 8 - (intOf i).toNat)
  case atStart => exact ⟨0, rfl, by omega, by simpa [le] using h, Sp.refl _ _ _⟩
  case round =>
    obtain ⟨j, rfl, hj, ho, hs⟩ := hrel
    by_cases h8 : j < 8
    · have HLE : Hid (le n (j + 1) = le n j ++ [n / 256 ^ j % 256]) := rfl
      have ec : (n : Int) / 2 ^ (8 * j) % 256 = ((n / 256 ^ j % 256 : Nat) : Int) := by
        have e2 : (256 : Nat) ^ j = 2 ^ (8 * j) := by rw [Nat.pow_mul]
        rw [e2]
        simp
      obtain ⟨c, hc⟩ : ∃ c, n / 256 ^ j % 256 = c := ⟨_, rfl⟩
      rw [hc] at HLE ec
      clear hc
      have hbb : (l ++ le n j).length + ([c] : List Nat).length ≤ 1099511627776 := by rw [List.length_append, le_length]; simp; omega
      have hS := src_one wr c
      have o1 := own_alloc ho #[.int .u8 (c : Int)] 5
      obtain ⟨o, n1, cp, e0⟩ := ho.form
      subst e0
      go_wp2_with (at_builtin; refine wpList_apd _ rfl rfl (.tmp 10) (.tmp 16) 22 rfl _ (l ++ le n j) rfl o1 _ rfl [c] hS hbb ?_; intro v' w' hown hsp; obtain ⟨o', n2, cp', e2⟩ := hown.form; subst e2)
      rw [List.append_assoc, ← HLE.out] at hown
      go_roundw
      case rel => exact ⟨j + 1, by go_num, by omega, hown, hs.trans hsp.alloc⟩
      case measure => simp [intOf]; omega
    · have : j = 8 := by omega
      subst this
      go_wp2_with fail
      go_ret
      exact ⟨_, rfl, ho, hs⟩

theorem ref_cplx (w : World) (u : Value) (l : List Nat) (h : Own w u l) (hb : l.length + 16 ≤ 1099511627776) (a b : Nat) (ha : a < 2 ^ 64) (hb' : b < 2 ^ 64) :
    Calls Tryz.prog 140 #[u, .complex .f64 a b] w fun e w' => ∃ u', e = .returned u' ∧ Own w' u' (l ++ (le a 8 ++ le b 8)) ∧ Sp no u w u' w' := by
  go_enter Tryz.func140, Tryz.ntmps140
  go_wp2_with fail
  refine (bits_any a b w).mono ?_
  rintro e w0 ⟨rfl, rfl⟩
  go_wp2_with fail
  refine (ref_eight w0 u l h (by omega) a ha).mono ?_
  rintro e w1 ⟨u1, rfl, o1, s1⟩
  go_wp2_with fail
  refine (ref_eight w1 u1 _ o1 (by rw [List.length_append, le_length]; omega) b hb').mono ?_
  rintro e w2 ⟨u2, rfl, o2, s2⟩
  go_wp2_with fail
  go_ret
  rw [List.append_assoc] at o2
  exact ⟨_, rfl, o2, s1.trans s2⟩
end Go.Proofs.YthncdbobjeeeaaaGreatDoor
