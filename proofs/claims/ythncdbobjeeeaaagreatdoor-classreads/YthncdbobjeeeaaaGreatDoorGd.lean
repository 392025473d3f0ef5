/- The bits of complex numbers, a writer's Cplx, and what the document's own functions append. -/
import Derived.Test.YthncdbobjeeeaaaGreatDoorGb
import Derived.WalkLawsBesides
namespace Go.Proofs.YthncdbobjeeeaaaGreatDoor
open Go.ChangeShapes Go.WideShapes Go.ChangeAt Go.RowKit

theorem run_bits (a : Nat) (w : World) : (callFunc 142 #[.float .f64 a]).run Tryz.prog w = .ok (.value (.int .u64 (a : Int))) w := by
  rw [run_callFunc_extern (e := Extern.MathFloatBits.float64bits) Tryz.func142 (by kernel_rfl) (by kernel_rfl) (by kernel_rfl) (by kernel_rfl)]
  rfl
theorem run_from (a : Nat) (w : World) : (callFunc 158 #[.int .u64 (a : Int)]).run Tryz.prog w = .ok (.value (.float .f64 a)) w := by
  rw [run_callFunc_extern (e := Extern.MathFloatBits.float64frombits) Tryz.func158 (by kernel_rfl) (by kernel_rfl) (by kernel_rfl) (by kernel_rfl)]
  rfl

theorem bits_any (a b : Nat) (w : World) : Calls Tryz.prog 91 #[.complex .f64 a b] w fun e w' => e = .returned (.tuple #[.int .u64 (a : Int), .int .u64 (b : Int)]) ∧ w' = w := by
  have hb := run_bits
  go_enter Tryz.func91, Tryz.ntmps91
  go_wp2
  go_ret2
  exact ⟨rfl, rfl⟩

theorem of_any (a b : Nat) (w : World) : Calls Tryz.prog 132 #[.int .u64 (a : Int), .int .u64 (b : Int)] w fun e w' => e = .returned (.complex .f64 a b) ∧ w' = w := by
  have hb := run_from
  go_enter Tryz.func132, Tryz.ntmps132
  go_wp2
  go_ret
  exact ⟨rfl, rfl⟩

/-- The first j bytes of n, the lowest first. -/
def le (n : Nat) : Nat → List Nat
  | 0 => []
  | j + 1 => le n j ++ [n / 256 ^ j % 256]

theorem le_length (n j : Nat) : (le n j).length = j := by
  induction j with
  | zero => rfl
  | succ j ih => simp [le, ih]

theorem le_byte (n j : Nat) : ∀ c ∈ le n j, c < 256 := by
  induction j with
  | zero => intro c hc; simp [le] at hc
  | succ j ih => exact bytes_append ih (fun c hc => by simp at hc; omega)

set_option maxRecDepth 100000 in
theorem part_any (w : World) (p : Nat) (v : Value) (l : List Nat) (h : Wt w p v l) (hb : l.length + 8 ≤ 1099511627776) (n : Nat) (hn : n < 2 ^ 64) :
    Calls Tryz.prog 144 #[.pointer (some ⟨p, 0, none⟩), .float .f64 n] w fun e w' => e = .returned (.tuple #[]) ∧ ∃ v', Wt w' p v' (l ++ le n 8) ∧ Sp (fun k => k = p) v w v' w' := by
  have hbits := run_bits
  go_enter Tryz.func144, Tryz.ntmps144
  go_wp2_with fail
  go_loopw [4, 7] (fun m i wr => ∃ (j : Nat), m = .int .u64 ((n / 256 ^ j : Nat) : Int) ∧ i = .int .i64 (j : Int) ∧ j ≤ 8 ∧ ∃ v', Wt wr p v' (l ++ le n j) ∧ Sp (fun k => k = p) v w v' wr) (fun _ i _ => 8 - (intOf i).toNat)
  case atStart => exact ⟨0, by simp, rfl, by omega, v, by simpa [le] using h, Sp.refl _ _ _⟩
  case round =>
    obtain ⟨j, rfl, rfl, hj, v1, hw1, hs1⟩ := hrel
    have hlt : n / 256 ^ j < 2 ^ 64 := Nat.lt_of_le_of_lt (Nat.div_le_self _ _) hn
    have e1 : n / 256 ^ (j + 1) = n / 256 ^ j / 256 := by rw [Nat.pow_succ, Nat.div_div_eq_div_mul]
    have HE : Hid (n / 256 ^ (j + 1) = n / 256 ^ j / 256) := e1
    have HLE : Hid (le n (j + 1) = le n j ++ [n / 256 ^ j % 256]) := rfl
    clear e1
    generalize n / 256 ^ j = m at *
    by_cases h8 : j < 8
    · go_wp2_with fail
      refine (byte_any wr p v1 _ hw1 (by rw [List.length_append, le_length]; omega) (m % 256)).mono ?_
      rintro e w2 ⟨rfl, v2, hw2, hs2⟩
      rw [List.append_assoc, ← HLE.out] at hw2
      go_wp2_with fail
      go_roundw
      case rel => exact ⟨j + 1, by rw [HE.out]; go_num, by go_num, by omega, v2, hw2, hs1.trans hs2⟩
      case measure => simp [intOf]; omega
    · have : j = 8 := by omega
      subst this
      go_wp2_with fail
      go_end0
      exact ⟨rfl, v1, hw1, hs1⟩

theorem cplx_any (w : World) (p : Nat) (v : Value) (l : List Nat) (h : Wt w p v l) (hb : l.length + 16 ≤ 1099511627776) (a b : Nat) (ha : a < 2 ^ 64) (hb' : b < 2 ^ 64) :
    Calls Tryz.prog 96 #[.pointer (some ⟨p, 0, none⟩), .complex .f64 a b] w fun e w' => e = .returned (.tuple #[]) ∧ ∃ v', Wt w' p v' (l ++ (le a 8 ++ le b 8)) ∧ Sp (fun k => k = p) v w v' w' := by
  go_enter Tryz.func96, Tryz.ntmps96
  go_wp2_with fail
  refine (part_any w p v l h (by omega) a ha).mono ?_
  rintro e w1 ⟨rfl, v1, h1, s1⟩
  go_wp2_with fail
  refine (part_any w1 p v1 _ h1 (by rw [List.length_append, le_length]; omega) b hb').mono ?_
  rintro e w2 ⟨rfl, v2, h2, s2⟩
  rw [List.append_assoc] at h2
  go_wp2_with fail
  go_end0
  exact ⟨rfl, v2, h2, s1.trans s2⟩

/-- One byte behind a slice of one's own. -/
theorem own_alloc {w : World} {v : Value} {l : List Nat} (h : Own w v l) (c : Array Value) (t : TypeId) : Own (w.alloc (.cells c t)) v l := h.kept ((Fr.refl no w).alloc c t) (fun _ _ f => f)

set_option maxRecDepth 100000 in
theorem ref_uint (w : World) (u : Value) (l : List Nat) (h : Own w u l) (hb : l.length + 10 ≤ 1099511627776) (n : Nat) (hn : n < 2 ^ 64) :
    Calls Tryz.prog 138 #[u, .int .u64 (n : Int)] w fun e w' => ∃ u', e = .returned u' ∧ Own w' u' (l ++ enc n) ∧ Sp no u w u' w' := by
  go_enter Tryz.func138, Tryz.ntmps138
  go_wp2_with fail
  go_loopw [0, 1] (fun s m wr => ∃ (f r : Nat) (l' : List Nat), m = .int .u64 (r : Int) ∧ Own wr s l' ∧ Sp no u w s wr ∧ l' ++ en f r = l ++ enc n ∧ r < 2 ^ (7 * f + 1)) (fun _ m _ => (intOf m).toNat)
  case atStart => exact ⟨9, n, l, rfl, h, Sp.refl _ _ _, rfl, hn⟩
  case round =>
    obtain ⟨f, m, l', rfl, ho, hs, hl, hm⟩ := hrel
    rename_i s
    have HL : Hid (l' ++ en f m = l ++ enc n) := hl
    have HM : Hid (m < 2 ^ (7 * f + 1)) := hm
    have hlen : l'.length + (en f m).length = l.length + (enc n).length := by have := congrArg List.length hl; simpa using this
    have h10 := enc_length n
    have h1 := en_length f m
    have hbb : ∀ c : Nat, l'.length + ([c] : List Nat).length ≤ 1099511627776 := fun c => by simp; omega
    clear hl hm hlen h10 h1
    by_cases h128 : 128 ≤ m
    · have e8 := or8 m
      have hS := src_one wr (m % 128 + 128)
      have o1 := own_alloc ho #[.int .u8 ((m % 128 + 128 : Nat) : Int)] 5
      obtain ⟨o, n1, cp, e0⟩ := ho.form
      subst e0
      go_wp2_with (at_builtin; refine wpList_apd _ rfl rfl (.tmp 7) (.tmp 11) 22 rfl _ l' rfl o1 _ rfl [m % 128 + 128] hS (hbb _) ?_; intro v' w' hown hsp; obtain ⟨o', n2, cp', e2⟩ := hown.form; subst e2)
      obtain ⟨f, rfl⟩ : ∃ g, f = g + 1 := by
        cases f with
        | zero => exact absurd HM.out (by omega)
        | succ g => exact ⟨g, rfl⟩
      go_roundw
      case rel =>
        refine ⟨f, m / 128, l' ++ [m % 128 + 128], by go_num, hown, hs.trans hsp.alloc, ?_, ?_⟩
        · rw [← HL.out, en_step f m h128]; simp
        · have h2 := HM.out
          rw [show 7 * (f + 1) + 1 = 7 + (7 * f + 1) by omega, Nat.pow_add] at h2
          omega
      case measure => simp [intOf]; omega
    · have hS := src_one wr m
      have o1 := own_alloc ho #[.int .u8 (m : Int)] 5
      obtain ⟨o, n1, cp, e0⟩ := ho.form
      subst e0
      go_wp2_with (at_builtin; refine wpList_apd _ rfl rfl (.tmp 15) (.tmp 18) 22 rfl _ l' rfl o1 _ rfl [m] hS (hbb _) ?_; intro v' w' hown hsp)
      go_ret
      refine ⟨_, rfl, ?_, hs.trans hsp.alloc⟩
      rw [← HL.out, en_small f m (by omega)]
      exact hown

theorem ref_int (w : World) (u : Value) (l : List Nat) (h : Own w u l) (hb : l.length + 10 ≤ 1099511627776) (n : Int) (h1 : -9223372036854775808 ≤ n) (h2 : n ≤ 9223372036854775807) :
    Calls Tryz.prog 139 #[u, .int .i64 n] w fun e w' => ∃ u', e = .returned u' ∧ Own w' u' (l ++ enc (fo n)) ∧ Sp no u w u' w' := by
  have U := ref_uint w u l h hb (fo n) (fo_lt n h1 h2)
  by_cases hneg : n < 0
  · have E : (fo n : Int) = -(n + 1) * 2 + 1 := by unfold fo; rw [if_pos hneg]; omega
    rw [E] at U
    clear E
    go_enter Tryz.func139, Tryz.ntmps139
    go_wp2_with fail
    refine U.mono ?_
    rintro e w' ⟨u', rfl, h3, h4⟩
    go_wp2_with fail
    go_ret
    exact ⟨u', rfl, h3, h4⟩
  · have E : (fo n : Int) = n * 2 := by unfold fo; rw [if_neg hneg]; omega
    rw [E] at U
    clear E
    go_enter Tryz.func139, Tryz.ntmps139
    go_wp2_with fail
    refine U.mono ?_
    rintro e w' ⟨u', rfl, h3, h4⟩
    go_wp2_with fail
    go_ret
    exact ⟨u', rfl, h3, h4⟩

set_option maxRecDepth 100000 in
theorem ref_text (w : World) (u : Value) (l : List Nat) (h : Own w u l) (s : ByteArray) (hb : l.length + 10 + s.size ≤ 1099511627776) :
    Calls Tryz.prog 83 #[u, .string s] w fun e w' => ∃ u', e = .returned u' ∧ Own w' u' (l ++ (enc s.size ++ nl s)) ∧ Sp no u w u' w' := by
  go_enter Tryz.func83, Tryz.ntmps83
  go_wp2_with fail
  refine (ref_uint w u l h (by omega) s.size (by omega)).mono ?_
  rintro e w1 ⟨u1, rfl, o1, s1⟩
  have hS := src_string w1 s
  have hb' : (l ++ enc s.size).length + (nl s).length ≤ 1099511627776 := by have := enc_length s.size; rw [nl_length]; simp; omega
  obtain ⟨o, n1, cp, e0⟩ := o1.form
  subst e0
  go_wp2_with (at_builtin; refine wpList_apd _ rfl rfl (.tmp 9) (.tmp 10) 9 rfl _ (l ++ enc s.size) rfl o1 (.string s) rfl (nl s) hS hb' ?_; intro v' w' hown hsp)
  go_ret
  rw [List.append_assoc] at hown
  exact ⟨_, rfl, hown, s1.trans hsp⟩

set_option maxRecDepth 100000 in
theorem ref_eight (w : World) (u : Value) (l : List Nat) (h : Own w u l) (hb : l.length + 8 ≤ 1099511627776) (n : Nat) (_hn : n < 2 ^ 64) :
    Calls Tryz.prog 161 #[u, .int .u64 (n : Int)] w fun e w' => ∃ u', e = .returned u' ∧ Own w' u' (l ++ le n 8) ∧ Sp no u w u' w' := by
  go_enter Tryz.func161, Tryz.ntmps161
  go_wp2_with fail
  go_loopw [0, 5] (fun s i wr => ∃ (j : Nat), i = .int .i64 (j : Int) ∧ j ≤ 8 ∧ Own wr s (l ++ le n j) ∧ Sp no u w s wr) (fun _ i _ => 8 - (intOf i).toNat)
  case atStart => exact ⟨0, rfl, by omega, by simpa [le] using h, Sp.refl _ _ _⟩
  case round =>
    obtain ⟨j, rfl, hj, ho, hs⟩ := hrel
    by_cases h8 : j < 8
    · have HLE : Hid (le n (j + 1) = le n j ++ [n / 256 ^ j % 256]) := rfl
      have ec : (n : Int) / 2 ^ (8 * j) % 256 = ((n / 256 ^ j % 256 : Nat) : Int) := by
        have e2 : (256 : Nat) ^ j = 2 ^ (8 * j) := by rw [Nat.pow_mul]
        rw [e2]
        simp
      obtain ⟨c, hc⟩ : ∃ c, n / 256 ^ j % 256 = c := ⟨_, rfl⟩
      rw [hc] at HLE ec
      clear hc
      have hbb : (l ++ le n j).length + ([c] : List Nat).length ≤ 1099511627776 := by rw [List.length_append, le_length]; simp; omega
      have hS := src_one wr c
      have o1 := own_alloc ho #[.int .u8 (c : Int)] 5
      obtain ⟨o, n1, cp, e0⟩ := ho.form
      subst e0
      go_wp2_with (at_builtin; refine wpList_apd _ rfl rfl (.tmp 10) (.tmp 16) 22 rfl _ (l ++ le n j) rfl o1 _ rfl [c] hS hbb ?_; intro v' w' hown hsp; obtain ⟨o', n2, cp', e2⟩ := hown.form; subst e2)
      rw [List.append_assoc, ← HLE.out] at hown
      go_roundw
      case rel => exact ⟨j + 1, by go_num, by omega, hown, hs.trans hsp.alloc⟩
      case measure => simp [intOf]; omega
    · have : j = 8 := by omega
      subst this
      go_wp2_with fail
      go_ret
      exact ⟨_, rfl, ho, hs⟩

theorem ref_cplx (w : World) (u : Value) (l : List Nat) (h : Own w u l) (hb : l.length + 16 ≤ 1099511627776) (a b : Nat) (ha : a < 2 ^ 64) (hb' : b < 2 ^ 64) :
    Calls Tryz.prog 140 #[u, .complex .f64 a b] w fun e w' => ∃ u', e = .returned u' ∧ Own w' u' (l ++ (le a 8 ++ le b 8)) ∧ Sp no u w u' w' := by
  go_enter Tryz.func140, Tryz.ntmps140
  go_wp2_with fail
  refine (bits_any a b w).mono ?_
  rintro e w0 ⟨rfl, rfl⟩
  go_wp2_with fail
  refine (ref_eight w0 u l h (by omega) a ha).mono ?_
  rintro e w1 ⟨u1, rfl, o1, s1⟩
  go_wp2_with fail
  refine (ref_eight w1 u1 _ o1 (by rw [List.length_append, le_length]; omega) b hb').mono ?_
  rintro e w2 ⟨u2, rfl, o2, s2⟩
  go_wp2_with fail
  go_ret
  rw [List.append_assoc] at o2
  exact ⟨_, rfl, o2, s1.trans s2⟩
end Go.Proofs.YthncdbobjeeeaaaGreatDoor

/- What the document's own reader answers: Uint, Int, Count, Text, Byte. -/
namespace Go.Proofs.YthncdbobjeeeaaaGreatDoor
open Go.ChangeShapes Go.WideShapes Go.ChangeAt Go.RowKit

theorem and_127 (c : Nat) (h : c < 256) : bits .and .u8 (c : Int) 127 = (c : Int) % 128 := by
  have key : ∀ d : Fin 256, d.val &&& 127 = d.val % 128 := by decide +kernel
  have h1 := u8_and_nat c 127 h (by omega)
  rw [key ⟨c, h⟩] at h1
  simpa using h1

set_option maxRecDepth 100000 in
theorem docUint_none (w : World) (p : Nat) (ad : Option Addr) (cap : Nat) (h1 : w.heap[p]? = some (.cells #[.slice ad 0 cap] 78 (0, 0))) :
    Calls Tryz.prog 131 #[.pointer (some ⟨p, 0, none⟩)] w fun e w' => e = .returned (.tuple #[.int .u64 0, .int .i64 30]) ∧ w' = w := by
  have hc := cell_of_one h1
  clear h1
  go_enter Tryz.func131, Tryz.ntmps131
  go_wp2_with fail
  go_loop [4, 5] (fun m i => m = .int .u64 0 ∧ i = .int .i64 0) (fun _ _ => 0)
  case atStart => exact ⟨rfl, rfl⟩
  case round =>
    obtain ⟨rfl, rfl⟩ := hrel
    go_wp2_with fail
    go_ret2
    exact ⟨rfl, rfl⟩

set_option maxRecDepth 100000 in
set_option maxHeartbeats 2000000 in
theorem docUint_some (w : World) (p : Nat) (l : List Nat) (h : Rs 78 w p l) (hl : ∀ c ∈ l, c < 256) (hb : l.length ≤ 1099511627776) :
    Calls Tryz.prog 131 #[.pointer (some ⟨p, 0, none⟩)] w fun e w' => e = .returned (.tuple #[.int .u64 ((rd l 0 0).1 : Int), .int .i64 ((rd l 0 0).2.1 : Int)]) ∧ Rs 78 w' p (l.drop (rd l 0 0).2.2) ∧ Fr (fun q => q = p) w w' := by
  have hR := h
  obtain ⟨b, off, cap, h1, h2, h3, h4⟩ := h
  have hc := cell_of_one h1
  have hz := free_of_one h1
  have hM : Hid (∀ k off', k ≤ l.length → (cap ≠ k → off' = off + k) → Rs 78 (w.setCell ⟨p, 0, none⟩ (.slice (some ⟨b, off', none⟩) (l.length - k) (cap - k))) p (l.drop k) ∧ Fr (fun q => q = p) w (w.setCell ⟨p, 0, none⟩ (.slice (some ⟨b, off', none⟩) (l.length - k) (cap - k)))) :=
    fun k off' hk ho => Rs.moved h1 h2 h3 h4 hk ho
  unfold maxLen at h3
  have H4 : Hid (∀ (i c : Nat), l[i]? = some c → w.cell? ⟨b, off + i, none⟩ = some (.int .u8 (c : Int))) := h4
  clear h1 h4
  go_enter Tryz.func131, Tryz.ntmps131
  go_wp2_with fail
  go_loop [4, 5] (fun m i => ∃ (j acc : Nat), m = .int .u64 (acc : Int) ∧ i = .int .i64 (j : Int) ∧ j ≤ 9 ∧ j ≤ l.length ∧ Hid (acc < 2 ^ (7 * j)) ∧ Hid (rd (l.drop j) j acc = rd l 0 0)) (fun _ i => 10 - (intOf i).toNat)
  case atStart => exact ⟨0, 0, rfl, rfl, by omega, by omega, by show 0 < 2 ^ (7 * 0); omega, rfl⟩
  case round =>
    obtain ⟨i, acc, rfl, rfl, hi, hil, HA, HR⟩ := hrel
    by_cases hend : i = l.length
    · have hlt : ¬ i < l.length := by omega
      go_wp2_with fail
      go_ret2
      have e : rd l 0 0 = (0, 30, 0) := by rw [← HR.out, hend]; simp [rd]
      rw [e]
      exact ⟨rfl, hR, Fr.refl _ _⟩
    · obtain ⟨c, hcl⟩ : ∃ c, l[i]? = some c := ⟨_, List.getElem?_eq_getElem (by omega)⟩
      have hcell := H4.out i c hcl
      have hc256 : c < 256 := hl c (List.mem_of_getElem? hcl)
      have hd : l.drop i = c :: l.drop (i + 1) := by
        have hlt : i < l.length := by omega
        rw [List.drop_eq_getElem_cons hlt]
        rw [List.getElem?_eq_getElem hlt] at hcl
        simp at hcl
        rw [hcl]
      have HD : Hid (rd l 0 0 = rd (c :: l.drop (i + 1)) i acc) := by show _ = _; rw [← HR.out, hd]
      clear hcl hd HR
      have hlt : i < l.length := by omega
      have ha7 := and_127 c hc256
      by_cases h9 : i = 9 ∧ c ≠ 1
      · obtain ⟨h9, h1⟩ := h9
        subst h9
        have h1' : ((c : Int) == 1) = false := by simp; omega
        go_wp2_with fail
        go_ret2
        have e : rd l 0 0 = (0, 31, 0) := by rw [HD.out]; simp [rd, h1]
        rw [e]
        exact ⟨rfl, hR, Fr.refl _ _⟩
      · have h9' : i = 9 → c % 128 ≤ 1 := fun h => by
          have : c = 1 := Classical.byContradiction fun h' => h9 ⟨h, h'⟩
          omega
        obtain ⟨ho, hlt64, hs⟩ := or64w acc c i hi HA.out h9'
        obtain ⟨m, hm⟩ : ∃ m, acc + c % 128 * 2 ^ (7 * i) = m := ⟨_, rfl⟩
        rw [hm] at ho hlt64 hs
        have HM : Hid (acc + c % 128 * 2 ^ (7 * i) = m) := hm
        have HS : Hid (i < 9 → m < 2 ^ (7 * (i + 1))) := hs
        clear hm hs h9'
        by_cases hz0 : 0 < i ∧ c = 0
        · obtain ⟨hz1, hz2⟩ := hz0
          subst hz2
          have hi9 : i ≠ 9 := fun h => h9 ⟨h, by omega⟩
          have h10 : ((i : Int) == 9) = false := by simp; omega
          clear h9
          go_wp2_with fail
          go_ret2
          have e : rd l 0 0 = (0, 31, 0) := by rw [HD.out]; simp [rd, hi9, hz1]
          rw [e]
          exact ⟨rfl, hR, Fr.refl _ _⟩
        · have H9 : Hid (¬ (i = 9 ∧ c ≠ 1)) := h9
          have HZ : Hid (¬ (0 < i ∧ c = 0)) := hz0
          have A7 : Hid (bits .and .u8 (c : Int) 127 = (c : Int) % 128) := ha7
          have fin : Hid (c < 128 → ∀ w' : World, Rs 78 w' p (l.drop (i + 1)) ∧ Fr (fun q => q = p) w w' → (Ending.returned (.tuple #[.int .u64 (m : Int), .int .i64 0]) = .returned (.tuple #[.int .u64 ((rd l 0 0).1 : Int), .int .i64 ((rd l 0 0).2.1 : Int)]) ∧ Rs 78 w' p (l.drop (rd l 0 0).2.2) ∧ Fr (fun q => q = p) w w')) := by
            intro h w' a
            have E : rd l 0 0 = (m, 0, i + 1) := by
              rw [HD.out, rd, if_neg H9.out, if_pos (by omega), if_neg HZ.out, ← HM.out, show c % 128 = c by omega]
            rw [E]
            exact ⟨rfl, a⟩
          by_cases h128 : c < 128
          · have hM1 : Hid (cap = i + 1 → Rs 78 (w.setCell ⟨p, 0, none⟩ (.slice (some ⟨b, off, none⟩) (l.length - (i + 1)) 0)) p (l.drop (i + 1)) ∧ Fr (fun q => q = p) w (w.setCell ⟨p, 0, none⟩ (.slice (some ⟨b, off, none⟩) (l.length - (i + 1)) 0))) := fun hck => by
              have M := hM.out (i + 1) off (by omega) (fun h => absurd hck h)
              rw [show cap - (i + 1) = 0 by omega] at M
              exact M
            have hM2 : Hid (Rs 78 (w.setCell ⟨p, 0, none⟩ (.slice (some ⟨b, off + (i + 1), none⟩) (l.length - (i + 1)) (cap - (i + 1)))) p (l.drop (i + 1)) ∧ Fr (fun q => q = p) w (w.setCell ⟨p, 0, none⟩ (.slice (some ⟨b, off + (i + 1), none⟩) (l.length - (i + 1)) (cap - (i + 1))))) :=
              hM.out (i + 1) (off + (i + 1)) (by omega) (fun _ => rfl)
            by_cases h9i : i = 9
            · have hc1 : c = 1 := Classical.byContradiction fun h' => h9 ⟨h9i, h'⟩
              subst hc1 h9i
              have ha1 : bits .and .u8 1 127 = 1 := A7.out
              have ho' : bits .or .u64 (acc : Int) 9223372036854775808 = (m : Int) := ho
              clear h9 hz0
              by_cases hck : cap = 10
              · have M := hM1.out hck
                go_wp2_with fail
                go_ret2
                exact fin.out (by omega) _ M
              · have M := hM2.out
                go_wp2_with fail
                go_ret2
                exact fin.out (by omega) _ M
            · have h10 : ((i : Int) == 9) = false := by simp; omega
              clear h9
              by_cases hi0 : 0 < i
              · have hc0 : ((c : Int) == 0) = false := by simp; omega
                clear hz0
                by_cases hck : cap = i + 1
                · have M := hM1.out hck
                  go_wp2_with fail
                  go_ret2
                  exact fin.out (by omega) _ M
                · have M := hM2.out
                  go_wp2_with fail
                  go_ret2
                  exact fin.out (by omega) _ M
              · have hi1 : ¬ (0 : Int) < (i : Int) := by omega
                clear hz0
                by_cases hck : cap = i + 1
                · have M := hM1.out hck
                  go_wp2_with fail
                  go_ret2
                  exact fin.out (by omega) _ M
                · have M := hM2.out
                  go_wp2_with fail
                  go_ret2
                  exact fin.out (by omega) _ M
          · have hi9 : i < 9 := by omega
            have h10 : ((i : Int) == 9) = false := by simp; omega
            have hc0 : ((c : Int) == 0) = false := by simp; omega
            have rel' : Hid (rd (l.drop (i + 1)) (i + 1) m = rd l 0 0) := by
              show _ = _
              rw [HD.out, rd, if_neg H9.out, if_neg (by omega), ← HM.out, show c % 128 = c - 128 by omega]
            clear h9 hz0
            by_cases hi0 : 0 < i
            · go_wp2_with fail
              go_round
              case rel => exact ⟨i + 1, m, by simp, by go_num, by omega, by omega, HS.out hi9, rel'⟩
              case measure => simp [intOf]; omega
            · have hi1 : ¬ (0 : Int) < (i : Int) := by omega
              go_wp2_with fail
              go_round
              case rel => exact ⟨i + 1, m, by simp, by go_num, by omega, by omega, HS.out hi9, rel'⟩
              case measure => simp [intOf]; omega
end Go.Proofs.YthncdbobjeeeaaaGreatDoor

/- What the document's own reader answers: Int, Count, Text, Byte. -/
namespace Go.Proofs.YthncdbobjeeeaaaGreatDoor
open Go.ChangeShapes Go.WideShapes Go.ChangeAt Go.RowKit

theorem docUint_any (w : World) (p : Nat) (l : List Nat) (h : Rd 78 w p l) (hl : ∀ c ∈ l, c < 256) (hb : l.length ≤ 1099511627776) :
    Calls Tryz.prog 131 #[.pointer (some ⟨p, 0, none⟩)] w fun e w' => e = .returned (.tuple #[.int .u64 ((rd l 0 0).1 : Int), .int .i64 ((rd l 0 0).2.1 : Int)]) ∧ Rd 78 w' p (l.drop (rd l 0 0).2.2) ∧
      ((rd l 0 0).2.1 = 0 → Rs 78 w' p (l.drop (rd l 0 0).2.2)) ∧ Fr (fun q => q = p) w w' := by
  by_cases hn : l = []
  · subst hn
    have hR := h
    obtain ⟨v, h1, h2⟩ := h
    obtain ⟨o, cap, rfl, _⟩ := h2.shape
    refine (docUint_none w p o cap h1).mono ?_
    rintro e w' ⟨rfl, rfl⟩
    exact ⟨rfl, hR, fun h => by simp [rd] at h, Fr.refl _ _⟩
  · refine (docUint_some w p l (h.rs hn) hl hb).mono ?_
    rintro e w' ⟨rfl, h1, h2⟩
    exact ⟨rfl, h1.rd, fun _ => h1, h2⟩

theorem docInt_any (w : World) (p : Nat) (l : List Nat) (h : Rd 78 w p l) (hl : ∀ c ∈ l, c < 256) (hb : l.length ≤ 1099511627776) :
    Calls Tryz.prog 77 #[.pointer (some ⟨p, 0, none⟩)] w fun e w' => e = .returned (.tuple #[.int .i64 (unf (rd l 0 0).1), .int .i64 ((rd l 0 0).2.1 : Int)]) ∧ Rd 78 w' p (l.drop (rd l 0 0).2.2) ∧ Fr (fun q => q = p) w w' := by
  have hlt := rd_lt l 0 0 hl (by omega) (by omega)
  have U := docUint_any w p l h hl hb
  generalize rd l 0 0 = r at *
  by_cases h1 : r.1 % 2 = 1
  · have h1' : ((r.1 : Int) % 2 == 1) = true := by simp; omega
    have E : Hid (unf r.1 = - ((r.1 : Int) / 2) - 1) := by show _ = _; unfold unf; rw [if_pos h1]; omega
    clear h1
    go_enter Tryz.func77, Tryz.ntmps77
    go_wp2_with fail
    refine U.mono ?_
    rintro e w1 ⟨rfl, r1, _, r2⟩
    go_wp2_with fail
    go_ret2
    exact ⟨by rw [E.out]; rfl, r1, r2⟩
  · have h1' : ((r.1 : Int) % 2 == 1) = false := by simp; omega
    have E : Hid (unf r.1 = (r.1 : Int) / 2) := by show _ = _; unfold unf; rw [if_neg h1]; omega
    clear h1
    go_enter Tryz.func77, Tryz.ntmps77
    go_wp2_with fail
    refine U.mono ?_
    rintro e w1 ⟨rfl, r1, _, r2⟩
    go_wp2_with fail
    go_ret2
    exact ⟨by rw [E.out]; rfl, r1, r2⟩

/-- The slice that was there is laid back. -/
theorem Rd.restore {w w' : World} {p : Nat} {l : List Nat} {v v' : Value} (h1 : w.heap[p]? = some (.cells #[v] 78 (0, 0))) (h2 : Sl w v l) (hf : Fr (fun q => q = p) w w') (h3 : w'.heap[p]? = some (.cells #[v'] 78 (0, 0))) :
    Rd 78 (w'.setCell ⟨p, 0, none⟩ v) p l ∧ Fr (fun q => q = p) w (w'.setCell ⟨p, 0, none⟩ v) := by
  have hF : Fr (fun q => q = p) w' (w'.setCell ⟨p, 0, none⟩ v) := (Fr.refl (fun q => q = p) w').setCell (p := ⟨p, 0, none⟩) (fun _ => rfl) _
  have hT := hf.trans hF (fun _ _ e => e) (fun _ _ e => e)
  exact ⟨⟨v, one_setCell h3, h2.kept hT (Rd.apart ⟨v, h1, h2⟩)⟩, hT⟩

theorem docCount_any (w : World) (p : Nat) (l : List Nat) (h : Rd 78 w p l) (hl : ∀ c ∈ l, c < 256) (hb : l.length ≤ 1099511627776) (most : Int) (hm1 : -9223372036854775808 ≤ most) (hm2 : most ≤ 9223372036854775807) :
    Calls Tryz.prog 76 #[.pointer (some ⟨p, 0, none⟩), .int .i64 most] w fun e w' => e = .returned (.tuple #[.int .i64 ((ct l most).1 : Int), .int .i64 ((ct l most).2.1 : Int)]) ∧ Rd 78 w' p (l.drop (ct l most).2.2) ∧
      ((ct l most).2.1 = 0 → Rs 78 w' p (l.drop (ct l most).2.2)) ∧ Fr (fun q => q = p) w w' := by
  have hlt := rd_lt l 0 0 hl (by omega) (by omega)
  have herr := rd_err l 0 0
  have U := docUint_any w p l h hl hb
  obtain ⟨v, h1, h2⟩ := h
  obtain ⟨o, cap, e0, _⟩ := h2.shape
  have HB : Hid (∀ w' v', Fr (fun q => q = p) w w' → w'.heap[p]? = some (.cells #[v'] 78 (0, 0)) → Rd 78 (w'.setCell ⟨p, 0, none⟩ v) p l ∧ Fr (fun q => q = p) w (w'.setCell ⟨p, 0, none⟩ v)) := fun w' v' => Rd.restore h1 h2
  have hc := cell_of_one h1
  clear h1 h2
  generalize l.length = n0 at e0
  subst e0
  have Hct : Hid (ct l most = if (rd l 0 0).2.1 ≠ 0 then rd l 0 0 else if most < ((rd l 0 0).1 : Int) then (0, 32, 0) else rd l 0 0) := rfl
  generalize ct l most = c at *
  generalize rd l 0 0 = r at *
  obtain ⟨n, x, k⟩ := r
  simp only [] at *
  by_cases hx : x = 0
  · subst hx
    by_cases hbig : most < (n : Int)
    · have e : Hid (c = (0, 32, 0)) := by show _ = _; rw [Hct.out, if_neg (by omega), if_pos hbig]
      by_cases hneg : most < 0
      · go_enter Tryz.func76, Tryz.ntmps76
        go_wp2_with fail
        refine U.mono ?_
        rintro e w2 ⟨rfl, r1, r3, r2⟩
        obtain ⟨v', g1, _⟩ := r1
        have gc := cell_of_one g1
        have gf := free_of_one g1
        have B := HB.out w2 v' r2 g1
        clear g1
        go_wp2_with fail
        go_ret2
        rw [e.out]
        exact ⟨rfl, B.1, fun h => by simp at h, B.2⟩
      · go_enter Tryz.func76, Tryz.ntmps76
        go_wp2_with fail
        refine U.mono ?_
        rintro e w2 ⟨rfl, r1, r3, r2⟩
        obtain ⟨v', g1, _⟩ := r1
        have gc := cell_of_one g1
        have gf := free_of_one g1
        have B := HB.out w2 v' r2 g1
        clear g1
        go_wp2_with fail
        go_ret2
        rw [e.out]
        exact ⟨rfl, B.1, fun h => by simp at h, B.2⟩
    · have e : Hid (c = (n, 0, k)) := by show _ = _; rw [Hct.out, if_neg (by omega), if_neg hbig]
      have hneg : ¬ most < 0 := by omega
      go_enter Tryz.func76, Tryz.ntmps76
      go_wp2_with fail
      refine U.mono ?_
      rintro e w2 ⟨rfl, r1, r3, r2⟩
      go_wp2_with fail
      go_ret2
      rw [e.out]
      exact ⟨rfl, r1, fun _ => r3 trivial, r2⟩
  · have e : Hid (c = (0, x, 0)) := by show _ = _; rw [Hct.out, if_pos hx]; exact herr hx
    have hx' : ((x : Int) == 0) = false := by simp; omega
    go_enter Tryz.func76, Tryz.ntmps76
    go_wp2_with fail
    refine U.mono ?_
    rintro e w2 ⟨rfl, r1, r3, r2⟩
    obtain ⟨v', g1, _⟩ := r1
    have gc := cell_of_one g1
    have gf := free_of_one g1
    have B := HB.out w2 v' r2 g1
    clear g1
    go_wp2_with fail
    go_ret2
    rw [e.out]
    exact ⟨rfl, B.1, fun h => absurd h hx, B.2⟩

set_option maxRecDepth 100000 in
theorem docByte_any (w : World) (p : Nat) (l : List Nat) (h : Rd 78 w p l) :
    Calls Tryz.prog 79 #[.pointer (some ⟨p, 0, none⟩)] w fun e w' => e = .returned (.tuple #[.int .u8 ((by1 l).1 : Int), .int .i64 ((by1 l).2.1 : Int)]) ∧ Rd 78 w' p (l.drop (by1 l).2.2) ∧ Fr (fun q => q = p) w w' := by
  cases l with
  | nil =>
    have hR := h
    obtain ⟨v, h1, h2⟩ := h
    obtain ⟨o, cap, rfl, _⟩ := h2.shape
    have hc := cell_of_one h1
    clear h1 h2
    go_enter Tryz.func79, Tryz.ntmps79
    go_wp2_with fail
    go_ret2
    exact ⟨rfl, hR, Fr.refl _ _⟩
  | cons c cs =>
    have hR := h.rs (by simp)
    obtain ⟨b, off, cap, h1, h2, h3, h4⟩ := hR
    have M : ∀ off', (cap ≠ 1 → off' = off + 1) → _ := fun off' ho => Rs.moved (k := 1) (off' := off') h1 h2 h3 h4 (by simp) ho
    have hc := cell_of_one h1
    have hf := free_of_one h1
    have h0 : w.cell? ⟨b, off, none⟩ = some (.int .u8 (c : Int)) := h4 0 c rfl
    have hne : (((cs.length : Int) + 1) == 0) = false := by simp; omega
    unfold maxLen at h3
    clear h1 h4
    rw [List.length_cons] at h2 hc
    simp only [List.length_cons, Nat.add_sub_cancel] at M
    by_cases hck : cap = 1
    · have M1 := M off (fun h => absurd hck h)
      rw [show cap - 1 = 0 by omega] at M1
      clear M
      go_enter Tryz.func79, Tryz.ntmps79
      go_wp2_with fail
      go_ret2
      exact ⟨rfl, M1.1.rd, M1.2⟩
    · have M1 := M (off + 1) (fun _ => rfl)
      clear M
      go_enter Tryz.func79, Tryz.ntmps79
      go_wp2_with fail
      go_ret2
      exact ⟨rfl, M1.1.rd, M1.2⟩
end Go.Proofs.YthncdbobjeeeaaaGreatDoor

/- A text of the document's reader; the bits of complex numbers, read. -/
namespace Go.Proofs.YthncdbobjeeeaaaGreatDoor
open Go.ChangeShapes Go.WideShapes Go.ChangeAt Go.RowKit
set_option maxRecDepth 100000 in
theorem docText_any (w : World) (p : Nat) (l : List Nat) (h : Rd 78 w p l) (hl : ∀ c ∈ l, c < 256) (hb : l.length ≤ 1099511627776) (most : Int) (hm1 : -9223372036854775808 ≤ most) (hm2 : most ≤ 9223372036854775807) :
    Calls Tryz.prog 75 #[.pointer (some ⟨p, 0, none⟩), .int .i64 most] w fun e w' => e = .returned (.tuple #[.string (bstr (tx l most).1), .int .i64 ((tx l most).2.1 : Int)]) ∧ Rd 78 w' p (l.drop (tx l most).2.2) ∧ Fr (fun q => q = p) w w' := by
  have U := docCount_any w p l h hl hb most hm1 hm2
  have hle := ct_le l most
  obtain ⟨v, h1, h2⟩ := h
  obtain ⟨o, cap, e0, _⟩ := h2.shape
  have HB : Hid (∀ w' v', Fr (fun q => q = p) w w' → w'.heap[p]? = some (.cells #[v'] 78 (0, 0)) → Rd 78 (w'.setCell ⟨p, 0, none⟩ v) p l ∧ Fr (fun q => q = p) w (w'.setCell ⟨p, 0, none⟩ v)) := fun w' v' => Rd.restore h1 h2
  have hc := cell_of_one h1
  clear h1 h2
  generalize l.length = n0 at e0
  subst e0
  have Hct : Hid (tx l most = if (ct l most).2.1 ≠ 0 then ([], (ct l most).2.1, 0) else if (l.drop (ct l most).2.2).length < (ct l most).1 then ([], 30, 0) else ((l.drop (ct l most).2.2).take (ct l most).1, 0, (ct l most).2.2 + (ct l most).1)) := rfl
  generalize tx l most = t at *
  generalize ct l most = r at *
  obtain ⟨n, x, k⟩ := r
  simp only [] at *
  by_cases hx : x = 0
  · subst hx
    obtain ⟨hk0, hkl, hnm⟩ := hle rfl
    clear hle
    by_cases hbig : l.length - k < n
    · have e : Hid (t = ([], 30, 0)) := by show _ = _; rw [Hct.out, if_neg (by omega), if_pos (by rw [List.length_drop]; exact hbig)]
      go_enter Tryz.func75, Tryz.ntmps75
      go_wp2_with fail
      refine U.mono ?_
      rintro e w2 ⟨rfl, r1, r3, r2⟩
      obtain ⟨b, off, cp, g1, g2, g3, g4⟩ := r3 trivial
      have B := HB.out w2 _ r2 g1
      have gc := cell_of_one g1
      have gf := free_of_one g1
      rw [List.length_drop] at gc
      clear g1 g4 r3 r1
      go_wp2_with fail
      go_ret2
      rw [e.out]
      exact ⟨rfl, B⟩
    · have e : Hid (t = ((l.drop k).take n, 0, k + n)) := by show _ = _; rw [Hct.out, if_neg (by omega), if_neg (by rw [List.length_drop]; exact hbig)]
      go_enter Tryz.func75, Tryz.ntmps75
      go_wp2_with fail
      refine U.mono ?_
      rintro e w2 ⟨rfl, r1, r3, r2⟩
      obtain ⟨b, off, cp, g1, g2, g3, g4⟩ := r3 trivial
      have M : ∀ off', (cp ≠ n → off' = off + n) → _ := fun off' ho => Rs.moved (k := n) (off' := off') g1 g2 g3 g4 (by rw [List.length_drop]; omega) ho
      have hcv := conv_text w2 b off n cp (l.drop k) (by rw [List.length_drop]; omega) g4
      have gc := cell_of_one g1
      have gf := free_of_one g1
      rw [List.length_drop] at gc g2
      simp only [List.length_drop, List.drop_drop] at M
      unfold maxLen at g3
      clear g1 g4 r3 r1
      by_cases hck : cp = n
      · have M1 := M off (fun h => absurd hck h)
        rw [show cp - n = 0 by omega, show l.length - k - n = 0 by omega] at M1
        clear M
        subst hck
        go_wp2_with fail
        go_ret2
        rw [e.out]
        exact ⟨rfl, M1.1.rd, r2.trans M1.2 (fun _ _ e => e) (fun _ _ e => e)⟩
      · have M1 := M (off + n) (fun _ => rfl)
        clear M
        go_wp2_with fail
        go_ret2
        rw [e.out]
        exact ⟨rfl, M1.1.rd, r2.trans M1.2 (fun _ _ e => e) (fun _ _ e => e)⟩
  · have e : Hid (t = ([], x, 0)) := by show _ = _; rw [Hct.out, if_pos hx]
    have hx' : ((x : Int) == 0) = false := by simp; omega
    clear hle
    go_enter Tryz.func75, Tryz.ntmps75
    go_wp2_with fail
    refine U.mono ?_
    rintro e w2 ⟨rfl, r1, r3, r2⟩
    obtain ⟨v', g1, _⟩ := r1
    have gc := cell_of_one g1
    have gf := free_of_one g1
    have B := HB.out w2 v' r2 g1
    clear g1
    go_wp2_with fail
    go_ret2
    rw [e.out]
    exact ⟨rfl, B⟩

/-- The value of the first j bytes, the lowest first. -/
def va (l : List Nat) : Nat → Nat
  | 0 => 0
  | j + 1 => va l j + l.getD j 0 * 2 ^ (8 * j)

theorem va_lt (l : List Nat) (hl : ∀ c ∈ l, c < 256) (j : Nat) : va l j < 2 ^ (8 * j) := by
  induction j with
  | zero => simp [va]
  | succ j ih =>
    have hc : l.getD j 0 < 256 := by
      rw [List.getD_eq_getElem?_getD]
      cases e : l[j]? with
      | none => simp
      | some c => simpa using hl c (List.mem_of_getElem? e)
    rw [va, show 8 * (j + 1) = 8 + 8 * j by omega, Nat.pow_add]
    have h2 := Nat.mul_le_mul_right (2 ^ (8 * j)) (show l.getD j 0 ≤ 255 by omega)
    omega

theorem va_or (l : List Nat) (hl : ∀ c ∈ l, c < 256) (j c : Nat) (hj : j < 8) (hc : l[j]? = some c) : bits .or .u64 (va l j : Int) (IntKind.u64.wrap ((c : Int) * 2 ^ (8 * j))) = (va l (j + 1) : Int) := by
  have h1 := va_lt l hl j
  have h2 := va_lt l hl (j + 1)
  have e : va l (j + 1) = va l j + c * 2 ^ (8 * j) := by rw [va, List.getD_eq_getElem?_getD, hc]; rfl
  have h3 : va l (j + 1) < 2 ^ 64 := Nat.lt_of_lt_of_le h2 (Nat.pow_le_pow_right (by omega) (by omega))
  rw [e] at h3
  have hw : IntKind.u64.wrap ((c : Int) * 2 ^ (8 * j)) = ((c * 2 ^ (8 * j) : Nat) : Int) := by
    have e1 : (c : Int) * 2 ^ (8 * j) = ((c * 2 ^ (8 * j) : Nat) : Int) := by simp
    rw [e1]
    generalize c * 2 ^ (8 * j) = m at *
    simp [IntKind.wrap, IntKind.signed, IntKind.bits]
    omega
  rw [hw, or64 _ _ _ h1 h3, e]

set_option maxRecDepth 100000 in
theorem firstPart_any (w : World) (b off n cap : Nat) (l : List Nat) (hl : ∀ c ∈ l, c < 256) (h8 : 8 ≤ l.length) (hn : n = l.length) (hcap : n ≤ cap) (hm : cap ≤ 9223372036854775807) (h : ∀ (i c : Nat), l[i]? = some c → w.cell? ⟨b, off + i, none⟩ = some (.int .u8 (c : Int))) :
    Calls Tryz.prog 156 #[.slice (some ⟨b, off, none⟩) n cap] w fun e w' => e = .returned (.float .f64 (va l 8)) ∧ w' = w := by
  have hf := run_from (va l 8)
  have H : Hid (∀ (i c : Nat), l[i]? = some c → w.cell? ⟨b, off + i, none⟩ = some (.int .u8 (c : Int))) := h
  have hn8 : 8 ≤ n := by omega
  have HN : Hid (n = l.length) := hn
  clear h hn
  go_enter Tryz.func156, Tryz.ntmps156
  go_wp2_with fail
  go_loop [3, 5] (fun m i => ∃ (j : Nat), m = .int .u64 (va l j : Int) ∧ i = .int .i64 (j : Int) ∧ j ≤ 8) (fun _ i => 8 - (intOf i).toNat)
  case atStart => exact ⟨0, rfl, rfl, by omega⟩
  case round =>
    obtain ⟨j, rfl, rfl, hj⟩ := hrel
    by_cases hlt : j < 8
    · obtain ⟨c, hc⟩ : ∃ c, l[j]? = some c := ⟨_, List.getElem?_eq_getElem (by omega)⟩
      have hcell := H.out j c hc
      have hc256 : c < 256 := hl c (List.mem_of_getElem? hc)
      have ho := va_or l hl j c hlt hc
      have hv := Nat.lt_of_lt_of_le (va_lt l hl j) (Nat.pow_le_pow_right (show 0 < 2 by omega) (show 8 * j ≤ 64 by omega))
      clear hc
      obtain ⟨m', hm'⟩ : ∃ m', va l (j + 1) = m' := ⟨_, rfl⟩
      rw [hm'] at ho
      have HM : Hid (va l (j + 1) = m') := hm'
      clear hm'
      generalize va l j = m0 at *
      go_wp2_with fail
      go_round
      case rel => exact ⟨j + 1, by rw [HM.out], by go_num, by omega⟩
      case measure => simp [intOf]; omega
    · have : j = 8 := by omega
      subst this
      go_wp2_with fail
      go_ret
      exact ⟨rfl, rfl⟩
end Go.Proofs.YthncdbobjeeeaaaGreatDoor

