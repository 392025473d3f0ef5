/- New, State, Len, settable, after, Over, Stuck. -/
import Derived.Test.YtancclmnliiijaaSa
import Derived.Deep.CutBlock
namespace Go.Proofs.Ytancclmnliiijaa
open Go.ChangeShapes Go.WideShapes Go.ChangeAt Go.RowKit

def z12 : List (Int × Int) := List.replicate 12 (0, 0)

theorem new_any (w : World) : Calls Try.prog 8 #[] w fun e w' => ∃ p, e = .returned (.pointer (some ⟨p, 0, none⟩)) ∧ w.heap.size ≤ p ∧ PS w' p 0 z12 ∧ Fr no w w' := by
  go_enter Try.func8, Try.ntmps8
  go_wp2_with fail
  go_ret
  exact ⟨_, rfl, Nat.le_refl _, ⟨rfl, by omega, heap_alloc_new w _⟩, (Fr.refl no w).alloc _ _⟩

/-- A thread's state, 0 of none. -/
def stA (n : Nat) (T : List (Int × Int)) (id : Int) : Int := if id < 1 ∨ (n : Int) < id then 0 else ((T[(id - 1).toNat]?).getD (0, 0)).1

theorem stA_no {n : Nat} {T : List (Int × Int)} {id : Int} (h : id < 1 ∨ (n : Int) < id) : stA n T id = 0 := if_pos h
theorem stA_yes {n : Nat} {T : List (Int × Int)} {i : Nat} {x : Int × Int} (hi : i < n) (hx : T[i]? = some x) : stA n T ((i : Int) + 1) = x.1 := by
  unfold stA
  rw [if_neg (by omega), show ((i : Int) + 1 - 1).toNat = i by omega, hx]
  rfl

section
variable {w : World} {p n : Nat} {T : List (Int × Int)}

theorem PS.nth (h : PS w p n T) {i : Nat} (hi : i < 12) : ∃ x, T[i]? = some x := ⟨_, List.getElem?_eq_getElem (by rw [h.len]; exact hi)⟩

theorem len_any (h : PS w p n T) : Calls Try.prog 20 #[.pointer (some ⟨p, 0, none⟩)] w fun e w' => e = .returned (.int .i64 (n : Int)) ∧ w' = w := by
  have hb := h.begun
  go_enter Try.func20, Try.ntmps20
  go_wp2_with fail
  go_ret
  exact ⟨rfl, rfl⟩

set_option maxRecDepth 100000 in
theorem state_any (h : PS w p n T) (id : Int) (hid : -9223372036854775808 ≤ id ∧ id ≤ 9223372036854775807) : Calls Try.prog 27 #[.pointer (some ⟨p, 0, none⟩), .int .i64 id] w fun e w' => e = .returned (.int .i64 (stA n T id)) ∧ w' = w := by
  have hb := h.begun
  have hle := h.le
  by_cases h1 : id < 1
  · have HE : Hid (stA n T id = 0) := stA_no (.inl h1)
    go_enter Try.func27, Try.ntmps27
    go_wp2_with fail
    go_ret
    exact ⟨by rw [HE.out]; rfl, rfl⟩
  · by_cases h2 : (n : Int) < id
    · have HE : Hid (stA n T id = 0) := stA_no (.inr h2)
      go_enter Try.func27, Try.ntmps27
      go_wp2_with fail
      go_ret
      exact ⟨by rw [HE.out]; rfl, rfl⟩
    · obtain ⟨i, rfl⟩ : ∃ i : Nat, id = (i : Int) + 1 := ⟨(id - 1).toNat, by omega⟩
      obtain ⟨x, hx⟩ := h.nth (i := i) (by omega)
      have HE : Hid (stA n T ((i : Int) + 1) = x.1) := stA_yes (by omega) hx
      obtain ⟨c0, -⟩ := h.at hx
      clear h hx
      go_enter Try.func27, Try.ntmps27
      go_wp2_with fail
      go_ret
      exact ⟨by rw [HE.out]; rfl, rfl⟩
end

/-- States that may be set. -/
def sbl (s : Int) : Bool := decide (s = 1 ∨ s = 2 ∨ s = 3)

theorem settable_any (w : World) (s : Int) : Calls Try.prog 29 #[.int .i64 s] w fun e w' => e = .returned (.bool (sbl s)) ∧ w' = w := by
  by_cases h1 : s = 1
  · subst h1
    go_enter Try.func29, Try.ntmps29
    go_wp2_with fail
    go_ret
    exact ⟨rfl, rfl⟩
  by_cases h2 : s = 2
  · subst h2
    go_enter Try.func29, Try.ntmps29
    go_wp2_with fail
    go_ret
    exact ⟨rfl, rfl⟩
  by_cases h3 : s = 3
  · subst h3
    go_enter Try.func29, Try.ntmps29
    go_wp2_with fail
    go_ret
    exact ⟨rfl, rfl⟩
  · have g1 : (s == 1) = false := by simpa using h1
    have g2 : (s == 2) = false := by simpa using h2
    have g3 : (s == 3) = false := by simpa using h3
    have HE : Hid (sbl s = false) := decide_eq_false (fun h => by rcases h with h | h | h <;> contradiction)
    clear h1 h2 h3
    go_enter Try.func29, Try.ntmps29
    go_wp2_with fail
    go_ret
    exact ⟨by rw [HE.out]; rfl, rfl⟩

/-- The first behind i that is in state s, or 0. -/
def Aft (n : Nat) (T : List (Int × Int)) (s : Int) (i r : Nat) : Prop :=
  (r = 0 ∧ ∀ k x, i ≤ k → k < n → T[k]? = some x → x.1 ≠ s) ∨ (∃ j x, r = j + 1 ∧ i ≤ j ∧ j < n ∧ T[j]? = some x ∧ x.1 = s ∧ ∀ k y, i ≤ k → k < j → T[k]? = some y → y.1 ≠ s)

theorem Aft.back {n : Nat} {T : List (Int × Int)} {s : Int} {i r : Nat} {x : Int × Int} (h : Aft n T s (i + 1) r) (hx : T[i]? = some x) (hs : x.1 ≠ s) : Aft n T s i r := by
  rcases h with ⟨h1, h2⟩ | ⟨j, y, h1, h2, h3, h4, h5, h6⟩
  · refine .inl ⟨h1, fun k y a b c => ?_⟩
    by_cases e : k = i
    · subst e
      rw [hx] at c
      obtain rfl := Option.some.inj c
      exact hs
    · exact h2 k y (by omega) b c
  · refine .inr ⟨j, y, h1, by omega, h3, h4, h5, fun k y a b c => ?_⟩
    by_cases e : k = i
    · subst e
      rw [hx] at c
      obtain rfl := Option.some.inj c
      exact hs
    · exact h6 k y (by omega) b c

section
variable {w : World} {p n : Nat} {T : List (Int × Int)}

/-- At the label of 'after'. -/
def AfAt (w : World) (p n i : Nat) (T : List (Int × Int)) (s : Int) (x : Act) (wr : World) : Prop :=
  ∃ (k : Nat) (z : Int) (u3 u4 u5 u7 u8 u9 u10 u11 u12 u13 u14 u15 u16 u17 u18 u19 u20 u21 u22 u23 u24 u25 : Value), x = { tmps := #[.pointer (some ⟨p, 0, none⟩), .int .i64 z, .int .i64 s, u3, u4, u5, .int .i64 0, u7, u8, u9, u10, u11, u12, u13, u14, u15, u16, u17, u18, u19, u20, u21, u22, u23, u24, u25], defers := [] } ∧ z = (k : Int) ∧ k ≤ n ∧ (∀ r, Aft n T s k r → Aft n T s i r) ∧ wr = w

set_option maxRecDepth 100000 in
set_option maxHeartbeats 1000000 in
theorem after_any (h : PS w p n T) (i : Nat) (hi : i ≤ n) (s : Int) : Calls Try.prog 30 #[.pointer (some ⟨p, 0, none⟩), .int .i64 (i : Int), .int .i64 s] w fun e w' => ∃ r : Nat, e = .returned (.int .i64 (r : Int)) ∧ Aft n T s i r ∧ w' = w := by
  have hb := h.begun
  have hle := h.le
  go_enter Try.func30, Try.ntmps30
  go_wp2_with fail
  refine wp_label_one 0 (AfAt w p n i T s) (fun x _ => 100 - (intOf (x.tmps.getD 1 undef)).toNat) rfl ?_ ?_
  · intro K h0 hr hn
    go_wp2_with fail
    go_step3
    rename_i hk
    exact hk _ _ (h0 _ _ ⟨i, _, _, _, _, _, _, _, _, _, _, _, _, _, _, _, _, _, _, _, _, _, _, _, rfl, rfl, hi, fun r h => h, rfl⟩)
  · rintro x wr ⟨k, z, u3, u4, u5, u7, u8, u9, u10, u11, u12, u13, u14, u15, u16, u17, u18, u19, u20, u21, u22, u23, u24, u25, rfl, rfl, hk, hA, hwr⟩ K hj hr hn
    subst hwr
    have HA : Hid (∀ r, Aft n T s k r → Aft n T s i r) := hA
    clear hA
    by_cases hkn : k = n
    · subst hkn
      go_wp2_with fail
      refine hr _ _ ?_
      go_ret
      exact ⟨0, rfl, HA.out 0 (.inl ⟨rfl, fun j x a b => by omega⟩), rfl⟩
    · have hkb : ((k : Int) == (n : Int)) = false := by simp; omega
      obtain ⟨⟨x1, x2⟩, hx⟩ := h.nth (i := k) (by omega)
      obtain ⟨c0, -⟩ := h.at hx
      simp only [] at c0
      by_cases hs : x1 = s
      · have hs' : (x1 != s) = false := by simp [hs]
        have HZ : Hid (Aft n T s i (k + 1)) := HA.out _ (.inr ⟨k, _, rfl, Nat.le_refl _, by omega, hx, hs, fun j y a b => by omega⟩)
        clear hs hx HA h
        go_wp2_with fail
        refine hr _ _ ?_
        go_ret
        exact ⟨k + 1, rfl, HZ.out, rfl⟩
      · have hs' : (x1 != s) = true := by simp [hs]
        have HZ : Hid (∀ r, Aft n T s (k + 1) r → Aft n T s i r) := fun r h => HA.out r (h.back hx hs)
        clear hs hx HA h
        go_wp2_with fail
        go_step3
        refine hj _ _ ⟨k + 1, _, _, _, _, _, _, _, _, _, _, _, _, _, _, _, _, _, _, _, _, _, _, _, rfl, by omega, by omega, HZ.out, rfl⟩ ?_
        simp [intOf]
        omega

/-- All have ended. -/
def ovr (n : Nat) (T : List (Int × Int)) : Bool := (T.take n).all (fun x => x.1 == 5)

theorem ovr_iff (n : Nat) (T : List (Int × Int)) : ovr n T = true ↔ ∀ k x, k < n → T[k]? = some x → x.1 = 5 := by
  unfold ovr
  rw [List.all_eq_true]
  constructor
  · intro h k x hk hx
    have := h x (List.mem_iff_getElem?.2 ⟨k, by rw [List.getElem?_take, if_pos hk]; exact hx⟩)
    simpa using this
  · intro h x hx
    obtain ⟨k, hk⟩ := List.mem_iff_getElem?.1 hx
    rw [List.getElem?_take] at hk
    split at hk
    · rename_i hkn
      simpa using h k x hkn hk
    · simp at hk

def OvAt (w : World) (p n : Nat) (T : List (Int × Int)) (x : Act) (wr : World) : Prop :=
  ∃ (k : Nat) (z : Int) (u1 u4 u5 u6 u7 u8 u9 u10 u11 u12 u13 u14 u15 u16 u17 u18 u19 u20 : Value), x = { tmps := #[.pointer (some ⟨p, 0, none⟩), u1, .bool false, .int .i64 z, u4, u5, u6, u7, u8, u9, u10, u11, u12, u13, u14, u15, u16, u17, u18, u19, u20], defers := [] } ∧ z = (k : Int) ∧ k ≤ n ∧ (∀ j x, j < k → T[j]? = some x → x.1 = 5) ∧ wr = w

set_option maxRecDepth 100000 in
set_option maxHeartbeats 1000000 in
theorem over_any (h : PS w p n T) : Calls Try.prog 24 #[.pointer (some ⟨p, 0, none⟩)] w fun e w' => e = .returned (.bool (ovr n T)) ∧ w' = w := by
  have hb := h.begun
  have hle := h.le
  go_enter Try.func24, Try.ntmps24
  go_wp2_with fail
  refine wp_label_one 0 (OvAt w p n T) (fun x _ => 100 - (intOf (x.tmps.getD 3 undef)).toNat) rfl ?_ ?_
  · intro K h0 hr hn
    go_wp2_with fail
    go_step3
    rename_i hk
    exact hk _ _ (h0 _ _ ⟨0, _, _, _, _, _, _, _, _, _, _, _, _, _, _, _, _, _, _, _, rfl, rfl, Nat.zero_le _, fun j x a => by omega, rfl⟩)
  · rintro x wr ⟨k, z, u1, u4, u5, u6, u7, u8, u9, u10, u11, u12, u13, u14, u15, u16, u17, u18, u19, u20, rfl, rfl, hk, hA, hwr⟩ K hj hr hn
    subst hwr
    have HA : Hid (∀ j x, j < k → T[j]? = some x → x.1 = 5) := hA
    clear hA
    by_cases hkn : k = n
    · subst hkn
      have HZ : Hid (ovr k T = true) := (ovr_iff k T).2 HA.out
      go_wp2_with fail
      refine hr _ _ ?_
      go_ret
      exact ⟨by rw [HZ.out]; rfl, rfl⟩
    · have hkb : ((k : Int) == (n : Int)) = false := by simp; omega
      obtain ⟨⟨x1, x2⟩, hx⟩ := h.nth (i := k) (by omega)
      obtain ⟨c0, -⟩ := h.at hx
      simp only [] at c0
      by_cases hs : x1 = 5
      · have hs' : (x1 != 5) = false := by simp [hs]
        have HZ : Hid (∀ j x, j < k + 1 → T[j]? = some x → x.1 = 5) := fun j y a b => by
          by_cases e : j = k
          · subst e
            rw [hx] at b
            obtain rfl := Option.some.inj b
            exact hs
          · exact HA.out j y (by omega) b
        clear hs hx HA h
        go_wp2_with fail
        go_step3
        refine hj _ _ ⟨k + 1, _, _, _, _, _, _, _, _, _, _, _, _, _, _, _, _, _, _, _, rfl, by omega, by omega, HZ.out, rfl⟩ ?_
        simp [intOf]
        omega
      · have hs' : (x1 != 5) = true := by simp [hs]
        have HZ : Hid (ovr n T = false) := Bool.eq_false_iff.2 (fun e => hs ((ovr_iff n T).1 e k _ (by omega) hx))
        clear hs hx HA h
        go_wp2_with fail
        refine hr _ _ ?_
        go_ret
        exact ⟨by rw [HZ.out]; rfl, rfl⟩

def rdy : Int × Int → Bool := fun x => x.1 == 1

/-- Not over, and none is ready. -/
def stk (n : Nat) (T : List (Int × Int)) : Bool := !ovr n T && (sel rdy T n).isEmpty

theorem aft_rdy {r : Nat} (h : Aft n T 1 0 r) : ((r : Int) == 0) = (sel rdy T n).isEmpty := by
  rcases h with ⟨rfl, h⟩ | ⟨j, x, rfl, -, hj, hx, hs, h⟩
  · have : sel rdy T n = sel rdy T 0 := sel_skip (Nat.zero_le _) (fun k x a b c => by simpa [rdy] using h k x a b c)
    rw [this]
    rfl
  · have h1 : (((j + 1 : Nat) : Int) == 0) = false := by simp; omega
    rw [h1]
    have h2 : sel rdy T (j + 1) = sel rdy T j ++ [(j : Int) + 1] := sel_yes hx (by simp [rdy, hs])
    have h3 : ((j : Int) + 1) ∈ sel rdy T n := by
      have : ∀ m, j + 1 ≤ m → ((j : Int) + 1) ∈ sel rdy T m := by
        intro m hm
        induction m with
        | zero => omega
        | succ m ih =>
          by_cases e : j = m
          · subst e
            rw [h2]
            simp
          · simp only [sel, List.mem_append]
            exact .inl (ih (by omega))
      exact this n hj
    cases hh : sel rdy T n with
    | nil => rw [hh] at h3; simp at h3
    | cons a b => rfl

set_option maxRecDepth 100000 in
theorem stuck_any (h : PS w p n T) : Calls Try.prog 26 #[.pointer (some ⟨p, 0, none⟩)] w fun e w' => e = .returned (.bool (stk n T)) ∧ w' = w := by
  have OV := over_any h
  have AF := after_any h 0 (Nat.zero_le _) 1
  cases ho : ovr n T with
  | true =>
    have HZ : Hid (stk n T = false) := by simp [Hid, stk, ho]
    rw [ho] at OV
    clear AF
    go_enter Try.func26, Try.ntmps26
    go_wp2_with fail
    refine OV.mono ?_
    rintro _ w1 ⟨rfl, rfl⟩
    go_wp2_with fail
    go_ret
    exact ⟨by rw [HZ.out]; rfl, rfl⟩
  | false =>
    rw [ho] at OV
    have HZ : Hid (∀ r : Nat, Aft n T 1 0 r → ((r : Int) == 0) = stk n T) := fun r hr => by rw [aft_rdy hr, stk, ho]; rfl
    go_enter Try.func26, Try.ntmps26
    go_wp2_with fail
    refine OV.mono ?_
    rintro _ w1 ⟨rfl, rfl⟩
    clear OV
    go_wp2_with fail
    refine AF.mono ?_
    rintro _ w2 ⟨r, rfl, hr, rfl⟩
    have HR := HZ.out r hr
    clear hr AF
    generalize hb : stk n T = b at HR
    have HB : Hid (stk n T = b) := hb
    clear hb HZ
    go_wp2_with fail
    go_ret
    exact ⟨by rw [HB.out]; rfl, rfl⟩
end
end Go.Proofs.Ytancclmnliiijaa
