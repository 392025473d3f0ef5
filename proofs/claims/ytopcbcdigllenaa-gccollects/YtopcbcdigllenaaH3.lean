/- What is known of an arena of thirty words. -/
import Derived.Test.YtopcbcdigllenaaH2
namespace Go.Proofs.Ytopcbcdigllenaa
open Go.ChangeShapes Go.WideShapes Go.ChangeAt Go.RowKit

def kc0 : List Blk := newB 30
def kc1 : List Blk := allocB 1 1 kc0
def kc2 : List Blk := allocB 1 1 kc1
def kc3 : List Blk := allocB 1 1 kc2
def kc4 : List Blk := freeB kc3 4

theorem kc_objs : objsA 0 kc3 = [1, 4, 7] ∧ objsA 0 kc4 = [1, 7] ∧ fitsP kc4 19 = true ∧ fitsP kc4 22 = false := by decide +kernel

theorem kReach (a : Int) : Reach kE [1, 4, 7] [1] a ↔ a = 1 ∨ a = 7 := by
  constructor
  · intro h
    induction h with
    | root h1 _ => simp at h1; exact .inl h1
    | step _ h2 h3 ih =>
      rcases ih with rfl | rfl
      · simp [kE] at h2
        rcases h2 with rfl | rfl
        · exact .inr rfl
        · simp at h3
      · simp [kE] at h2
  · rintro (rfl | rfl)
    · exact .root (by simp) (by simp)
    · exact .step (.root (a := 1) (by simp) (by simp)) (by simp [kE]) (by simp)

theorem kSeen (M : List Nat) (h : ∀ a ∈ [(1 : Int), 4, 7], M[a.toNat]? = some 2 ↔ Reach kE [1, 4, 7] [1] a) : seenL M [1, 4, 7] = [1, 7] ∧ relP M kc3 [1, 4, 7] = kc4 := by
  have h1 : seenB M 1 = true := by unfold seenB; rw [(h 1 (by simp)).2 ((kReach 1).2 (.inl rfl))]; rfl
  have h7 : seenB M 7 = true := by unfold seenB; rw [(h 7 (by simp)).2 ((kReach 7).2 (.inr rfl))]; rfl
  have h4 : seenB M 4 = false := by
    unfold seenB
    by_cases e : M[(4 : Int).toNat]? = some 2
    · have := (kReach 4).1 ((h 4 (by simp)).1 e)
      omega
    · simp only [beq_eq_false_iff_ne, ne_eq]
      exact e
  refine ⟨?_, ?_⟩
  · rw [seenL_eq]
    simp [h1, h4, h7]
  · unfold relP
    simp [h1, h4, h7]
    rfl

set_option maxRecDepth 100000 in
set_option maxHeartbeats 1000000 in
theorem known12_any (w : World) : Calls Try.prog 21 #[] w fun e w' => e = .returned (.bool true) ∧ Fr no w w' := by
  have NW : Calls Try.prog 9 #[.int .i64 30] w fun e w' => e = .returned (.pointer (some ⟨w.heap.size + 1, 0, none⟩)) ∧ HP w' (w.heap.size + 1) w.heap.size kc0 ∧ Fr no w w' := new_any w 30
  have A1 : Hid (∀ w1, HP w1 (w.heap.size + 1) w.heap.size kc0 → Fr no w w1 → Calls Try.prog 11 #[.pointer (some ⟨w.heap.size + 1, 0, none⟩), .int .i64 1, .int .i64 1] w1 fun e w' => e = .returned (.tuple #[.int .i64 1, .int .i64 0]) ∧ HP w' (w.heap.size + 1) w.heap.size kc1 ∧ Fr no w w') := fun w1 h1 f1 =>
    (alloc_nat w1 _ _ _ h1 1 1 (by decide)).mono fun e w' ⟨a, b, c⟩ => ⟨a, b, f1.new c (fun i hi e => by omega)⟩
  have A2 : Hid (∀ w1, HP w1 (w.heap.size + 1) w.heap.size kc1 → Fr no w w1 → Calls Try.prog 11 #[.pointer (some ⟨w.heap.size + 1, 0, none⟩), .int .i64 1, .int .i64 1] w1 fun e w' => e = .returned (.tuple #[.int .i64 4, .int .i64 0]) ∧ HP w' (w.heap.size + 1) w.heap.size kc2 ∧ Fr no w w') := fun w1 h1 f1 =>
    (alloc_nat w1 _ _ _ h1 1 1 (by decide)).mono fun e w' ⟨a, b, c⟩ => ⟨a, b, f1.new c (fun i hi e => by omega)⟩
  have A3 : Hid (∀ w1, HP w1 (w.heap.size + 1) w.heap.size kc2 → Fr no w w1 → Calls Try.prog 11 #[.pointer (some ⟨w.heap.size + 1, 0, none⟩), .int .i64 1, .int .i64 1] w1 fun e w' => e = .returned (.tuple #[.int .i64 7, .int .i64 0]) ∧ HP w' (w.heap.size + 1) w.heap.size kc3 ∧ Fr no w w') := fun w1 h1 f1 =>
    (alloc_nat w1 _ _ _ h1 1 1 (by decide)).mono fun e w' ⟨a, b, c⟩ => ⟨a, b, f1.new c (fun i hi e => by omega)⟩
  have CO : Hid (∀ w1, HP w1 (w.heap.size + 1) w.heap.size kc3 → Fr no w w1 → Calls Try.prog 28 #[.pointer (some ⟨w.heap.size + 1, 0, none⟩), .slice (some ⟨w1.heap.size, 0, none⟩) 1 1, .func (.func 48) #[] #[]] (w1.alloc (.cells #[.int .i64 1] 3)) fun e w' => e = .returned (.int .i64 1) ∧ HP w' (w.heap.size + 1) w.heap.size kc4 ∧ Fr no w w') := fun w1 h1 f1 => by
    obtain ⟨o1, n1, f2⟩ := lit_own w1 [1] #[.int .i64 1] rfl 1 rfl (by simp)
    have h := collect_any (w1.alloc (.cells #[.int .i64 1] 3)) _ _ kc3 (h1.keep f2) _ [1] o1 (by simp) 48 #[] kE J0 1000000 kRefs [] (fun _ => False) (fun _ f => f) (by rw [kc_objs.1]; simp) (fun f => f) (fun f => f)
    rw [kc_objs.1] at h
    refine h.mono ?_
    rintro e w' ⟨js, B, M, rfl, h', -, f', -, hr, -⟩
    obtain ⟨s1, s2⟩ := kSeen M hr
    rw [s2] at h'
    exact ⟨by rw [s1]; rfl, h', (f1.and f2).new f' (fun i hi e => by rcases e with e | e; omega; exact e)⟩
  have AA : Hid (∀ w1, HP w1 (w.heap.size + 1) w.heap.size kc4 → Fr no w w1 → Calls Try.prog 27 #[.pointer (some ⟨w.heap.size + 1, 0, none⟩)] w1 fun e w' => ∃ v, e = .returned v ∧ OwnG elI w' v [1, 7] ∧ HP w' (w.heap.size + 1) w.heap.size kc4 ∧ Fr no w w') := fun w1 h1 f1 => by
    have h := all_any w1 _ _ kc4 h1
    rw [kc_objs.2.1] at h
    exact h.mono fun e w' ⟨v, a, b, c, d⟩ => ⟨v, a, b, h1.keep d, f1.and d⟩
  have IN : Hid (∀ w1 v, OwnG elI w1 v [1, 7] → HP w1 (w.heap.size + 1) w.heap.size kc4 → Fr no w w1 → Calls Try.prog 25 #[v, .slice (some ⟨w1.heap.size, 0, none⟩) 2 2] (w1.alloc (.cells #[.int .i64 1, .int .i64 7] 3)) fun e w' => e = .returned (.bool true) ∧ HP w' (w.heap.size + 1) w.heap.size kc4 ∧ Fr no w w') := fun w1 v o1 h1 f1 => by
    obtain ⟨o2, n2, f2⟩ := lit_own w1 [1, 7] #[.int .i64 1, .int .i64 7] rfl 2 rfl (by simp)
    refine (ints_any _ v _ [1, 7] [1, 7] ((o1.keep f2).rd elI_ok) (o2.rd elI_ok)).mono ?_
    rintro e w' ⟨rfl, m, rfl⟩
    exact ⟨rfl, (h1.keep f2).drewN m, (f1.and f2).drewN m⟩
  have FT : Hid (∀ w1, HP w1 (w.heap.size + 1) w.heap.size kc4 → Fr no w w1 → Calls Try.prog 30 #[.pointer (some ⟨w.heap.size + 1, 0, none⟩), .int .i64 19] w1 fun e w' => e = .returned (.bool true) ∧ HP w' (w.heap.size + 1) w.heap.size kc4 ∧ Fr no w w') := fun w1 h1 f1 => by
    have h := fits_any w1 _ _ kc4 h1 19
    rw [kc_objs.2.2.1] at h
    exact h.mono fun e w' ⟨a, d⟩ => ⟨a, h1.keep d, f1.and d⟩
  have FU : Hid (∀ w1, HP w1 (w.heap.size + 1) w.heap.size kc4 → Fr no w w1 → Calls Try.prog 30 #[.pointer (some ⟨w.heap.size + 1, 0, none⟩), .int .i64 22] w1 fun e w' => e = .returned (.bool false) ∧ HP w' (w.heap.size + 1) w.heap.size kc4 ∧ Fr no w w') := fun w1 h1 f1 => by
    have h := fits_any w1 _ _ kc4 h1 22
    rw [kc_objs.2.2.2] at h
    exact h.mono fun e w' ⟨a, d⟩ => ⟨a, h1.keep d, f1.and d⟩
  generalize w.heap.size + 1 = p at *
  generalize w.heap.size = g at *
  go_enter Try.func21, Try.ntmps21
  go_wp2_with fail
  refine NW.mono ?_
  rintro e w1 ⟨rfl, h1, f1⟩
  have C1 := A1.out w1 h1 f1
  clear h1 f1
  go_wp2_with fail
  refine C1.mono ?_
  rintro e w2 ⟨rfl, h2, f2⟩
  have C2 := A2.out w2 h2 f2
  clear h2 f2
  go_wp2_with fail
  refine C2.mono ?_
  rintro e w3 ⟨rfl, h3, f3⟩
  have C3 := A3.out w3 h3 f3
  clear h3 f3
  go_wp2_with fail
  refine C3.mono ?_
  rintro e w4 ⟨rfl, h4, f4⟩
  have C4 := CO.out w4 h4 f4
  clear h4 f4
  go_wp2_with fail
  refine C4.mono ?_
  rintro e w5 ⟨rfl, h5, f5⟩
  have C5 := AA.out w5 h5 f5
  clear h5 f5
  go_wp2_with fail
  refine C5.mono ?_
  rintro e w6 ⟨v6, rfl, o6, h6, f6⟩
  have C6 := IN.out w6 v6 o6 h6 f6
  clear h6 f6 o6
  go_wp2_with fail
  refine C6.mono ?_
  rintro e w7 ⟨rfl, h7, f7⟩
  have C7 := FT.out w7 h7 f7
  clear h7 f7
  go_wp2_with fail
  refine C7.mono ?_
  rintro e w8 ⟨rfl, h8, f8⟩
  have C8 := FU.out w8 h8 f8
  clear h8 f8
  go_wp2_with fail
  refine C8.mono ?_
  rintro e w9 ⟨rfl, h9, f9⟩
  have F9 : Hid (Fr no w w9) := f9
  clear h9 f9
  go_wp2_with fail
  go_ret
  exact ⟨rfl, F9.out⟩
end Go.Proofs.Ytopcbcdigllenaa
