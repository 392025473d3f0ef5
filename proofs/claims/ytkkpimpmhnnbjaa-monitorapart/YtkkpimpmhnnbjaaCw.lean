/- MonitorCounts, walked. -/
import Derived.Test.YtkkpimpmhnnbjaaCp
import Derived.Test.YtkkpimpmhnnbjaaSc
namespace Go.Proofs.Ytkkpimpmhnnbjaa
open Go.ChangeShapes Go.WideShapes Go.ChangeAt Go.RowKit

/-- A box of another kind is none of the table's blocks. -/
theorem box_off {c b : Nat} {w : World} {cs : Array Value} {t : TypeId} (h : w.heap[b]? = some (.cells cs t (0, 0))) (h1 : t ≠ 61) (h2 : t ≠ 66) (h3 : t ≠ 68) : ¬ Tm c w b := by
  rintro ⟨_, ⟨es, cl, e⟩ | ⟨cur, ty, e, ht⟩⟩
  · rw [h] at e; simp at e
  · rw [h] at e
    simp only [Option.some.injEq, Obj.cells.injEq] at e
    have : ty = t := e.2.1.symm
    subst this
    rcases ht with e | e | e
    · exact h1 e
    · exact h2 e
    · exact h3 e

def gt3 (c : Int) : Bool := decide (3 < c)

set_option maxRecDepth 100000 in
set_option maxHeartbeats 8000000 in
theorem counts_any (w : World) (n0 a0 b0 : Nat) (hn : n0 < 256) (ha : a0 < 256) (hb : b0 < 256) :
    Calls Try.prog 5 #[.int .u8 (n0 : Int), .int .u8 (a0 : Int), .int .u8 (b0 : Int)] w fun e w' => e = .returned (.bool true) ∧ Fr no w w' := by
  have KN := known_any w
  have g1 := fld1
  have g2 := fld2
  go_enter Try.func5, Try.ntmps5
  go_wp2_with fail
  refine KN.mono ?_
  rintro _ w1 ⟨rfl, f1⟩
  have NW := jNew w w1 f1
  clear f1 KN
  go_wp2_with fail
  refine NW.mono ?_
  rintro _ w2 ⟨p, rfl, j2, -⟩
  have J2 : Hid _ := j2
  clear j2 NW
  go_upto_block 0 with fail
  obtain ⟨k, hk, hk8⟩ : ∃ k : Nat, (n0 : Int) % 10 + 1 = (k : Int) ∧ 1 ≤ k ∧ k ≤ 10 := ⟨n0 % 10 + 1, by omega, by omega⟩
  rw [hk]
  have ha1 : 1 ≤ (a0 : Int) + 1 ∧ (a0 : Int) + 1 ≤ 256 := by omega
  have hb1 : 1 ≤ (b0 : Int) + 1 ∧ (b0 : Int) + 1 ≤ 256 := by omega
  generalize (a0 : Int) + 1 = a at *
  generalize (b0 : Int) + 1 = b at *
  have hina : In a := ⟨by omega, by omega⟩
  have hinb : In b := ⟨by omega, by omega⟩
  clear hk hn ha hb
  have hbb : (b != b) = false := by simp
  go_cut [11] (fun _ wc => ∃ s, Jt w wc p (2 * k) s ∧ CI s a b k (gt3 k))
  case first =>
    go_wp2_with fail
    go_loopw [11] (fun iv wr => ∃ (j : Nat) (s : St), iv = .int .i64 ((j : Int) + 1) ∧ j ≤ k ∧ Jt w wr p (2 * j) s ∧ CI s a b j (gt3 j)) (fun iv _ => k + 1 - (intOf iv).toNat)
    case atStart => exact ⟨0, st0, rfl, Nat.zero_le _, J2.out, ci0 a b⟩
    case round =>
      clear J2
      obtain ⟨j, s, rfl, hj, js, hci⟩ := hrel
      by_cases hlt : j < k
      · have hle : (j : Int) + 1 ≤ (k : Int) := by omega
        have EN := js.enter (by omega) a b hina hinb
        obtain ⟨x1, x2, x3⟩ := hci.enter ha1.1 hb1.1 (by omega)
        rw [x1, x2] at EN
        have HX : Hid (CI (enS a b s) a b ((j : Int) + 1) (gt3 ((j : Int) + 1))) := by
          have e : (gt3 (j : Int) || decide (3 < (j : Int) + 1)) = gt3 ((j : Int) + 1) := by
            unfold gt3
            by_cases h3 : 3 < (j : Int)
            · simp [h3]; omega
            · simp [h3]
          rw [e] at x3
          exact x3
        clear x1 x2 x3 js hci
        go_wp2_with fail
        refine EN.mono ?_
        rintro _ w5 ⟨rfl, j5, -⟩
        have LK := j5.lock (by omega) a hina
        rw [HX.out.lk, if_neg (by omega)] at LK
        simp only [] at LK
        clear j5 EN
        have hjj : ((j : Int) + 1 != (j : Int) + 1) = false := by simp
        have hgg : (gt3 ((j : Int) + 1) == decide (3 < (j : Int) + 1)) = true := by simp [gt3]
        go_wp2_with fail
        refine LK.mono ?_
        rintro _ w6 ⟨o1, k1, c1, o2, k2, c2, rfl, -, -, -, -, j6, -⟩
        have HJ6 : Hid (Jt w (w6.alloc (.cells #[.int .i64 b, .int .i64 ((j : Int) + 1), .bool (gt3 ((j : Int) + 1)), .slice o1 k1 c1, .slice o2 k2 c2] 49)) p (2 * j + 2) (enS a b s)) := j6.keep ((Fr.refl no w6).alloc _ _)
        clear j6 LK
        go_wp2_with fail
        go_roundw
        case rel => exact ⟨j + 1, _, by go_num, by omega, HJ6.out, by rw [Int.natCast_add]; exact HX.out⟩
        case measure => simp [intOf]; omega
      · obtain rfl : j = k := by omega
        have HZ : Hid _ := And.intro js hci
        clear js hci
        go_wp2_with fail
        go_meet
        exact ⟨s, HZ.out⟩
  case rest =>
    obtain ⟨s0, js0, hci0⟩ := hcut
    have J0 : Hid _ := And.intro js0 hci0
    clear J2 js0 hci0
    go_upto_block 2 with fail
    go_wp2_with fail
    go_loopw [15] (fun iv wr => ∃ (j n : Nat) (s : St), iv = .int .i64 (j : Int) ∧ j ≤ k ∧ n ≤ 2 * k + 2 * (k - j) ∧ Jt w wr p n s ∧ CI s a b j (gt3 k)) (fun iv _ => (intOf iv).toNat)
    case atStart => exact ⟨k, 2 * k, s0, rfl, Nat.le_refl _, by omega, J0.out⟩
    case round =>
      clear J0
      obtain ⟨j, n, s, rfl, hj, hnj, js, hci⟩ := hrel
      by_cases hlt : 0 < j
      · have hlt' : (0 : Int) < (j : Int) := by omega
        have HL := js.held sortC (by omega) b (hci.held hb1.1 (by omega))
        simp only [List.length_cons, List.length_nil, Nat.zero_add] at HL
        obtain ⟨x1, x2, x3⟩ := hci.exit hb1.1 (by omega)
        have HX : Hid (CI (exS a b s) a b ((j : Int) - 1) (gt3 k)) := x3
        have EXC : Hid (∀ w', Jt w w' p n s → Calls Try.prog 12 #[.pointer (some ⟨p, 0, none⟩), .int .i64 a, .int .i64 b] w' fun e w2 => e = .returned (.tuple #[.int .i64 0, .int .i64 0]) ∧ Jt w w2 p (n + 2) (exS a b s) ∧ Fr (Tm w.heap.size w') w' w2) := fun w' h => by
          have := h.exit (by omega) a b hina
          rw [x1, x2] at this
          exact this
        clear x1 x2 x3 js hci
        go_wp2_with fail
        refine HL.mono ?_
        rintro _ w5 ⟨o5, c5, rfl, h5, j5, -⟩
        have HA5 : Hid (Jt w (w5.alloc (.cells (elI.f a).toArray elI.e)) p n s) := j5.keep ((Fr.refl no w5).alloc _ _)
        have IN := ints_any (w5.alloc (.cells (elI.f a).toArray elI.e)) (.slice o5 1 c5) (.slice (some ⟨w5.heap.size, 0, none⟩) 1 1) [a] [a] ((h5.keep ((Fr.refl no w5).alloc _ _)).rd elI_ok) ((own_lit elI_ok w5 [a] _ rfl (by unfold maxLen; simp)).rd elI_ok)
        rw [show sameI [a] [a] = true from decide_eq_true rfl] at IN
        clear h5 j5 HL
        go_wp2_with fail
        refine IN.mono ?_
        rintro _ w6 ⟨rfl, m6, rfl⟩
        have EX := EXC.out _ (HA5.out.keep ((Fr.refl no _).drewN m6))
        clear IN HA5 EXC
        generalize (w5.alloc (.cells (elI.f a).toArray elI.e)).drewN m6 = w6 at *
        go_wp2_with fail
        refine EX.mono ?_
        rintro _ w7 ⟨rfl, j7, -⟩
        have LK := j7.lock (by omega) a hina
        rw [HX.out.lk] at LK
        simp only [] at LK
        generalize (if (j : Int) - 1 = 0 then 0 else b) = oo at LK
        clear j7 EX
        have hjj : ((j : Int) - 1 != (j : Int) - 1) = false := by simp
        go_wp2_with fail
        refine LK.mono ?_
        rintro _ w8 ⟨o1, k1, c1, o2, k2, c2, rfl, -, -, -, -, j8, -⟩
        have HJ8 : Hid _ := j8
        clear j8 LK
        go_wp2_with fail
        go_roundw
        case rel => exact ⟨j - 1, n + 2, _, by congr 1; omega, by omega, by omega, HJ8.out, by rw [show ((j - 1 : Nat) : Int) = (j : Int) - 1 by omega]; exact HX.out⟩
        case measure => simp [intOf]; omega
      · obtain rfl : j = 0 := by omega
        obtain ⟨z1, z2, z3⟩ := hci.nobody.resolve_right (by omega)
        obtain ⟨z4, z5⟩ := hci.forget
        have LK := js.lock (by omega) a hina
        rw [hci.lk] at LK
        simp only [] at LK
        rw [if_pos (by rfl)] at LK
        have EXC : Hid (∀ w', Jt w w' p n s → Calls Try.prog 12 #[.pointer (some ⟨p, 0, none⟩), .int .i64 a, .int .i64 b] w' fun e w2 => e = .returned (.tuple #[.int .i64 (exR a b s), .int .i64 130]) ∧ Jt w w2 p (n + 2) s ∧ Fr (Tm w.heap.size w') w' w2) := fun w' h => by
          have := h.exit (by omega) a b hina
          rw [z2, z3] at this
          exact this
        have HLC : Hid (∀ w', Jt w w' p (n + 2) s → Calls Try.prog 24 #[.pointer (some ⟨p, 0, none⟩), .int .i64 b] w' fun e w2 => ∃ o c, e = .returned (.slice o 0 c) ∧ Jt w w2 p (n + 2) s) := fun w' h => by
          refine (h.held sortC (by omega) b z1).mono ?_
          rintro e w2 ⟨o, c, he, _, h2, _⟩
          exact ⟨o, c, he, h2⟩
        have FOC : Hid (∀ w', Jt w w' p (n + 2) s → Calls Try.prog 18 #[.pointer (some ⟨p, 0, none⟩), .int .i64 a] w' fun e w2 => e = .returned (.int .i64 0) ∧ Jt w w2 p (n + 2 + 2) (foS a s)) := fun w' h => by
          have := h.forget a hina
          rw [z4] at this
          exact this.mono fun _ _ ⟨q1, q2, _⟩ => ⟨q1, q2⟩
        have HFT : Hid (((foS a s).lk a).fat = false) := z5
        have hgg : (gt3 (k : Int) == decide (3 < (k : Int))) = true := by simp [gt3]
        generalize exR a b s = er at EXC
        clear z1 z2 z3 z4 z5 js hci
        go_wp2_with fail
        refine LK.mono ?_
        rintro _ w5 ⟨o1, k1, c1, o2, k2, c2, rfl, -, -, -, -, j5, -⟩
        have EX := EXC.out _ (j5.keep ((Fr.refl no w5).alloc #[.int .i64 0, .int .i64 ((0 : Nat) : Int), .bool (gt3 (k : Int)), .slice o1 k1 c1, .slice o2 k2 c2] 49))
        have HB : Hid ((w5.alloc (.cells #[.int .i64 0, .int .i64 ((0 : Nat) : Int), .bool (gt3 (k : Int)), .slice o1 k1 c1, .slice o2 k2 c2] 49)).heap[w5.heap.size]? = some (.cells #[.int .i64 0, .int .i64 ((0 : Nat) : Int), .bool (gt3 (k : Int)), .slice o1 k1 c1, .slice o2 k2 c2] 49 (0, 0))) := heap_alloc_new w5 _
        clear j5 LK EXC
        go_wp2_with fail
        refine EX.mono ?_
        rintro _ w6 ⟨rfl, j6, f6⟩
        have hb6 := f6.heap HB.out (box_off HB.out (by decide) (by decide) (by decide))
        obtain ⟨⟨b0', -, b2', -, -⟩, -⟩ := cells5z hb6
        have H6 := HLC.out _ j6
        clear j6 f6 EX HB hb6 HLC
        generalize w5.heap.size = bx at *
        go_wp2_with fail
        refine H6.mono ?_
        rintro _ w7 ⟨o7, c7, rfl, j7⟩
        have F7 := FOC.out _ j7
        clear j7 H6 FOC
        go_wp2_with fail
        refine F7.mono ?_
        rintro _ w8 ⟨rfl, j8⟩
        have L8 := j8.lock (by omega) a hina
        rw [HFT.out] at L8
        clear j8 F7
        go_wp2_with fail
        refine L8.mono ?_
        rintro _ w9 ⟨o3, k3, c3, o4, k4, c4, rfl, -, -, -, -, j9, -⟩
        have HF : Hid _ := j9.fr
        clear j9 L8
        go_wp2_with fail
        go_ret
        exact ⟨rfl, HF.out⟩
end Go.Proofs.Ytkkpimpmhnnbjaa
