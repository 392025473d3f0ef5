/- Class, Words, Get; Put. -/
import Derived.Test.YtopcbcdigllenaaObj
namespace Go.Proofs.Ytopcbcdigllenaa
open Go.ChangeShapes Go.WideShapes Go.ChangeAt Go.RowKit

set_option maxRecDepth 100000 in
theorem class_any (w : World) (p g : Nat) (bs : List Blk) (h : HP w p g bs) (a : Int) (ha : a ≤ 9223372036854775807) (hcl : ∀ c ws, objAt bs a = some (c, ws) → c < 9223372036854775808) :
    Calls Try.prog 19 #[.pointer (some ⟨p, 0, none⟩), .int .i64 a] w fun e w' => e = .returned (.tuple #[.int .i64 (clsA bs a), .int .i64 (errA (beg bs a))]) ∧ ∃ m, w' = w.drewN m := by
  have BG := begins_any w p g bs h a ha
  rcases at_cases bs a with ⟨ho, hb⟩ | ⟨pre, c, ws, post, he, rfl, hb, ho⟩
  · have HO : Hid (clsA bs a = 0) := by unfold Hid clsA; rw [ho]
    rw [hb] at BG
    have HB : Hid (beg bs a = false) := hb
    clear h ho hb hcl
    go_enter Try.func19, Try.ntmps19
    go_wp2_with fail
    refine BG.mono ?_
    rintro e w1 ⟨rfl, m1, rfl⟩
    go_wp2_with fail
    go_ret2
    exact ⟨by rw [HO.out, HB.out]; rfl, m1, rfl⟩
  · have HO : Hid (clsA bs ((siz pre : Int) + 1) = (c : Int)) := by unfold Hid clsA; rw [ho]
    rw [hb] at BG
    have HB : Hid (beg bs ((siz pre : Int) + 1) = true) := hb
    have hl := h.len
    have hcell := h.cell
    have hx := h.word (i := siz pre + 1) (x := c) (by rw [he]; exact flat_class pre post c ws)
    have hsz : siz pre + (ws.length + 2) ≤ (flat bs).length := by rw [he]; exact siz_le (pre := pre) (b := .obj c ws) (post := post) (Nat.le_refl _)
    have hc := hcl c ws ho
    clear h ho hb hcl he
    generalize (flat bs).length = q at *
    generalize siz pre = k at *
    have hi : (k : Int) + 1 < (q : Int) := by omega
    have hkk : ((k : Int) + 1).toNat = k + 1 := by omega
    have hw : IntKind.i64.wrap (c : Int) = (c : Int) := by rw [IntKind.wrap_i64]; omega
    go_enter Try.func19, Try.ntmps19
    go_wp2_with fail
    refine BG.mono ?_
    rintro e w1 ⟨rfl, m1, hw1⟩
    have HW1 : Hid (w1 = w.drewN m1) := hw1
    have hcell1 : w1.cell? ⟨p, 0, none⟩ = some (.slice (some ⟨g, 0, none⟩) q q) := by rw [hw1]; exact hcell
    have hx1 : w1.cell? ⟨g, k + 1, none⟩ = some (.int .u64 (c : Int)) := by rw [hw1]; exact hx
    clear hw1 hcell hx
    go_wp2_with fail
    go_quiet ((go_at_call 47; exact Calls.quiet_of_same (classOf_any _ ((k : Int) + 1))))
    go_wp2_with fail
    go_ret2
    exact ⟨by rw [HO.out, HB.out]; simp [errA], m1 + nq, by rw [HW1.out]; simp⟩

set_option maxRecDepth 100000 in
theorem words_any (w : World) (p g : Nat) (bs : List Blk) (h : HP w p g bs) (a : Int) (ha : a ≤ 9223372036854775807) :
    Calls Try.prog 20 #[.pointer (some ⟨p, 0, none⟩), .int .i64 a] w fun e w' => e = .returned (.tuple #[.int .i64 (cntA bs a), .int .i64 (errA (beg bs a))]) ∧ ∃ m, w' = w.drewN m := by
  have BG := begins_any w p g bs h a ha
  rcases at_cases bs a with ⟨ho, hb⟩ | ⟨pre, c, ws, post, he, rfl, hb, ho⟩
  · have HO : Hid (cntA bs a = 0) := by unfold Hid cntA; rw [ho]
    rw [hb] at BG
    have HB : Hid (beg bs a = false) := hb
    clear h ho hb
    go_enter Try.func20, Try.ntmps20
    go_wp2_with fail
    refine BG.mono ?_
    rintro e w1 ⟨rfl, m1, rfl⟩
    go_wp2_with fail
    go_ret2
    exact ⟨by rw [HO.out, HB.out]; rfl, m1, rfl⟩
  · have HO : Hid (cntA bs ((siz pre : Int) + 1) = (ws.length : Int)) := by unfold Hid cntA; rw [ho]
    rw [hb] at BG
    have HB : Hid (beg bs ((siz pre : Int) + 1) = true) := hb
    have hl := h.len
    have hsz : siz pre + (ws.length + 2) ≤ 2048 := by rw [he] at hl; exact siz_le hl
    have LO : ∀ m, Calls Try.prog 41 #[.pointer (some ⟨p, 0, none⟩), .int .i64 ((siz pre : Int) + 1)] (w.drewN m) fun e w' => e = .returned (.int .i64 ((ws.length + 2 : Nat) : Int)) ∧ ∃ m', w' = (w.drewN m).drewN m' :=
      fun m => length_any (w.drewN m) p g (flat bs) (h.drewN m) (siz pre) (ws.length + 2) 1 (by rw [he]; exact flat_head pre (.obj c ws) post) (by omega) (by omega)
    clear h ho hb he hl
    generalize siz pre = k at *
    generalize ws.length = n at *
    go_enter Try.func20, Try.ntmps20
    go_wp2_with fail
    refine BG.mono ?_
    rintro e w1 ⟨rfl, m1, rfl⟩
    go_wp2_with fail
    refine (LO m1).mono ?_
    rintro e w1 ⟨rfl, m2, rfl⟩
    go_wp2_with fail
    go_ret2
    exact ⟨by rw [HO.out, HB.out]; simp [errA], m1 + m2, by simp⟩

set_option maxRecDepth 100000 in
theorem get_any (w : World) (p g : Nat) (bs : List Blk) (h : HP w p g bs) (a i : Int) (ha : a ≤ 9223372036854775807) :
    Calls Try.prog 17 #[.pointer (some ⟨p, 0, none⟩), .int .i64 a, .int .i64 i] w fun e w' => e = .returned (.tuple #[.int .u64 (getW bs a i), .int .i64 (errA (hasW bs a i))]) ∧ ∃ m, w' = w.drewN m := by
  have BG := has_any w p g bs h a i ha
  by_cases hb : hasW bs a i = true
  · have hb' := hb
    unfold hasW at hb'
    rcases at_cases bs a with ⟨ho, -⟩ | ⟨pre, c, ws, post, he, rfl, -, ho⟩
    · rw [ho] at hb'
      simp at hb'
    · rw [ho] at hb'
      simp only [decide_eq_true_eq] at hb'
      obtain ⟨n, rfl⟩ : ∃ n : Nat, i = (n : Int) := ⟨i.toNat, by omega⟩
      have hn : n < ws.length := by omega
      have HO : Hid (getW bs ((siz pre : Int) + 1) (n : Int) = (ws[n] : Int)) := by
        unfold Hid getW
        rw [ho]
        simp [hn]
      rw [hb] at BG
      have HB : Hid (hasW bs ((siz pre : Int) + 1) (n : Int) = true) := hb
      have hl := h.len
      have hcell := h.cell
      have hx := h.word (i := siz pre + 2 + n) (x := ws[n]) (by rw [he]; exact flat_word pre post c ws n hn)
      have hsz : siz pre + (ws.length + 2) ≤ (flat bs).length := by rw [he]; exact siz_le (pre := pre) (b := .obj c ws) (post := post) (Nat.le_refl _)
      generalize ws[n] = x at *
      clear h ho hb he hb'
      generalize (flat bs).length = q at *
      generalize siz pre = k at *
      have hi : ((k + 2 + n : Nat) : Int) < (q : Int) := by omega
      go_enter Try.func17, Try.ntmps17
      go_wp2_with fail
      refine BG.mono ?_
      rintro e w1 ⟨rfl, m1, hw1⟩
      have HW1 : Hid (w1 = w.drewN m1) := hw1
      have hcell1 : w1.cell? ⟨p, 0, none⟩ = some (.slice (some ⟨g, 0, none⟩) q q) := by rw [hw1]; exact hcell
      have hx1 : w1.cell? ⟨g, k + 2 + n, none⟩ = some (.int .u64 (x : Int)) := by rw [hw1]; exact hx
      clear hw1 hcell hx
      go_wp2_with fail
      go_quiet ((go_at_call 44; exact Calls.quiet_of_same (wordOf_any _ k n (by omega) (by omega))))
      go_wp2_with fail
      go_ret2
      exact ⟨by rw [HO.out, HB.out]; simp [errA], m1 + nq, by rw [HW1.out]; simp⟩
  · replace hb : hasW bs a i = false := by simpa using hb
    have HO : Hid (getW bs a i = 0) := by
      unfold hasW at hb
      unfold Hid getW
      cases ho : objAt bs a with
      | none => rfl
      | some x =>
        rw [ho] at hb
        simp only [decide_eq_false_iff_not] at hb
        simp only []
        rw [if_neg hb]
    rw [hb] at BG
    have HB : Hid (hasW bs a i = false) := hb
    clear h hb
    go_enter Try.func17, Try.ntmps17
    go_wp2_with fail
    refine BG.mono ?_
    rintro e w1 ⟨rfl, m1, rfl⟩
    go_wp2_with fail
    go_ret2
    exact ⟨by rw [HO.out, HB.out]; rfl, m1, rfl⟩

set_option maxRecDepth 100000 in
theorem put_any (w : World) (p g : Nat) (bs : List Blk) (h : HP w p g bs) (a i : Int) (v : Nat) (ha : a ≤ 9223372036854775807) :
    Calls Try.prog 16 #[.pointer (some ⟨p, 0, none⟩), .int .i64 a, .int .i64 i, .int .u64 (v : Int)] w fun e w' => e = .returned (.int .i64 (errA (hasW bs a i))) ∧ HP w' p g (putB bs a i v) ∧ Fr (fun k => k = g) w w' := by
  have BG := has_any w p g bs h a i ha
  by_cases hb : hasW bs a i = true
  · have hb' := hb
    unfold hasW at hb'
    rcases at_cases bs a with ⟨ho, -⟩ | ⟨pre, c, ws, post, he, rfl, -, ho⟩
    · rw [ho] at hb'
      simp at hb'
    · rw [ho] at hb'
      simp only [decide_eq_true_eq] at hb'
      obtain ⟨n, rfl⟩ : ∃ n : Nat, i = (n : Int) := ⟨i.toNat, by omega⟩
      have hn : n < ws.length := by omega
      rw [hb] at BG
      have HB : Hid (hasW bs ((siz pre : Int) + 1) (n : Int) = true) := hb
      have HS : Hid (∀ m, HP ((w.drewN m).setCell ⟨g, siz pre + 2 + n, none⟩ (.int .u64 (v : Int))) p g (putB bs ((siz pre : Int) + 1) (n : Int) v) ∧ Fr (fun k => k = g) w ((w.drewN m).setCell ⟨g, siz pre + 2 + n, none⟩ (.int .u64 (v : Int)))) := by
        intro m
        have h1 := (h.drewN m).set (siz pre + 2 + n) v
        refine ⟨?_, ((Fr.refl (fun k => k = g) w).drewN m).setCell (p := ⟨g, siz pre + 2 + n, none⟩) (fun _ => rfl) _⟩
        have e : (flat bs).set (siz pre + 2 + n) v = flat (putB bs ((siz pre : Int) + 1) (n : Int) v) := by
          rw [he, putB_at]
          exact flat_setw pre post c ws n v hn
        rw [e] at h1
        exact h1.1
      have hl := h.len
      have hcell := h.cell
      have hx := h.word (i := siz pre + 2 + n) (x := ws[n]) (by rw [he]; exact flat_word pre post c ws n hn)
      have hz := h.thaw (siz pre + 2 + n)
      have hsz : siz pre + (ws.length + 2) ≤ (flat bs).length := by rw [he]; exact siz_le (pre := pre) (b := .obj c ws) (post := post) (Nat.le_refl _)
      generalize ws[n] = x at *
      clear h ho hb he hb'
      generalize (flat bs).length = q at *
      generalize siz pre = k at *
      have hi : ((k + 2 + n : Nat) : Int) < (q : Int) := by omega
      go_enter Try.func16, Try.ntmps16
      go_wp2_with fail
      refine BG.mono ?_
      rintro e w1 ⟨rfl, m1, hw1⟩
      have HS1 : Hid (HP (w1.setCell ⟨g, k + 2 + n, none⟩ (.int .u64 (v : Int))) p g (putB bs ((k : Int) + 1) (n : Int) v) ∧ Fr (fun k => k = g) w (w1.setCell ⟨g, k + 2 + n, none⟩ (.int .u64 (v : Int)))) := by rw [hw1]; exact HS.out m1
      have hcell1 : w1.cell? ⟨p, 0, none⟩ = some (.slice (some ⟨g, 0, none⟩) q q) := by rw [hw1]; exact hcell
      have hx1 : w1.cell? ⟨g, k + 2 + n, none⟩ = some (.int .u64 (x : Int)) := by rw [hw1]; exact hx
      have hz1 : w1.frozen? ⟨g, k + 2 + n, none⟩ = false := by rw [hw1]; exact hz
      have WO : ∀ w1, Calls Try.prog 44 #[.int .i64 ((k : Int) + 1), .int .i64 (n : Int)] w1 fun e w' => e = .returned (.int .i64 ((k + 2 + n : Nat) : Int)) ∧ w' = w1 := fun w1 => wordOf_any w1 k n (by omega) (by omega)
      clear hw1 hcell hx hz HS BG
      generalize k + 2 + n = j at *
      go_wp2_with fail
      go_region_with ((go_at_call 44; refine (WO _).mono ?_; rintro e w2 ⟨rfl, rfl⟩))
      all_goals
        go_wp2_with fail
        go_ret
        exact ⟨by rw [HB.out]; rfl, HS1.out.1.drewN 1, HS1.out.2.drew⟩
  · replace hb : hasW bs a i = false := by simpa using hb
    rw [hb] at BG
    have HB : Hid (hasW bs a i = false) := hb
    have HS : Hid (HP w p g (putB bs a i v)) := by rw [Hid, putB_none bs a i v hb]; exact h
    clear h hb
    go_enter Try.func16, Try.ntmps16
    go_wp2_with fail
    refine BG.mono ?_
    rintro e w1 ⟨rfl, m1, rfl⟩
    go_wp2_with fail
    go_ret
    exact ⟨by rw [HB.out]; rfl, HS.out.drewN m1, (Fr.refl _ w).drewN m1⟩
end Go.Proofs.Ytopcbcdigllenaa
