/- Threads beside the world in which they were begun; the example. -/
import Derived.Test.YtancclmnliiijaaSf
namespace Go.Proofs.Ytancclmnliiijaa
open Go.ChangeShapes Go.WideShapes Go.ChangeAt Go.RowKit

/-- In w block p holds n threads; all that was in W is as it was. -/
structure Js (W w : World) (p n : Nat) (T : List (Int × Int)) : Prop where
  ps : PS w p n T
  le : W.heap.size ≤ p
  fr : Fr no W w

section
variable {W w : World} {p n : Nat} {T : List (Int × Int)}

theorem Js.keep {w' : World} (h : Js W w p n T) (f : Fr no w w') : Js W w' p n T := ⟨h.ps.keep f, h.le, h.fr.and f⟩
theorem Js.new (f : Fr no W w) : Calls Try.prog 8 #[] w fun e w' => ∃ p, e = .returned (.pointer (some ⟨p, 0, none⟩)) ∧ Js W w' p 0 z12 ∧ Fr no w w' :=
  (new_any w).mono fun _ _ ⟨p, he, h1, h2, h3⟩ => ⟨p, he, ⟨h2, Nat.le_trans f.size h1, f.and h3⟩, h3⟩
def spT (n : Nat) (T : List (Int × Int)) : List (Int × Int) := T.set n (1, (T.getD n (0, 0)).2)
theorem Js.spawn (h : Js W w p n T) (hn : n < 12) : Calls Try.prog 9 #[.pointer (some ⟨p, 0, none⟩)] w fun e w' => e = .returned (.tuple #[.int .i64 ((n : Int) + 1), .int .i64 0]) ∧ Js W w' p (n + 1) (spT n T) ∧ Fr (Tk [63] W.heap.size w) w w' :=
  (spawn_ok h.ps hn h.le).mono fun _ _ ⟨he, h1, h2⟩ => ⟨he, ⟨h1, h.le, h.fr.tab h2⟩, h2⟩
theorem Js.full (h : Js W w p 12 T) : Calls Try.prog 9 #[.pointer (some ⟨p, 0, none⟩)] w fun e w' => e = .returned (.tuple #[.int .i64 0, .int .i64 140]) ∧ w' = w := spawn_full h.ps
theorem Js.set (h : Js W w p n T) (id s : Int) (hid : In id) : Calls Try.prog 11 #[.pointer (some ⟨p, 0, none⟩), .int .i64 id, .int .i64 s] w fun e w' => e = .returned (.int .i64 (setE n T id s)) ∧ Js W w' p n (setT n T id s) ∧ Fr (Tk [63] W.heap.size w) w w' :=
  (set_any h.ps id s hid h.le).mono fun _ _ ⟨he, h1, h2⟩ => ⟨he, ⟨h1, h.le, h.fr.tab h2⟩, h2⟩
theorem Js.join (h : Js W w p n T) (id o : Int) (hid : In id) (ho : In o) : Calls Try.prog 13 #[.pointer (some ⟨p, 0, none⟩), .int .i64 id, .int .i64 o] w fun e w' => e = .returned (.tuple #[.bool (joinR n T id o), .int .i64 (joinE n T id o)]) ∧ Js W w' p n (joinT n T id o) ∧ Fr (Tk [63] W.heap.size w) w w' :=
  (join_any h.ps id o hid ho h.le).mono fun _ _ ⟨he, h1, h2⟩ => ⟨he, ⟨h1, h.le, h.fr.tab h2⟩, h2⟩
theorem Js.end_ (h : Js W w p n T) (id : Int) (hid : In id) : Calls Try.prog 15 #[.pointer (some ⟨p, 0, none⟩), .int .i64 id] w fun e w' => ∃ o k c, e = .returned (.tuple #[.slice o k c, .int .i64 (endE n T id)]) ∧ k = (endL n T id).length ∧ OwnG elI w' (.slice o k c) (endL n T id) ∧ NewV w (.slice o k c) ∧ Js W w' p n (endT n T id) ∧ Fr (Tk [63] W.heap.size w) w w' :=
  (end_any h.ps id hid h.le).mono fun _ _ ⟨v, he, h0, h1, h2, h3⟩ => by
    obtain ⟨o, c, rfl⟩ := h0.form
    exact ⟨o, _, c, he, rfl, h0, h1, ⟨h2, h.le, h.fr.tab h3⟩, h3⟩
theorem Js.ready (h : Js W w p n T) : Calls Try.prog 22 #[.pointer (some ⟨p, 0, none⟩)] w fun e w' => ∃ o k c, e = .returned (.slice o k c) ∧ k = (sel rdy T n).length ∧ OwnG elI w' (.slice o k c) (sel rdy T n) ∧ NewV w (.slice o k c) ∧ Fr no w w' :=
  (ready_any h.ps).mono fun _ _ ⟨v, he, h0, h1, h2⟩ => by
    obtain ⟨o, c, rfl⟩ := h0.form
    exact ⟨o, _, c, he, rfl, h0, h1, h2⟩
theorem Js.pick (h : Js W w p n T) (k : Int) : Calls Try.prog 18 #[.pointer (some ⟨p, 0, none⟩), .int .i64 k] w fun e w' => e = .returned (.tuple #[.int .i64 (pkN (sel rdy T n) k), .bool (pkO (sel rdy T n))]) ∧ Fr no w w' := pick_any h.ps k
end

theorem in_nat (k : Nat) (h : k ≤ 1000000) : In (k : Int) := ⟨by omega, by omega⟩

theorem eq24 (w : World) (q : Nat) : (binOp .eql 24 (.pointer (some ⟨q, 0, none⟩)) (.pointer none)).run Try.prog w = .ok (.bool false) w := by kernel_rfl

def kT : List (Int × Int) := spT 2 (spT 1 (spT 0 z12))

set_option maxRecDepth 100000 in
set_option maxHeartbeats 2000000 in
theorem known_any (w : World) : Calls Try.prog 7 #[] w fun e w' => e = .returned (.bool true) ∧ Fr no w w' := by
  have NW := Js.new (Fr.refl no w)
  have e1 := eq24
  go_enter Try.func7, Try.ntmps7
  go_wp2_with fail
  refine NW.mono ?_
  rintro _ w1 ⟨p, rfl, j1, -⟩
  have C1 := j1.spawn (by omega)
  clear NW j1
  go_wp2_with fail
  refine C1.mono ?_
  rintro _ w2 ⟨rfl, j2, -⟩
  have C2 := j2.spawn (by omega)
  clear C1 j2
  go_wp2_with fail
  refine C2.mono ?_
  rintro _ w3 ⟨rfl, j3, -⟩
  have C3 := j3.spawn (by omega)
  clear C2 j3
  go_wp2_with fail
  refine C3.mono ?_
  rintro _ w4 ⟨rfl, j4, -⟩
  have J4 : Js w w4 p 3 kT := j4
  have C4 := J4.pick 4
  rw [show pkN (sel rdy kT 3) 4 = 2 by decide +kernel, show pkO (sel rdy kT 3) = true by decide +kernel] at C4
  have HJ4 : Hid _ := J4
  clear C3 j4 J4
  go_wp2_with fail
  refine C4.mono ?_
  rintro _ w5 ⟨rfl, f5⟩
  have C5 := (HJ4.out.keep f5).join 1 2 ⟨by decide, by decide⟩ ⟨by decide, by decide⟩
  rw [show joinR 3 kT 1 2 = false by decide +kernel, show joinE 3 kT 1 2 = 0 by decide +kernel] at C5
  clear C4 f5
  go_wp2_with fail
  refine C5.mono ?_
  rintro _ w6 ⟨rfl, j6, -⟩
  have C6 := j6.end_ 2 ⟨by decide, by decide⟩
  rw [show endE 3 (joinT 3 kT 1 2) 2 = 0 by decide +kernel, show endL 3 (joinT 3 kT 1 2) 2 = [1] by decide +kernel] at C6
  clear C5 j6
  go_wp2_with fail
  refine C6.mono ?_
  rintro _ w7 ⟨o, k, c, rfl, -, o7, -, j7, -⟩
  have IN := ints_any (w7.alloc (.cells #[.int .i64 1] 3)) (.slice o k c) (.slice (some ⟨w7.heap.size, 0, none⟩) 1 1) [1] [1] ((o7.keep ((Fr.refl no w7).alloc _ _)).rd elI_ok) ((own_lit elI_ok w7 [1] _ rfl (by decide)).rd elI_ok)
  rw [show sameI [1] [1] = true from rfl] at IN
  have HJ7 : Hid _ := j7.keep ((Fr.refl no w7).alloc #[.int .i64 1] 3)
  clear C6 o7 j7
  go_wp2_with fail
  refine IN.mono ?_
  rintro _ w8 ⟨rfl, m8, hw8⟩
  have HJ8 : Hid (Js w w8 p 3 (endT 3 (joinT 3 kT 1 2) 2)) := by
    rw [hw8]
    exact HJ7.out.keep ((Fr.refl no _).drewN m8)
  have S8 := state_any HJ8.out.ps 1 ⟨by decide, by decide⟩
  rw [show stA 3 (endT 3 (joinT 3 kT 1 2) 2) 1 = 1 by decide +kernel] at S8
  have O8 := over_any HJ8.out.ps
  rw [show ovr 3 (endT 3 (joinT 3 kT 1 2) 2) = false by decide +kernel] at O8
  have E8 := HJ8.out.set 2 1 ⟨by decide, by decide⟩
  rw [show setE 3 (endT 3 (joinT 3 kT 1 2) 2) 2 1 = 140 by decide +kernel] at E8
  clear IN hw8 HJ7
  go_wp2_with fail
  refine S8.mono ?_
  rintro _ w9 ⟨rfl, hw9⟩
  subst hw9
  clear S8
  go_wp2_with fail
  refine O8.mono ?_
  rintro _ w10 ⟨rfl, hw10⟩
  subst hw10
  clear O8
  go_wp2_with fail
  refine E8.mono ?_
  rintro _ w11 ⟨rfl, j11, -⟩
  have HF : Hid (Fr no w w11) := j11.fr
  clear E8 j11
  go_wp2_with fail
  go_ret
  exact ⟨rfl, HF.out⟩
end Go.Proofs.Ytancclmnliiijaa
