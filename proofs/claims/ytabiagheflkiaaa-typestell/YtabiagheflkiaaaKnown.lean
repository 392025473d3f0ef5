/- What is known of the program: its small examples. -/
import Derived.Test.YtabiagheflkiaaaNew
import Derived.Test.YtabiagheflkiaaaMerge
namespace Go.Proofs.Ytabiagheflkiaaa
open Go.ChangeShapes Go.WideShapes Go.ChangeAt Go.RowKit

def tA : ByteArray := ⟨#[65]⟩
def tB : ByteArray := ⟨#[66]⟩
def tC : ByteArray := ⟨#[67]⟩
def t0 : ByteArray := ⟨#[]⟩

theorem kn1 : newH [tA, tB, tC] [tC, tC, t0] = (0, [obj, fault, tA, tB, tC], [0, 0, 4, 4, 0]) := by decide +kernel
theorem kn2 : (newH [tA] [tA]).1 = 71 := by decide +kernel
theorem kn3 : shared (anc [obj, fault, tA, tB, tC] [0, 0, 4, 4, 0] tA) (anc [obj, fault, tA, tB, tC] [0, 0, 4, 4, 0] tB) = tC := by decide +kernel
theorem kn4 : inL obj (anc [obj, fault, tA, tB, tC] [0, 0, 4, 4, 0] tA) = true := by decide +kernel

/-- A row of texts that a literal has made. -/
theorem sl_lit (w : World) (l : List ByteArray) (cs : Array Value) (hc : cs = (cg elS l).toArray) (h : l.length ≤ 1000) : SlG elS (w.alloc (.cells cs 9)) (.slice (some ⟨w.heap.size, 0, none⟩) l.length l.length) l :=
  (own_lit (K := elS) w l cs hc (by unfold maxLen; omega)).sl

set_option maxRecDepth 100000 in
set_option maxHeartbeats 2000000 in
theorem known_any (w : World) : Calls Try.prog 9 #[] w fun e w' => e = .returned (.bool true) ∧ Fr no w w' := by
  have L1 : Hid (SlG elS ((w.alloc (.cells #[.string ⟨#[65]⟩, .string ⟨#[66]⟩, .string ⟨#[67]⟩] 9)).alloc (.cells #[.string ⟨#[67]⟩, .string ⟨#[67]⟩, .string ⟨#[]⟩] 9)) (.slice (some ⟨w.heap.size, 0, none⟩) 3 3) [tA, tB, tC]) :=
    (sl_lit w [tA, tB, tC] _ rfl (by decide)).keep ((Fr.refl no _).alloc _ _)
  have L2 : Hid (SlG elS ((w.alloc (.cells #[.string ⟨#[65]⟩, .string ⟨#[66]⟩, .string ⟨#[67]⟩] 9)).alloc (.cells #[.string ⟨#[67]⟩, .string ⟨#[67]⟩, .string ⟨#[]⟩] 9)) (.slice (some ⟨w.heap.size + 1, 0, none⟩) 3 3) [tC, tC, t0]) := by
    have := sl_lit (w.alloc (.cells #[.string ⟨#[65]⟩, .string ⟨#[66]⟩, .string ⟨#[67]⟩] 9)) [tC, tC, t0] #[.string ⟨#[67]⟩, .string ⟨#[67]⟩, .string ⟨#[]⟩] rfl (by decide)
    show SlG _ _ _ _
    simpa using this
  have FW : Hid (Fr no w ((w.alloc (.cells #[.string ⟨#[65]⟩, .string ⟨#[66]⟩, .string ⟨#[67]⟩] 9)).alloc (.cells #[.string ⟨#[67]⟩, .string ⟨#[67]⟩, .string ⟨#[]⟩] 9))) := ((Fr.refl no w).alloc _ _).alloc _ _
  have N1 := new_any _ _ _ [tA, tB, tC] [tC, tC, t0] L1.out L2.out (by decide) (by decide) (by decide) (by decide)
  rw [kn1] at N1
  go_enter Try.func9, Try.ntmps9
  go_wp2_with fail
  refine N1.mono ?_
  rintro e w1 ⟨q, rfl, n1, f1⟩
  obtain ⟨p, rfl, h1, fi1, -⟩ := n1.2 rfl
  have F1 : Hid (Fr no w w1) := FW.out.and f1
  have HB1 : Hid (HB ((w.alloc (.cells #[.string ⟨#[65]⟩, .string ⟨#[66]⟩, .string ⟨#[67]⟩] 9)).alloc (.cells #[.string ⟨#[67]⟩, .string ⟨#[67]⟩, .string ⟨#[]⟩] 9)).heap.size w1 p [obj, fault, tA, tB, tC] [0, 0, 4, 4, 0]) := h1
  have FI : Hid (Fine [obj, fault, tA, tB, tC].length [0, 0, 4, 4, 0]) := fi1
  clear n1 f1 h1 fi1 L1 L2 FW
  have L3 : Hid (SlG elS ((w1.alloc (.cells #[.string ⟨#[65]⟩] 9)).alloc (.cells #[.string ⟨#[65]⟩] 9)) (.slice (some ⟨w1.heap.size, 0, none⟩) 1 1) [tA]) :=
    (sl_lit w1 [tA] _ rfl (by decide)).keep ((Fr.refl no _).alloc _ _)
  have L4 : Hid (SlG elS ((w1.alloc (.cells #[.string ⟨#[65]⟩] 9)).alloc (.cells #[.string ⟨#[65]⟩] 9)) (.slice (some ⟨w1.heap.size + 1, 0, none⟩) 1 1) [tA]) := by
    have := sl_lit (w1.alloc (.cells #[.string ⟨#[65]⟩] 9)) [tA] #[.string ⟨#[65]⟩] rfl (by decide)
    show SlG _ _ _ _
    simpa using this
  have G1 : Hid (Fr no w1 ((w1.alloc (.cells #[.string ⟨#[65]⟩] 9)).alloc (.cells #[.string ⟨#[65]⟩] 9))) := ((Fr.refl no w1).alloc _ _).alloc _ _
  have N2 := new_any _ _ _ [tA] [tA] L3.out L4.out (by decide) (by decide) (by decide) (by decide)
  rw [kn2] at N2
  go_wp2_with fail
  refine N2.mono ?_
  rintro e w2 ⟨q, rfl, -, f2⟩
  have G2 : Hid (Fr no w1 w2) := G1.out.and f2
  have C := common_any w2 p _ _ (HB1.out.keep G2.out) FI.out (by decide) tA tB (by decide) (by decide)
  rw [kn3] at C
  have htc : (tC.toList == [67]) = true := by decide +kernel
  clear f2 L3 L4 G1
  go_wp2_with fail
  refine C.mono ?_
  rintro e w3 ⟨rfl, f3⟩
  have G3 : Hid (Fr no w1 w3) := G2.out.and f3
  have S := sub_any w3 p _ _ (HB1.out.keep G3.out) FI.out (by decide) tA obj (by decide)
  rw [kn4] at S
  clear f3 G2
  go_wp2_with fail
  refine S.mono ?_
  rintro e w4 ⟨rfl, f4⟩
  have G4 : Hid (Fr no w w4) := F1.out.and (G3.out.and f4)
  have W := words_any w4 ⟨2, t0⟩
  have hw2 : words ⟨2, t0⟩ = 2 := rfl
  rw [hw2] at W
  clear f4
  go_wp2_with fail
  refine W.mono ?_
  rintro e w5 ⟨rfl, f5⟩
  have G5 : Hid (Fr no w w5) := G4.out.and f5
  clear f5
  go_wp2_with fail
  go_ret
  exact ⟨rfl, G5.out⟩
end Go.Proofs.Ytabiagheflkiaaa
