/- The statements' 'known': one race of two writes, two clocks. -/
import Derived.Test.YtnineggppoipiaaPv
namespace Go.Proofs.Ytnineggppoipiaa
open Go.ChangeShapes Go.WideShapes Go.ChangeAt Go.RowKit

theorem rdI_of {w : World} {b : Nat} {cs : Array Value} {t : TypeId} (l : List Int) (h : w.heap[b]? = some (.cells cs t (0, 0))) (hc : cs = (l.map (Value.int .i64 ·)).toArray) (cap : Nat) : RdI w (.slice (some ⟨b, 0, none⟩) l.length cap) l := by
  refine .inr ⟨b, 0, cap, rfl, fun j v hv => ?_⟩
  unfold World.cell?
  rw [h, hc]
  simpa using hv

theorem in_s (n : Nat) (h : n < 100) : In (n : Int) := by unfold In; omega
/-- The watch's memory is new. -/
theorem fr_tw {w w1 w2 : World} {c : Nat} (h : Fr no w w1) (hc : w.heap.size ≤ c) (f : Fr (TW c w1) w1 w2) : Fr no w w2 := h.new f (fun i hi e => by have := e.1; omega)

theorem two_lists (w : World) (l m : List Int) (A B : Array Value) (hA : A = (l.map (Value.int .i64 ·)).toArray) (hB : B = (m.map (Value.int .i64 ·)).toArray) (n k : Nat) (hn : n = l.length) (hk : k = m.length) (c d : Nat) :
    RdI ((w.alloc (.cells A 3)).alloc (.cells B 3)) (.slice (some ⟨w.heap.size, 0, none⟩) n c) l ∧ RdI ((w.alloc (.cells A 3)).alloc (.cells B 3)) (.slice (some ⟨w.heap.size + 1, 0, none⟩) k d) m ∧ Fr no w ((w.alloc (.cells A 3)).alloc (.cells B 3)) := by
  obtain ⟨W, b, e, rfl, rfl, rfl, h1, h2, f⟩ := boxes2n w A B 3 3
  subst hn hk
  exact ⟨rdI_of l h1 hA c, rdI_of m h2 hB d, f⟩
def Fa : Cm := touF (fun _ => none) ⟨5, 1, 5, 0⟩
def Fb : Cm := touF Fa ⟨5, 2, 5, 0⟩
theorem ta : touB (fun _ => none) ⟨5, 1, 5, 0⟩ = false := by decide +kernel
theorem tb : touB Fa ⟨5, 2, 5, 0⟩ = true := by decide +kernel
theorem b12 : beforeB (wholeC [1]) (wholeC [1, 2]) = true := by decide +kernel
theorem b21 : beforeB (wholeC [2]) (wholeC [1, 2]) = false := by decide +kernel

set_option maxRecDepth 100000 in
set_option maxHeartbeats 1000000 in
theorem known_any (w : World) : Calls Try.prog 9 #[] w fun e w' => e = .returned (.bool true) ∧ Fr no w w' := by
  have N1 := ps_new w w.heap.size (Nat.le_refl _)
  have HB : Hid (∀ (w2 : World) v u l m, RdI w2 v l → RdI w2 u m → l.length ≤ 13 → m.length ≤ 13 → Calls Try.prog 31 #[v, u] w2 fun e w' => e = .returned (.bool (beforeB (wholeC l) (wholeC m))) ∧ Fr no w2 w') := fun w2 v u l m a b c d => beforeL_any w2 v u l m a b c d
  generalize hs : w.heap.size = p at *
  have HS : Hid (w.heap.size ≤ p) := Nat.le_of_eq hs
  clear hs
  go_enter Try.func9, Try.ntmps9
  go_wp2_with fail
  refine N1.mono ?_
  rintro _ w1 ⟨rfl, p1, f1⟩
  have W1 := p1.write (by decide) 1 5 0 (in_s 1 (by decide)) (in_s 5 (by decide)) in_0
  rw [ta] at W1
  have HF1 : Hid _ := f1
  clear N1 p1 f1
  go_wp2_with fail
  refine W1.mono ?_
  rintro _ w2 ⟨rfl, p2, f2⟩
  have W2 := p2.write (by decide) 2 5 0 (in_s 2 (by decide)) (in_s 5 (by decide)) in_0
  rw [show touB (touF (fun _ => none) ⟨5, 1, 5, 0⟩) ⟨5, 2, 5, 0⟩ = true from tb] at W2
  have HF2 : Hid (Fr no w w2) := fr_tw HF1.out HS.out f2
  clear W1 p2 f2 HF1
  go_wp2_with fail
  refine W2.mono ?_
  rintro _ w3 ⟨rfl, p3, f3⟩
  have R3 := p3.races
  rw [show bumpR (bumpR 0 false) true = 1 from rfl] at R3
  have HF3 : Hid (Fr no w w3) := fr_tw HF2.out HS.out f3
  clear W2 p3 f3 HF2
  go_wp2_with fail
  refine R3.mono ?_
  rintro _ w4 ⟨rfl, hw4⟩
  subst hw4
  clear R3
  go_wp2_with fail
  have T1 := two_lists w4 [1] [1, 2] #[.int .i64 1] #[.int .i64 1, .int .i64 2] rfl rfl 1 2 rfl rfl 1 2
  refine (HB.out _ _ _ [1] [1, 2] T1.1 T1.2.1 (by decide) (by decide)).mono ?_
  rintro _ w5 ⟨rfl, f5⟩
  rw [b12]
  have HF5 : Hid (Fr no w w5) := (HF3.out.and T1.2.2).and f5
  clear T1 f5 HF3
  go_wp2_with fail
  have T1 := two_lists w5 [2] [1, 2] #[.int .i64 2] #[.int .i64 1, .int .i64 2] rfl rfl 1 2 rfl rfl 1 2
  refine (HB.out _ _ _ [2] [1, 2] T1.1 T1.2.1 (by decide) (by decide)).mono ?_
  rintro _ w6 ⟨rfl, f6⟩
  rw [b21]
  have HF6 : Hid (Fr no w w6) := (HF5.out.and T1.2.2).and f6
  clear T1 f6 HF5
  go_wp2_with fail
  go_ret
  exact ⟨rfl, HF6.out⟩
end Go.Proofs.Ytnineggppoipiaa
