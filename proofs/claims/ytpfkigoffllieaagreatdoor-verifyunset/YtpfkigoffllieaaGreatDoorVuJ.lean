/- A local that is set on one way, or on both. -/
import Derived.Test.YtpfkigoffllieaaGreatDoorVmJ
namespace Go.Proofs.YtpfkigoffllieaaGreatDoor
open Go.ChangeShapes Go.WideShapes Go.ChangeAt Go.RowKit
open H (ky Owns MapOf ix NewV)

/-- The two instructions of a way. -/
def set1 (on cplx : Bool) : Int × Int := if on = true then (if cplx = true then (2, 1) else (1, 0)) else (0, 0)
def set2 (on : Bool) : Int × Int := if on = true then (5, 1) else (0, 0)
def unsC (one other same : Bool) : List (Int × Int) := [(1, 0), (23, 5), set1 one false, set2 one, (22, 7), set1 other (!same), set2 other, (4, 1), (6, 0), (33, 0)]

theorem uns_link : ∀ a b c : Bool, linkE [mainK 3 3 (unsC a b c) pool2] = 0 := by decide +kernel
theorem uns_run : ∀ a b c : Bool, (settleP 3 (unsC a b c) ((unsC a b c).map fun x : Int × Int => ruleP x.1) 100 0 (beg sMain [top, top] 10)).map (fun r => decide (r.1 = 0)) = some (a && b && c) := by decide +kernel
theorem uns_ops : ∀ a b c : Bool, ∀ x ∈ unsC a b c, x.1 ∈ plainOps ∨ x.1 = 33 := by decide +kernel
theorem ask_uns (a b c : Bool) : ∃ res, Asked 3 3 [top, top] (unsC a b c) pool2 100 res ∧ decide (res.1 = 0) = (a && b && c) := by
  obtain ⟨res, h1, h2⟩ := Option.map_eq_some_iff.1 (uns_run a b c)
  exact ⟨res, ⟨uns_link a b c, fit_main _ _ _ _ fit2, .inr (.inl ⟨rfl, rfl⟩), show 0 < 10 by decide, show 10 ≤ 200 by decide, uns_ops a b c, h1⟩, h2⟩

set_option maxRecDepth 100000 in
set_option maxHeartbeats 2000000 in
theorem set_any (w : World) (on cplx : Bool) : Calls Tryz.prog 13 #[.bool on, .bool cplx] w fun e w' => e = .returned (.slice (some ⟨w.heap.size, 0, none⟩) 2 2) ∧ w'.heap[w.heap.size]? = some (.cells #[.int .i64 (set1 on cplx).1, .int .i64 (set1 on cplx).2, .int .i64 (set2 on).1, .int .i64 (set2 on).2] 26 (0, 0)) ∧ Fr no w w' := by
  have EA : ∀ x, (w.alloc (.cells x 26)).heap[w.heap.size]? = some (.cells x 26 (0, 0)) := fun x => heap_alloc_new w _
  have F : ∀ x, Fr no w (w.alloc (.cells x 26)) := fun x => (Fr.refl no w).alloc _ _
  cases on
  · go_enter Tryz.func13, Tryz.ntmps13
    go_wp2_with fail
    go_ret
    exact ⟨rfl, EA _, F _⟩
  · cases cplx
    · go_enter Tryz.func13, Tryz.ntmps13
      go_wp2_with fail
      go_ret
      exact ⟨rfl, EA _, F _⟩
    · go_enter Tryz.func13, Tryz.ntmps13
      go_wp2_with fail
      go_ret
      exact ⟨rfl, EA _, F _⟩

set_option maxRecDepth 100000 in
set_option maxHeartbeats 8000000 in
theorem unset_any (w : World) (T : Tb w) (R : Tr w) (one other same : Bool) :
    Calls Tryz.prog 5 #[.bool one, .bool other, .bool same] w fun e w' => e = .returned (.bool true) ∧ Fr no w w' := by
  obtain ⟨res, AK, hres⟩ := ask_uns one other same
  have KN := known_any w T R
  have HK : Hid (∀ w', Fr no w w' → Tb w' ∧ Tr w') := fun w' hf => ⟨T.kept hf, Tr.kept R hf⟩
  have HAK : Hid (Asked 3 3 [top, top] [(1, 0), (23, 5), set1 one false, set2 one, (22, 7), set1 other (!same), set2 other, (4, 1), (6, 0), (33, 0)] pool2 100 res) := AK
  have HRS : Hid (decide (res.1 = 0) = (one && other && same)) := hres
  clear T R AK hres
  go_enter Tryz.func5, Tryz.ntmps5
  go_wp2_with fail
  refine KN.mono ?_
  rintro e w1 ⟨rfl, f1⟩
  have HF1 : Hid _ := f1
  clear KN f1
  have P1 := pool2_lit w1
  have G1 : Fr no w1 (w1.alloc (.cells #[.int .i64 1, .int .i64 0, .complex .f64 0 0, .string e0, .string e0, .int .i64 2, .int .i64 0, .complex .f64 0 0, .string e0, .string e0] 32)) := (Fr.refl no w1).alloc _ _
  have hW : ∀ W, w1.alloc (.cells #[.int .i64 1, .int .i64 0, .complex .f64 0 0, .string e0, .string e0, .int .i64 2, .int .i64 0, .complex .f64 0 0, .string e0, .string e0] 32) = W → w1.alloc (.cells #[.int .i64 1, .int .i64 0, .complex .f64 0 0, .string ⟨#[]⟩, .string ⟨#[]⟩, .int .i64 2, .int .i64 0, .complex .f64 0 0, .string ⟨#[]⟩, .string ⟨#[]⟩] 32) = W := fun W h => h
  generalize hW2 : w1.alloc (.cells #[.int .i64 1, .int .i64 0, .complex .f64 0 0, .string e0, .string e0, .int .i64 2, .int .i64 0, .complex .f64 0 0, .string e0, .string e0] 32) = W2 at P1 G1
  have hW' := hW W2 hW2
  clear hW hW2
  have HP : Hid (SlG elCs W2 (.slice (some ⟨w1.heap.size, 0, none⟩) 2 2) pool2) := P1
  have HG : Hid (Fr no w1 W2) := G1
  have S1 := set_any W2 one false
  have HSB : Hid (∀ w', Calls Tryz.prog 13 #[.bool other, .bool (!same)] w' fun e w2 => e = .returned (.slice (some ⟨w'.heap.size, 0, none⟩) 2 2) ∧ w2.heap[w'.heap.size]? = some (.cells #[.int .i64 (set1 other (!same)).1, .int .i64 (set1 other (!same)).2, .int .i64 (set2 other).1, .int .i64 (set2 other).2] 26 (0, 0)) ∧ Fr no w' w2) := fun w' => set_any w' other (!same)
  generalize set1 one false = p at *
  generalize set2 one = q at *
  generalize set1 other (!same) = r at *
  generalize set2 other = s at *
  obtain ⟨p1, p2⟩ := p
  obtain ⟨q1, q2⟩ := q
  obtain ⟨r1, r2⟩ := r
  obtain ⟨s1, s2⟩ := s
  clear P1 G1
  go_wp2_with fail
  refine S1.mono ?_
  rintro e w3 ⟨rfl, e3, f3⟩
  have S2 := HSB.out w3
  generalize hB2 : W2.heap.size = B2 at *
  have HL3 : Hid (B2 < w3.heap.size) := lt_of_heap e3
  have HE3 : Hid _ := e3
  clear S1 HSB e3
  go_wp2_with fail
  refine S2.mono ?_
  rintro e w4 ⟨rfl, e4, f4⟩
  have e3 := f4.heap HE3.out (fun f => f)
  generalize hB3 : w3.heap.size = B3 at *
  obtain ⟨x0, x1, x2, x3⟩ := box4 e3
  obtain ⟨y0, y1, y2, y3⟩ := box4 e4
  have HF4 : Hid (Fr no W2 w4) := f3.new f4 (fun _ _ f => f)
  clear S2 e3 e4 f3 f4 HE3
  go_wp2_with fail
  go_region
  have L5a := lit_ins w4 [(1, 0), (23, 5), (p1, p2), (q1, q2), (22, 7), (r1, r2), (s1, s2), (4, 1), (6, 0), (33, 0)] #[.int .i64 1, .int .i64 0, .int .i64 23, .int .i64 5, .int .i64 p1, .int .i64 p2, .int .i64 q1, .int .i64 q2, .int .i64 22, .int .i64 7, .int .i64 r1, .int .i64 r2, .int .i64 s1, .int .i64 s2, .int .i64 4, .int .i64 1, .int .i64 6, .int .i64 0, .int .i64 33, .int .i64 0] rfl (show 10 ≤ 1000 by decide)
  have L5 := SlG.kept L5a ((Fr.refl no _).drew)
  have G6 : Fr no w4 (w4.alloc (.cells #[.int .i64 1, .int .i64 0, .int .i64 23, .int .i64 5, .int .i64 p1, .int .i64 p2, .int .i64 q1, .int .i64 q2, .int .i64 22, .int .i64 7, .int .i64 r1, .int .i64 r2, .int .i64 s1, .int .i64 s2, .int .i64 4, .int .i64 1, .int .i64 6, .int .i64 0, .int .i64 33, .int .i64 0] 26)).drew := ((Fr.refl no w4).alloc _ _).drew
  clear L5a
  generalize hW6 : (w4.alloc (.cells #[.int .i64 1, .int .i64 0, .int .i64 23, .int .i64 5, .int .i64 p1, .int .i64 p2, .int .i64 q1, .int .i64 q2, .int .i64 22, .int .i64 7, .int .i64 r1, .int .i64 r2, .int .i64 s1, .int .i64 s2, .int .i64 4, .int .i64 1, .int .i64 6, .int .i64 0, .int .i64 33, .int .i64 0] 26)).drew = W6 at *
  have F26 : Fr no W2 W6 := HF4.out.new G6 (fun _ _ f => f)
  have F6 : Fr no w W6 := (HF1.out.new HG.out (fun _ _ f => f)).new F26 (fun _ _ f => f)
  have AC := accepted_any W6 (HK.out W6 F6).1 (HK.out W6 F6).2 _ _ _ _ _ _ _ pool2 L5 (SlG.kept HP.out F26) 100 res HAK.out
  rw [HRS.out] at AC
  have l5 : ([(1, 0), (23, 5), (p1, p2), (q1, q2), (22, 7), (r1, r2), (s1, s2), (4, 1), (6, 0), (33, 0)] : List (Int × Int)).length = 10 := rfl
  rw [l5] at AC
  have HF6 : Hid _ := F6
  clear L5 G6 F26 F6 l5
  go_wp2_with fail
  refine AC.mono ?_
  rintro e w7 ⟨rfl, f7⟩
  clear AC
  cases one <;> cases other <;> cases same <;> (go_wp2_with fail; go_ret; exact ⟨by first | rfl | simp, HF6.out.new f7 (fun _ _ f => f)⟩)
end Go.Proofs.YtpfkigoffllieaaGreatDoor
