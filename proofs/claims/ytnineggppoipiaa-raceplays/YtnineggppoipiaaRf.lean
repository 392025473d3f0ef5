/- The document's watch: Acquire. -/
import Derived.Test.YtnineggppoipiaaRe
namespace Go.Proofs.Ytnineggppoipiaa
open Go.ChangeShapes Go.WideShapes Go.ChangeAt Go.RowKit

theorem idx39 {w : World} {g o n c k : Nat} (h : k < n) : (Instr.indexAt 39 (.slice (some ⟨g, o, none⟩) n c) (.int .i64 (k : Int))).run Try.prog w = .ok (.pointer (some ⟨g, o + k * 15, none⟩)) w := by
  have h0 : (0 : Int) ≤ (k : Int) := by omega
  have h1 : (k : Int) < (n : Int) := by omega
  simp [go_sem, h0, h1]
theorem ld39 {w : World} {q i : Nat} {o : Option Addr} {l c : Nat} (h : w.cell? ⟨q, i, none⟩ = some (.slice o l c)) : (Instr.loadAt 39 (.pointer (some ⟨q, i, none⟩))).run Try.prog w = .ok (.slice o l c) w := by simp [go_sem, h]

noncomputable def reg19aC : Code := ((Try.f19.body.bind (regionOf 2)).getD .skip)

set_option maxRecDepth 100000 in
theorem reg19a (W : World) (p t g off n cc k : Nat) (ht : t < 13) (hk : k < n) (c1 c2 : Nat → Int) (hb1 : Bd c1) (hb2 : Bd c2)
    (hL1 : ∀ w', Fr no W w' → w'.rangeAt p (t * 13) (ckL c1)) (hKV : ∀ w', Fr no W w' → w'.cell? ⟨p, 351, none⟩ = some (.slice (some ⟨g, off, none⟩) n cc)) (hL2 : ∀ w', Fr no W w' → w'.rangeAt g (off + k * 15 + 2) (ckL c2)) (hT : ∀ w', Fr no W w' → w'.there p (t * 13) 13)
    (K : Act → World → Prop) (y2 y3 y4 y5 y6 y7 y9 y10 y11 y12 y13 y14 y15 y16 y17 y18 y19 y20 y21 y22 y23 y24 y25 y26 y27 y28 y29 y30 y31 y32 y33 y34 y35 : Value)
    (hQ : ∀ w', Fr no W w' → K ⟨(.pointer (some ⟨p, 0, none⟩) :: .int .i64 (t : Int) :: y2 :: y3 :: y4 :: y5 :: y6 :: y7 :: .int .i64 (k : Int) :: y9 :: y10 :: y11 :: y12 :: y13 :: y14 :: y15 :: .pointer (some ⟨p, 0, none⟩) :: .int .i64 (t : Int) :: .pointer (some ⟨p, 0, none⟩) :: .int .i64 (t : Int) :: .pointer (some ⟨p, 0, none⟩) :: .pointer (some ⟨p, 0, none⟩) :: .pointer (some ⟨p, t * 13, none⟩) :: ckV c1 :: .pointer (some ⟨p, 0, none⟩) :: .pointer (some ⟨p, 0, none⟩) :: .pointer (some ⟨p, 351, none⟩) :: .slice (some ⟨g, off, none⟩) n cc :: .int .i64 (k : Int) :: .pointer (some ⟨g, off + k * 15, none⟩) :: .pointer (some ⟨g, off + k * 15 + 2, none⟩) :: ckV c2 :: ckV (joinC c1 c2) :: .pointer (some ⟨p, 0, none⟩) :: .pointer (some ⟨p, 0, none⟩) :: .pointer (some ⟨p, t * 13, none⟩) :: []).toArray, []⟩ (w'.setCells p (t * 13) (ckL (joinC c1 c2)))) :
    Code.wp Try.prog reg19aC (Exit.then K (fun _ _ _ => False)) ⟨(.pointer (some ⟨p, 0, none⟩) :: .int .i64 (t : Int) :: y2 :: y3 :: y4 :: y5 :: y6 :: y7 :: .int .i64 (k : Int) :: y9 :: y10 :: y11 :: y12 :: y13 :: y14 :: y15 :: y16 :: y17 :: y18 :: y19 :: y20 :: y21 :: y22 :: y23 :: y24 :: y25 :: y26 :: y27 :: y28 :: y29 :: y30 :: y31 :: y32 :: y33 :: y34 :: y35 :: []).toArray, []⟩ W := by
  have HQ : Hid _ := hQ
  have HL1 : Hid _ := hL1
  have HL2 : Hid _ := hL2
  have HKV : Hid _ := hKV
  have HT : Hid _ := hT
  have f0 : Fr no W W.drew := (Fr.refl _ W).drew
  clear hQ hL1 hL2 hT hKV
  unfold reg19aC
  conv => arg 2; whnf
  refine late_begin (S := fun w' => Fr no W w') (g := 20) (by kernel_rfl) ?_
  refine lateP 0 (.pointer (some ⟨p, 0, none⟩)) rfl (fun _ => ev_move 0 _ rfl (by kernel_rfl)) (fun _ => f0) ?_
  refine lateP 1 (.int .i64 (t : Int)) rfl (fun _ => ev_move 1 _ rfl (by kernel_rfl)) (fun _ => f0) ?_
  refine lateP 2 (.pointer (some ⟨p, 0, none⟩)) rfl (fun _ => ev_move 0 _ rfl (by kernel_rfl)) (fun _ => f0) ?_
  refine lateP 3 (.int .i64 (t : Int)) rfl (fun _ => ev_move 1 _ rfl (by kernel_rfl)) (fun _ => f0) ?_
  refine lateN (true :: true :: true :: true :: false :: false :: false :: false :: false :: false :: false :: false :: false :: false :: false :: false :: false :: false :: false :: false :: false :: []).toArray ⟨(.pointer (some ⟨p, 0, none⟩) :: .int .i64 (t : Int) :: y2 :: y3 :: y4 :: y5 :: y6 :: y7 :: .int .i64 (k : Int) :: y9 :: y10 :: y11 :: y12 :: y13 :: y14 :: y15 :: .pointer (some ⟨p, 0, none⟩) :: .int .i64 (t : Int) :: .pointer (some ⟨p, 0, none⟩) :: .int .i64 (t : Int) :: y20 :: y21 :: y22 :: y23 :: y24 :: y25 :: y26 :: y27 :: y28 :: y29 :: y30 :: y31 :: y32 :: y33 :: y34 :: y35 :: []).toArray, []⟩ ?_
  refine lateP 4 (.pointer (some ⟨p, 0, none⟩)) rfl (fun _ => ev_nil 18 ⟨p, 0, none⟩ rfl (by kernel_rfl)) (fun _ => f0) ?_
  refine lateN (true :: true :: true :: true :: true :: false :: false :: false :: false :: false :: false :: false :: false :: false :: false :: false :: false :: false :: false :: false :: false :: []).toArray ⟨(.pointer (some ⟨p, 0, none⟩) :: .int .i64 (t : Int) :: y2 :: y3 :: y4 :: y5 :: y6 :: y7 :: .int .i64 (k : Int) :: y9 :: y10 :: y11 :: y12 :: y13 :: y14 :: y15 :: .pointer (some ⟨p, 0, none⟩) :: .int .i64 (t : Int) :: .pointer (some ⟨p, 0, none⟩) :: .int .i64 (t : Int) :: .pointer (some ⟨p, 0, none⟩) :: y21 :: y22 :: y23 :: y24 :: y25 :: y26 :: y27 :: y28 :: y29 :: y30 :: y31 :: y32 :: y33 :: y34 :: y35 :: []).toArray, []⟩ ?_
  refine lateP 5 (.pointer (some ⟨p, 0, none⟩)) rfl (fun _ => ev_field 42 20 0 (.pointer (some ⟨p, 0, none⟩)) _ rfl (by kernel_rfl) (by kernel_rfl)) (fun _ => f0) ?_
  refine lateN (true :: true :: true :: true :: true :: true :: false :: false :: false :: false :: false :: false :: false :: false :: false :: false :: false :: false :: false :: false :: false :: []).toArray ⟨(.pointer (some ⟨p, 0, none⟩) :: .int .i64 (t : Int) :: y2 :: y3 :: y4 :: y5 :: y6 :: y7 :: .int .i64 (k : Int) :: y9 :: y10 :: y11 :: y12 :: y13 :: y14 :: y15 :: .pointer (some ⟨p, 0, none⟩) :: .int .i64 (t : Int) :: .pointer (some ⟨p, 0, none⟩) :: .int .i64 (t : Int) :: .pointer (some ⟨p, 0, none⟩) :: .pointer (some ⟨p, 0, none⟩) :: y22 :: y23 :: y24 :: y25 :: y26 :: y27 :: y28 :: y29 :: y30 :: y31 :: y32 :: y33 :: y34 :: y35 :: []).toArray, []⟩ ?_
  refine lateP 6 (.pointer (some ⟨p, t * 13, none⟩)) rfl (fun _ => ev_index 37 21 19 (.pointer (some ⟨p, 0, none⟩)) (.int .i64 (t : Int)) _ rfl (by kernel_rfl) (by kernel_rfl) (idx37 ht)) (fun _ => f0) ?_
  refine lateN (true :: true :: true :: true :: true :: true :: true :: false :: false :: false :: false :: false :: false :: false :: false :: false :: false :: false :: false :: false :: false :: []).toArray ⟨(.pointer (some ⟨p, 0, none⟩) :: .int .i64 (t : Int) :: y2 :: y3 :: y4 :: y5 :: y6 :: y7 :: .int .i64 (k : Int) :: y9 :: y10 :: y11 :: y12 :: y13 :: y14 :: y15 :: .pointer (some ⟨p, 0, none⟩) :: .int .i64 (t : Int) :: .pointer (some ⟨p, 0, none⟩) :: .int .i64 (t : Int) :: .pointer (some ⟨p, 0, none⟩) :: .pointer (some ⟨p, 0, none⟩) :: .pointer (some ⟨p, t * 13, none⟩) :: y23 :: y24 :: y25 :: y26 :: y27 :: y28 :: y29 :: y30 :: y31 :: y32 :: y33 :: y34 :: y35 :: []).toArray, []⟩ ?_
  refine lateT 7 (ckV c1) rfl (fun wz hz => ev_load 36 22 (.pointer (some ⟨p, t * 13, none⟩)) (ckV c1) rfl (by kernel_rfl) (ld_ck (HL1.out wz hz))) f0 ?_
  refine lateN (true :: true :: true :: true :: true :: true :: true :: true :: false :: false :: false :: false :: false :: false :: false :: false :: false :: false :: false :: false :: false :: []).toArray ⟨(.pointer (some ⟨p, 0, none⟩) :: .int .i64 (t : Int) :: y2 :: y3 :: y4 :: y5 :: y6 :: y7 :: .int .i64 (k : Int) :: y9 :: y10 :: y11 :: y12 :: y13 :: y14 :: y15 :: .pointer (some ⟨p, 0, none⟩) :: .int .i64 (t : Int) :: .pointer (some ⟨p, 0, none⟩) :: .int .i64 (t : Int) :: .pointer (some ⟨p, 0, none⟩) :: .pointer (some ⟨p, 0, none⟩) :: .pointer (some ⟨p, t * 13, none⟩) :: ckV c1 :: y24 :: y25 :: y26 :: y27 :: y28 :: y29 :: y30 :: y31 :: y32 :: y33 :: y34 :: y35 :: []).toArray, []⟩ ?_
  refine lateP 8 (.pointer (some ⟨p, 0, none⟩)) rfl (fun _ => ev_move 0 _ rfl (by kernel_rfl)) (fun _ => f0) ?_
  refine lateP 12 (.int .i64 (k : Int)) rfl (fun _ => ev_move 8 _ rfl (by kernel_rfl)) (fun _ => f0) ?_
  refine lateN (true :: true :: true :: true :: true :: true :: true :: true :: true :: false :: false :: false :: true :: false :: false :: false :: false :: false :: false :: false :: false :: []).toArray ⟨(.pointer (some ⟨p, 0, none⟩) :: .int .i64 (t : Int) :: y2 :: y3 :: y4 :: y5 :: y6 :: y7 :: .int .i64 (k : Int) :: y9 :: y10 :: y11 :: y12 :: y13 :: y14 :: y15 :: .pointer (some ⟨p, 0, none⟩) :: .int .i64 (t : Int) :: .pointer (some ⟨p, 0, none⟩) :: .int .i64 (t : Int) :: .pointer (some ⟨p, 0, none⟩) :: .pointer (some ⟨p, 0, none⟩) :: .pointer (some ⟨p, t * 13, none⟩) :: ckV c1 :: .pointer (some ⟨p, 0, none⟩) :: y25 :: y26 :: y27 :: .int .i64 (k : Int) :: y29 :: y30 :: y31 :: y32 :: y33 :: y34 :: y35 :: []).toArray, []⟩ ?_
  refine lateP 9 (.pointer (some ⟨p, 0, none⟩)) rfl (fun _ => ev_nil 24 ⟨p, 0, none⟩ rfl (by kernel_rfl)) (fun _ => f0) ?_
  refine lateN (true :: true :: true :: true :: true :: true :: true :: true :: true :: true :: false :: false :: true :: false :: false :: false :: false :: false :: false :: false :: false :: []).toArray ⟨(.pointer (some ⟨p, 0, none⟩) :: .int .i64 (t : Int) :: y2 :: y3 :: y4 :: y5 :: y6 :: y7 :: .int .i64 (k : Int) :: y9 :: y10 :: y11 :: y12 :: y13 :: y14 :: y15 :: .pointer (some ⟨p, 0, none⟩) :: .int .i64 (t : Int) :: .pointer (some ⟨p, 0, none⟩) :: .int .i64 (t : Int) :: .pointer (some ⟨p, 0, none⟩) :: .pointer (some ⟨p, 0, none⟩) :: .pointer (some ⟨p, t * 13, none⟩) :: ckV c1 :: .pointer (some ⟨p, 0, none⟩) :: .pointer (some ⟨p, 0, none⟩) :: y26 :: y27 :: .int .i64 (k : Int) :: y29 :: y30 :: y31 :: y32 :: y33 :: y34 :: y35 :: []).toArray, []⟩ ?_
  refine lateP 10 (.pointer (some ⟨p, 351, none⟩)) rfl (fun _ => ev_field 42 25 3 (.pointer (some ⟨p, 0, none⟩)) _ rfl (by kernel_rfl) (by kernel_rfl)) (fun _ => f0) ?_
  refine lateN (true :: true :: true :: true :: true :: true :: true :: true :: true :: true :: true :: false :: true :: false :: false :: false :: false :: false :: false :: false :: false :: []).toArray ⟨(.pointer (some ⟨p, 0, none⟩) :: .int .i64 (t : Int) :: y2 :: y3 :: y4 :: y5 :: y6 :: y7 :: .int .i64 (k : Int) :: y9 :: y10 :: y11 :: y12 :: y13 :: y14 :: y15 :: .pointer (some ⟨p, 0, none⟩) :: .int .i64 (t : Int) :: .pointer (some ⟨p, 0, none⟩) :: .int .i64 (t : Int) :: .pointer (some ⟨p, 0, none⟩) :: .pointer (some ⟨p, 0, none⟩) :: .pointer (some ⟨p, t * 13, none⟩) :: ckV c1 :: .pointer (some ⟨p, 0, none⟩) :: .pointer (some ⟨p, 0, none⟩) :: .pointer (some ⟨p, 351, none⟩) :: y27 :: .int .i64 (k : Int) :: y29 :: y30 :: y31 :: y32 :: y33 :: y34 :: y35 :: []).toArray, []⟩ ?_
  refine lateT 11 (.slice (some ⟨g, off, none⟩) n cc) rfl (fun wz hz => ev_load 39 26 (.pointer (some ⟨p, 351, none⟩)) (.slice (some ⟨g, off, none⟩) n cc) rfl (by kernel_rfl) (ld39 (HKV.out wz hz))) f0 ?_
  refine lateN (true :: true :: true :: true :: true :: true :: true :: true :: true :: true :: true :: true :: true :: false :: false :: false :: false :: false :: false :: false :: false :: []).toArray ⟨(.pointer (some ⟨p, 0, none⟩) :: .int .i64 (t : Int) :: y2 :: y3 :: y4 :: y5 :: y6 :: y7 :: .int .i64 (k : Int) :: y9 :: y10 :: y11 :: y12 :: y13 :: y14 :: y15 :: .pointer (some ⟨p, 0, none⟩) :: .int .i64 (t : Int) :: .pointer (some ⟨p, 0, none⟩) :: .int .i64 (t : Int) :: .pointer (some ⟨p, 0, none⟩) :: .pointer (some ⟨p, 0, none⟩) :: .pointer (some ⟨p, t * 13, none⟩) :: ckV c1 :: .pointer (some ⟨p, 0, none⟩) :: .pointer (some ⟨p, 0, none⟩) :: .pointer (some ⟨p, 351, none⟩) :: .slice (some ⟨g, off, none⟩) n cc :: .int .i64 (k : Int) :: y29 :: y30 :: y31 :: y32 :: y33 :: y34 :: y35 :: []).toArray, []⟩ ?_
  refine lateP 13 (.pointer (some ⟨g, off + k * 15, none⟩)) rfl (fun _ => ev_index 39 27 28 (.slice (some ⟨g, off, none⟩) n cc) (.int .i64 (k : Int)) _ rfl (by kernel_rfl) (by kernel_rfl) (idx39 hk)) (fun _ => f0) ?_
  refine lateN (true :: true :: true :: true :: true :: true :: true :: true :: true :: true :: true :: true :: true :: true :: false :: false :: false :: false :: false :: false :: false :: []).toArray ⟨(.pointer (some ⟨p, 0, none⟩) :: .int .i64 (t : Int) :: y2 :: y3 :: y4 :: y5 :: y6 :: y7 :: .int .i64 (k : Int) :: y9 :: y10 :: y11 :: y12 :: y13 :: y14 :: y15 :: .pointer (some ⟨p, 0, none⟩) :: .int .i64 (t : Int) :: .pointer (some ⟨p, 0, none⟩) :: .int .i64 (t : Int) :: .pointer (some ⟨p, 0, none⟩) :: .pointer (some ⟨p, 0, none⟩) :: .pointer (some ⟨p, t * 13, none⟩) :: ckV c1 :: .pointer (some ⟨p, 0, none⟩) :: .pointer (some ⟨p, 0, none⟩) :: .pointer (some ⟨p, 351, none⟩) :: .slice (some ⟨g, off, none⟩) n cc :: .int .i64 (k : Int) :: .pointer (some ⟨g, off + k * 15, none⟩) :: y30 :: y31 :: y32 :: y33 :: y34 :: y35 :: []).toArray, []⟩ ?_
  refine lateP 14 (.pointer (some ⟨g, off + k * 15 + 2, none⟩)) rfl (fun _ => ev_field 70 29 2 (.pointer (some ⟨g, off + k * 15, none⟩)) _ rfl (by kernel_rfl) (by kernel_rfl)) (fun _ => f0) ?_
  refine lateN (true :: true :: true :: true :: true :: true :: true :: true :: true :: true :: true :: true :: true :: true :: true :: false :: false :: false :: false :: false :: false :: []).toArray ⟨(.pointer (some ⟨p, 0, none⟩) :: .int .i64 (t : Int) :: y2 :: y3 :: y4 :: y5 :: y6 :: y7 :: .int .i64 (k : Int) :: y9 :: y10 :: y11 :: y12 :: y13 :: y14 :: y15 :: .pointer (some ⟨p, 0, none⟩) :: .int .i64 (t : Int) :: .pointer (some ⟨p, 0, none⟩) :: .int .i64 (t : Int) :: .pointer (some ⟨p, 0, none⟩) :: .pointer (some ⟨p, 0, none⟩) :: .pointer (some ⟨p, t * 13, none⟩) :: ckV c1 :: .pointer (some ⟨p, 0, none⟩) :: .pointer (some ⟨p, 0, none⟩) :: .pointer (some ⟨p, 351, none⟩) :: .slice (some ⟨g, off, none⟩) n cc :: .int .i64 (k : Int) :: .pointer (some ⟨g, off + k * 15, none⟩) :: .pointer (some ⟨g, off + k * 15 + 2, none⟩) :: y31 :: y32 :: y33 :: y34 :: y35 :: []).toArray, []⟩ ?_
  refine lateT 15 (ckV c2) rfl (fun wz hz => ev_load 36 30 (.pointer (some ⟨g, off + k * 15 + 2, none⟩)) (ckV c2) rfl (by kernel_rfl) (ld_ck (HL2.out wz hz))) f0 ?_
  refine lateN (true :: true :: true :: true :: true :: true :: true :: true :: true :: true :: true :: true :: true :: true :: true :: true :: false :: false :: false :: false :: false :: []).toArray ⟨(.pointer (some ⟨p, 0, none⟩) :: .int .i64 (t : Int) :: y2 :: y3 :: y4 :: y5 :: y6 :: y7 :: .int .i64 (k : Int) :: y9 :: y10 :: y11 :: y12 :: y13 :: y14 :: y15 :: .pointer (some ⟨p, 0, none⟩) :: .int .i64 (t : Int) :: .pointer (some ⟨p, 0, none⟩) :: .int .i64 (t : Int) :: .pointer (some ⟨p, 0, none⟩) :: .pointer (some ⟨p, 0, none⟩) :: .pointer (some ⟨p, t * 13, none⟩) :: ckV c1 :: .pointer (some ⟨p, 0, none⟩) :: .pointer (some ⟨p, 0, none⟩) :: .pointer (some ⟨p, 351, none⟩) :: .slice (some ⟨g, off, none⟩) n cc :: .int .i64 (k : Int) :: .pointer (some ⟨g, off + k * 15, none⟩) :: .pointer (some ⟨g, off + k * 15 + 2, none⟩) :: ckV c2 :: y32 :: y33 :: y34 :: y35 :: []).toArray, []⟩ ?_
  refine lateP 17 (.pointer (some ⟨p, 0, none⟩)) rfl (fun _ => ev_nil 16 ⟨p, 0, none⟩ rfl (by kernel_rfl)) (fun _ => f0) ?_
  refine lateN (true :: true :: true :: true :: true :: true :: true :: true :: true :: true :: true :: true :: true :: true :: true :: true :: false :: true :: false :: false :: false :: []).toArray ⟨(.pointer (some ⟨p, 0, none⟩) :: .int .i64 (t : Int) :: y2 :: y3 :: y4 :: y5 :: y6 :: y7 :: .int .i64 (k : Int) :: y9 :: y10 :: y11 :: y12 :: y13 :: y14 :: y15 :: .pointer (some ⟨p, 0, none⟩) :: .int .i64 (t : Int) :: .pointer (some ⟨p, 0, none⟩) :: .int .i64 (t : Int) :: .pointer (some ⟨p, 0, none⟩) :: .pointer (some ⟨p, 0, none⟩) :: .pointer (some ⟨p, t * 13, none⟩) :: ckV c1 :: .pointer (some ⟨p, 0, none⟩) :: .pointer (some ⟨p, 0, none⟩) :: .pointer (some ⟨p, 351, none⟩) :: .slice (some ⟨g, off, none⟩) n cc :: .int .i64 (k : Int) :: .pointer (some ⟨g, off + k * 15, none⟩) :: .pointer (some ⟨g, off + k * 15 + 2, none⟩) :: ckV c2 :: y32 :: .pointer (some ⟨p, 0, none⟩) :: y34 :: y35 :: []).toArray, []⟩ ?_
  refine lateP 18 (.pointer (some ⟨p, 0, none⟩)) rfl (fun _ => ev_field 42 33 0 (.pointer (some ⟨p, 0, none⟩)) _ rfl (by kernel_rfl) (by kernel_rfl)) (fun _ => f0) ?_
  refine lateN (true :: true :: true :: true :: true :: true :: true :: true :: true :: true :: true :: true :: true :: true :: true :: true :: false :: true :: true :: false :: false :: []).toArray ⟨(.pointer (some ⟨p, 0, none⟩) :: .int .i64 (t : Int) :: y2 :: y3 :: y4 :: y5 :: y6 :: y7 :: .int .i64 (k : Int) :: y9 :: y10 :: y11 :: y12 :: y13 :: y14 :: y15 :: .pointer (some ⟨p, 0, none⟩) :: .int .i64 (t : Int) :: .pointer (some ⟨p, 0, none⟩) :: .int .i64 (t : Int) :: .pointer (some ⟨p, 0, none⟩) :: .pointer (some ⟨p, 0, none⟩) :: .pointer (some ⟨p, t * 13, none⟩) :: ckV c1 :: .pointer (some ⟨p, 0, none⟩) :: .pointer (some ⟨p, 0, none⟩) :: .pointer (some ⟨p, 351, none⟩) :: .slice (some ⟨g, off, none⟩) n cc :: .int .i64 (k : Int) :: .pointer (some ⟨g, off + k * 15, none⟩) :: .pointer (some ⟨g, off + k * 15 + 2, none⟩) :: ckV c2 :: y32 :: .pointer (some ⟨p, 0, none⟩) :: .pointer (some ⟨p, 0, none⟩) :: y35 :: []).toArray, []⟩ ?_
  refine late_all [16] (by kernel_rfl) (by simp) (fun jj hjj => ?_)
  simp only [List.mem_singleton] at hjj
  subst hjj
  refine late_call rfl rfl (by kernel_rfl) ((join_any W.drew c1 c2 hb1 hb2).mono fun e w' h => (⟨_, h.1, rfl, h.2⟩ : ∃ v, e = .returned v ∧ (v = ckV (joinC c1 c2) ∧ Fr no W.drew w'))) ?_
  rintro v w1 ⟨rfl, F1⟩
  have f1 : Fr no W w1 := f0.and F1
  refine ⟨fun _ => f1, ?_⟩
  refine lateN (true :: true :: true :: true :: true :: true :: true :: true :: true :: true :: true :: true :: true :: true :: true :: true :: true :: true :: true :: false :: false :: []).toArray ⟨(.pointer (some ⟨p, 0, none⟩) :: .int .i64 (t : Int) :: y2 :: y3 :: y4 :: y5 :: y6 :: y7 :: .int .i64 (k : Int) :: y9 :: y10 :: y11 :: y12 :: y13 :: y14 :: y15 :: .pointer (some ⟨p, 0, none⟩) :: .int .i64 (t : Int) :: .pointer (some ⟨p, 0, none⟩) :: .int .i64 (t : Int) :: .pointer (some ⟨p, 0, none⟩) :: .pointer (some ⟨p, 0, none⟩) :: .pointer (some ⟨p, t * 13, none⟩) :: ckV c1 :: .pointer (some ⟨p, 0, none⟩) :: .pointer (some ⟨p, 0, none⟩) :: .pointer (some ⟨p, 351, none⟩) :: .slice (some ⟨g, off, none⟩) n cc :: .int .i64 (k : Int) :: .pointer (some ⟨g, off + k * 15, none⟩) :: .pointer (some ⟨g, off + k * 15 + 2, none⟩) :: ckV c2 :: ckV (joinC c1 c2) :: .pointer (some ⟨p, 0, none⟩) :: .pointer (some ⟨p, 0, none⟩) :: y35 :: []).toArray, []⟩ ?_
  refine lateP 19 (.pointer (some ⟨p, t * 13, none⟩)) rfl (fun _ => ev_index 37 34 17 (.pointer (some ⟨p, 0, none⟩)) (.int .i64 (t : Int)) _ rfl (by kernel_rfl) (by kernel_rfl) (idx37 ht)) (fun _ => f1) ?_
  refine lateN (true :: true :: true :: true :: true :: true :: true :: true :: true :: true :: true :: true :: true :: true :: true :: true :: true :: true :: true :: true :: false :: []).toArray ⟨(.pointer (some ⟨p, 0, none⟩) :: .int .i64 (t : Int) :: y2 :: y3 :: y4 :: y5 :: y6 :: y7 :: .int .i64 (k : Int) :: y9 :: y10 :: y11 :: y12 :: y13 :: y14 :: y15 :: .pointer (some ⟨p, 0, none⟩) :: .int .i64 (t : Int) :: .pointer (some ⟨p, 0, none⟩) :: .int .i64 (t : Int) :: .pointer (some ⟨p, 0, none⟩) :: .pointer (some ⟨p, 0, none⟩) :: .pointer (some ⟨p, t * 13, none⟩) :: ckV c1 :: .pointer (some ⟨p, 0, none⟩) :: .pointer (some ⟨p, 0, none⟩) :: .pointer (some ⟨p, 351, none⟩) :: .slice (some ⟨g, off, none⟩) n cc :: .int .i64 (k : Int) :: .pointer (some ⟨g, off + k * 15, none⟩) :: .pointer (some ⟨g, off + k * 15 + 2, none⟩) :: ckV c2 :: ckV (joinC c1 c2) :: .pointer (some ⟨p, 0, none⟩) :: .pointer (some ⟨p, 0, none⟩) :: .pointer (some ⟨p, t * 13, none⟩) :: []).toArray, []⟩ ?_
  refine late_all [20] (by kernel_rfl) (by simp) (fun jj hjj => ?_)
  simp only [List.mem_singleton] at hjj
  subst hjj
  refine late_skip rfl (by kernel_rfl) (ev_store 36 35 32 (.pointer (some ⟨p, t * 13, none⟩)) (ckV (joinC c1 c2)) _ rfl (by kernel_rfl) (by kernel_rfl) (st_ck (joinC c1 c2) (HT.out w1 f1))) ?_
  refine ⟨fun h => by simp at h, ?_⟩
  refine lateN (true :: true :: true :: true :: true :: true :: true :: true :: true :: true :: true :: true :: true :: true :: true :: true :: true :: true :: true :: true :: true :: []).toArray ⟨(.pointer (some ⟨p, 0, none⟩) :: .int .i64 (t : Int) :: y2 :: y3 :: y4 :: y5 :: y6 :: y7 :: .int .i64 (k : Int) :: y9 :: y10 :: y11 :: y12 :: y13 :: y14 :: y15 :: .pointer (some ⟨p, 0, none⟩) :: .int .i64 (t : Int) :: .pointer (some ⟨p, 0, none⟩) :: .int .i64 (t : Int) :: .pointer (some ⟨p, 0, none⟩) :: .pointer (some ⟨p, 0, none⟩) :: .pointer (some ⟨p, t * 13, none⟩) :: ckV c1 :: .pointer (some ⟨p, 0, none⟩) :: .pointer (some ⟨p, 0, none⟩) :: .pointer (some ⟨p, 351, none⟩) :: .slice (some ⟨g, off, none⟩) n cc :: .int .i64 (k : Int) :: .pointer (some ⟨g, off + k * 15, none⟩) :: .pointer (some ⟨g, off + k * 15 + 2, none⟩) :: ckV c2 :: ckV (joinC c1 c2) :: .pointer (some ⟨p, 0, none⟩) :: .pointer (some ⟨p, 0, none⟩) :: .pointer (some ⟨p, t * 13, none⟩) :: []).toArray, []⟩ ?_
  refine late_done (by kernel_rfl) ?_
  exact HQ.out w1 f1

def BK (ks : List Kp) (M : Int) : Prop := ∀ x ∈ ks, ∀ j, 0 ≤ x.c j ∧ x.c j ≤ M
theorem BK.mono {ks : List Kp} {M N : Int} (h : BK ks M) (hMN : M ≤ N) : BK ks N := fun x hx j => by have := h x hx j; omega
def kGet (ks : List Kp) (a i : Int) : Kp := (kAdd ks a i)[kAt ks a i]?.getD ⟨a, i, fun _ => 0⟩
theorem kGet_some (ks : List Kp) (a i : Int) : (kAdd ks a i)[kAt ks a i]? = some (kGet ks a i) := by
  unfold kGet
  have hle : kAt ks a i ≤ ks.length := List.findIdx_le_length
  have hlt : kAt ks a i < (kAdd ks a i).length := by
    unfold kAdd
    split
    · assumption
    · simp; omega
  rw [List.getElem?_eq_getElem hlt]
  rfl
theorem BK.add {ks : List Kp} {M : Int} (h : BK ks M) (hM : 0 ≤ M) (a i : Int) : BK (kAdd ks a i) M := by
  unfold kAdd
  split
  · exact h
  · intro x hx j
    rcases List.mem_append.1 hx with hx | hx
    · exact h x hx j
    · simp only [List.mem_singleton] at hx
      subst hx
      exact ⟨Int.le_refl 0, hM⟩
theorem BK.get {ks : List Kp} {M : Int} (h : BK ks M) (hM : 0 ≤ M) (a i : Int) (j : Nat) : 0 ≤ (kGet ks a i).c j ∧ (kGet ks a i).c j ≤ M :=
  (h.add hM a i) _ (List.mem_of_getElem? (kGet_some ks a i)) j
theorem kp_range {w : World} {o : Option Addr} {n c : Nat} {l : List Kp} (h : OwnG elP w (.slice o n c) l) {k : Nat} {x : Kp} (hx : l[k]? = some x) :
    ∃ g off, o = some ⟨g, off, none⟩ ∧ n = l.length ∧ w.rangeAt g (off + k * 15 + 2) (ckL x.c) := by
  obtain ⟨g, off, rfl, rfl, hc⟩ := el_cells elP_ok h hx
  refine ⟨g, off, rfl, rfl, fun j u hu => ?_⟩
  have := hc (2 + j) u (by
    show (([.int .i64 x.at_, .int .i64 x.i] : List Value) ++ ckL x.c)[2 + j]? = some u
    rw [List.getElem?_append_right (by simp)]
    simpa using hu)
  rw [show off + k * 15 + 2 + j = off + k * elP.n + (2 + j) by show _ = off + k * 15 + (2 + j); omega]
  exact this
/-- Acquire. -/
def acqW (T : Wt) (ks : List Kp) (t a i : Int) : Wt := if isB t then joinW T t.toNat (kGet ks a i).c else T
def acqK (ks : List Kp) (t a i : Int) : List Kp := if isB t then kAdd ks a i else ks
set_option maxRecDepth 100000 in
set_option maxHeartbeats 1000000 in
theorem acquire_any (w : World) (p : Nat) (T : Wt) (ks : List Kp) (as' : List Ac) (n : Int) (h : RW w p T ks as' n) (hB : BW T 900000) (hK : BK ks 900000) (hk : ks.length ≤ 1000) (t a i : Int) :
    Calls Try.prog 19 #[.pointer (some ⟨p, 0, none⟩), .int .i64 t, .int .i64 a, .int .i64 i] w fun e w' => e = .returned (.tuple #[]) ∧ RW w' p (acqW T ks t a i) (acqK ks t a i) as' n ∧ Fr (TD T.c w) w w' := by
  have IS := is_any
  have H : Hid _ := h
  clear h
  cases h1 : isB t
  · have hT : acqW T ks t a i = T := by unfold acqW; rw [h1, if_neg Bool.false_ne_true]
    have hT2 : acqK ks t a i = ks := by unfold acqK; rw [h1, if_neg Bool.false_ne_true]
    rw [hT, hT2]
    clear hT hT2
    have I1 := IS w t
    rw [h1] at I1
    clear IS h1
    go_enter Try.func19, Try.ntmps19
    go_wp2_with fail
    refine I1.mono ?_
    rintro _ _ ⟨rfl, rfl⟩
    go_wp2_with fail
    refine bodyPost_ret (results_none rfl _ _ _) rfl ?_
    exact ⟨rfl, H.out, Fr.refl _ _⟩
  · have hT : acqW T ks t a i = joinW T t.toNat (kGet ks a i).c := by unfold acqW; rw [h1]; rfl
    have hT2 : acqK ks t a i = kAdd ks a i := by unfold acqK; rw [h1]; rfl
    rw [hT, hT2]
    clear hT hT2
    have I1 := IS w t
    rw [h1] at I1
    obtain ⟨tn, rfl, ht, -⟩ := isB_nat h1
    clear IS h1
    simp only [Int.toNat_natCast]
    have HG : Hid _ := kGet_some ks a i
    have HBG : Hid (∀ j, 0 ≤ (kGet ks a i).c j ∧ (kGet ks a i).c j ≤ 900000) := fun j => hK.get (by omega) a i j
    have I2 := find_any w p T ks as' n H.out hk a i
    generalize hR : kAt ks a i = R at *
    generalize hS : kAdd ks a i = S at *
    generalize hX : kGet ks a i = X at *
    clear hR hS hX hK hk
    go_enter Try.func19, Try.ntmps19
    go_wp2_with fail
    refine I1.mono ?_
    rintro _ w0 ⟨rfl, rfl⟩
    go_wp2_with fail
    refine I2.mono ?_
    rintro _ wq ⟨rfl, R1, F1⟩
    go_upto_region 2 with fail
    obtain ⟨kv, ck, hO⟩ := R1.kept
    obtain ⟨oo, cc, rfl⟩ := hO.form
    obtain ⟨g, off, rfl, -, hr⟩ := kp_range hO HG.out
    have hlt : R < S.length := (List.getElem?_eq_some_iff.1 HG.out).1
    refine use_then ?_ (fun _ _ h => h)
    refine reg19a wq p tn g off S.length cc R ht hlt (T.now tn) X.c (hB.bn (by omega) tn) (fun j => ⟨(HBG.out j).1, by have := (HBG.out j).2; omega⟩) (fun w' f => (R1.keep f).now_ tn ht) (fun w' f => f.cell ck (fun f => f)) (fun w' f => rangeAt_fr hr f (fun f => f)) (fun w' f => (R1.keep f).there _ _ (by omega)) _ _ _ _ _ _ _ _ _ _ _ _ _ _ _ _ _ _ _ _ _ _ _ _ _ _ _ _ _ _ _ _ _ _ ?_
    intro w2 F2
    have R2 : RW _ p (joinW T tn X.c) S as' n := (R1.keep F2).setNow ht (joinC (T.now tn) X.c)
    have FF : Fr (TD T.c w0) w0 (w2.setCells p (tn * 13) (ckL (joinC (T.now tn) X.c))) := F1.tk ((R1.td (F2.tob.bk (fr_sets _ _ _ _))))
    have HF : Hid (_ ∧ _) := ⟨R2, FF⟩
    clear R2 FF F2 R1 F1 hr hO ck
    go_end0
    exact ⟨rfl, HF.out.1, HF.out.2⟩
end Go.Proofs.Ytnineggppoipiaa
