/- The document's watch: Begin. -/
import Derived.Test.YtnineggppoipiaaRb
namespace Go.Proofs.Ytnineggppoipiaa
open Go.ChangeShapes Go.WideShapes Go.ChangeAt Go.RowKit

theorem idx37 {w : World} {p t : Nat} (h : t < 13) : (Instr.indexAt 37 (.pointer (some ⟨p, 0, none⟩)) (.int .i64 (t : Int))).run Try.prog w = .ok (.pointer (some ⟨p, t * 13, none⟩)) w := by
  have h0 : (0 : Int) ≤ (t : Int) := by omega
  have h1 : (t : Int) < 13 := by omega
  simp [go_sem, h0, h1]
theorem idx37f {w : World} {p t : Nat} (h : t < 13) : (Instr.indexAt 37 (.pointer (some ⟨p, 169, none⟩)) (.int .i64 (t : Int))).run Try.prog w = .ok (.pointer (some ⟨p, 169 + t * 13, none⟩)) w := by
  have h0 : (0 : Int) ≤ (t : Int) := by omega
  have h1 : (t : Int) < 13 := by omega
  simp [go_sem, h0, h1]
theorem idx38 {w : World} {p t : Nat} (h : t < 13) : (Instr.indexAt 38 (.pointer (some ⟨p, 338, none⟩)) (.int .i64 (t : Int))).run Try.prog w = .ok (.pointer (some ⟨p, 338 + t, none⟩)) w := by
  have h0 : (0 : Int) ≤ (t : Int) := by omega
  have h1 : (t : Int) < 13 := by omega
  simp [go_sem, h0, h1]
theorem use_then {c : Code} {K : Act → World → Prop} {Q : Exit → Act → World → Prop} {a : Act} {w : World} (h : Code.wp Try.prog c (Exit.then K (fun _ _ _ => False)) a w) (hk : ∀ a w, K a w → Q .normal a w) : Code.wp Try.prog c Q a w :=
  Code.wp_mono (fun e a w he => by cases e <;> first | exact hk _ _ he | exact False.elim he) h
def regionOf (n : Nat) : Code → Option Code
  | .region m o b => if m = n then some (.region m o b) else none
  | .block _ c => regionOf n c
  | .seq a b => match regionOf n a with
    | some c => some c
    | none => regionOf n b
  | .cond _ a b => match regionOf n a with
    | some c => some c
    | none => regionOf n b
  | .loop c => regionOf n c
  | .scope c => regionOf n c
  | _ => none
theorem joinC_bd {a b : Nat → Int} (ha : Bd a) (hb : Bd b) : Bd (joinC a b) := fun j => by
  have h1 := ha j
  have h2 := hb j
  unfold joinC
  omega

noncomputable def reg13jC : Code := ((Try.f13.body.bind (regionOf 2)).getD .skip)

set_option maxRecDepth 100000 in
theorem reg13j (W : World) (p t b : Nat) (ht : t < 13) (hb : b < 13) (c1 c2 : Nat → Int) (hb1 : Bd c1) (hb2 : Bd c2)
    (hL1 : ∀ w', Fr no W w' → w'.rangeAt p (t * 13) (ckL c1)) (hL2 : ∀ w', Fr no W w' → w'.rangeAt p (b * 13) (ckL c2)) (hT : ∀ w', Fr no W w' → w'.there p (t * 13) 13)
    (K : Act → World → Prop) (y3 y4 y5 y6 y7 y8 y9 y10 y11 y12 y13 y14 y15 y16 y17 y18 y19 y20 y21 y22 y23 y24 y25 y26 y27 y28 y29 y30 y31 y32 y33 y34 y35 y36 y37 y38 y39 y40 y41 y42 y43 y44 y45 y46 y47 y48 y49 y50 : Value)
    (hQ : ∀ w', Fr no W w' → K ⟨(.pointer (some ⟨p, 0, none⟩) :: .int .i64 (t : Int) :: .int .i64 (b : Int) :: y3 :: y4 :: y5 :: y6 :: y7 :: y8 :: y9 :: y10 :: y11 :: y12 :: y13 :: y14 :: y15 :: y16 :: y17 :: y18 :: y19 :: .pointer (some ⟨p, 0, none⟩) :: .int .i64 (t : Int) :: .pointer (some ⟨p, 0, none⟩) :: .int .i64 (t : Int) :: .pointer (some ⟨p, 0, none⟩) :: .pointer (some ⟨p, 0, none⟩) :: .pointer (some ⟨p, t * 13, none⟩) :: ckV c1 :: .pointer (some ⟨p, 0, none⟩) :: .int .i64 (b : Int) :: .pointer (some ⟨p, 0, none⟩) :: .pointer (some ⟨p, 0, none⟩) :: .pointer (some ⟨p, b * 13, none⟩) :: ckV c2 :: ckV (joinC c1 c2) :: .pointer (some ⟨p, 0, none⟩) :: .pointer (some ⟨p, 0, none⟩) :: .pointer (some ⟨p, t * 13, none⟩) :: y38 :: y39 :: y40 :: y41 :: y42 :: y43 :: y44 :: y45 :: y46 :: y47 :: y48 :: y49 :: y50 :: []).toArray, []⟩ (w'.setCells p (t * 13) (ckL (joinC c1 c2)))) :
    Code.wp Try.prog reg13jC (Exit.then K (fun _ _ _ => False)) ⟨(.pointer (some ⟨p, 0, none⟩) :: .int .i64 (t : Int) :: .int .i64 (b : Int) :: y3 :: y4 :: y5 :: y6 :: y7 :: y8 :: y9 :: y10 :: y11 :: y12 :: y13 :: y14 :: y15 :: y16 :: y17 :: y18 :: y19 :: y20 :: y21 :: y22 :: y23 :: y24 :: y25 :: y26 :: y27 :: y28 :: y29 :: y30 :: y31 :: y32 :: y33 :: y34 :: y35 :: y36 :: y37 :: y38 :: y39 :: y40 :: y41 :: y42 :: y43 :: y44 :: y45 :: y46 :: y47 :: y48 :: y49 :: y50 :: []).toArray, []⟩ W := by
  have HQ : Hid _ := hQ
  have HL1 : Hid _ := hL1
  have HL2 : Hid _ := hL2
  have HT : Hid _ := hT
  have f0 : Fr no W W.drew := (Fr.refl _ W).drew
  clear hQ hL1 hL2 hT
  unfold reg13jC
  conv => arg 2; whnf
  refine late_begin (S := fun w' => Fr no W w') (g := 18) (by kernel_rfl) ?_
  refine lateP 0 (.pointer (some ⟨p, 0, none⟩)) rfl (fun _ => ev_move 0 _ rfl (by kernel_rfl)) (fun _ => f0) ?_
  refine lateP 1 (.int .i64 (t : Int)) rfl (fun _ => ev_move 1 _ rfl (by kernel_rfl)) (fun _ => f0) ?_
  refine lateP 2 (.pointer (some ⟨p, 0, none⟩)) rfl (fun _ => ev_move 0 _ rfl (by kernel_rfl)) (fun _ => f0) ?_
  refine lateP 3 (.int .i64 (t : Int)) rfl (fun _ => ev_move 1 _ rfl (by kernel_rfl)) (fun _ => f0) ?_
  refine lateN (true :: true :: true :: true :: false :: false :: false :: false :: false :: false :: false :: false :: false :: false :: false :: false :: false :: false :: false :: []).toArray ⟨(.pointer (some ⟨p, 0, none⟩) :: .int .i64 (t : Int) :: .int .i64 (b : Int) :: y3 :: y4 :: y5 :: y6 :: y7 :: y8 :: y9 :: y10 :: y11 :: y12 :: y13 :: y14 :: y15 :: y16 :: y17 :: y18 :: y19 :: .pointer (some ⟨p, 0, none⟩) :: .int .i64 (t : Int) :: .pointer (some ⟨p, 0, none⟩) :: .int .i64 (t : Int) :: y24 :: y25 :: y26 :: y27 :: y28 :: y29 :: y30 :: y31 :: y32 :: y33 :: y34 :: y35 :: y36 :: y37 :: y38 :: y39 :: y40 :: y41 :: y42 :: y43 :: y44 :: y45 :: y46 :: y47 :: y48 :: y49 :: y50 :: []).toArray, []⟩ ?_
  refine lateP 4 (.pointer (some ⟨p, 0, none⟩)) rfl (fun _ => ev_nil 22 ⟨p, 0, none⟩ rfl (by kernel_rfl)) (fun _ => f0) ?_
  refine lateN (true :: true :: true :: true :: true :: false :: false :: false :: false :: false :: false :: false :: false :: false :: false :: false :: false :: false :: false :: []).toArray ⟨(.pointer (some ⟨p, 0, none⟩) :: .int .i64 (t : Int) :: .int .i64 (b : Int) :: y3 :: y4 :: y5 :: y6 :: y7 :: y8 :: y9 :: y10 :: y11 :: y12 :: y13 :: y14 :: y15 :: y16 :: y17 :: y18 :: y19 :: .pointer (some ⟨p, 0, none⟩) :: .int .i64 (t : Int) :: .pointer (some ⟨p, 0, none⟩) :: .int .i64 (t : Int) :: .pointer (some ⟨p, 0, none⟩) :: y25 :: y26 :: y27 :: y28 :: y29 :: y30 :: y31 :: y32 :: y33 :: y34 :: y35 :: y36 :: y37 :: y38 :: y39 :: y40 :: y41 :: y42 :: y43 :: y44 :: y45 :: y46 :: y47 :: y48 :: y49 :: y50 :: []).toArray, []⟩ ?_
  refine lateP 5 (.pointer (some ⟨p, 0, none⟩)) rfl (fun _ => ev_field 42 24 0 (.pointer (some ⟨p, 0, none⟩)) _ rfl (by kernel_rfl) (by kernel_rfl)) (fun _ => f0) ?_
  refine lateN (true :: true :: true :: true :: true :: true :: false :: false :: false :: false :: false :: false :: false :: false :: false :: false :: false :: false :: false :: []).toArray ⟨(.pointer (some ⟨p, 0, none⟩) :: .int .i64 (t : Int) :: .int .i64 (b : Int) :: y3 :: y4 :: y5 :: y6 :: y7 :: y8 :: y9 :: y10 :: y11 :: y12 :: y13 :: y14 :: y15 :: y16 :: y17 :: y18 :: y19 :: .pointer (some ⟨p, 0, none⟩) :: .int .i64 (t : Int) :: .pointer (some ⟨p, 0, none⟩) :: .int .i64 (t : Int) :: .pointer (some ⟨p, 0, none⟩) :: .pointer (some ⟨p, 0, none⟩) :: y26 :: y27 :: y28 :: y29 :: y30 :: y31 :: y32 :: y33 :: y34 :: y35 :: y36 :: y37 :: y38 :: y39 :: y40 :: y41 :: y42 :: y43 :: y44 :: y45 :: y46 :: y47 :: y48 :: y49 :: y50 :: []).toArray, []⟩ ?_
  refine lateP 6 (.pointer (some ⟨p, t * 13, none⟩)) rfl (fun _ => ev_index 37 25 23 (.pointer (some ⟨p, 0, none⟩)) (.int .i64 (t : Int)) _ rfl (by kernel_rfl) (by kernel_rfl) (idx37 ht)) (fun _ => f0) ?_
  refine lateN (true :: true :: true :: true :: true :: true :: true :: false :: false :: false :: false :: false :: false :: false :: false :: false :: false :: false :: false :: []).toArray ⟨(.pointer (some ⟨p, 0, none⟩) :: .int .i64 (t : Int) :: .int .i64 (b : Int) :: y3 :: y4 :: y5 :: y6 :: y7 :: y8 :: y9 :: y10 :: y11 :: y12 :: y13 :: y14 :: y15 :: y16 :: y17 :: y18 :: y19 :: .pointer (some ⟨p, 0, none⟩) :: .int .i64 (t : Int) :: .pointer (some ⟨p, 0, none⟩) :: .int .i64 (t : Int) :: .pointer (some ⟨p, 0, none⟩) :: .pointer (some ⟨p, 0, none⟩) :: .pointer (some ⟨p, t * 13, none⟩) :: y27 :: y28 :: y29 :: y30 :: y31 :: y32 :: y33 :: y34 :: y35 :: y36 :: y37 :: y38 :: y39 :: y40 :: y41 :: y42 :: y43 :: y44 :: y45 :: y46 :: y47 :: y48 :: y49 :: y50 :: []).toArray, []⟩ ?_
  refine lateT 7 (ckV c1) rfl (fun wz hz => ev_load 36 26 (.pointer (some ⟨p, t * 13, none⟩)) (ckV c1) rfl (by kernel_rfl) (ld_ck (HL1.out wz hz))) f0 ?_
  refine lateN (true :: true :: true :: true :: true :: true :: true :: true :: false :: false :: false :: false :: false :: false :: false :: false :: false :: false :: false :: []).toArray ⟨(.pointer (some ⟨p, 0, none⟩) :: .int .i64 (t : Int) :: .int .i64 (b : Int) :: y3 :: y4 :: y5 :: y6 :: y7 :: y8 :: y9 :: y10 :: y11 :: y12 :: y13 :: y14 :: y15 :: y16 :: y17 :: y18 :: y19 :: .pointer (some ⟨p, 0, none⟩) :: .int .i64 (t : Int) :: .pointer (some ⟨p, 0, none⟩) :: .int .i64 (t : Int) :: .pointer (some ⟨p, 0, none⟩) :: .pointer (some ⟨p, 0, none⟩) :: .pointer (some ⟨p, t * 13, none⟩) :: ckV c1 :: y28 :: y29 :: y30 :: y31 :: y32 :: y33 :: y34 :: y35 :: y36 :: y37 :: y38 :: y39 :: y40 :: y41 :: y42 :: y43 :: y44 :: y45 :: y46 :: y47 :: y48 :: y49 :: y50 :: []).toArray, []⟩ ?_
  refine lateP 8 (.pointer (some ⟨p, 0, none⟩)) rfl (fun _ => ev_move 0 _ rfl (by kernel_rfl)) (fun _ => f0) ?_
  refine lateP 9 (.int .i64 (b : Int)) rfl (fun _ => ev_move 2 _ rfl (by kernel_rfl)) (fun _ => f0) ?_
  refine lateN (true :: true :: true :: true :: true :: true :: true :: true :: true :: true :: false :: false :: false :: false :: false :: false :: false :: false :: false :: []).toArray ⟨(.pointer (some ⟨p, 0, none⟩) :: .int .i64 (t : Int) :: .int .i64 (b : Int) :: y3 :: y4 :: y5 :: y6 :: y7 :: y8 :: y9 :: y10 :: y11 :: y12 :: y13 :: y14 :: y15 :: y16 :: y17 :: y18 :: y19 :: .pointer (some ⟨p, 0, none⟩) :: .int .i64 (t : Int) :: .pointer (some ⟨p, 0, none⟩) :: .int .i64 (t : Int) :: .pointer (some ⟨p, 0, none⟩) :: .pointer (some ⟨p, 0, none⟩) :: .pointer (some ⟨p, t * 13, none⟩) :: ckV c1 :: .pointer (some ⟨p, 0, none⟩) :: .int .i64 (b : Int) :: y30 :: y31 :: y32 :: y33 :: y34 :: y35 :: y36 :: y37 :: y38 :: y39 :: y40 :: y41 :: y42 :: y43 :: y44 :: y45 :: y46 :: y47 :: y48 :: y49 :: y50 :: []).toArray, []⟩ ?_
  refine lateP 10 (.pointer (some ⟨p, 0, none⟩)) rfl (fun _ => ev_nil 28 ⟨p, 0, none⟩ rfl (by kernel_rfl)) (fun _ => f0) ?_
  refine lateN (true :: true :: true :: true :: true :: true :: true :: true :: true :: true :: true :: false :: false :: false :: false :: false :: false :: false :: false :: []).toArray ⟨(.pointer (some ⟨p, 0, none⟩) :: .int .i64 (t : Int) :: .int .i64 (b : Int) :: y3 :: y4 :: y5 :: y6 :: y7 :: y8 :: y9 :: y10 :: y11 :: y12 :: y13 :: y14 :: y15 :: y16 :: y17 :: y18 :: y19 :: .pointer (some ⟨p, 0, none⟩) :: .int .i64 (t : Int) :: .pointer (some ⟨p, 0, none⟩) :: .int .i64 (t : Int) :: .pointer (some ⟨p, 0, none⟩) :: .pointer (some ⟨p, 0, none⟩) :: .pointer (some ⟨p, t * 13, none⟩) :: ckV c1 :: .pointer (some ⟨p, 0, none⟩) :: .int .i64 (b : Int) :: .pointer (some ⟨p, 0, none⟩) :: y31 :: y32 :: y33 :: y34 :: y35 :: y36 :: y37 :: y38 :: y39 :: y40 :: y41 :: y42 :: y43 :: y44 :: y45 :: y46 :: y47 :: y48 :: y49 :: y50 :: []).toArray, []⟩ ?_
  refine lateP 11 (.pointer (some ⟨p, 0, none⟩)) rfl (fun _ => ev_field 42 30 0 (.pointer (some ⟨p, 0, none⟩)) _ rfl (by kernel_rfl) (by kernel_rfl)) (fun _ => f0) ?_
  refine lateN (true :: true :: true :: true :: true :: true :: true :: true :: true :: true :: true :: true :: false :: false :: false :: false :: false :: false :: false :: []).toArray ⟨(.pointer (some ⟨p, 0, none⟩) :: .int .i64 (t : Int) :: .int .i64 (b : Int) :: y3 :: y4 :: y5 :: y6 :: y7 :: y8 :: y9 :: y10 :: y11 :: y12 :: y13 :: y14 :: y15 :: y16 :: y17 :: y18 :: y19 :: .pointer (some ⟨p, 0, none⟩) :: .int .i64 (t : Int) :: .pointer (some ⟨p, 0, none⟩) :: .int .i64 (t : Int) :: .pointer (some ⟨p, 0, none⟩) :: .pointer (some ⟨p, 0, none⟩) :: .pointer (some ⟨p, t * 13, none⟩) :: ckV c1 :: .pointer (some ⟨p, 0, none⟩) :: .int .i64 (b : Int) :: .pointer (some ⟨p, 0, none⟩) :: .pointer (some ⟨p, 0, none⟩) :: y32 :: y33 :: y34 :: y35 :: y36 :: y37 :: y38 :: y39 :: y40 :: y41 :: y42 :: y43 :: y44 :: y45 :: y46 :: y47 :: y48 :: y49 :: y50 :: []).toArray, []⟩ ?_
  refine lateP 12 (.pointer (some ⟨p, b * 13, none⟩)) rfl (fun _ => ev_index 37 31 29 (.pointer (some ⟨p, 0, none⟩)) (.int .i64 (b : Int)) _ rfl (by kernel_rfl) (by kernel_rfl) (idx37 hb)) (fun _ => f0) ?_
  refine lateN (true :: true :: true :: true :: true :: true :: true :: true :: true :: true :: true :: true :: true :: false :: false :: false :: false :: false :: false :: []).toArray ⟨(.pointer (some ⟨p, 0, none⟩) :: .int .i64 (t : Int) :: .int .i64 (b : Int) :: y3 :: y4 :: y5 :: y6 :: y7 :: y8 :: y9 :: y10 :: y11 :: y12 :: y13 :: y14 :: y15 :: y16 :: y17 :: y18 :: y19 :: .pointer (some ⟨p, 0, none⟩) :: .int .i64 (t : Int) :: .pointer (some ⟨p, 0, none⟩) :: .int .i64 (t : Int) :: .pointer (some ⟨p, 0, none⟩) :: .pointer (some ⟨p, 0, none⟩) :: .pointer (some ⟨p, t * 13, none⟩) :: ckV c1 :: .pointer (some ⟨p, 0, none⟩) :: .int .i64 (b : Int) :: .pointer (some ⟨p, 0, none⟩) :: .pointer (some ⟨p, 0, none⟩) :: .pointer (some ⟨p, b * 13, none⟩) :: y33 :: y34 :: y35 :: y36 :: y37 :: y38 :: y39 :: y40 :: y41 :: y42 :: y43 :: y44 :: y45 :: y46 :: y47 :: y48 :: y49 :: y50 :: []).toArray, []⟩ ?_
  refine lateT 13 (ckV c2) rfl (fun wz hz => ev_load 36 32 (.pointer (some ⟨p, b * 13, none⟩)) (ckV c2) rfl (by kernel_rfl) (ld_ck (HL2.out wz hz))) f0 ?_
  refine lateN (true :: true :: true :: true :: true :: true :: true :: true :: true :: true :: true :: true :: true :: true :: false :: false :: false :: false :: false :: []).toArray ⟨(.pointer (some ⟨p, 0, none⟩) :: .int .i64 (t : Int) :: .int .i64 (b : Int) :: y3 :: y4 :: y5 :: y6 :: y7 :: y8 :: y9 :: y10 :: y11 :: y12 :: y13 :: y14 :: y15 :: y16 :: y17 :: y18 :: y19 :: .pointer (some ⟨p, 0, none⟩) :: .int .i64 (t : Int) :: .pointer (some ⟨p, 0, none⟩) :: .int .i64 (t : Int) :: .pointer (some ⟨p, 0, none⟩) :: .pointer (some ⟨p, 0, none⟩) :: .pointer (some ⟨p, t * 13, none⟩) :: ckV c1 :: .pointer (some ⟨p, 0, none⟩) :: .int .i64 (b : Int) :: .pointer (some ⟨p, 0, none⟩) :: .pointer (some ⟨p, 0, none⟩) :: .pointer (some ⟨p, b * 13, none⟩) :: ckV c2 :: y34 :: y35 :: y36 :: y37 :: y38 :: y39 :: y40 :: y41 :: y42 :: y43 :: y44 :: y45 :: y46 :: y47 :: y48 :: y49 :: y50 :: []).toArray, []⟩ ?_
  refine lateP 15 (.pointer (some ⟨p, 0, none⟩)) rfl (fun _ => ev_nil 20 ⟨p, 0, none⟩ rfl (by kernel_rfl)) (fun _ => f0) ?_
  refine lateN (true :: true :: true :: true :: true :: true :: true :: true :: true :: true :: true :: true :: true :: true :: false :: true :: false :: false :: false :: []).toArray ⟨(.pointer (some ⟨p, 0, none⟩) :: .int .i64 (t : Int) :: .int .i64 (b : Int) :: y3 :: y4 :: y5 :: y6 :: y7 :: y8 :: y9 :: y10 :: y11 :: y12 :: y13 :: y14 :: y15 :: y16 :: y17 :: y18 :: y19 :: .pointer (some ⟨p, 0, none⟩) :: .int .i64 (t : Int) :: .pointer (some ⟨p, 0, none⟩) :: .int .i64 (t : Int) :: .pointer (some ⟨p, 0, none⟩) :: .pointer (some ⟨p, 0, none⟩) :: .pointer (some ⟨p, t * 13, none⟩) :: ckV c1 :: .pointer (some ⟨p, 0, none⟩) :: .int .i64 (b : Int) :: .pointer (some ⟨p, 0, none⟩) :: .pointer (some ⟨p, 0, none⟩) :: .pointer (some ⟨p, b * 13, none⟩) :: ckV c2 :: y34 :: .pointer (some ⟨p, 0, none⟩) :: y36 :: y37 :: y38 :: y39 :: y40 :: y41 :: y42 :: y43 :: y44 :: y45 :: y46 :: y47 :: y48 :: y49 :: y50 :: []).toArray, []⟩ ?_
  refine lateP 16 (.pointer (some ⟨p, 0, none⟩)) rfl (fun _ => ev_field 42 35 0 (.pointer (some ⟨p, 0, none⟩)) _ rfl (by kernel_rfl) (by kernel_rfl)) (fun _ => f0) ?_
  refine lateN (true :: true :: true :: true :: true :: true :: true :: true :: true :: true :: true :: true :: true :: true :: false :: true :: true :: false :: false :: []).toArray ⟨(.pointer (some ⟨p, 0, none⟩) :: .int .i64 (t : Int) :: .int .i64 (b : Int) :: y3 :: y4 :: y5 :: y6 :: y7 :: y8 :: y9 :: y10 :: y11 :: y12 :: y13 :: y14 :: y15 :: y16 :: y17 :: y18 :: y19 :: .pointer (some ⟨p, 0, none⟩) :: .int .i64 (t : Int) :: .pointer (some ⟨p, 0, none⟩) :: .int .i64 (t : Int) :: .pointer (some ⟨p, 0, none⟩) :: .pointer (some ⟨p, 0, none⟩) :: .pointer (some ⟨p, t * 13, none⟩) :: ckV c1 :: .pointer (some ⟨p, 0, none⟩) :: .int .i64 (b : Int) :: .pointer (some ⟨p, 0, none⟩) :: .pointer (some ⟨p, 0, none⟩) :: .pointer (some ⟨p, b * 13, none⟩) :: ckV c2 :: y34 :: .pointer (some ⟨p, 0, none⟩) :: .pointer (some ⟨p, 0, none⟩) :: y37 :: y38 :: y39 :: y40 :: y41 :: y42 :: y43 :: y44 :: y45 :: y46 :: y47 :: y48 :: y49 :: y50 :: []).toArray, []⟩ ?_
  refine late_all [14] (by kernel_rfl) (by simp) (fun jj hjj => ?_)
  simp only [List.mem_singleton] at hjj
  subst hjj
  refine late_call rfl rfl (by kernel_rfl) ((join_any W.drew c1 c2 hb1 hb2).mono fun e w' h => (⟨_, h.1, rfl, h.2⟩ : ∃ v, e = .returned v ∧ (v = ckV (joinC c1 c2) ∧ Fr no W.drew w'))) ?_
  rintro v w1 ⟨rfl, F1⟩
  have f1 : Fr no W w1 := f0.and F1
  refine ⟨fun _ => f1, ?_⟩
  refine lateN (true :: true :: true :: true :: true :: true :: true :: true :: true :: true :: true :: true :: true :: true :: true :: true :: true :: false :: false :: []).toArray ⟨(.pointer (some ⟨p, 0, none⟩) :: .int .i64 (t : Int) :: .int .i64 (b : Int) :: y3 :: y4 :: y5 :: y6 :: y7 :: y8 :: y9 :: y10 :: y11 :: y12 :: y13 :: y14 :: y15 :: y16 :: y17 :: y18 :: y19 :: .pointer (some ⟨p, 0, none⟩) :: .int .i64 (t : Int) :: .pointer (some ⟨p, 0, none⟩) :: .int .i64 (t : Int) :: .pointer (some ⟨p, 0, none⟩) :: .pointer (some ⟨p, 0, none⟩) :: .pointer (some ⟨p, t * 13, none⟩) :: ckV c1 :: .pointer (some ⟨p, 0, none⟩) :: .int .i64 (b : Int) :: .pointer (some ⟨p, 0, none⟩) :: .pointer (some ⟨p, 0, none⟩) :: .pointer (some ⟨p, b * 13, none⟩) :: ckV c2 :: ckV (joinC c1 c2) :: .pointer (some ⟨p, 0, none⟩) :: .pointer (some ⟨p, 0, none⟩) :: y37 :: y38 :: y39 :: y40 :: y41 :: y42 :: y43 :: y44 :: y45 :: y46 :: y47 :: y48 :: y49 :: y50 :: []).toArray, []⟩ ?_
  refine lateP 17 (.pointer (some ⟨p, t * 13, none⟩)) rfl (fun _ => ev_index 37 36 21 (.pointer (some ⟨p, 0, none⟩)) (.int .i64 (t : Int)) _ rfl (by kernel_rfl) (by kernel_rfl) (idx37 ht)) (fun _ => f1) ?_
  refine lateN (true :: true :: true :: true :: true :: true :: true :: true :: true :: true :: true :: true :: true :: true :: true :: true :: true :: true :: false :: []).toArray ⟨(.pointer (some ⟨p, 0, none⟩) :: .int .i64 (t : Int) :: .int .i64 (b : Int) :: y3 :: y4 :: y5 :: y6 :: y7 :: y8 :: y9 :: y10 :: y11 :: y12 :: y13 :: y14 :: y15 :: y16 :: y17 :: y18 :: y19 :: .pointer (some ⟨p, 0, none⟩) :: .int .i64 (t : Int) :: .pointer (some ⟨p, 0, none⟩) :: .int .i64 (t : Int) :: .pointer (some ⟨p, 0, none⟩) :: .pointer (some ⟨p, 0, none⟩) :: .pointer (some ⟨p, t * 13, none⟩) :: ckV c1 :: .pointer (some ⟨p, 0, none⟩) :: .int .i64 (b : Int) :: .pointer (some ⟨p, 0, none⟩) :: .pointer (some ⟨p, 0, none⟩) :: .pointer (some ⟨p, b * 13, none⟩) :: ckV c2 :: ckV (joinC c1 c2) :: .pointer (some ⟨p, 0, none⟩) :: .pointer (some ⟨p, 0, none⟩) :: .pointer (some ⟨p, t * 13, none⟩) :: y38 :: y39 :: y40 :: y41 :: y42 :: y43 :: y44 :: y45 :: y46 :: y47 :: y48 :: y49 :: y50 :: []).toArray, []⟩ ?_
  refine late_all [18] (by kernel_rfl) (by simp) (fun jj hjj => ?_)
  simp only [List.mem_singleton] at hjj
  subst hjj
  refine late_skip rfl (by kernel_rfl) (ev_store 36 37 34 (.pointer (some ⟨p, t * 13, none⟩)) (ckV (joinC c1 c2)) _ rfl (by kernel_rfl) (by kernel_rfl) (st_ck (joinC c1 c2) (HT.out w1 f1))) ?_
  refine ⟨fun h => by simp at h, ?_⟩
  refine lateN (true :: true :: true :: true :: true :: true :: true :: true :: true :: true :: true :: true :: true :: true :: true :: true :: true :: true :: true :: []).toArray ⟨(.pointer (some ⟨p, 0, none⟩) :: .int .i64 (t : Int) :: .int .i64 (b : Int) :: y3 :: y4 :: y5 :: y6 :: y7 :: y8 :: y9 :: y10 :: y11 :: y12 :: y13 :: y14 :: y15 :: y16 :: y17 :: y18 :: y19 :: .pointer (some ⟨p, 0, none⟩) :: .int .i64 (t : Int) :: .pointer (some ⟨p, 0, none⟩) :: .int .i64 (t : Int) :: .pointer (some ⟨p, 0, none⟩) :: .pointer (some ⟨p, 0, none⟩) :: .pointer (some ⟨p, t * 13, none⟩) :: ckV c1 :: .pointer (some ⟨p, 0, none⟩) :: .int .i64 (b : Int) :: .pointer (some ⟨p, 0, none⟩) :: .pointer (some ⟨p, 0, none⟩) :: .pointer (some ⟨p, b * 13, none⟩) :: ckV c2 :: ckV (joinC c1 c2) :: .pointer (some ⟨p, 0, none⟩) :: .pointer (some ⟨p, 0, none⟩) :: .pointer (some ⟨p, t * 13, none⟩) :: y38 :: y39 :: y40 :: y41 :: y42 :: y43 :: y44 :: y45 :: y46 :: y47 :: y48 :: y49 :: y50 :: []).toArray, []⟩ ?_
  refine late_done (by kernel_rfl) ?_
  exact HQ.out w1 f1

noncomputable def reg17jC : Code := ((Try.f17.body.bind (regionOf 1)).getD .skip)

set_option maxRecDepth 100000 in
theorem reg17j (W : World) (p t b : Nat) (ht : t < 13) (hb : b < 13) (c1 c2 : Nat → Int) (hb1 : Bd c1) (hb2 : Bd c2)
    (hL1 : ∀ w', Fr no W w' → w'.rangeAt p (t * 13) (ckL c1)) (hL2 : ∀ w', Fr no W w' → w'.rangeAt p (169 + b * 13) (ckL c2)) (hT : ∀ w', Fr no W w' → w'.there p (t * 13) 13)
    (K : Act → World → Prop) (y3 y4 y5 y6 y7 y8 y9 y10 y11 y12 y13 y14 y15 y16 y17 y18 y19 y20 y21 y22 y23 y24 y25 y26 y27 y28 y29 y30 y31 y32 y33 y34 y35 y36 y37 : Value)
    (hQ : ∀ w', Fr no W w' → K ⟨(.pointer (some ⟨p, 0, none⟩) :: .int .i64 (t : Int) :: .int .i64 (b : Int) :: y3 :: y4 :: y5 :: y6 :: y7 :: y8 :: y9 :: y10 :: y11 :: y12 :: y13 :: y14 :: y15 :: y16 :: y17 :: y18 :: y19 :: .pointer (some ⟨p, 0, none⟩) :: .int .i64 (t : Int) :: .pointer (some ⟨p, 0, none⟩) :: .int .i64 (t : Int) :: .pointer (some ⟨p, 0, none⟩) :: .pointer (some ⟨p, 0, none⟩) :: .pointer (some ⟨p, t * 13, none⟩) :: ckV c1 :: .pointer (some ⟨p, 0, none⟩) :: .int .i64 (b : Int) :: .pointer (some ⟨p, 0, none⟩) :: .pointer (some ⟨p, 169, none⟩) :: .pointer (some ⟨p, 169 + b * 13, none⟩) :: ckV c2 :: ckV (joinC c1 c2) :: .pointer (some ⟨p, 0, none⟩) :: .pointer (some ⟨p, 0, none⟩) :: .pointer (some ⟨p, t * 13, none⟩) :: []).toArray, []⟩ (w'.setCells p (t * 13) (ckL (joinC c1 c2)))) :
    Code.wp Try.prog reg17jC (Exit.then K (fun _ _ _ => False)) ⟨(.pointer (some ⟨p, 0, none⟩) :: .int .i64 (t : Int) :: .int .i64 (b : Int) :: y3 :: y4 :: y5 :: y6 :: y7 :: y8 :: y9 :: y10 :: y11 :: y12 :: y13 :: y14 :: y15 :: y16 :: y17 :: y18 :: y19 :: y20 :: y21 :: y22 :: y23 :: y24 :: y25 :: y26 :: y27 :: y28 :: y29 :: y30 :: y31 :: y32 :: y33 :: y34 :: y35 :: y36 :: y37 :: []).toArray, []⟩ W := by
  have HQ : Hid _ := hQ
  have HL1 : Hid _ := hL1
  have HL2 : Hid _ := hL2
  have HT : Hid _ := hT
  have f0 : Fr no W W.drew := (Fr.refl _ W).drew
  clear hQ hL1 hL2 hT
  unfold reg17jC
  conv => arg 2; whnf
  refine late_begin (S := fun w' => Fr no W w') (g := 18) (by kernel_rfl) ?_
  refine lateP 0 (.pointer (some ⟨p, 0, none⟩)) rfl (fun _ => ev_move 0 _ rfl (by kernel_rfl)) (fun _ => f0) ?_
  refine lateP 1 (.int .i64 (t : Int)) rfl (fun _ => ev_move 1 _ rfl (by kernel_rfl)) (fun _ => f0) ?_
  refine lateP 2 (.pointer (some ⟨p, 0, none⟩)) rfl (fun _ => ev_move 0 _ rfl (by kernel_rfl)) (fun _ => f0) ?_
  refine lateP 3 (.int .i64 (t : Int)) rfl (fun _ => ev_move 1 _ rfl (by kernel_rfl)) (fun _ => f0) ?_
  refine lateN (true :: true :: true :: true :: false :: false :: false :: false :: false :: false :: false :: false :: false :: false :: false :: false :: false :: false :: false :: []).toArray ⟨(.pointer (some ⟨p, 0, none⟩) :: .int .i64 (t : Int) :: .int .i64 (b : Int) :: y3 :: y4 :: y5 :: y6 :: y7 :: y8 :: y9 :: y10 :: y11 :: y12 :: y13 :: y14 :: y15 :: y16 :: y17 :: y18 :: y19 :: .pointer (some ⟨p, 0, none⟩) :: .int .i64 (t : Int) :: .pointer (some ⟨p, 0, none⟩) :: .int .i64 (t : Int) :: y24 :: y25 :: y26 :: y27 :: y28 :: y29 :: y30 :: y31 :: y32 :: y33 :: y34 :: y35 :: y36 :: y37 :: []).toArray, []⟩ ?_
  refine lateP 4 (.pointer (some ⟨p, 0, none⟩)) rfl (fun _ => ev_nil 22 ⟨p, 0, none⟩ rfl (by kernel_rfl)) (fun _ => f0) ?_
  refine lateN (true :: true :: true :: true :: true :: false :: false :: false :: false :: false :: false :: false :: false :: false :: false :: false :: false :: false :: false :: []).toArray ⟨(.pointer (some ⟨p, 0, none⟩) :: .int .i64 (t : Int) :: .int .i64 (b : Int) :: y3 :: y4 :: y5 :: y6 :: y7 :: y8 :: y9 :: y10 :: y11 :: y12 :: y13 :: y14 :: y15 :: y16 :: y17 :: y18 :: y19 :: .pointer (some ⟨p, 0, none⟩) :: .int .i64 (t : Int) :: .pointer (some ⟨p, 0, none⟩) :: .int .i64 (t : Int) :: .pointer (some ⟨p, 0, none⟩) :: y25 :: y26 :: y27 :: y28 :: y29 :: y30 :: y31 :: y32 :: y33 :: y34 :: y35 :: y36 :: y37 :: []).toArray, []⟩ ?_
  refine lateP 5 (.pointer (some ⟨p, 0, none⟩)) rfl (fun _ => ev_field 42 24 0 (.pointer (some ⟨p, 0, none⟩)) _ rfl (by kernel_rfl) (by kernel_rfl)) (fun _ => f0) ?_
  refine lateN (true :: true :: true :: true :: true :: true :: false :: false :: false :: false :: false :: false :: false :: false :: false :: false :: false :: false :: false :: []).toArray ⟨(.pointer (some ⟨p, 0, none⟩) :: .int .i64 (t : Int) :: .int .i64 (b : Int) :: y3 :: y4 :: y5 :: y6 :: y7 :: y8 :: y9 :: y10 :: y11 :: y12 :: y13 :: y14 :: y15 :: y16 :: y17 :: y18 :: y19 :: .pointer (some ⟨p, 0, none⟩) :: .int .i64 (t : Int) :: .pointer (some ⟨p, 0, none⟩) :: .int .i64 (t : Int) :: .pointer (some ⟨p, 0, none⟩) :: .pointer (some ⟨p, 0, none⟩) :: y26 :: y27 :: y28 :: y29 :: y30 :: y31 :: y32 :: y33 :: y34 :: y35 :: y36 :: y37 :: []).toArray, []⟩ ?_
  refine lateP 6 (.pointer (some ⟨p, t * 13, none⟩)) rfl (fun _ => ev_index 37 25 23 (.pointer (some ⟨p, 0, none⟩)) (.int .i64 (t : Int)) _ rfl (by kernel_rfl) (by kernel_rfl) (idx37 ht)) (fun _ => f0) ?_
  refine lateN (true :: true :: true :: true :: true :: true :: true :: false :: false :: false :: false :: false :: false :: false :: false :: false :: false :: false :: false :: []).toArray ⟨(.pointer (some ⟨p, 0, none⟩) :: .int .i64 (t : Int) :: .int .i64 (b : Int) :: y3 :: y4 :: y5 :: y6 :: y7 :: y8 :: y9 :: y10 :: y11 :: y12 :: y13 :: y14 :: y15 :: y16 :: y17 :: y18 :: y19 :: .pointer (some ⟨p, 0, none⟩) :: .int .i64 (t : Int) :: .pointer (some ⟨p, 0, none⟩) :: .int .i64 (t : Int) :: .pointer (some ⟨p, 0, none⟩) :: .pointer (some ⟨p, 0, none⟩) :: .pointer (some ⟨p, t * 13, none⟩) :: y27 :: y28 :: y29 :: y30 :: y31 :: y32 :: y33 :: y34 :: y35 :: y36 :: y37 :: []).toArray, []⟩ ?_
  refine lateT 7 (ckV c1) rfl (fun wz hz => ev_load 36 26 (.pointer (some ⟨p, t * 13, none⟩)) (ckV c1) rfl (by kernel_rfl) (ld_ck (HL1.out wz hz))) f0 ?_
  refine lateN (true :: true :: true :: true :: true :: true :: true :: true :: false :: false :: false :: false :: false :: false :: false :: false :: false :: false :: false :: []).toArray ⟨(.pointer (some ⟨p, 0, none⟩) :: .int .i64 (t : Int) :: .int .i64 (b : Int) :: y3 :: y4 :: y5 :: y6 :: y7 :: y8 :: y9 :: y10 :: y11 :: y12 :: y13 :: y14 :: y15 :: y16 :: y17 :: y18 :: y19 :: .pointer (some ⟨p, 0, none⟩) :: .int .i64 (t : Int) :: .pointer (some ⟨p, 0, none⟩) :: .int .i64 (t : Int) :: .pointer (some ⟨p, 0, none⟩) :: .pointer (some ⟨p, 0, none⟩) :: .pointer (some ⟨p, t * 13, none⟩) :: ckV c1 :: y28 :: y29 :: y30 :: y31 :: y32 :: y33 :: y34 :: y35 :: y36 :: y37 :: []).toArray, []⟩ ?_
  refine lateP 8 (.pointer (some ⟨p, 0, none⟩)) rfl (fun _ => ev_move 0 _ rfl (by kernel_rfl)) (fun _ => f0) ?_
  refine lateP 9 (.int .i64 (b : Int)) rfl (fun _ => ev_move 2 _ rfl (by kernel_rfl)) (fun _ => f0) ?_
  refine lateN (true :: true :: true :: true :: true :: true :: true :: true :: true :: true :: false :: false :: false :: false :: false :: false :: false :: false :: false :: []).toArray ⟨(.pointer (some ⟨p, 0, none⟩) :: .int .i64 (t : Int) :: .int .i64 (b : Int) :: y3 :: y4 :: y5 :: y6 :: y7 :: y8 :: y9 :: y10 :: y11 :: y12 :: y13 :: y14 :: y15 :: y16 :: y17 :: y18 :: y19 :: .pointer (some ⟨p, 0, none⟩) :: .int .i64 (t : Int) :: .pointer (some ⟨p, 0, none⟩) :: .int .i64 (t : Int) :: .pointer (some ⟨p, 0, none⟩) :: .pointer (some ⟨p, 0, none⟩) :: .pointer (some ⟨p, t * 13, none⟩) :: ckV c1 :: .pointer (some ⟨p, 0, none⟩) :: .int .i64 (b : Int) :: y30 :: y31 :: y32 :: y33 :: y34 :: y35 :: y36 :: y37 :: []).toArray, []⟩ ?_
  refine lateP 10 (.pointer (some ⟨p, 0, none⟩)) rfl (fun _ => ev_nil 28 ⟨p, 0, none⟩ rfl (by kernel_rfl)) (fun _ => f0) ?_
  refine lateN (true :: true :: true :: true :: true :: true :: true :: true :: true :: true :: true :: false :: false :: false :: false :: false :: false :: false :: false :: []).toArray ⟨(.pointer (some ⟨p, 0, none⟩) :: .int .i64 (t : Int) :: .int .i64 (b : Int) :: y3 :: y4 :: y5 :: y6 :: y7 :: y8 :: y9 :: y10 :: y11 :: y12 :: y13 :: y14 :: y15 :: y16 :: y17 :: y18 :: y19 :: .pointer (some ⟨p, 0, none⟩) :: .int .i64 (t : Int) :: .pointer (some ⟨p, 0, none⟩) :: .int .i64 (t : Int) :: .pointer (some ⟨p, 0, none⟩) :: .pointer (some ⟨p, 0, none⟩) :: .pointer (some ⟨p, t * 13, none⟩) :: ckV c1 :: .pointer (some ⟨p, 0, none⟩) :: .int .i64 (b : Int) :: .pointer (some ⟨p, 0, none⟩) :: y31 :: y32 :: y33 :: y34 :: y35 :: y36 :: y37 :: []).toArray, []⟩ ?_
  refine lateP 11 (.pointer (some ⟨p, 169, none⟩)) rfl (fun _ => ev_field 42 30 1 (.pointer (some ⟨p, 0, none⟩)) _ rfl (by kernel_rfl) (by kernel_rfl)) (fun _ => f0) ?_
  refine lateN (true :: true :: true :: true :: true :: true :: true :: true :: true :: true :: true :: true :: false :: false :: false :: false :: false :: false :: false :: []).toArray ⟨(.pointer (some ⟨p, 0, none⟩) :: .int .i64 (t : Int) :: .int .i64 (b : Int) :: y3 :: y4 :: y5 :: y6 :: y7 :: y8 :: y9 :: y10 :: y11 :: y12 :: y13 :: y14 :: y15 :: y16 :: y17 :: y18 :: y19 :: .pointer (some ⟨p, 0, none⟩) :: .int .i64 (t : Int) :: .pointer (some ⟨p, 0, none⟩) :: .int .i64 (t : Int) :: .pointer (some ⟨p, 0, none⟩) :: .pointer (some ⟨p, 0, none⟩) :: .pointer (some ⟨p, t * 13, none⟩) :: ckV c1 :: .pointer (some ⟨p, 0, none⟩) :: .int .i64 (b : Int) :: .pointer (some ⟨p, 0, none⟩) :: .pointer (some ⟨p, 169, none⟩) :: y32 :: y33 :: y34 :: y35 :: y36 :: y37 :: []).toArray, []⟩ ?_
  refine lateP 12 (.pointer (some ⟨p, 169 + b * 13, none⟩)) rfl (fun _ => ev_index 37 31 29 (.pointer (some ⟨p, 169, none⟩)) (.int .i64 (b : Int)) _ rfl (by kernel_rfl) (by kernel_rfl) (idx37f hb)) (fun _ => f0) ?_
  refine lateN (true :: true :: true :: true :: true :: true :: true :: true :: true :: true :: true :: true :: true :: false :: false :: false :: false :: false :: false :: []).toArray ⟨(.pointer (some ⟨p, 0, none⟩) :: .int .i64 (t : Int) :: .int .i64 (b : Int) :: y3 :: y4 :: y5 :: y6 :: y7 :: y8 :: y9 :: y10 :: y11 :: y12 :: y13 :: y14 :: y15 :: y16 :: y17 :: y18 :: y19 :: .pointer (some ⟨p, 0, none⟩) :: .int .i64 (t : Int) :: .pointer (some ⟨p, 0, none⟩) :: .int .i64 (t : Int) :: .pointer (some ⟨p, 0, none⟩) :: .pointer (some ⟨p, 0, none⟩) :: .pointer (some ⟨p, t * 13, none⟩) :: ckV c1 :: .pointer (some ⟨p, 0, none⟩) :: .int .i64 (b : Int) :: .pointer (some ⟨p, 0, none⟩) :: .pointer (some ⟨p, 169, none⟩) :: .pointer (some ⟨p, 169 + b * 13, none⟩) :: y33 :: y34 :: y35 :: y36 :: y37 :: []).toArray, []⟩ ?_
  refine lateT 13 (ckV c2) rfl (fun wz hz => ev_load 36 32 (.pointer (some ⟨p, 169 + b * 13, none⟩)) (ckV c2) rfl (by kernel_rfl) (ld_ck (HL2.out wz hz))) f0 ?_
  refine lateN (true :: true :: true :: true :: true :: true :: true :: true :: true :: true :: true :: true :: true :: true :: false :: false :: false :: false :: false :: []).toArray ⟨(.pointer (some ⟨p, 0, none⟩) :: .int .i64 (t : Int) :: .int .i64 (b : Int) :: y3 :: y4 :: y5 :: y6 :: y7 :: y8 :: y9 :: y10 :: y11 :: y12 :: y13 :: y14 :: y15 :: y16 :: y17 :: y18 :: y19 :: .pointer (some ⟨p, 0, none⟩) :: .int .i64 (t : Int) :: .pointer (some ⟨p, 0, none⟩) :: .int .i64 (t : Int) :: .pointer (some ⟨p, 0, none⟩) :: .pointer (some ⟨p, 0, none⟩) :: .pointer (some ⟨p, t * 13, none⟩) :: ckV c1 :: .pointer (some ⟨p, 0, none⟩) :: .int .i64 (b : Int) :: .pointer (some ⟨p, 0, none⟩) :: .pointer (some ⟨p, 169, none⟩) :: .pointer (some ⟨p, 169 + b * 13, none⟩) :: ckV c2 :: y34 :: y35 :: y36 :: y37 :: []).toArray, []⟩ ?_
  refine lateP 15 (.pointer (some ⟨p, 0, none⟩)) rfl (fun _ => ev_nil 20 ⟨p, 0, none⟩ rfl (by kernel_rfl)) (fun _ => f0) ?_
  refine lateN (true :: true :: true :: true :: true :: true :: true :: true :: true :: true :: true :: true :: true :: true :: false :: true :: false :: false :: false :: []).toArray ⟨(.pointer (some ⟨p, 0, none⟩) :: .int .i64 (t : Int) :: .int .i64 (b : Int) :: y3 :: y4 :: y5 :: y6 :: y7 :: y8 :: y9 :: y10 :: y11 :: y12 :: y13 :: y14 :: y15 :: y16 :: y17 :: y18 :: y19 :: .pointer (some ⟨p, 0, none⟩) :: .int .i64 (t : Int) :: .pointer (some ⟨p, 0, none⟩) :: .int .i64 (t : Int) :: .pointer (some ⟨p, 0, none⟩) :: .pointer (some ⟨p, 0, none⟩) :: .pointer (some ⟨p, t * 13, none⟩) :: ckV c1 :: .pointer (some ⟨p, 0, none⟩) :: .int .i64 (b : Int) :: .pointer (some ⟨p, 0, none⟩) :: .pointer (some ⟨p, 169, none⟩) :: .pointer (some ⟨p, 169 + b * 13, none⟩) :: ckV c2 :: y34 :: .pointer (some ⟨p, 0, none⟩) :: y36 :: y37 :: []).toArray, []⟩ ?_
  refine lateP 16 (.pointer (some ⟨p, 0, none⟩)) rfl (fun _ => ev_field 42 35 0 (.pointer (some ⟨p, 0, none⟩)) _ rfl (by kernel_rfl) (by kernel_rfl)) (fun _ => f0) ?_
  refine lateN (true :: true :: true :: true :: true :: true :: true :: true :: true :: true :: true :: true :: true :: true :: false :: true :: true :: false :: false :: []).toArray ⟨(.pointer (some ⟨p, 0, none⟩) :: .int .i64 (t : Int) :: .int .i64 (b : Int) :: y3 :: y4 :: y5 :: y6 :: y7 :: y8 :: y9 :: y10 :: y11 :: y12 :: y13 :: y14 :: y15 :: y16 :: y17 :: y18 :: y19 :: .pointer (some ⟨p, 0, none⟩) :: .int .i64 (t : Int) :: .pointer (some ⟨p, 0, none⟩) :: .int .i64 (t : Int) :: .pointer (some ⟨p, 0, none⟩) :: .pointer (some ⟨p, 0, none⟩) :: .pointer (some ⟨p, t * 13, none⟩) :: ckV c1 :: .pointer (some ⟨p, 0, none⟩) :: .int .i64 (b : Int) :: .pointer (some ⟨p, 0, none⟩) :: .pointer (some ⟨p, 169, none⟩) :: .pointer (some ⟨p, 169 + b * 13, none⟩) :: ckV c2 :: y34 :: .pointer (some ⟨p, 0, none⟩) :: .pointer (some ⟨p, 0, none⟩) :: y37 :: []).toArray, []⟩ ?_
  refine late_all [14] (by kernel_rfl) (by simp) (fun jj hjj => ?_)
  simp only [List.mem_singleton] at hjj
  subst hjj
  refine late_call rfl rfl (by kernel_rfl) ((join_any W.drew c1 c2 hb1 hb2).mono fun e w' h => (⟨_, h.1, rfl, h.2⟩ : ∃ v, e = .returned v ∧ (v = ckV (joinC c1 c2) ∧ Fr no W.drew w'))) ?_
  rintro v w1 ⟨rfl, F1⟩
  have f1 : Fr no W w1 := f0.and F1
  refine ⟨fun _ => f1, ?_⟩
  refine lateN (true :: true :: true :: true :: true :: true :: true :: true :: true :: true :: true :: true :: true :: true :: true :: true :: true :: false :: false :: []).toArray ⟨(.pointer (some ⟨p, 0, none⟩) :: .int .i64 (t : Int) :: .int .i64 (b : Int) :: y3 :: y4 :: y5 :: y6 :: y7 :: y8 :: y9 :: y10 :: y11 :: y12 :: y13 :: y14 :: y15 :: y16 :: y17 :: y18 :: y19 :: .pointer (some ⟨p, 0, none⟩) :: .int .i64 (t : Int) :: .pointer (some ⟨p, 0, none⟩) :: .int .i64 (t : Int) :: .pointer (some ⟨p, 0, none⟩) :: .pointer (some ⟨p, 0, none⟩) :: .pointer (some ⟨p, t * 13, none⟩) :: ckV c1 :: .pointer (some ⟨p, 0, none⟩) :: .int .i64 (b : Int) :: .pointer (some ⟨p, 0, none⟩) :: .pointer (some ⟨p, 169, none⟩) :: .pointer (some ⟨p, 169 + b * 13, none⟩) :: ckV c2 :: ckV (joinC c1 c2) :: .pointer (some ⟨p, 0, none⟩) :: .pointer (some ⟨p, 0, none⟩) :: y37 :: []).toArray, []⟩ ?_
  refine lateP 17 (.pointer (some ⟨p, t * 13, none⟩)) rfl (fun _ => ev_index 37 36 21 (.pointer (some ⟨p, 0, none⟩)) (.int .i64 (t : Int)) _ rfl (by kernel_rfl) (by kernel_rfl) (idx37 ht)) (fun _ => f1) ?_
  refine lateN (true :: true :: true :: true :: true :: true :: true :: true :: true :: true :: true :: true :: true :: true :: true :: true :: true :: true :: false :: []).toArray ⟨(.pointer (some ⟨p, 0, none⟩) :: .int .i64 (t : Int) :: .int .i64 (b : Int) :: y3 :: y4 :: y5 :: y6 :: y7 :: y8 :: y9 :: y10 :: y11 :: y12 :: y13 :: y14 :: y15 :: y16 :: y17 :: y18 :: y19 :: .pointer (some ⟨p, 0, none⟩) :: .int .i64 (t : Int) :: .pointer (some ⟨p, 0, none⟩) :: .int .i64 (t : Int) :: .pointer (some ⟨p, 0, none⟩) :: .pointer (some ⟨p, 0, none⟩) :: .pointer (some ⟨p, t * 13, none⟩) :: ckV c1 :: .pointer (some ⟨p, 0, none⟩) :: .int .i64 (b : Int) :: .pointer (some ⟨p, 0, none⟩) :: .pointer (some ⟨p, 169, none⟩) :: .pointer (some ⟨p, 169 + b * 13, none⟩) :: ckV c2 :: ckV (joinC c1 c2) :: .pointer (some ⟨p, 0, none⟩) :: .pointer (some ⟨p, 0, none⟩) :: .pointer (some ⟨p, t * 13, none⟩) :: []).toArray, []⟩ ?_
  refine late_all [18] (by kernel_rfl) (by simp) (fun jj hjj => ?_)
  simp only [List.mem_singleton] at hjj
  subst hjj
  refine late_skip rfl (by kernel_rfl) (ev_store 36 37 34 (.pointer (some ⟨p, t * 13, none⟩)) (ckV (joinC c1 c2)) _ rfl (by kernel_rfl) (by kernel_rfl) (st_ck (joinC c1 c2) (HT.out w1 f1))) ?_
  refine ⟨fun h => by simp at h, ?_⟩
  refine lateN (true :: true :: true :: true :: true :: true :: true :: true :: true :: true :: true :: true :: true :: true :: true :: true :: true :: true :: true :: []).toArray ⟨(.pointer (some ⟨p, 0, none⟩) :: .int .i64 (t : Int) :: .int .i64 (b : Int) :: y3 :: y4 :: y5 :: y6 :: y7 :: y8 :: y9 :: y10 :: y11 :: y12 :: y13 :: y14 :: y15 :: y16 :: y17 :: y18 :: y19 :: .pointer (some ⟨p, 0, none⟩) :: .int .i64 (t : Int) :: .pointer (some ⟨p, 0, none⟩) :: .int .i64 (t : Int) :: .pointer (some ⟨p, 0, none⟩) :: .pointer (some ⟨p, 0, none⟩) :: .pointer (some ⟨p, t * 13, none⟩) :: ckV c1 :: .pointer (some ⟨p, 0, none⟩) :: .int .i64 (b : Int) :: .pointer (some ⟨p, 0, none⟩) :: .pointer (some ⟨p, 169, none⟩) :: .pointer (some ⟨p, 169 + b * 13, none⟩) :: ckV c2 :: ckV (joinC c1 c2) :: .pointer (some ⟨p, 0, none⟩) :: .pointer (some ⟨p, 0, none⟩) :: .pointer (some ⟨p, t * 13, none⟩) :: []).toArray, []⟩ ?_
  refine late_done (by kernel_rfl) ?_
  exact HQ.out w1 f1

theorem isB_nat {t : Int} (h : isB t = true) : ∃ n : Nat, t = (n : Int) ∧ n < 13 ∧ 0 < n := by
  unfold isB at h
  simp only [Bool.and_eq_true, decide_eq_true_eq] at h
  exact ⟨t.toNat, by omega, by omega, by omega⟩
/-- All its numbers are small. -/
def BW (T : Wt) (M : Int) : Prop := ∀ t j, 0 ≤ T.now t j ∧ T.now t j ≤ M ∧ 0 ≤ T.fin t j ∧ T.fin t j ≤ M
theorem BW.bn {T : Wt} {M : Int} (h : BW T M) (hM : M ≤ 1000000) (t : Nat) : Bd (T.now t) := fun j => ⟨(h t j).1, by have := (h t j).2.1; omega⟩
theorem BW.bf {T : Wt} {M : Int} (h : BW T M) (hM : M ≤ 1000000) (t : Nat) : Bd (T.fin t) := fun j => ⟨(h t j).2.2.1, by have := (h t j).2.2.2; omega⟩
def joinW (T : Wt) (t : Nat) (c : Nat → Int) : Wt := { T with now := setT T.now t (joinC (T.now t) c) }
def tickW (T : Wt) (b : Nat) : Wt := { T with now := setT T.now b (setT (T.now b) b (T.now b b + 1)) }
theorem BW.join {T : Wt} {M : Int} (h : BW T M) (t : Nat) {c : Nat → Int} (hc : ∀ j, 0 ≤ c j ∧ c j ≤ M) : BW (joinW T t c) M := fun t' j => by
  have h1 := h t' j
  have h2 := hc j
  refine ⟨?_, ?_, h1.2.2.1, h1.2.2.2⟩
  · show 0 ≤ setT T.now t _ t' j
    by_cases e : t' = t
    · subst e; rw [setT_same]; unfold joinC; omega
    · rw [setT_ne _ _ e]; exact h1.1
  · show setT T.now t _ t' j ≤ M
    by_cases e : t' = t
    · subst e; rw [setT_same]; unfold joinC; omega
    · rw [setT_ne _ _ e]; exact h1.2.1
theorem BW.tick {T : Wt} {M : Int} (h : BW T M) (b : Nat) : BW (tickW T b) (M + 1) := fun t' j => by
  have h1 := h t' j
  have h3 := h b b
  refine ⟨?_, ?_, h1.2.2.1, by have := h1.2.2.2; show T.fin t' j ≤ M + 1; omega⟩
  · show 0 ≤ setT T.now b _ t' j
    by_cases e : t' = b
    · subst e
      rw [setT_same]
      by_cases e2 : j = t'
      · subst e2; rw [setT_same]; omega
      · rw [setT_ne _ _ e2]; exact h1.1
    · rw [setT_ne _ _ e]; exact h1.1
  · show setT T.now b _ t' j ≤ M + 1
    by_cases e : t' = b
    · subst e
      rw [setT_same]
      by_cases e2 : j = t'
      · subst e2; rw [setT_same]; omega
      · rw [setT_ne _ _ e2]; omega
    · rw [setT_ne _ _ e]; omega
theorem BW.mono {T : Wt} {M N : Int} (h : BW T M) (hMN : M ≤ N) : BW T N := fun t j => by have := h t j; omega

/-- Begin. -/
def beginW (T : Wt) (t b : Int) : Wt :=
  if isB t && isB b then tickW (joinW T t.toNat (T.now b.toNat)) b.toNat else T
set_option maxRecDepth 100000 in
set_option maxHeartbeats 1000000 in
theorem begin_any (w : World) (p : Nat) (T : Wt) (ks : List Kp) (as' : List Ac) (n : Int) (h : RW w p T ks as' n) (hB : BW T 900000) (t b : Int) :
    Calls Try.prog 13 #[.pointer (some ⟨p, 0, none⟩), .int .i64 t, .int .i64 b] w fun e w' => e = .returned (.tuple #[]) ∧ RW w' p (beginW T t b) ks as' n ∧ Fr (Bk p) w w' := by
  have IS := is_any
  have H : Hid _ := h
  clear h
  cases h1 : isB t
  · have hT : beginW T t b = T := by unfold beginW; rw [h1, Bool.false_and, if_neg Bool.false_ne_true]
    rw [hT]
    clear hT
    have I1 := IS w t
    rw [h1] at I1
    clear IS h1
    go_enter Try.func13, Try.ntmps13
    go_wp2_with fail
    refine I1.mono ?_
    rintro _ _ ⟨rfl, rfl⟩
    go_wp2_with fail
    refine bodyPost_ret (results_none rfl _ _ _) rfl ?_
    exact ⟨rfl, H.out, Fr.refl _ _⟩
  · by_cases hb0 : b = 0
    · subst hb0
      have hT : beginW T t 0 = T := by unfold beginW; rw [h1]; rfl
      rw [hT]
      clear hT
      have I1 := IS w t
      rw [h1] at I1
      clear IS h1
      go_enter Try.func13, Try.ntmps13
      go_wp2_with fail
      refine I1.mono ?_
      rintro _ _ ⟨rfl, rfl⟩
      go_wp2_with fail
      go_end0
      exact ⟨rfl, H.out, Fr.refl _ _⟩
    · have hb0' : (b != 0) = true := by simp [hb0]
      clear hb0
      cases h2 : isB b
      · have hT : beginW T t b = T := by unfold beginW; rw [h2, Bool.and_false, if_neg Bool.false_ne_true]
        rw [hT]
        clear hT
        have I1 := IS w t
        have I2 := fun w => IS w b
        rw [h1] at I1
        rw [h2] at I2
        clear IS h1 h2
        go_enter Try.func13, Try.ntmps13
        go_wp2_with fail
        refine I1.mono ?_
        rintro _ _ ⟨rfl, rfl⟩
        go_wp2_with fail
        refine (I2 _).mono ?_
        rintro _ _ ⟨rfl, rfl⟩
        go_wp2_with fail
        refine bodyPost_ret (results_none rfl _ _ _) rfl ?_
        exact ⟨rfl, H.out, Fr.refl _ _⟩
      · have hT : beginW T t b = tickW (joinW T t.toNat (T.now b.toNat)) b.toNat := by unfold beginW; rw [h1, h2]; rfl
        rw [hT]
        clear hT
        have I1 := IS w t
        have I2 := fun w => IS w b
        rw [h1] at I1
        rw [h2] at I2
        obtain ⟨tn, rfl, ht, -⟩ := isB_nat h1
        obtain ⟨bn, rfl, hb, -⟩ := isB_nat h2
        clear IS h1 h2
        simp only [Int.toNat_natCast]
        go_enter Try.func13, Try.ntmps13
        go_wp2_with fail
        refine I1.mono ?_
        rintro _ _ ⟨rfl, rfl⟩
        go_wp2_with fail
        refine (I2 _).mono ?_
        rintro _ wq ⟨rfl, rfl⟩
        go_upto_region 2 with fail
        refine use_then ?_ (fun _ _ h => h)
        refine reg13j wq p tn bn ht hb (T.now tn) (T.now bn) (hB.bn (by omega) tn) (hB.bn (by omega) bn) (fun w' f => (H.out.keep f).now_ tn ht) (fun w' f => (H.out.keep f).now_ bn hb) (fun w' f => (H.out.keep f).there _ _ (by omega)) _ _ _ _ _ _ _ _ _ _ _ _ _ _ _ _ _ _ _ _ _ _ _ _ _ _ _ _ _ _ _ _ _ _ _ _ _ _ _ _ _ _ _ _ _ _ _ _ _ ?_
        intro w2 F2
        have R2 : RW _ p (joinW T tn (T.now bn)) ks as' n := (H.out.keep F2).setNow ht (joinC (T.now tn) (T.now bn))
        have hBJ := hB.join tn (c := T.now bn) (fun j => ⟨(hB bn j).1, (hB bn j).2.1⟩)
        have FF : Fr (Bk p) wq (w2.setCells p (tn * 13) (ckL (joinC (T.now tn) (T.now bn)))) := F2.tob.bk (fr_sets _ _ _ _)
        obtain ⟨T1, hT1⟩ : ∃ T1, joinW T tn (T.now bn) = T1 := ⟨_, rfl⟩
        rw [hT1] at R2 hBJ
        have HT1 : Hid _ := hT1
        clear hT1
        generalize w2.setCells p (tn * 13) (ckL (joinC (T.now tn) (T.now bn))) = w3 at *
        have c1 := (R2.now_ bn hb) bn _ (ckL_get _ bn hb)
        have fz := R2.frz
        have hv := hBJ bn bn
        have hv1 : T1.now bn bn ≤ 900000 := hv.2.1
        have hv0 : 0 ≤ T1.now bn bn := hv.1
        have hb' : (bn : Int) < 13 := by omega
        have hb1' : (0 : Int) ≤ (bn : Int) := by omega
        have R3 : RW (w3.setCell ⟨p, bn * 13 + bn, none⟩ (.int .i64 (T1.now bn bn + 1))) p (tickW T1 bn) ks as' n := R2.setOne hb hb (T1.now bn bn + 1)
        have HX : Hid (_ ∧ _) := ⟨R3.keep ((Fr.refl no _).drew), (FF.bk (fr_set w3 p (bn * 13 + bn) (.int .i64 (T1.now bn bn + 1)))).drew⟩
        clear R2 R3 FF hBJ hv F2 H I1 I2
        show Exit.then _ _ Exit.normal _ _
        go_wp2_with fail
        go_region
        go_wp2_with fail
        go_end0
        rw [HT1.out]
        exact ⟨rfl, HX.out.1, HX.out.2⟩
end Go.Proofs.Ytnineggppoipiaa
