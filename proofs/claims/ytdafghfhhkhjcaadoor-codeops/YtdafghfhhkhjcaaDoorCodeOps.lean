/- For every two bytes the statement CodeOps returns true, and its arguments read as before; the listed tables start as the program lays them. -/
import Derived.Test.YtdafghfhhkhjcaaDoorLaid
import Derived.Test.YtdafghfhhkhjcaaDoorCards
import Derived.Test.YtdafghfhhkhjcaaDoorTie
import Derived.SevenTiedAt
namespace Go.Proofs.YtdafghfhhkhjcaaDoor.codeOps
open Go.ChangeShapes Go.WideShapes Go.ChangeAt Go.RowKit

/-- The text of an op whose operand is 0. -/
def pr0 (n : Nat) : ByteArray := if opd n = 0 then nam n else nam n ++ ⟨#[32, 48]⟩

theorem isb_at (n : Nat) (h : n < 48) : isb (n : Int) 0 = true ∧ isb (n : Int) 1 = decide (0 < opd n) ∧ isb (n : Int) 1000 = false ∧ isb (n : Int) (-1) = false := by
  have key : ∀ d : Fin 48, isb (d.val : Int) 0 = true ∧ isb (d.val : Int) 1 = decide (0 < opd d.val) ∧ isb (d.val : Int) 1000 = false ∧ isb (d.val : Int) (-1) = false := by decide +kernel
  exact key ⟨n, h⟩

theorem pr0_eq (n : Nat) (h : n < 48) : prt (n : Int) 0 = pr0 n := by
  unfold prt pr0
  rw [if_pos (isb_at n h).1, od_in n h]
  split
  · simp
  · rw [show (0 : Int).toNat = 0 from rfl, dgs_small 0 (by omega), show ((n : Int)).toNat = n by simp]
    apply ByteArray.ext
    simp only [ByteArray.data_append]
    rw [Array.append_assoc]
    rfl

theorem pr0_other (n m : Nat) (hn : n < 48) (hm : m < 48) (h : n ≠ m) : pr0 n ≠ pr0 m := by
  have key : ∀ d e : Fin 48, d ≠ e → (pr0 d.val).data.toList ≠ (pr0 e.val).data.toList := by decide +kernel
  intro e
  exact key ⟨n, hn⟩ ⟨m, hm⟩ (fun q => h (by simpa using q)) (by rw [e])

theorem toList_inj {s t : ByteArray} (h : s.toList = t.toList) : s = t := by
  rw [ByteArray.toList_eq, ByteArray.toList_eq] at h
  apply ByteArray.ext
  exact Array.toList_inj.1 h
theorem toList_one {s : ByteArray} (h : s.toList = [63]) : s = ⟨#[63]⟩ := by
  apply toList_inj
  rw [h, ByteArray.toList_eq]

theorem pr0_mark (n : Nat) (hn : n < 48) : pr0 n ≠ ⟨#[63]⟩ := by
  have key : ∀ d : Fin 48, (pr0 d.val).data.toList ≠ [63] := by decide +kernel
  intro e
  exact key ⟨n, hn⟩ (by rw [e])

theorem has_jump (n : Nat) (hn : n < 48) : has (n : Int) 2 = (opd n == 3) := by
  have key : ∀ d : Fin 48, has (d.val : Int) 2 = (opd d.val == 3) := by decide +kernel
  exact key ⟨n, hn⟩

theorem has_stop (n : Nat) (hn : n < 48) (h : has (n : Int) 1 = true) : n = 22 ∨ n = 33 ∨ n = 34 ∨ n = 35 := by
  have key : ∀ d : Fin 48, has (d.val : Int) 1 = true → d.val = 22 ∨ d.val = 33 ∨ d.val = 34 ∨ d.val = 35 := by decide +kernel
  exact key ⟨n, hn⟩ h

set_option maxRecDepth 100000 in
set_option maxHeartbeats 4000000 in
theorem walk0 (n m : Nat) (hn : n < 48) (hm : m < 48) (a0 a1 : Int) (e0 : a0.tmod 48 = (n : Int)) (e1 : a1.tmod 48 = (m : Int)) (h0 : 0 ≤ a0 ∧ a0 ≤ 255) (h1 : 0 ≤ a1 ∧ a1 ≤ 255) (w : World) (T : Tb w) (R : Tr w) :
    Calls Tryd.prog 6 #[.int .u8 a0, .int .u8 a1] w fun e w' => e = .returned (.bool true) ∧ Fr no w w' := by
  have K := known_any w T
  have hb := opd_bounds n hn
  have PN : Hid (∀ w1, Fr no w w1 → Calls Tryd.prog 19 #[.agg #[.int .i64 (n : Int), .int .i64 0]] w1 fun e w' => e = .returned (.string (pr0 n)) ∧ Fr no w w') := by
    intro w1 f
    refine (print_any w1 (T.kept f) (n : Int) 0).mono ?_
    rintro e w' ⟨rfl, g⟩
    exact ⟨by rw [pr0_eq n hn], f.new g (fun _ _ f => f)⟩
  have PM : Hid (∀ w1, Fr no w w1 → Calls Tryd.prog 19 #[.agg #[.int .i64 (m : Int), .int .i64 0]] w1 fun e w' => e = .returned (.string (pr0 m)) ∧ Fr no w w') := by
    intro w1 f
    refine (print_any w1 (T.kept f) (m : Int) 0).mono ?_
    rintro e w' ⟨rfl, g⟩
    exact ⟨by rw [pr0_eq m hm], f.new g (fun _ _ f => f)⟩
  have ON : Hid (∀ w1, Fr no w w1 → Calls Tryd.prog 11 #[.int .i64 (n : Int)] w1 fun e w' => e = .returned (.int .i64 (opd n)) ∧ w' = w1) := by
    intro w1 f
    have := operand_any w1 (T.kept f) (n : Int)
    rwa [od_in n hn] at this
  have OU : Hid (∀ w1, Fr no w w1 → Calls Tryd.prog 11 #[.int .i64 (48 + (n : Int))] w1 fun e w' => e = .returned (.int .i64 (-1)) ∧ w' = w1) := by
    intro w1 f
    have := operand_any w1 (T.kept f) (48 + (n : Int))
    rwa [od_out _ (by omega)] at this
  have OD : Hid (∀ w1, Fr no w w1 → Calls Tryd.prog 11 #[.int .i64 (-1 - (n : Int))] w1 fun e w' => e = .returned (.int .i64 (-1)) ∧ w' = w1) := by
    intro w1 f
    have := operand_any w1 (T.kept f) (-1 - (n : Int))
    rwa [od_out _ (by omega)] at this
  have JN : Hid (∀ w1, Fr no w w1 → Calls Tryd.prog 15 #[.int .i64 (n : Int)] w1 fun e w' => e = .returned (.bool (opd n == 3)) ∧ w' = w1) := by
    intro w1 f
    have := jumps_any w1 (R.kept f) (n : Int)
    rwa [has_jump n hn] at this
  have SN : Hid (∀ w1, Fr no w w1 → Calls Tryd.prog 13 #[.int .i64 (n : Int)] w1 fun e w' => e = .returned (.bool (has (n : Int) 1)) ∧ w' = w1) := fun w1 f => stops_any w1 (R.kept f) (n : Int)
  have IS : Hid (∀ w1 z, Fr no w w1 → Calls Tryd.prog 9 #[.agg #[.int .i64 (n : Int), .int .i64 z]] w1 fun e w' => e = .returned (.bool (isb (n : Int) z)) ∧ Fr no w w') := by
    intro w1 z f
    refine (is_any w1 (T.kept f) (n : Int) z).mono ?_
    rintro e w' ⟨rfl, g⟩
    exact ⟨rfl, f.new g (fun _ _ f => f)⟩
  obtain ⟨_, i1, i2, i3⟩ := isb_at n hn
  have hmark : ((pr0 n).toList == [63]) = false := by rw [beq_eq_false_iff_ne]; intro e; exact pr0_mark n hn (toList_one e)
  have hoth : ((pr0 n).toList == (pr0 m).toList) = ((n : Int) == (m : Int)) := by
    by_cases h : n = m
    · subst h; simp
    · have h' : ((n : Int) == (m : Int)) = false := by rw [beq_eq_false_iff_ne]; omega
      rw [h', beq_eq_false_iff_ne]
      intro e
      exact pr0_other n m hn hm h (toList_inj e)
  have hst := has_stop n hn
  obtain ⟨hk0, hk3⟩ := hb
  clear T R
  go_enter Tryd.func6, Tryd.ntmps6
  go_wp2_with fail
  refine K.mono ?_
  rintro e w1 ⟨rfl, f1⟩
  go_wp2_with fail
  refine (PN.out w1 f1).mono ?_
  rintro e w2 ⟨rfl, f2⟩
  go_wp2_with fail
  refine (PM.out w2 f2).mono ?_
  rintro e w3 ⟨rfl, f3⟩
  go_wp2_with fail
  refine (ON.out w3 f3).mono ?_
  rintro e w4 ⟨rfl, rfl⟩
  generalize pr0 n = s at *
  generalize pr0 m = t at *
  generalize hk : opd n = k at *
  clear K f1 f2 PN PM
  go_wp2_with fail
  refine (OU.out w4 f3).mono ?_
  rintro e w5 ⟨rfl, rfl⟩
  go_wp2_with fail
  refine (OD.out w5 f3).mono ?_
  rintro e w6 ⟨rfl, rfl⟩
  go_wp2_with fail
  refine (JN.out w6 f3).mono ?_
  rintro e w7 ⟨rfl, rfl⟩
  go_wp2_with fail
  refine (SN.out w7 f3).mono ?_
  rintro e w8 ⟨rfl, rfl⟩
  clear SN JN OD OU ON
  rcases hcase : has (n : Int) 1 with _ | _
  · clear hst
    go_wp2_with fail
    refine (IS.out w8 1 f3).mono ?_
    rintro e w9 ⟨rfl, f9⟩
    rw [i1]
    go_wp2_with fail
    refine (IS.out w9 1000 f9).mono ?_
    rintro e w10 ⟨rfl, f10⟩
    rw [i2]
    go_wp2_with fail
    refine (IS.out w10 (-1) f10).mono ?_
    rintro e w11 ⟨rfl, f11⟩
    rw [i3]
    go_wp2_with fail
    go_ret
    exact ⟨rfl, f11⟩
  · have hcases := hst hcase
    clear hst hcase hoth hmark
    rcases hcases with rfl | rfl | rfl | rfl
    all_goals (
      go_wp2_with fail
      refine (IS.out w8 1 f3).mono ?_
      rintro e w9 ⟨rfl, f9⟩
      rw [i1]
      go_wp2_with fail
      refine (IS.out w9 1000 f9).mono ?_
      rintro e w10 ⟨rfl, f10⟩
      rw [i2]
      go_wp2_with fail
      refine (IS.out w10 (-1) f10).mono ?_
      rintro e w11 ⟨rfl, f11⟩
      rw [i3]
      go_wp2_with fail
      go_ret
      exact ⟨rfl, f11⟩)

theorem walk (a0 : Int) (a1 : Int) (w0 : (Lit.int .u8 a0).wf = true) (w1 : (Lit.int .u8 a1).wf = true) (w : World) (T : Tb w) (R : Tr w) :
    Calls Tryd.prog 6 #[.int .u8 a0, .int .u8 a1] w fun e w' => e = .returned (.bool true) ∧ Fr no w w' := by
  have h0 := (show (0 : Int) ≤ a0 ∧ a0 ≤ 255 by simpa [Lit.wf, IntKind.min, IntKind.max, IntKind.signed, IntKind.bits] using w0)
  have h1 := (show (0 : Int) ≤ a1 ∧ a1 ≤ 255 by simpa [Lit.wf, IntKind.min, IntKind.max, IntKind.signed, IntKind.bits] using w1)
  refine walk0 (a0.tmod 48).toNat (a1.tmod 48).toNat ?_ ?_ a0 a1 ?_ ?_ h0 h1 w T R
  all_goals (rw [Int.tmod_eq_emod_of_nonneg (by omega)]; omega)

set_option maxRecDepth 100000 in
theorem lifted (os : Os) (started : os.Started) (H : Type) (enc : TypeId × Value → H) :
    ReturnsInHanded {} Tryd.checked os 6 .any (fun w args => (Rows.codeOpsSpec.pre enc Tryd.prog Tryd.f6 [] false w args ∧ laidMetH Tryd.prog laid6 w) ∧ sizedMet enc Tryd.prog Tryd.f6 (OpenSpec.ofChange Rows.codeOpsSpec) false w args)
      (Rows.codeOpsSpec.post enc Tryd.prog Tryd.f6 false true false false) := by
  refine returnsInHanded_of_change_and (C := Tryd.checked) (X := fun w _ => laidMetH Tryd.prog laid6 w) (fun _ _ _ hh h => h.of_heap hh) own started (by kernel_rfl) Tryd.func6
    (ChangeSpec.witness_shaped (enc := enc) (C := Tryd.checked) (os := os) (X := fun w _ => laidMetH Tryd.prog laid6 w) false (World.doorLaid Tryd.prog 39 os) #[.int .u8 0, .int .u8 0] 8 rfl (World.shaped_of_RefB (by kernel_rfl) (by kernel_rfl)) (by kernel_rfl) (by kernel_rfl) (by kernel_rfl) (door_met6 os _)) ?_
  intro W base args ds gs before hval0 hW _ _ hL _
  have hval : ∀ (j : Nat) t v, Tryd.f6.params[j]? = some t → args[j]? = some v → Value.okWide Tryd.prog W .any base t v := hval0
  have hW' := hW
  obtain ⟨p, q, hA0, hV, rfl, hfz, hnd⟩ := hW
  have hA : DataW.TrodAll enc Tryd.prog W 0 (fun _ => true) true Tryd.f6.params.toList args.toList ds p := hA0
  rw [Tryd.params6] at hA hval
  obtain ⟨v0, vs0, d0, ds0, p0, q0, hargs, rfl, rfl, h0, r0⟩ := trodAll_cons hA
  obtain ⟨v1, vs1, d1, ds1, p1, q1, rfl, rfl, rfl, h1, r1⟩ := trodAll_cons r0
  obtain ⟨rfl, rfl, rfl⟩ := trodAll_nil r1
  obtain rfl : args = #[v0, v1] := by cases args; simp_all
  obtain ⟨rfl, rfl⟩ := trodVars_none hV
  obtain ⟨a0, rfl, rfl, rfl, w0⟩ := open_int Tryd.underlying5 (hval 0 5 v0 rfl rfl) h0
  obtain ⟨a1, rfl, rfl, rfl, w1⟩ := open_int Tryd.underlying5 (hval 1 5 v1 rfl rfl) h1
  obtain ⟨T, R⟩ := of_laid6 hL
  clear hA0 hval0
  simp only [List.append_nil] at hW'
  refine (walk a0 a1 w0 w1 W T R).mono fun e W' ⟨he, hf⟩ => ?_
  subst he
  have hg := hf.toGrown
  exact ⟨_, rfl, post_of_same (pa := []) (pv := []) hW' (fun _ _ _ => (trodAll_cons_mk (shut_bool Tryd.underlying4 _) trodAll_mk0)) (fun sp _ => (trodAll_cons_mk (shut_int Tryd.underlying5 w0) (trodAll_cons_mk (shut_int Tryd.underlying5 w1) trodAll_mk0))) (fun _ _ => rfl) rfl
    (hg.frame _) hg.2.1 (ok_one (by kernel_rfl) rfl (okWide_bool_mk Tryd.underlying4 _))⟩

theorem over : Rows.CodeOpsSaid :=
  OpenClaim.holds_of_wide 6 Tryd.f6 rfl rfl rfl rfl rfl rfl rfl ⟨rfl, rfl, rfl, rfl, rfl⟩ rfl rfl rfl rfl rfl (by kernel_rfl) Tryd.func6 (by kernel_rfl)
    (of_decide_eq_true (by kernel_rfl)) (by unfold Func.isWrapper; first | (rw [if_pos (by decide +kernel)]; kernel_rfl) | (rw [if_neg (by decide +kernel)]; exact ⟨rfl, rfl⟩))
    (fun os started H enc _ => lifted os started H enc)

theorem proved : Rows.CodeOpsCardSaid :=
  Claim7.holds_tied_plain_at .later [] [.data, .data, .data, .data, .data, .data] true (true, "9814ed1c29147e7403b60a471068b730560e07bf28dfed1560560670e699c6e6") false
    over (fun _ h => by cases h) (by kernel_rfl) (fun _ h => by cases h) codeOps_row_tie rfl ⟨rfl, rfl⟩ (by kernel_rfl) rfl
    (fun f fn hf hfn => by
      obtain rfl : f = 6 := Option.some.inj ((show Tryd.prog.funcNamed "loom/loomlaw4.CodeOps" = some 6 by kernel_rfl).symm.trans hf) |>.symm
      obtain rfl : fn = Tryd.f6 := (Option.some.inj (Tryd.func6.symm.trans hfn)).symm
      exact ⟨by kernel_rfl, fun j t ht => by
        rw [Tryd.params6] at ht
        have hm : t ∈ [5, 5] := by simpa using Array.mem_of_getElem? ht
        have hall : ([5, 5].all fun u => !Tryd.prog.wantsStandIn u) = true := by kernel_rfl
        exact (show Tryd.prog.wantsStandIn t = false by simpa using List.all_eq_true.1 hall t hm)⟩)
    (by kernel_rfl)
#print axioms proved
end Go.Proofs.YtdafghfhhkhjcaaDoor.codeOps
