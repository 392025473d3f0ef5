/- The statement on chains of classes: the first one above. -/
import Derived.Test.YtabiagheflkiaaaChain0
import Derived.Deep.RegionHeld3
namespace Go.Proofs.Ytabiagheflkiaaa
open Go.ChangeShapes Go.WideShapes Go.ChangeAt Go.RowKit

set_option maxRecDepth 100000 in
set_option maxHeartbeats 4000000 in
theorem chain_gt (w : World) (n : Nat) (hn : n < 256) (a : Nat) (ha : a < 256) (b : Nat) (hb : b < 256) (hyp : a % (n % 15 + 1) < b % (n % 15 + 1)) : Calls Try.prog 5 #[.int .u8 (n : Int), .int .u8 (a : Int), .int .u8 (b : Int)] w fun e w' => e = .returned (.bool true) ∧ Fr no w w' := by
  have KN := known_any w
  have e15 : (n : Int) % 15 = ((n % 15 : Nat) : Int) := by omega
  have hk15 : n % 15 < 15 := Nat.mod_lt _ (by omega)
  have ek : ((n % 15 : Nat) : Int) + 1 = ((n % 15 + 1 : Nat) : Int) := by omega
  generalize hk0 : n % 15 = k0 at *
  generalize hk : k0 + 1 = k at *
  have hk1 : 0 < k := by omega
  have hk16 : k < 16 := by omega
  clear hk0 hk
  go_enter Try.func5, Try.ntmps5
  go_wp2_with fail
  refine KN.mono ?_
  rintro e w1 ⟨rfl, f1⟩
  have F1 : Hid (Fr no w w1) := f1
  clear f1 KN
  go_wp2_with fail
  clear e15 ek
  go_loopw [8, 9, 10, 11] (fun v u s i wr => ∃ (j : Nat), i = .int .i64 (j : Int) ∧ s = .string (ahead j) ∧ j ≤ k ∧ Pair w1 wr v u (greats j) (aheads j)) (fun _ _ _ i _ => k - (intOf i).toNat)
  case atStart => exact ⟨0, rfl, rfl, Nat.zero_le _, Pair.nil _⟩
  case round =>
    obtain ⟨j, rfl, rfl, hj, hp⟩ := hrel
    have P : Hid (Pair w1 wr u8 u9 (greats j) (aheads j)) := hp
    clear hp
    by_cases hlt : j < k
    · have hsz : ABC.size = 16 := rfl
      have hsl := slice_one ABC j (by omega)
      simp only [ABC] at hsl
      have NX : Hid (greats (j + 1) = greats j ++ [ABC.extract j (j + 1)] ∧ aheads (j + 1) = aheads j ++ [ahead j] ∧ ahead (j + 1) = ABC.extract j (j + 1)) := ⟨greats_next j, aheads_next j, by unfold ahead; rw [if_neg (by omega)]; rfl⟩
      have HL : Hid ((greats j).length + 1 ≤ 1000000 ∧ (aheads j).length + 1 ≤ 1000000) := by show _ ∧ _; simp [greats, aheads]; omega
      simp only [ABC] at NX
      generalize ByteArray.extract _ j (j + 1) = x at *
      generalize ahead j = x2 at *
      clear hsz
      go_wp2_with (first | (at_builtin; refine wpList_apdG elS_ok _ rfl rfl _ _ rfl u8 _ rfl (P.out.own1 _ _) _ rfl [x] (srcG_one elS_ok wr x) HL.out.1 ?_; intro v' w2 o2 s2; have P2 : Hid (Pair w1 w2 v' u9 (greats j ++ [x]) (aheads j)) := P.out.fst s2 o2; clear o2 s2) | (at_builtin; refine wpList_apdG elS_ok _ rfl rfl _ _ rfl u9 _ rfl (P2.out.own2 _ _) _ rfl [x2] (srcG_one elS_ok w2 x2) HL.out.2 ?_; intro v3 w3 o3 s3; have P3 : Hid (Pair w1 w3 v' v3 (greats j ++ [x]) (aheads j ++ [x2])) := P2.out.snd s3 o3; clear o3 s3))
      go_roundw
      case rel => exact ⟨j + 1, by go_num, by rw [NX.out.2.2], by omega, by rw [NX.out.1, NX.out.2.1]; exact P3.out⟩
      case measure => simp [intOf]; omega
    · have hkl : j = k := by omega
      subst hkl
      have hgl : (greats j).length = j := by simp [greats]
      have F2 : Hid (Fr no w wr) := F1.out.and P.out.fr
      have C := new_any wr u8 u9 (greats j) (aheads j) P.out.one.sl P.out.two.sl (greats_size j) (aheads_size j) (by omega) (by simp [aheads]; omega)
      rw [line_new ⟨j, hk16⟩] at C
      simp only [] at C
      obtain ⟨g, cap, rfl, hcell⟩ := P.out.one.head (by omega)
      rw [hgl]
      rw [hgl] at C
      obtain ⟨x, hx, HX, ex⟩ : ∃ x : Nat, x < j ∧ Hid (x = a % j) ∧ (a : Int).tmod (j : Int) = (x : Int) := ⟨a % j, Nat.mod_lt _ hk1, rfl, by rw [Int.tmod_eq_emod_of_nonneg (by omega)]; push_cast; rfl⟩
      obtain ⟨y, hy, HY, ey⟩ : ∃ y : Nat, y < j ∧ Hid (y = b % j) ∧ (b : Int).tmod (j : Int) = (y : Int) := ⟨b % j, Nat.mod_lt _ hk1, rfl, by rw [Int.tmod_eq_emod_of_nonneg (by omega)]; push_cast; rfl⟩
      have ok2 := line_ok ⟨j, hk16⟩ ⟨x, by omega⟩ ⟨y, by omega⟩ hx hy
      have ok1 := line_ok1 ⟨j, hk16⟩ ⟨x, by omega⟩ hx
      simp only [lineOk, lineOk1, Bool.and_eq_true, beq_iff_eq, decide_eq_true_eq, Bool.not_eq_true'] at ok2 ok1
      obtain ⟨E1, E2⟩ := ok2
      obtain ⟨⟨⟨E3, E4⟩, E5⟩, E6⟩ := ok1
      have hcx := hcell _ _ (greats_get j x hx)
      have hcy := hcell _ _ (greats_get j y hy)
      have hkn : ¬ j = 0 := by omega
      clear P F1 hcell
      go_wp2_with fail
      refine C.mono ?_
      rintro e w2 ⟨q, rfl, h2, f2⟩
      obtain ⟨p, rfl, hbk, fi, hl⟩ := h2.2 rfl
      have F3 : Hid (Fr no w w2) := F2.out.and f2
      have hcx' : w2.cell? ⟨g, x, none⟩ = some (.string (letterAt x)) := f2.cell hcx (fun f => f)
      have hcy' : w2.cell? ⟨g, y, none⟩ = some (.string (letterAt y)) := f2.cell hcy (fun f => f)
      have SB : Hid (∀ w3, Fr no w2 w3 → ∀ s t, s.size ≤ 1099511627776 → Calls Try.prog 19 #[.pointer (some ⟨p, 0, none⟩), .string s, .string t] w3 fun e w4 => e = .returned (.bool (inL t (anc (lineN j) (lineA j) s))) ∧ Fr no w2 w4) := by
        intro w3 f s t hs
        refine (sub_any w3 p _ _ (hbk.keep f) fi (by omega) s t hs).mono ?_
        rintro e w4 ⟨rfl, f4⟩
        exact ⟨rfl, f.and f4⟩
      have CM : Hid (∀ w3, Fr no w2 w3 → ∀ s t, s.size ≤ 1099511627776 → t.size ≤ 1099511627776 → Calls Try.prog 21 #[.pointer (some ⟨p, 0, none⟩), .string s, .string t] w3 fun e w4 => e = .returned (.string (shared (anc (lineN j) (lineA j) s) (anc (lineN j) (lineA j) t))) ∧ Fr no w2 w4) := by
        intro w3 f s t hs ht
        refine (common_any w3 p _ _ (hbk.keep f) fi (by omega) s t hs ht).mono ?_
        rintro e w4 ⟨rfl, f4⟩
        exact ⟨rfl, f.and f4⟩
      have AN : Hid (∀ w3, Fr no w2 w3 → Calls Try.prog 17 #[.pointer (some ⟨p, 0, none⟩), .string (letterAt x)] w3 fun e w4 => ∃ ov cv, e = .returned (.slice ov (x + 2) cv) ∧ Fr no w2 w4) := by
        intro w3 f
        refine (ancestors_any w3 p _ _ (hbk.keep f) fi (by omega) _ (letter_size x)).mono ?_
        rintro e w4 ⟨v, rfl, o4, -, f4⟩
        obtain ⟨ov, cv, rfl⟩ := o4.form
        rw [E3]
        exact ⟨ov, cv, rfl, f.and f4⟩
      have KS : Hid (∀ w3, Fr no w2 w3 → Fr no w2 w3 ∧ w3.cell? ⟨g, x, none⟩ = some (.string (letterAt x)) ∧ w3.cell? ⟨g, y, none⟩ = some (.string (letterAt y))) := fun w3 f => ⟨f, f.cell hcx' (fun f => f), f.cell hcy' (fun f => f)⟩
      have ZX : Hid ((letterAt x).size ≤ 1099511627776 ∧ (letterAt y).size ≤ 1099511627776) := ⟨letter_size x, letter_size y⟩
      have E4' : inL (letterAt x) (anc (lineN j) (lineA j) { data := #[79, 98, 106, 101, 99, 116] }) = false := E4
      have E5' : shared (anc (lineN j) (lineA j) (letterAt x)) (anc (lineN j) (lineA j) { data := #[70, 97, 117, 108, 116] }) = { data := #[79, 98, 106, 101, 99, 116] } := E5
      have E6' : shared (anc (lineN j) (lineA j) (letterAt x)) (anc (lineN j) (lineA j) { data := #[78, 111, 110, 101] }) = { data := #[] } := E6
      have hxi : (x : Int) < (j : Int) := by omega
      have hyi : (y : Int) < (j : Int) := by omega
      have hx0 : (0 : Int) ≤ (x : Int) := by omega
      have hy0 : (0 : Int) ≤ (y : Int) := by omega
      have hwx : IntKind.i64.wrap ((x : Int) + 2) = (x : Int) + 2 := wrap_small _ (by omega) (by omega)
      have KD : Hid (Fr no w2 w2.drew.drew) := (Fr.refl no w2).drew.drew
      have hwa : IntKind.i64.wrap (a : Int) = (a : Int) := wrap_small _ (by omega) (by omega)
      have hwb : IntKind.i64.wrap (b : Int) = (b : Int) := wrap_small _ (by omega) (by omega)
      clear h2 hbk fi hl C E3 E4 E5 E6 hcx hcy hcx' hcy' f2 F2
      generalize lineN j = N at *
      generalize lineA j = A at *
      have hyx : x < y := by have e1 := HX.out; have e2 := HY.out; rw [e1, e2]; exact hyp
      rw [decide_eq_false (show ¬ y ≤ x by omega)] at E1
      rw [Nat.min_eq_left (by omega)] at E2
      have hyx' : ¬ (y : Int) ≤ (x : Int) := by omega
      have hyx2 : ¬ (y : Int) < (x : Int) := by omega
      have hyx3 : decide ((y : Int) ≤ (x : Int)) = false := by simp; omega
      have hyx4 : decide (y ≤ x) = false := by simp; omega
      have hyx5 : ¬ y ≤ x := by omega
      have hyx6 : ¬ y < x := by omega
      clear hyp HX HY
      generalize letterAt x = lx at *
      generalize letterAt y = ly at *
      go_wp2_with fail
      go_region
      go_wp2_with fail
      dsimp only [List.append]
      go_region_held3 (fun w3 => Fr no w2 w3 ∧ w3.cell? ⟨g, x, none⟩ = some (.string lx) ∧ w3.cell? ⟨g, y, none⟩ = some (.string ly)) (first | exact KS.out _ KD.out | exact KS.out _ (by assumption)) (first | (go_at_call 19; refine (SB.out _ (by first | assumption | exact KD.out) _ _ (by first | exact ZX.out.1 | decide)).mono ?_; rintro e w3 ⟨rfl, f3⟩) | (go_at_call 21; refine (CM.out _ (by first | assumption | exact KD.out) _ _ (by first | exact ZX.out.1 | decide) (by first | exact ZX.out.2 | decide)).mono ?_; rintro e w3 ⟨rfl, f3⟩) | (go_at_call 17; refine (AN.out _ (by first | assumption | exact KD.out)).mono ?_; rintro e w3 ⟨ov, cv, rfl, f3⟩))
      all_goals
        go_wp2_with fail
        go_ret
        exact ⟨rfl, F3.out.and (by assumption)⟩
end Go.Proofs.Ytabiagheflkiaaa
