/- Loops that push and pop. -/
import Derived.Test.YtpfkigoffllieaaGreatDoorJbe
namespace Go.Proofs.YtpfkigoffllieaaGreatDoor
open Go.ChangeShapes Go.WideShapes Go.ChangeAt Go.RowKit
open H (ky Owns MapOf ix NewV)

def loopC (a b : Nat) : List (Int × Int) := List.replicate a (3, 0) ++ List.replicate b (6, 0) ++ [(22, 0)]

theorem loop_link : ∀ a b : Fin 4, linkE [mainK 3 3 (loopC a.val b.val) []] = 0 := by decide +kernel
theorem loop_run : ∀ a b : Fin 4, (settleP 3 (loopC a.val b.val) ((loopC a.val b.val).map fun x : Int × Int => ruleP x.1) 100 0 (beg sMain [top, top] (loopC a.val b.val).length)).map (fun r => decide (r.1 = 0)) = some (decide (a.val = b.val)) := by decide +kernel
theorem loop_ops : ∀ a b : Fin 4, ∀ x ∈ loopC a.val b.val, x.1 ∈ plainOps ∨ x.1 = 33 := by decide +kernel
theorem loop_len (a b : Nat) : (loopC a b).length = a + b + 1 := by simp [loopC]; omega

theorem ask_loop (a b : Nat) (ha : a < 4) (hb : b < 4) : ∃ res, Asked 3 3 [top, top] (loopC a b) [] 100 res ∧ decide (res.1 = 0) = decide (a = b) := by
  obtain ⟨res, h1, h2⟩ := Option.map_eq_some_iff.1 (loop_run ⟨a, ha⟩ ⟨b, hb⟩)
  refine ⟨res, ⟨loop_link ⟨a, ha⟩ ⟨b, hb⟩, fit_main _ _ _ _ nopool, .inr (.inl ⟨rfl, rfl⟩), ?_, ?_, loop_ops ⟨a, ha⟩ ⟨b, hb⟩, h1⟩, h2⟩
  · rw [loop_len]; omega
  · rw [loop_len]; omega

/-- A row of instructions of one's own, since w. -/
def Row (w wr : World) (v : Value) (l : List (Int × Int)) : Prop := OwnG elIn wr v l ∧ NewV w v ∧ Fr no w wr
theorem Row.nil (w : World) : Row w w (.slice none 0 0) [] := ⟨OwnG.nil _ _, NewV.nil _, Fr.refl no w⟩
theorem Row.step {w wr wa w' : World} {v v' : Value} {l m : List (Int × Int)} (h : Row w wr v l) (f : Fr no wr wa) (o : OwnG elIn w' v' (l ++ m)) (s : Sp no v wa v' w') : Row w w' v' (l ++ m) := by
  obtain ⟨n1, f1⟩ := h.2.1.step (h.2.2.new f (fun _ _ f => f)) s
  exact ⟨o, n1, f1⟩

theorem rep_next {α : Type} (k : Nat) (x : α) : List.replicate k x ++ [x] = List.replicate (k + 1) x := by rw [List.replicate_succ']

set_option maxRecDepth 100000 in
set_option maxHeartbeats 4000000 in
theorem loops_any (w : World) (T : Tb w) (R : Tr w) (a : Int) (ha : 0 ≤ a) (_ha' : a ≤ 255) (b : Int) (hb : 0 ≤ b) (_hb' : b ≤ 255) :
    Calls Tryz.prog 6 #[.int .u8 a, .int .u8 b] w fun e w' => e = .returned (.bool true) ∧ Fr no w w' := by
  obtain ⟨x, hx, hx4⟩ : ∃ x : Nat, a % 4 = (x : Int) ∧ x < 4 := ⟨(a % 4).toNat, by omega, by omega⟩
  obtain ⟨y, hy, hy4⟩ : ∃ y : Nat, b % 4 = (y : Int) ∧ y < 4 := ⟨(b % 4).toNat, by omega, by omega⟩
  have tx : a.tmod 4 = (x : Int) := by rw [Int.tmod_eq_emod_of_nonneg ha]; exact hx
  have ty : b.tmod 4 = (y : Int) := by rw [Int.tmod_eq_emod_of_nonneg hb]; exact hy
  obtain ⟨res, AK, hres⟩ := ask_loop x y hx4 hy4
  have KN := known_any w T R
  have HK : Hid (∀ w', Fr no w w' → Tb w' ∧ Tr w') := fun w' hf => ⟨T.kept hf, Tr.kept R hf⟩
  have HAK : Hid _ := AK
  have HRS : Hid _ := hres
  clear T R AK hres hx hy
  go_enter Tryz.func6, Tryz.ntmps6
  go_wp2_with fail
  refine KN.mono ?_
  rintro e w1 ⟨rfl, f1⟩
  have HF1 : Hid _ := f1
  clear KN f1
  go_wp2_with fail
  go_loopw [5, 8] (fun v i wr => ∃ (k : Nat) (o : Option Addr) (c : Nat), i = .int .i64 (k : Int) ∧ k ≤ x ∧ v = .slice o k c ∧ Row w1 wr v (List.replicate k (3, 0))) (fun _ i _ => x - (intOf i).toNat)
  case atStart => exact ⟨0, none, 0, rfl, Nat.zero_le _, rfl, Row.nil w1⟩
  case round =>
    obtain ⟨k, o, c, rfl, hk, rfl, hR⟩ := hrel
    by_cases hlt : k < x
    · have hki : (k : Int) < (x : Int) := by omega
      have HR : Hid (Row w1 wr (.slice o k c) (List.replicate k (3, 0))) := hR
      have HKL : Hid (k < 4) := by show k < 4; omega
      clear hR
      go_wp2_with (first | (at_builtin; refine wpList_apdG okIn _ rfl rfl _ _ rfl (.slice o k c) (List.replicate k (3, 0)) rfl (HR.out.1.keep ((Fr.refl no wr).alloc _ _)) _ rfl [(3, 0)] (srcG_one okIn wr (3, 0)) (by simp) (by have := HKL.out; simp; omega) ?_; intro v' w3 o3 s3; obtain ⟨oo3, cc3, hv3⟩ := o3.form; have HO3 : Hid _ := HR.out.step ((Fr.refl no wr).alloc _ _) o3 s3; clear o3 s3) | go_in)
      rw [List.length_append, List.length_replicate, List.length_singleton] at hv3
      subst hv3
      rw [rep_next] at HO3
      go_wp2_with fail
      go_roundw
      case rel => exact ⟨k + 1, oo3, cc3, by go_num, by omega, rfl, HO3.out⟩
      case measure => simp [intOf]; omega
    · obtain rfl : k = x := by omega
      have hki : ¬ (k : Int) < (k : Int) := by omega
      have HR : Hid (Row w1 wr (.slice o k c) (List.replicate k (3, 0))) := hR
      clear hR
      go_wp2_with fail
      go_loopw [5, 9] (fun v i wr => ∃ (j : Nat) (o : Option Addr) (c : Nat), i = .int .i64 (j : Int) ∧ j ≤ y ∧ v = .slice o (k + j) c ∧ Row w1 wr v (List.replicate k (3, 0) ++ List.replicate j (6, 0))) (fun _ i _ => y - (intOf i).toNat)
      case atStart => exact ⟨0, o, c, rfl, Nat.zero_le _, rfl, by rw [List.replicate_zero, List.append_nil]; exact HR.out⟩
      case round =>
        obtain ⟨j, o, c, rfl, hj, rfl, hR⟩ := hrel
        by_cases hlt : j < y
        · have hji : (j : Int) < (y : Int) := by omega
          have HR : Hid (Row w1 wr (.slice o (k + j) c) (List.replicate k (3, 0) ++ List.replicate j (6, 0))) := hR
          have HKL : Hid (k < 4 ∧ j < 4) := ⟨hx4, by omega⟩
          clear hR
          go_wp2_with (first | (at_builtin; refine wpList_apdG okIn _ rfl rfl _ _ rfl (.slice o (k + j) c) (List.replicate k (3, 0) ++ List.replicate j (6, 0)) rfl (HR.out.1.keep ((Fr.refl no wr).alloc _ _)) _ rfl [(6, 0)] (srcG_one okIn wr (6, 0)) (by simp) (by have := HKL.out; simp; omega) ?_; intro v' w3 o3 s3; obtain ⟨oo3, cc3, hv3⟩ := o3.form; have HO3 : Hid _ := HR.out.step ((Fr.refl no wr).alloc _ _) o3 s3; clear o3 s3) | go_in)
          rw [List.length_append, List.length_append, List.length_replicate, List.length_replicate, List.length_singleton] at hv3
          subst hv3
          rw [List.append_assoc, rep_next] at HO3
          go_wp2_with fail
          go_roundw
          case rel => exact ⟨j + 1, oo3, cc3, by go_num, by omega, rfl, HO3.out⟩
          case measure => simp [intOf]; omega
        · obtain rfl : j = y := by omega
          have hji : ¬ (j : Int) < (j : Int) := by omega
          have HR : Hid (Row w1 wr (.slice o (k + j) c) (List.replicate k (3, 0) ++ List.replicate j (6, 0))) := hR
          have HKL : Hid (k < 4 ∧ j < 4) := ⟨hx4, hy4⟩
          clear hR
          go_wp2_with (first | (at_builtin; refine wpList_apdG okIn _ rfl rfl _ _ rfl (.slice o (k + j) c) (List.replicate k (3, 0) ++ List.replicate j (6, 0)) rfl (HR.out.1.keep ((Fr.refl no wr).alloc _ _)) _ rfl [(22, 0)] (srcG_one okIn wr (22, 0)) (by simp) (by have := HKL.out; simp; omega) ?_; intro v' w3 o3 s3; obtain ⟨oo3, cc3, hv3⟩ := o3.form; have HO3 : Hid (Row w1 w3 v' (loopC k j)) := HR.out.step ((Fr.refl no wr).alloc _ _) o3 s3; clear o3 s3) | fail)
          rw [List.length_append, List.length_append, List.length_replicate, List.length_replicate, List.length_singleton] at hv3
          subst hv3
          have F3 : Fr no w w3 := HF1.out.new HO3.out.2.2 (fun _ _ f => f)
          have AC := accepted_any w3 (HK.out w3 F3).1 (HK.out w3 F3).2 oo3 none (k + j + 1) cc3 0 0 (loopC k j) [] (HO3.out.1.sl okIn) (SlG.nil _ _) 100 res HAK.out
          rw [HRS.out] at AC
          have HF3 : Hid _ := F3
          clear F3
          go_wp2_with fail
          refine AC.mono ?_
          rintro e w4 ⟨rfl, f4⟩
          have hkj : ((k : Int) == (j : Int)) = decide (k = j) := by
            by_cases e : k = j
            · subst e; simp
            · simp [e]
              omega
          clear AC
          cases hd : decide (k = j) with
          | true =>
            rw [hd] at hkj
            go_wp2_with fail
            go_ret
            exact ⟨by first | rfl | simp, HF3.out.new f4 (fun _ _ f => f)⟩
          | false =>
            rw [hd] at hkj
            go_wp2_with fail
            go_ret
            exact ⟨by first | rfl | simp, HF3.out.new f4 (fun _ _ f => f)⟩
end Go.Proofs.YtpfkigoffllieaaGreatDoor
