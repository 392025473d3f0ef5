/- The statement on how many classes there may be: it returns true. -/
import Derived.Test.YtabiagheflkiaaaTwo
namespace Go.Proofs.Ytabiagheflkiaaa
open Go.ChangeShapes Go.WideShapes Go.ChangeAt Go.RowKit

def abc : ByteArray := ⟨#[97, 98, 99, 100, 101, 102, 103, 104, 105, 106, 107, 108, 109, 110, 111, 112, 113, 114, 115, 116, 117, 118, 119, 120, 121, 122]⟩

/-- The first so many small letters, each a text. -/
def smalls (k : Nat) : List ByteArray := (List.range k).map fun i => abc.extract i (i + 1)
def blanks (k : Nat) : List ByteArray := (List.range k).map fun _ => t0

theorem smalls_next (k : Nat) : smalls (k + 1) = smalls k ++ [abc.extract k (k + 1)] := by unfold smalls; rw [List.range_succ, List.map_append]; rfl
theorem blanks_next (k : Nat) : blanks (k + 1) = blanks k ++ [t0] := by unfold blanks; rw [List.range_succ, List.map_append]; rfl

/-- What is asked of the answer. -/
def manyOk (k : Nat) : Bool := if 16 < k then decide ((newH (smalls k) (blanks k)).1 = 32) else decide ((newH (smalls k) (blanks k)).1 = 0 ∧ (newH (smalls k) (blanks k)).2.1.length = k + 2 ∧ (newH (smalls k) (blanks k)).2.1[0]? = some obj ∧ (newH (smalls k) (blanks k)).2.1[1]? = some fault)

theorem many_ok : ∀ k : Fin 24, manyOk k.val = true := by decide +kernel

theorem smalls_size (k : Nat) : ∀ x ∈ smalls k, x.size ≤ 1099511627776 := by
  intro x hx
  obtain ⟨i, -, rfl⟩ := List.mem_map.1 hx
  rw [ByteArray.size_extract]
  have : abc.size = 26 := rfl
  omega
theorem blanks_size (k : Nat) : ∀ x ∈ blanks k, x.size ≤ 1099511627776 := by
  intro x hx
  obtain ⟨i, -, rfl⟩ := List.mem_map.1 hx
  decide

set_option maxRecDepth 100000 in
set_option maxHeartbeats 2000000 in
theorem many_any (w : World) (n : Nat) (hn : n < 256) : Calls Try.prog 7 #[.int .u8 (n : Int)] w fun e w' => e = .returned (.bool true) ∧ Fr no w w' := by
  have KN := known_any w
  have HK : Hid (manyOk (n % 24) = true) := many_ok ⟨n % 24, Nat.mod_lt _ (by omega)⟩
  have hk24 : n % 24 < 24 := Nat.mod_lt _ (by omega)
  have e24 : (n : Int) % 24 = ((n % 24 : Nat) : Int) := by omega
  generalize n % 24 = k at *
  go_enter Try.func7, Try.ntmps7
  go_wp2_with fail
  refine KN.mono ?_
  rintro e w1 ⟨rfl, f1⟩
  have F1 : Hid (Fr no w w1) := f1
  clear f1 KN
  go_wp2_with fail
  clear e24
  go_loopw [4, 5, 6] (fun v u i wr => ∃ (j : Nat), i = .int .i64 (j : Int) ∧ j ≤ k ∧ Pair w1 wr v u (smalls j) (blanks j)) (fun _ _ i _ => k - (intOf i).toNat)
  case atStart => exact ⟨0, rfl, Nat.zero_le _, Pair.nil _⟩
  case round =>
    obtain ⟨j, rfl, hj, hp⟩ := hrel
    have P : Hid (Pair w1 wr u4 u5 (smalls j) (blanks j)) := hp
    clear hp
    by_cases hlt : j < k
    · have hsl := slice_one abc j (by have : abc.size = 26 := rfl; omega)
      simp only [abc] at hsl
      have NX : Hid (smalls (j + 1) = smalls j ++ [abc.extract j (j + 1)] ∧ blanks (j + 1) = blanks j ++ [t0]) := ⟨smalls_next j, blanks_next j⟩
      have HL : Hid ((smalls j).length + 1 ≤ 1000000 ∧ (blanks j).length + 1 ≤ 1000000) := by show _ ∧ _; simp [smalls, blanks]; omega
      simp only [abc] at NX
      generalize ByteArray.extract _ j (j + 1) = x at *
      go_wp2_with (first | (at_builtin; refine wpList_apdG elS_ok _ rfl rfl _ _ rfl u4 _ rfl (P.out.own1 _ _) _ rfl [x] (srcG_one elS_ok wr x) HL.out.1 ?_; intro v' w2 o2 s2; have P2 : Hid (Pair w1 w2 v' u5 (smalls j ++ [x]) (blanks j)) := P.out.fst s2 o2; clear o2 s2) | (at_builtin; refine wpList_apdG elS_ok _ rfl rfl _ _ rfl u5 _ rfl (P2.out.own2 _ _) _ rfl [t0] (srcG_one elS_ok w2 t0) HL.out.2 ?_; intro v3 w3 o3 s3; have P3 : Hid (Pair w1 w3 v' v3 (smalls j ++ [x]) (blanks j ++ [t0])) := P2.out.snd s3 o3; clear o3 s3))
      go_roundw
      case rel => exact ⟨j + 1, by go_num, by omega, by rw [NX.out.1, NX.out.2]; exact P3.out⟩
      case measure => simp [intOf]; omega
    · have hkl : j = k := by omega
      subst hkl
      have C := new_any wr u4 u5 (smalls j) (blanks j) P.out.one.sl P.out.two.sl (smalls_size j) (blanks_size j) (by simp [smalls]; omega) (by simp [blanks]; omega)
      have F2 : Hid (Fr no w wr) := F1.out.and P.out.fr
      clear P F1
      by_cases hbig : 16 < j
      · have HE : (newH (smalls j) (blanks j)).1 = 32 := by
          have := HK.out
          unfold manyOk at this
          rw [if_pos hbig] at this
          exact of_decide_eq_true this
        go_wp2_with fail
        refine C.mono ?_
        rintro e w2 ⟨q, rfl, h2, f2⟩
        have hq := h2.1 (by rw [HE]; decide)
        have F3 : Hid (Fr no w w2) := F2.out.and f2
        rw [HE]
        subst hq
        clear h2 f2 C
        go_wp2_with fail
        go_ret
        exact ⟨rfl, F3.out⟩
      · have HE : (newH (smalls j) (blanks j)).1 = 0 ∧ (newH (smalls j) (blanks j)).2.1.length = j + 2 ∧ (newH (smalls j) (blanks j)).2.1[0]? = some obj ∧ (newH (smalls j) (blanks j)).2.1[1]? = some fault := by
          have := HK.out
          unfold manyOk at this
          rw [if_neg hbig] at this
          exact of_decide_eq_true this
        go_wp2_with fail
        refine C.mono ?_
        rintro e w2 ⟨q, rfl, h2, f2⟩
        obtain ⟨p, hq, hb, -, -⟩ := h2.2 HE.1
        have F3 : Hid (Fr no w w2) := F2.out.and f2
        rw [HE.1]
        have HN : Hid ((newH (smalls j) (blanks j)).2.1.length = j + 2 ∧ (newH (smalls j) (blanks j)).2.1[0]? = some obj ∧ (newH (smalls j) (blanks j)).2.1[1]? = some fault) := HE.2
        have HBK : Hid (HB wr.heap.size w2 p (newH (smalls j) (blanks j)).2.1 (newH (smalls j) (blanks j)).2.2) := hb
        clear h2 f2 C HE hb HK
        subst hq
        generalize (newH (smalls j) (blanks j)).2.1 = N at *
        generalize (newH (smalls j) (blanks j)).2.2 = A at *
        have NM : Hid (∀ w', Fr no w2 w' → Calls Try.prog 14 #[.pointer (some ⟨p, 0, none⟩)] w' fun e w'' => ∃ v', e = .returned v' ∧ OwnG elS w'' v' N ∧ Fr no w' w'') := fun w' f => names_any w' p N A (HBK.out.keep f) (by rw [HN.out.1]; omega)
        have C1 := NM.out w2 (Fr.refl _ _)
        go_wp2_with fail
        refine C1.mono ?_
        rintro e w3 ⟨v3, rfl, o3, f3⟩
        obtain ⟨ov, cv, rfl⟩ := o3.form
        have F4 : Hid (Fr no w2 w3) := f3
        have C2 := NM.out w3 f3
        rw [HN.out.1]
        clear o3 f3 C1
        go_wp2_with fail
        refine C2.mono ?_
        rintro e w4 ⟨v4, rfl, o4, f4⟩
        have F5 : Hid (Fr no w2 w4) := F4.out.and f4
        obtain ⟨ad, cp, rfl, hcap, hmx, -, hit⟩ := o4.sl
        obtain ⟨b, off, rfl, hc⟩ := hit 0 obj HN.out.2.1
        have hc' : w4.cell? ⟨b, off, none⟩ = some (.string ⟨#[79, 98, 106, 101, 99, 116]⟩) := hc
        have C3 := NM.out w4 F5.out
        rw [HN.out.1]
        clear o4 f4 hit hc hmx hcap C2
        go_wp2_with fail
        refine C3.mono ?_
        rintro e w5 ⟨v5, rfl, o5, f5⟩
        have F6 : Hid (Fr no w w5) := F3.out.and (F5.out.and f5)
        obtain ⟨ad, cp, rfl, hcap, hmx, -, hit⟩ := o5.sl
        obtain ⟨b, off, rfl, hc⟩ := hit 1 fault HN.out.2.2
        have hc' : w5.cell? ⟨b, off + 1, none⟩ = some (.string ⟨#[70, 97, 117, 108, 116]⟩) := hc
        rw [HN.out.1]
        clear o5 f5 hit hc hmx hcap C3
        go_wp2_with fail
        go_ret
        exact ⟨rfl, F6.out⟩
end Go.Proofs.Ytabiagheflkiaaa
