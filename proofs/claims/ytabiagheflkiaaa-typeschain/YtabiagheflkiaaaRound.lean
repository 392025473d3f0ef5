/- The statement on rings: it returns true. -/
import Derived.Test.YtabiagheflkiaaaTwo
import Derived.Deep.RegionLaw
namespace Go.Proofs.Ytabiagheflkiaaa
open Go.ChangeShapes Go.WideShapes Go.ChangeAt Go.RowKit

def ABC : ByteArray := ⟨#[65, 66, 67, 68, 69, 70, 71, 72, 73, 74, 75, 76, 77, 78, 79, 80]⟩

/-- The first so many great letters, each a text. -/
def greats (k : Nat) : List ByteArray := (List.range k).map fun i => ABC.extract i (i + 1)
/-- Each one's next, round. -/
def nexts (k j : Nat) : List ByteArray := (List.range j).map fun i => ABC.extract ((i + 1) % k) ((i + 1) % k + 1)

theorem greats_next (k : Nat) : greats (k + 1) = greats k ++ [ABC.extract k (k + 1)] := by unfold greats; rw [List.range_succ, List.map_append]; rfl
theorem nexts_next (k j : Nat) : nexts k (j + 1) = nexts k j ++ [ABC.extract ((j + 1) % k) ((j + 1) % k + 1)] := by unfold nexts; rw [List.range_succ, List.map_append]; rfl

theorem greats_size (k : Nat) : ∀ x ∈ greats k, x.size ≤ 1099511627776 := by
  intro x hx
  obtain ⟨i, -, rfl⟩ := List.mem_map.1 hx
  rw [ByteArray.size_extract]
  have : ABC.size = 16 := rfl
  omega
theorem nexts_size (k j : Nat) : ∀ x ∈ nexts k j, x.size ≤ 1099511627776 := by
  intro x hx
  obtain ⟨i, -, rfl⟩ := List.mem_map.1 hx
  rw [ByteArray.size_extract]
  have : ABC.size = 16 := rfl
  omega

theorem wrap_small (z : Int) (h0 : 0 ≤ z) (h1 : z ≤ 1000) : IntKind.i64.wrap z = z := by
  unfold IntKind.wrap
  simp [IntKind.signed, IntKind.bits]
  omega

/-- The ring, opened at its end. -/
def opened (k : Nat) : List ByteArray := (nexts k k).set (k - 1) fault

theorem shut_ok : ∀ k : Fin 15, 0 < k.val → (newH (greats k.val) (nexts k.val k.val)).1 = 71 := by decide +kernel
theorem open_ok : ∀ k : Fin 15, 0 < k.val → (newH (greats k.val) (opened k.val)).1 = 0 ∧ inL fault (anc (newH (greats k.val) (opened k.val)).2.1 (newH (greats k.val) (opened k.val)).2.2 tA) = true ∧ (anc (newH (greats k.val) (opened k.val)).2.1 (newH (greats k.val) (opened k.val)).2.2 tA).length = k.val + 2 := by decide +kernel

set_option maxRecDepth 100000 in
set_option maxHeartbeats 2000000 in
theorem round_any (w : World) (n : Nat) (hn : n < 256) (op : Bool) : Calls Try.prog 6 #[.int .u8 (n : Int), .bool op] w fun e w' => e = .returned (.bool true) ∧ Fr no w w' := by
  have KN := known_any w
  have e14 : (n : Int) % 14 = ((n % 14 : Nat) : Int) := by omega
  have hk14 : n % 14 < 14 := Nat.mod_lt _ (by omega)
  have ek : ((n % 14 : Nat) : Int) + 1 = ((n % 14 + 1 : Nat) : Int) := by omega
  generalize hk0 : n % 14 = k0 at *
  generalize hk : k0 + 1 = k at *
  have hk1 : 0 < k := by omega
  have hk15 : k < 15 := by omega
  clear hk0 hk
  go_enter Try.func6, Try.ntmps6
  go_wp2_with fail
  refine KN.mono ?_
  rintro e w1 ⟨rfl, f1⟩
  have F1 : Hid (Fr no w w1) := f1
  clear f1 KN
  go_wp2_with fail
  clear e14 ek
  go_loopw [6, 7, 8] (fun v u i wr => ∃ (j : Nat), i = .int .i64 (j : Int) ∧ j ≤ k ∧ Pair w1 wr v u (greats j) (nexts k j)) (fun _ _ i _ => k - (intOf i).toNat)
  case atStart => exact ⟨0, rfl, Nat.zero_le _, Pair.nil _⟩
  case round =>
    obtain ⟨j, rfl, hj, hp⟩ := hrel
    have P : Hid (Pair w1 wr u6 u7 (greats j) (nexts k j)) := hp
    clear hp
    by_cases hlt : j < k
    · have hsz : ABC.size = 16 := rfl
      have hsl := slice_one ABC j (by omega)
      have hm1 : (j + 1) % k < k := Nat.mod_lt _ hk1
      have hsm := slice_one ABC ((j + 1) % k) (by omega)
      have em : ((j : Int) + 1) % (k : Int) = (((j + 1) % k : Nat) : Int) := by push_cast; rfl
      have em2 : ((j : Int) + 1).tmod (k : Int) = (((j + 1) % k : Nat) : Int) := by rw [Int.tmod_eq_emod_of_nonneg (by omega)]; push_cast; rfl
      have hkn : ¬ k = 0 := by omega
      have hwr : IntKind.i64.wrap ((j : Int) + 1) = (j : Int) + 1 := wrap_small _ (by omega) (by omega)
      have hwm : IntKind.i64.wrap ((((j + 1) % k : Nat) : Int) + 1) = (((j + 1) % k : Nat) : Int) + 1 := wrap_small _ (by omega) (by omega)
      simp only [ABC] at hsl hsm
      have NX : Hid (greats (j + 1) = greats j ++ [ABC.extract j (j + 1)] ∧ nexts k (j + 1) = nexts k j ++ [ABC.extract ((j + 1) % k) ((j + 1) % k + 1)]) := ⟨greats_next j, nexts_next k j⟩
      have HL : Hid ((greats j).length + 1 ≤ 1000000 ∧ (nexts k j).length + 1 ≤ 1000000) := by show _ ∧ _; simp [greats, nexts]; omega
      simp only [ABC] at NX
      generalize ByteArray.extract _ j (j + 1) = x at *
      generalize ByteArray.extract _ ((j + 1) % k) ((j + 1) % k + 1) = x2 at *
      generalize (j + 1) % k = m at *
      clear hsz
      go_wp2_with (at_builtin; refine wpList_apdG elS_ok _ rfl rfl _ _ rfl u6 _ rfl (P.out.own1 _ _) _ rfl [x] (srcG_one elS_ok wr x) HL.out.1 ?_; intro v' w2 o2 s2; have P2 : Hid (Pair w1 w2 v' u7 (greats j ++ [x]) (nexts k j)) := P.out.fst s2 o2; clear o2 s2)
      go_region_law (refine step_apdG elS_ok (w2.drew.alloc (.cells #[.string x2] 9)) rfl rfl (.tmp 29) (.tmp 40) rfl u7 (nexts k j) (by simp [Act.eval]) (P2.out.drew.own2 _ _) _ (by simp [Act.eval]) [x2] (srcG_one elS_ok w2.drew x2) HL.out.2 ?_; intro v3 w3 o3 s3; have P3 : Hid (Pair w1 w3 v' v3 (greats j ++ [x]) (nexts k j ++ [x2])) := P2.out.drew.snd s3 o3; clear o3 s3)
      go_wp2_with fail
      go_roundw
      case rel => exact ⟨j + 1, by go_num, by omega, by rw [NX.out.1, NX.out.2]; exact P3.out⟩
      case measure => simp [intOf]; omega
    · have hkl : j = k := by omega
      subst hkl
      have hgl : (greats j).length = j := by simp [greats]
      have hnl : (nexts j j).length = j := by simp [nexts]
      have F2 : Hid (Fr no w wr) := F1.out.and P.out.fr
      cases op with
      | false =>
        have C := new_any wr u6 u7 (greats j) (nexts j j) P.out.one.sl P.out.two.sl (greats_size j) (nexts_size j j) (by omega) (by omega)
        have HE := shut_ok ⟨j, hk15⟩ hk1
        simp only [] at HE
        clear P F1 hgl hnl
        go_wp2_with fail
        refine C.mono ?_
        rintro e w2 ⟨q, rfl, h2, f2⟩
        have hq := h2.1 (by rw [HE]; decide)
        have F3 : Hid (Fr no w w2) := F2.out.and f2
        rw [HE]
        subst hq
        clear h2 f2 C
        go_wp2_with fail
        go_ret
        exact ⟨rfl, F3.out⟩
      | true =>
        obtain ⟨g, cap, rfl, hfz, ⟨u, hcu⟩, hsl, hfr⟩ := own_store P.out.two (i := j - 1) (by omega) fault
        rw [hnl] at P hsl hfr ⊢
        have hsl1 : SlG elS (wr.setCell ⟨g, j - 1, none⟩ (.string fault)) u6 (greats j) := (P.out.one.kept hfr (fun k hk e => P.out.apart k hk e)).sl
        have C := new_any _ u6 _ (greats j) (opened j) hsl1 hsl (greats_size j) (fun x hx => by
          rcases List.mem_or_eq_of_mem_set hx with h | h
          · exact nexts_size j j x h
          · rw [h]; decide) (by omega) (by simp [opened, nexts]; omega)
        have HE := open_ok ⟨j, hk15⟩ hk1
        simp only [] at HE
        have F3 : Hid (Fr no w (wr.setCell ⟨g, j - 1, none⟩ (.string fault))) := F2.out.new hfr (fun i hi e => by have := P.out.new2 i e; have := F1.out.size; omega)
        have e1 : (j : Int) - 1 = ((j - 1 : Nat) : Int) := by omega
        have hi1 : ((j - 1 : Nat) : Int) < (j : Int) := by omega
        obtain ⟨R, hR⟩ : ∃ R, R = newH (greats j) (opened j) := ⟨_, rfl⟩
        rw [← hR] at C HE
        have hob : Hid (Pair w1 wr u6 (.slice (some ⟨g, 0, none⟩) j cap) (greats j) (nexts j j)) := P.out
        clear P F1 hgl hnl hsl hsl1 hfr F2 hR hob
        generalize j - 1 = i at *
        obtain ⟨HE0, HE1, HE2⟩ := HE
        go_wp2_with fail
        refine C.mono ?_
        rintro e w2 ⟨q, rfl, h2, f2⟩
        obtain ⟨p, rfl, hb, fi, hl⟩ := h2.2 HE0
        rw [HE0]
        have F4 : Hid (Fr no w w2) := F3.out.and f2
        have S := sub_any w2 p _ _ hb fi (by omega) tA fault (by decide)
        rw [HE1] at S
        have AN : Hid (∀ w3, Fr no w2 w3 → Calls Try.prog 17 #[.pointer (some ⟨p, 0, none⟩), .string tA] w3 fun e w' => ∃ v, e = .returned v ∧ OwnG elS w' v (anc R.2.1 R.2.2 tA) ∧ NewV w3 v ∧ Fr no w3 w') := fun w3 f => ancestors_any w3 p _ _ (hb.keep f) fi (by omega) tA (by decide)
        have HL : Hid ((anc R.2.1 R.2.2 tA).length = j + 2) := HE2
        clear h2 f2 hb fi hl C HE0 HE1 HE2 F3 hfz hcu e1 hi1
        go_wp2_with fail
        refine S.mono ?_
        rintro e w3 ⟨rfl, f3⟩
        have F5 : Hid (Fr no w w3) := F4.out.and f3
        have C2 := AN.out w3 f3
        clear f3 S
        go_wp2_with fail
        refine C2.mono ?_
        rintro e w4 ⟨v4, rfl, o4, -, f4⟩
        obtain ⟨ov, cv, rfl⟩ := o4.form
        have F6 : Hid (Fr no w w4) := F5.out.and f4
        rw [HL.out]
        clear o4 f4 C2
        go_wp2_with fail
        go_ret
        exact ⟨rfl, F6.out⟩
end Go.Proofs.Ytabiagheflkiaaa
