/- New classes: those above them; rings. -/
import Derived.Test.YtabiagheflkiaaaAdd
namespace Go.Proofs.Ytabiagheflkiaaa
open Go.ChangeShapes Go.WideShapes Go.ChangeAt Go.RowKit

def obj : ByteArray := ⟨#[79, 98, 106, 101, 99, 116]⟩
def fault : ByteArray := ⟨#[70, 97, 117, 108, 116]⟩

/-- The one above, by its text. -/
def supOf (s : ByteArray) : ByteArray := if s.size = 0 then obj else s

/-- Those above, one by one: the first fault; the places up to there. -/
def addS (N : List ByteArray) (A : List Nat) : List ByteArray → Int × List Nat
  | [] => (0, A)
  | x :: l => match ix (supOf x) N with
    | none => (70, A)
    | some i => addS N (A ++ [i]) l

theorem hb_super {w0 wr : World} {p : Nat} {N : List ByteArray} {A : List Nat} (h : HB w0.heap.size wr p N A) (hf : Fr no w0 wr) (i : Nat) :
    ∃ oa ca, wr.cell? ⟨p, 2, none⟩ = some (.slice oa A.length ca) ∧ OwnG elI (wr.alloc (.cells #[.int .i64 (i : Int)] 3)) (.slice oa A.length ca) A ∧
      ∀ v' w2, OwnG elI w2 v' (A ++ [i]) → Sp (.slice oa A.length ca) (wr.alloc (.cells #[.int .i64 (i : Int)] 3)) v' w2 → ∃ ov q cv, v' = .slice ov q cv ∧
        w2.cell? ⟨p, 2, none⟩ = some (.slice oa A.length ca) ∧ w2.frozen? ⟨p, 2, none⟩ = false ∧ Hid (HB w0.heap.size (w2.setCell ⟨p, 2, none⟩ v') p N (A ++ [i])) ∧ Hid (Fr no w0 (w2.setCell ⟨p, 2, none⟩ v')) := by
  obtain ⟨vn, va, m, D, h1, h2, h3, h4, h5, h6, h7, h8, h9, n1, n2, n3, n4, n5, n6⟩ := h.parts
  obtain ⟨oa, ca, rfl⟩ := h3.form
  have a1 : Fr no wr (wr.alloc (.cells #[.int .i64 (i : Int)] 3)) := (Fr.refl no wr).alloc _ _
  have pa : (wr.alloc (.cells #[.int .i64 (i : Int)] 3)).heap[p]? = some (.cells #[vn, .map (some m), .slice oa A.length ca] 58 (0, 0)) := a1.heap h1 (fun f => f)
  refine ⟨oa, ca, (cells3 h1).2.2, h3.keep a1, fun v' w2 o2 s2 => ?_⟩
  obtain ⟨ov, cv, e⟩ := o2.form
  have p2 : w2.heap[p]? = some (.cells #[vn, .map (some m), .slice oa A.length ca] 58 (0, 0)) := s2.1.heap pa n3
  have own2 : Owns w2 m N.length D := owns_keep (h4.alloc _) s2.1 n5
  have vn2 : OwnG elS w2 vn N := (h2.keep a1).kept s2.1 (fun k hk e => n6 k hk e)
  have hsz : w0.heap.size ≤ (wr.alloc (.cells #[.int .i64 (i : Int)] 3)).heap.size := (hf.alloc _ _).size
  have f2 : Fr no w0 w2 := (hf.alloc _ _).new s2.1 (fun j hj e => by have := h9 j e; omega)
  have nv : ∀ k, v'.ownBlock = some k → w0.heap.size ≤ k := fun k hk => by
    by_cases hlt : k < (wr.alloc (.cells #[.int .i64 (i : Int)] 3)).heap.size
    · exact h9 k (s2.2 k hlt hk)
    · omega
  have hv'p : v'.ownBlock ≠ some p := fun e => by obtain ⟨cur, hc⟩ := o2.tag e; rw [p2] at hc; simp [elI] at hc
  have fs : Fr (fun k => k = p) w2 (w2.setCell ⟨p, 2, none⟩ v') := (Fr.refl (fun k => k = p) w2).setCell (p := ⟨p, 2, none⟩) (fun _ => rfl) v'
  exact ⟨ov, _, cv, e, (cells3 p2).2.2, (frozen3 p2).2, ⟨vn, v', m, D, set_third p2, vn2.kept fs (fun k hk e => n2 (by rw [hk, e])), o2.kept fs (fun k hk e => hv'p (by rw [hk, e])), owns_keep own2 fs (fun e => n1 e.symm), h5, h6, h7, h8, nv⟩, f2.new fs (fun i hi e => by omega)⟩

theorem obj_data : obj = { data := #[79, 98, 106, 101, 99, 116] } := rfl
theorem sup_empty {x : ByteArray} (h : x.toList = []) : supOf x = obj := by unfold supOf; rw [if_pos ((toList_nil x).1 h)]
theorem sup_self {x : ByteArray} (h : x.toList ≠ []) : supOf x = x := by unfold supOf; rw [if_neg (fun e => h ((toList_nil x).2 e))]

set_option maxRecDepth 100000 in
set_option maxHeartbeats 1000000 in
theorem addSupers_any (w0 w : World) (hw : Fr no w0 w) (p : Nat) (N : List ByteArray) (A : List Nat) (h : HB w0.heap.size w p N A) (v : Value) (l : List ByteArray) (hl : SlG elS w0 v l) (hs : ∀ x ∈ l, x.size ≤ 1099511627776) (hN : A.length + l.length ≤ 1000) :
    Calls Try.prog 31 #[.pointer (some ⟨p, 0, none⟩), v] w fun e w' => e = .returned (.int .i64 (addS N A l).1) ∧ HB w0.heap.size w' p N (addS N A l).2 ∧ Fr no w0 w' := by
  have HH : Hid (HB w0.heap.size w p N A) := h
  have HW : Hid (Fr no w0 w) := hw
  have HL : Hid (SlG elS w0 v l) := hl
  obtain ⟨ad, cp, rfl, hcap, hmx, -, -⟩ := id hl
  unfold maxLen at hmx
  have HS : Hid (∀ x ∈ l, x.size ≤ 1099511627776) := hs
  clear h hw hl hs
  generalize hln : l.length = n at *
  go_enter Try.func31, Try.ntmps31
  go_wp2_with fail
  go_loopw [11] (fun i wr => ∃ (k : Nat) (B : List Nat), i = .int .i64 (k : Int) ∧ k ≤ n ∧ HB w0.heap.size wr p N B ∧ Fr no w0 wr ∧ addS N A l = addS N B (l.drop k) ∧ B.length ≤ A.length + k) (fun i _ => n - (intOf i).toNat)
  case atStart => exact ⟨0, A, rfl, Nat.zero_le _, HH.out, HW.out, rfl, Nat.le_refl _⟩
  case round =>
    obtain ⟨k, B, rfl, hk, hh, hf, he, hM⟩ := hrel
    have H1 : Hid (HB w0.heap.size wr p N B) := hh
    have F1 : Hid (Fr no w0 wr) := hf
    have HE : Hid (addS N A l = addS N B (l.drop k)) := he
    have HM : Hid (B.length ≤ A.length + k) := hM
    clear hh hf he hM
    by_cases hlt : k < n
    · obtain ⟨x, hx⟩ : ∃ x, l[k]? = some x := ⟨_, List.getElem?_eq_getElem (by omega)⟩
      have hdr : Hid (l.drop k = x :: l.drop (k + 1)) := by
        obtain ⟨hk', e⟩ := List.getElem?_eq_some_iff.1 hx
        show _ = _
        rw [← e, List.getElem_cons_drop hk']
      obtain ⟨ad', cp', e', -, -, -, hit⟩ := HL.out.keep F1.out
      simp only [Value.slice.injEq] at e'
      obtain ⟨rfl, -, -⟩ := e'
      obtain ⟨b, off, rfl, hc⟩ := hit k x hx
      have hc' : wr.cell? ⟨b, off + k, none⟩ = some (.string x) := hc
      have hki : (k : Int) < (n : Int) := by omega
      have hxs := HS.out x (List.mem_of_getElem? hx)
      have hss : (supOf x).size ≤ 1099511627776 := by
        unfold supOf
        split
        · decide
        · exact hxs
      obtain ⟨vn, va, m, D, h1, h2, h3, h4, h5, -⟩ := H1.out
      obtain ⟨-, d1, -⟩ := cells3 h1
      obtain ⟨c, hrun, hcv⟩ := look h4 h5 (supOf x) hss
      clear hit hc hx h1 h2 h3 h4 h5 vn va
      cases hi : ix (supOf x) N with
      | none =>
        have HA : Hid (addS N A l = (70, B)) := by show _ = _; rw [HE.out, hdr.out]; unfold addS; rw [hi]
        rw [hi] at hrun
        simp only [Option.isSome_none] at hrun
        clear hi hcv
        by_cases hem : x.toList = []
        · rw [sup_empty hem, obj_data] at hrun
          go_wp2_with fail
          go_ret
          rw [HA.out]
          exact ⟨rfl, H1.out, F1.out⟩
        · rw [sup_self hem] at hrun
          have hne : x.toList.isEmpty = false := by simpa using hem
          go_wp2_with fail
          go_ret
          rw [HA.out]
          exact ⟨rfl, H1.out, F1.out⟩
      | some i =>
        have HA : Hid (addS N A l = addS N (B ++ [i]) (l.drop (k + 1))) := by show _ = _; rw [HE.out, hdr.out]; conv => lhs; unfold addS; rw [hi]
        obtain rfl := hcv i hi
        rw [hi] at hrun
        simp only [Option.isSome_some] at hrun
        obtain ⟨oa, ca, d2, ho, hstep⟩ := hb_super H1.out F1.out i
        have HO : Hid (OwnG elI (wr.alloc (.cells #[.int .i64 (i : Int)] 3)) (.slice oa B.length ca) B) := ho
        have HT : Hid (∀ v' w2, OwnG elI w2 v' (B ++ [i]) → Sp (.slice oa B.length ca) (wr.alloc (.cells #[.int .i64 (i : Int)] 3)) v' w2 → ∃ ov q cv, v' = .slice ov q cv ∧ w2.cell? ⟨p, 2, none⟩ = some (.slice oa B.length ca) ∧ w2.frozen? ⟨p, 2, none⟩ = false ∧ Hid (HB w0.heap.size (w2.setCell ⟨p, 2, none⟩ v') p N (B ++ [i])) ∧ Hid (Fr no w0 (w2.setCell ⟨p, 2, none⟩ v'))) := hstep
        have hM1 : Hid (B.length + 1 ≤ 1000000) := by have := HM.out; show _ ≤ _; omega
        clear hi hcv ho hstep
        generalize hml : B.length = ml at *
        by_cases hem : x.toList = []
        · rw [sup_empty hem, obj_data] at hrun
          go_wp2_with (first | (at_builtin; refine wpList_apdG elI_ok _ rfl rfl _ _ rfl (.slice oa ml ca) B rfl HO.out _ rfl [i] (srcG_one elI_ok wr i) (by rw [hml]; exact hM1.out) ?_; intro v' w2 o2 s2; obtain ⟨ov, q, cv, rfl, e0, z0, HB2, F2⟩ := HT.out v' w2 o2 s2; clear o2 s2) | go_in)
          go_roundw
          case rel => exact ⟨k + 1, B ++ [i], by go_num, by omega, HB2.out, F2.out, HA.out, by have := HM.out; simp; omega⟩
          case measure => simp [intOf]; omega
        · rw [sup_self hem] at hrun
          have hne : x.toList.isEmpty = false := by simpa using hem
          go_wp2_with (first | (at_builtin; refine wpList_apdG elI_ok _ rfl rfl _ _ rfl (.slice oa ml ca) B rfl HO.out _ rfl [i] (srcG_one elI_ok wr i) (by rw [hml]; exact hM1.out) ?_; intro v' w2 o2 s2; obtain ⟨ov, q, cv, rfl, e0, z0, HB2, F2⟩ := HT.out v' w2 o2 s2; clear o2 s2) | go_in)
          go_roundw
          case rel => exact ⟨k + 1, B ++ [i], by go_num, by omega, HB2.out, F2.out, HA.out, by have := HM.out; simp; omega⟩
          case measure => simp [intOf]; omega
    · have hkl : k = n := by omega
      subst hkl
      have HA : Hid (addS N A l = (0, B)) := by
        show _ = _
        rw [HE.out, List.drop_eq_nil_of_le (by omega)]
        rfl
      go_wp2_with fail
      go_ret
      rw [HA.out]
      exact ⟨rfl, H1.out, F1.out⟩

theorem ring_no {n : Nat} {A : List Nat} (h : ∀ i, i < n → (up A n i).2 = true) : ring n A = false := by
  unfold ring
  rw [List.any_eq_false]
  intro i hi
  rw [h i (List.mem_range.1 hi)]
  simp

theorem ring_yes {n : Nat} {A : List Nat} {i : Nat} (hi : i < n) (h : (up A n i).2 = false) : ring n A = true := by
  unfold ring
  rw [List.any_eq_true]
  exact ⟨i, List.mem_range.2 hi, by rw [h]; rfl⟩

set_option maxRecDepth 100000 in
theorem hasRing_any {c : Nat} (w : World) (p : Nat) (N : List ByteArray) (A : List Nat) (h : HB c w p N A) (hA : Fine N.length A) (hN : N.length ≤ 1000) :
    Calls Try.prog 32 #[.pointer (some ⟨p, 0, none⟩)] w fun e w' => e = .returned (.bool (ring N.length A)) ∧ Fr no w w' := by
  have HH : Hid (HB c w p N A) := h
  obtain ⟨vn, va, m, D, h1, h2, -⟩ := id h
  obtain ⟨d0, -, -⟩ := cells3 h1
  obtain ⟨on, cn, rfl⟩ := h2.form
  clear h h1 h2
  have HWY : Hid (∀ w' i0, Fr no w w' → i0 < N.length → Calls Try.prog 35 #[.pointer (some ⟨p, 0, none⟩), .int .i64 (i0 : Int)] w' fun e w'' => ∃ v, e = .returned (.tuple #[v, .bool (up A N.length i0).2]) ∧ OwnG elI w'' v (up A N.length i0).1 ∧ NewV w' v ∧ Fr no w' w'') :=
    fun w' i0 f hi => way_any w' p N A (HH.out.keep f) hA hN i0 hi
  generalize hn : N.length = n at *
  go_enter Try.func32, Try.ntmps32
  go_wp2_with fail
  go_loopw [11] (fun i wr => ∃ (k : Nat), i = .int .i64 (k : Int) ∧ k ≤ n ∧ Fr no w wr ∧ ∀ j, j < k → (up A n j).2 = true) (fun i _ => n - (intOf i).toNat)
  case atStart => exact ⟨0, rfl, Nat.zero_le _, Fr.refl _ _, fun j hj => absurd hj (by omega)⟩
  case round =>
    obtain ⟨k, rfl, hk, hf, hall⟩ := hrel
    have F1 : Hid (Fr no w wr) := hf
    have HA : Hid (∀ j, j < k → (up A n j).2 = true) := hall
    clear hall
    by_cases hlt : k < n
    · have W := HWY.out wr k hf hlt
      have hki : (k : Int) < (n : Int) := by omega
      clear hf
      cases hu : (up A n k).2 with
      | true =>
        rw [hu] at W
        have HT : Hid (∀ j, j < k + 1 → (up A n j).2 = true) := fun j hj => by
          by_cases hjk : j < k
          · exact HA.out j hjk
          · obtain rfl : j = k := by omega
            exact hu
        clear hu
        go_wp2_with fail
        refine W.mono ?_
        rintro e w1 ⟨v, rfl, -, -, f1⟩
        have F2 : Hid (Fr no w w1) := F1.out.and f1
        clear f1
        go_wp2_with fail
        go_roundw
        case rel => exact ⟨k + 1, by go_num, by omega, F2.out, HT.out⟩
        case measure => simp [intOf]; omega
      | false =>
        rw [hu] at W
        have HT : Hid (ring n A = true) := ring_yes hlt hu
        clear hu
        go_wp2_with fail
        refine W.mono ?_
        rintro e w1 ⟨v, rfl, -, -, f1⟩
        have F2 : Hid (Fr no w w1) := F1.out.and f1
        clear f1
        go_wp2_with fail
        go_ret
        rw [HT.out]
        exact ⟨rfl, F2.out⟩
    · have hkl : k = n := by omega
      subst hkl
      have HT : Hid (ring k A = false) := ring_no HA.out
      clear hf
      go_wp2_with fail
      go_ret
      rw [HT.out]
      exact ⟨rfl, F1.out⟩
end Go.Proofs.Ytabiagheflkiaaa
