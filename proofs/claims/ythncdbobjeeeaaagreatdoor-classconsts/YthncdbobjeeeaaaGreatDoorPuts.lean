/- What code.Put writes: the document's bytes, or its error. -/
import Derived.Test.YthncdbobjeeeaaaGreatDoorRowi
import Derived.Test.YthncdbobjeeeaaaGreatDoorRef
namespace Go.Proofs.YthncdbobjeeeaaaGreatDoor
open Go.ChangeShapes Go.WideShapes Go.ChangeAt Go.RowKit

theorem isb_in (op a : Int) (h : isb op a = true) : ∃ n m : Nat, n < 48 ∧ op = (n : Int) ∧ a = (m : Int) ∧ m ≤ 999 := by
  unfold isb at h
  have h := of_decide_eq_true h
  have hr : 0 ≤ op ∧ op < 48 := Classical.byContradiction fun hr => by rw [od_out op hr] at h; omega
  exact ⟨op.toNat, a.toNat, by omega, by omega, by omega, by omega⟩

/-- The bytes of one instruction. -/
def one (x : Int × Int) : List Nat := x.1.toNat :: (if 0 < od x.1 then enc x.2.toNat else [])
/-- The bytes of a row of them. -/
def wri : List (Int × Int) → List Nat
  | [] => []
  | x :: l => one x ++ wri l
def allIs (l : List (Int × Int)) : Bool := l.all fun x => isb x.1 x.2

theorem wri_append (l m : List (Int × Int)) : wri (l ++ m) = wri l ++ wri m := by
  induction l with
  | nil => rfl
  | cons x l ih => simp [wri, ih]

theorem one_length (x : Int × Int) : 0 < (one x).length ∧ (one x).length ≤ 11 := by
  unfold one
  split
  · have := enc_length x.2.toNat; simp; omega
  · simp
theorem wri_length (l : List (Int × Int)) : (wri l).length ≤ l.length * 11 := by
  induction l with
  | nil => simp [wri]
  | cons x l ih => have := one_length x; simp [wri]; omega

/-- What Put writes. -/
def ptB (l : List (Int × Int)) : List Nat := if l.length ≤ 200 ∧ allIs l = true then enc l.length ++ wri l else []
/-- The error that it tells. -/
def ptE (l : List (Int × Int)) : Nat := if 200 < l.length then 32 else if allIs l = true then 0 else 40

set_option maxRecDepth 100000 in
theorem write_any (w0 w : World) (T : Tb w0) (p : Nat) (l : List Nat) (h : WB w0 w p l) (hb : l.length + 11 ≤ 1099511627776) (op a : Int) (hi : isb op a = true) :
    Calls Tryz.prog 146 #[.pointer (some ⟨p, 0, none⟩), ins op a] w fun e w' => e = .returned (.tuple #[]) ∧ WB w0 w' p (l ++ one (op, a)) := by
  obtain ⟨n, m, hn, rfl, rfl, hm⟩ := isb_in op a hi
  obtain ⟨v, ht, hp, hv, hf⟩ := h
  have hW := lt_of_heap ht.1
  have hAp : w.heap.size ≠ p := by omega
  have hAv : v.ownBlock ≠ some w.heap.size := fun e => absurd (ht.2.lt e) (Nat.lt_irrefl _)
  have ht1 := ht.alloc #[.int .i64 (n : Int), .int .i64 (m : Int)] 57
  have hb1 : (w.alloc (.cells #[.int .i64 (n : Int), .int .i64 (m : Int)] 57)).heap[w.heap.size]? = some (.cells #[.int .i64 (n : Int), .int .i64 (m : Int)] 57 (0, 0)) := heap_alloc_new w _
  have B := byte_any _ p v l ht1 (by omega) n
  have K : Hid (∀ w2 v2, Wt w2 p v2 (l ++ [n]) → Sp (fun k => k = p) v (w.alloc (.cells #[.int .i64 (n : Int), .int .i64 (m : Int)] 57)) v2 w2 →
      w2.cell? ⟨w.heap.size, 0, none⟩ = some (.int .i64 (n : Int)) ∧ w2.cell? ⟨w.heap.size, 1, none⟩ = some (.int .i64 (m : Int)) ∧ WB w0 w2 p (l ++ [n])) := by
    intro w2 v2 h2 s2
    have hb2 := s2.1.heap hb1 (fun s => s.elim hAp hAv)
    refine ⟨?_, ?_, WB.step hp hv (hf.alloc _ _) h2 s2⟩ <;> simp [World.cell?, hb2]
  have HT : Hid (Tb w0) := T
  have hc8 : IntKind.u8.wrap (n : Int) = (n : Int) := by simp [IntKind.wrap, IntKind.signed, IntKind.bits]; omega
  clear hb1 ht1 ht hv hf hW hAp hAv hp T hi
  unfold ins
  rcases od_cases (n : Int) with e | e | ⟨e1, e2⟩
  · rw [od_in n hn] at e
    have := opd_bounds n hn
    omega
  · have HO : Hid (one ((n : Int), (m : Int)) = [n]) := by show _ = _; unfold one; simp [e]
    go_enter Tryz.func146, Tryz.ntmps146
    go_wp2_with fail
    refine B.mono ?_
    rintro e w2 ⟨rfl, v2, h2, s2⟩
    obtain ⟨c0, c1, hw2⟩ := K.out w2 v2 h2 s2
    have O := operand_any w2 (HT.out.kept hw2.fr) (n : Int)
    rw [e] at O
    clear h2 s2 e
    go_wp2_with fail
    refine O.mono ?_
    rintro e w3 ⟨rfl, rfl⟩
    go_wp2_with fail
    go_end0
    rw [HO.out]
    exact ⟨rfl, hw2⟩
  · have HO : Hid (one ((n : Int), (m : Int)) = [n] ++ enc m) := by show _ = _; unfold one; simp [e1]
    have q0 : (od (n : Int) == 0) = false := by simp; omega
    clear e1 e2
    go_enter Tryz.func146, Tryz.ntmps146
    go_wp2_with fail
    refine B.mono ?_
    rintro e w2 ⟨rfl, v2, h2, s2⟩
    obtain ⟨c0, c1, hw2⟩ := K.out w2 v2 h2 s2
    have O := operand_any w2 (HT.out.kept hw2.fr) (n : Int)
    generalize od (n : Int) = k at *
    clear h2 s2
    go_wp2_with fail
    refine O.mono ?_
    rintro e w3 ⟨rfl, rfl⟩
    go_wp2_with fail
    refine (wb_uint w0 w3 p _ hw2 (by simp; omega) m (by omega)).mono ?_
    rintro e w4 ⟨rfl, hw4⟩
    go_wp2_with fail
    go_end0
    rw [HO.out, ← List.append_assoc]
    exact ⟨rfl, hw4⟩

def PutAt (w0 : World) (v : Value) (l : List (Int × Int)) (a : Act) (w : World) : Prop :=
  ∃ (k p : Nat) (u1 u2 u3 u5 u6 u7 u8 u9 u10 u11 u12 u13 u14 u15 u16 u17 u18 u19 u20 u21 u22 u23 u24 u25 u26 u27 u28 u29 u30 u31 u32 u33 u34 : Value),
    a = { tmps := #[v, u1, u2, u3, .pointer (some ⟨p, 0, none⟩), u5, u6, u7, u8, u9, u10, u11, u12, u13, u14, u15, u16, u17, u18, u19, u20, u21, u22, u23, u24, u25, u26, u27, u28, u29, u30, u31, u32, u33, u34], defers := [] } ∧ u5 = .int .i64 (k : Int) ∧ l.length ≤ 200 ∧ k ≤ l.length ∧ allIs (l.take k) = true ∧ WB w0 w p (enc l.length ++ wri (l.take k))

theorem take_next {α : Type} (l : List α) (k : Nat) (x : α) (h : l[k]? = some x) : l.take (k + 1) = l.take k ++ [x] := by
  rw [List.take_add_one, h]
  rfl

set_option maxRecDepth 100000 in
set_option maxHeartbeats 2000000 in
theorem put_any (w : World) (T : Tb w) (v : Value) (l : List (Int × Int)) (h : SlI w v l) :
    Calls Tryz.prog 99 #[v] w fun e w' => ∃ v', e = .returned (.tuple #[v', .int .i64 (ptE l : Int)]) ∧ Own w' v' (ptB l) ∧ Fr no w w' := by
  obtain ⟨ad, cap, rfl, hcap, hmx, hit⟩ := h
  unfold maxLen at hmx
  have HI : Hid (∀ (i : Nat) (x : Int × Int), l[i]? = some x → ∃ b off, ad = some ⟨b, off, none⟩ ∧ w.cell? ⟨b, off + i * 2, none⟩ = some (.int .i64 x.1) ∧ w.cell? ⟨b, off + i * 2 + 1, none⟩ = some (.int .i64 x.2)) := hit
  clear hit
  go_enter Tryz.func99, Tryz.ntmps99
  go_wp2_with fail
  refine wp_label_one 0 (PutAt w (.slice ad l.length cap) l) (fun a' _ => l.length - (intOf (a'.tmps.getD 5 undef)).toNat) rfl ?_ ?_
  · intro K h0 hr hn'
    by_cases h200 : 200 < l.length
    · have HE : Hid (ptE l = 32) := by show _ = _; unfold ptE; rw [if_pos h200]
      have HB : Hid (ptB l = []) := by show _ = _; unfold ptB; rw [if_neg (by omega)]
      go_wp2_with fail
      refine hr _ _ ?_
      go_ret2
      rw [HE.out, HB.out]
      exact ⟨_, rfl, Own.nil _, Fr.refl _ _⟩
    · go_wp2_with fail
      refine (wb_new w w (Fr.refl _ _)).mono ?_
      rintro e w1 ⟨p, rfl, h1⟩
      go_wp2_with fail
      refine (wb_uint w w1 p [] h1 (by simp) l.length (by omega)).mono ?_
      rintro e w2 ⟨rfl, h2⟩
      rw [List.nil_append] at h2
      go_wp2_with fail
      go_step3
      rename_i hk
      exact hk _ _ (h0 _ _ ⟨0, p, _, _, _, _, _, _, _, _, _, _, _, _, _, _, _, _, _, _, _, _, _, _, _, _, _, _, _, _, _, _, _, _, _, rfl, rfl, by omega, by omega, rfl, by simpa [wri] using h2⟩)
  · rintro a' w' ⟨k, p, u1, u2, u3, u5, u6, u7, u8, u9, u10, u11, u12, u13, u14, u15, u16, u17, u18, u19, u20, u21, u22, u23, u24, u25, u26, u27, u28, u29, u30, u31, u32, u33, u34, rfl, rfl, h200', hk, hall, hw⟩ K hj hr hn'
    have h200 : ¬ 200 < l.length := by omega
    clear h200'
    have HA : Hid (allIs (l.take k) = true) := hall
    clear hall
    have hwl := wri_length (l.take k)
    have hel := enc_length l.length
    have htl : (l.take k).length ≤ 200 := by rw [List.length_take]; omega
    by_cases hend : k = l.length
    · subst hend
      rw [List.take_length] at hw HA hwl
      have HE : Hid (ptE l = 0) := by show _ = _; unfold ptE; rw [if_neg h200, if_pos HA.out]
      have HB : Hid (ptB l = enc l.length ++ wri l) := by show _ = _; unfold ptB; rw [if_pos ⟨by omega, HA.out⟩]
      go_wp2_with fail
      refine (wb_bytes w w' p _ hw (by rw [List.length_append]; omega)).mono ?_
      rintro e w3 ⟨v3, rfl, o3, h3, _, _⟩
      go_wp2_with fail
      refine hr _ _ ?_
      go_ret2
      rw [HE.out, HB.out]
      exact ⟨_, rfl, o3, h3.fr⟩
    · have hlt : k < l.length := by omega
      have hne : ((k : Int) == (l.length : Int)) = false := by simp; omega
      obtain ⟨⟨op, a⟩, hx⟩ : ∃ x, l[k]? = some x := ⟨_, List.getElem?_eq_getElem hlt⟩
      obtain ⟨b, off, rfl, c0', c1'⟩ := HI.out k _ hx
      have c0 := hw.fr.cell c0' (fun f => f)
      have c1 := hw.fr.cell c1' (fun f => f)
      have HX : Hid (l[k]? = some (op, a)) := hx
      clear c0' c1' hx
      simp only [] at c0 c1
      have I := is_any w' (T.kept hw.fr) op a
      unfold ins at I
      by_cases hi : isb op a = true
      · rw [hi] at I
        go_wp2_with fail
        refine I.mono ?_
        rintro e w3 ⟨rfl, f3⟩
        have hw3 := hw.kept f3
        have d0 := f3.cell c0 (fun f => f)
        have d1 := f3.cell c1 (fun f => f)
        have W := write_any w w3 T p _ hw3 (by rw [List.length_append]; omega) op a hi
        unfold ins at W
        clear hw hw3 f3 c0 c1 I
        go_wp2_with fail
        refine W.mono ?_
        rintro e w4 ⟨rfl, hw4⟩
        clear W d0 d1
        go_wp2_with fail
        go_step3
        refine hj _ _ ⟨k + 1, p, _, _, _, _, _, _, _, _, _, _, _, _, _, _, _, _, _, _, _, _, _, _, _, _, _, _, _, _, _, _, _, _, _, rfl, by go_num, by omega, by omega, ?_, ?_⟩ ?_
        · rw [take_next l k _ HX.out]
          unfold allIs at HA ⊢
          rw [List.all_append, HA.out]
          simp [hi]
        · rw [take_next l k _ HX.out, wri_append, ← List.append_assoc]
          simpa [wri] using hw4
        · simp [intOf]; omega
      · have hi' : isb op a = false := by simpa using hi
        rw [hi'] at I
        have hno : allIs l = false := by
          unfold allIs
          rw [List.all_eq_false]
          exact ⟨_, List.mem_of_getElem? HX.out, by simpa using hi'⟩
        have HE : Hid (ptE l = 40) := by show _ = _; unfold ptE; rw [if_neg h200, if_neg (by simp [hno])]
        have HB : Hid (ptB l = []) := by show _ = _; unfold ptB; rw [if_neg (by simp [hno])]
        clear hno hi hi'
        go_wp2_with fail
        refine I.mono ?_
        rintro e w3 ⟨rfl, f3⟩
        go_wp2_with fail
        refine hr _ _ ?_
        go_ret2
        rw [HE.out, HB.out]
        exact ⟨_, rfl, Own.nil _, hw.fr.new f3 (fun _ _ f => f)⟩
end Go.Proofs.YthncdbobjeeeaaaGreatDoor
