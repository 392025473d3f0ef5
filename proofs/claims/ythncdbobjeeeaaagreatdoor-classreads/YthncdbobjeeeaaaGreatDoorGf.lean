/- What code.Put writes: the document's bytes, or its error. -/
import Derived.Test.YthncdbobjeeeaaaGreatDoorGc
import Derived.Test.YthncdbobjeeeaaaGreatDoorGd
import Derived.Test.YthncdbobjeeeaaaGreatDoorGb
namespace Go.Proofs.YthncdbobjeeeaaaGreatDoor
open Go.ChangeShapes Go.WideShapes Go.ChangeAt Go.RowKit

theorem isb_in (op a : Int) (h : isb op a = true) : ∃ n m : Nat, n < 48 ∧ op = (n : Int) ∧ a = (m : Int) ∧ m ≤ 999 := by
  unfold isb at h
  have h := of_decide_eq_true h
  have hr : 0 ≤ op ∧ op < 48 := Classical.byContradiction fun hr => by rw [od_out op hr] at h; omega
  exact ⟨op.toNat, a.toNat, by omega, by omega, by omega, by omega⟩

/-- The bytes of one instruction. -/
def one (x : Int × Int) : List Nat := x.1.toNat :: (if 0 < od x.1 then enc x.2.toNat else [])
/-- The bytes of a row of them. -/
def wri : List (Int × Int) → List Nat
  | [] => []
  | x :: l => one x ++ wri l
def allIs (l : List (Int × Int)) : Bool := l.all fun x => isb x.1 x.2

theorem wri_append (l m : List (Int × Int)) : wri (l ++ m) = wri l ++ wri m := by
  induction l with
  | nil => rfl
  | cons x l ih => simp [wri, ih]

theorem one_length (x : Int × Int) : 0 < (one x).length ∧ (one x).length ≤ 11 := by
  unfold one
  split
  · have := enc_length x.2.toNat; simp; omega
  · simp
theorem wri_length (l : List (Int × Int)) : (wri l).length ≤ l.length * 11 := by
  induction l with
  | nil => simp [wri]
  | cons x l ih => have := one_length x; simp [wri]; omega

/-- What Put writes. -/
def ptB (l : List (Int × Int)) : List Nat := if l.length ≤ 200 ∧ allIs l = true then enc l.length ++ wri l else []
/-- The error that it tells. -/
def ptE (l : List (Int × Int)) : Nat := if 200 < l.length then 32 else if allIs l = true then 0 else 40

set_option maxRecDepth 100000 in
theorem write_any (w0 w : World) (T : Tb w0) (p : Nat) (l : List Nat) (h : WB w0 w p l) (hb : l.length + 11 ≤ 1099511627776) (op a : Int) (hi : isb op a = true) :
    Calls Tryz.prog 146 #[.pointer (some ⟨p, 0, none⟩), ins op a] w fun e w' => e = .returned (.tuple #[]) ∧ WB w0 w' p (l ++ one (op, a)) := by
  obtain ⟨n, m, hn, rfl, rfl, hm⟩ := isb_in op a hi
  obtain ⟨v, ht, hp, hv, hf⟩ := h
  have hW := lt_of_heap ht.1
  have hAp : w.heap.size ≠ p := by omega
  have hAv : v.ownBlock ≠ some w.heap.size := fun e => absurd (ht.2.lt e) (Nat.lt_irrefl _)
  have ht1 := ht.alloc #[.int .i64 (n : Int), .int .i64 (m : Int)] 57
  have hb1 : (w.alloc (.cells #[.int .i64 (n : Int), .int .i64 (m : Int)] 57)).heap[w.heap.size]? = some (.cells #[.int .i64 (n : Int), .int .i64 (m : Int)] 57 (0, 0)) := heap_alloc_new w _
  have B := byte_any _ p v l ht1 (by omega) n
  have K : Hid (∀ w2 v2, Wt w2 p v2 (l ++ [n]) → Sp (fun k => k = p) v (w.alloc (.cells #[.int .i64 (n : Int), .int .i64 (m : Int)] 57)) v2 w2 →
      w2.cell? ⟨w.heap.size, 0, none⟩ = some (.int .i64 (n : Int)) ∧ w2.cell? ⟨w.heap.size, 1, none⟩ = some (.int .i64 (m : Int)) ∧ WB w0 w2 p (l ++ [n])) := by
    intro w2 v2 h2 s2
    have hb2 := s2.1.heap hb1 (fun s => s.elim hAp hAv)
    refine ⟨?_, ?_, WB.step hp hv (hf.alloc _ _) h2 s2⟩ <;> simp [World.cell?, hb2]
  have HT : Hid (Tb w0) := T
  have hc8 : IntKind.u8.wrap (n : Int) = (n : Int) := by simp [IntKind.wrap, IntKind.signed, IntKind.bits]; omega
  clear hb1 ht1 ht hv hf hW hAp hAv hp T hi
  unfold ins
  rcases od_cases (n : Int) with e | e | ⟨e1, e2⟩
  · rw [od_in n hn] at e
    have := opd_bounds n hn
    omega
  · have HO : Hid (one ((n : Int), (m : Int)) = [n]) := by show _ = _; unfold one; simp [e]
    go_enter Tryz.func146, Tryz.ntmps146
    go_wp2_with fail
    refine B.mono ?_
    rintro e w2 ⟨rfl, v2, h2, s2⟩
    obtain ⟨c0, c1, hw2⟩ := K.out w2 v2 h2 s2
    have O := operand_any w2 (HT.out.kept hw2.fr) (n : Int)
    rw [e] at O
    clear h2 s2 e
    go_wp2_with fail
    refine O.mono ?_
    rintro e w3 ⟨rfl, rfl⟩
    go_wp2_with fail
    go_end0
    rw [HO.out]
    exact ⟨rfl, hw2⟩
  · have HO : Hid (one ((n : Int), (m : Int)) = [n] ++ enc m) := by show _ = _; unfold one; simp [e1]
    have q0 : (od (n : Int) == 0) = false := by simp; omega
    clear e1 e2
    go_enter Tryz.func146, Tryz.ntmps146
    go_wp2_with fail
    refine B.mono ?_
    rintro e w2 ⟨rfl, v2, h2, s2⟩
    obtain ⟨c0, c1, hw2⟩ := K.out w2 v2 h2 s2
    have O := operand_any w2 (HT.out.kept hw2.fr) (n : Int)
    generalize od (n : Int) = k at *
    clear h2 s2
    go_wp2_with fail
    refine O.mono ?_
    rintro e w3 ⟨rfl, rfl⟩
    go_wp2_with fail
    refine (wb_uint w0 w3 p _ hw2 (by simp; omega) m (by omega)).mono ?_
    rintro e w4 ⟨rfl, hw4⟩
    go_wp2_with fail
    go_end0
    rw [HO.out, ← List.append_assoc]
    exact ⟨rfl, hw4⟩

def PutAt (w0 : World) (v : Value) (l : List (Int × Int)) (a : Act) (w : World) : Prop :=
  ∃ (k p : Nat) (u1 u2 u3 u5 u6 u7 u8 u9 u10 u11 u12 u13 u14 u15 u16 u17 u18 u19 u20 u21 u22 u23 u24 u25 u26 u27 u28 u29 u30 u31 u32 u33 u34 : Value),
    a = { tmps := #[v, u1, u2, u3, .pointer (some ⟨p, 0, none⟩), u5, u6, u7, u8, u9, u10, u11, u12, u13, u14, u15, u16, u17, u18, u19, u20, u21, u22, u23, u24, u25, u26, u27, u28, u29, u30, u31, u32, u33, u34], defers := [] } ∧ u5 = .int .i64 (k : Int) ∧ l.length ≤ 200 ∧ k ≤ l.length ∧ allIs (l.take k) = true ∧ WB w0 w p (enc l.length ++ wri (l.take k))

theorem take_next {α : Type} (l : List α) (k : Nat) (x : α) (h : l[k]? = some x) : l.take (k + 1) = l.take k ++ [x] := by
  rw [List.take_add_one, h]
  rfl

set_option maxRecDepth 100000 in
set_option maxHeartbeats 2000000 in
theorem put_any (w : World) (T : Tb w) (v : Value) (l : List (Int × Int)) (h : SlI w v l) :
    Calls Tryz.prog 99 #[v] w fun e w' => ∃ v', e = .returned (.tuple #[v', .int .i64 (ptE l : Int)]) ∧ Own w' v' (ptB l) ∧ Fr no w w' := by
  obtain ⟨ad, cap, rfl, hcap, hmx, hit⟩ := h
  unfold maxLen at hmx
  have HI : Hid (∀ (i : Nat) (x : Int × Int), l[i]? = some x → ∃ b off, ad = some ⟨b, off, none⟩ ∧ w.cell? ⟨b, off + i * 2, none⟩ = some (.int .i64 x.1) ∧ w.cell? ⟨b, off + i * 2 + 1, none⟩ = some (.int .i64 x.2)) := hit
  clear hit
  go_enter Tryz.func99, Tryz.ntmps99
  go_wp2_with fail
  refine wp_label_one 0 (PutAt w (.slice ad l.length cap) l) (fun a' _ => l.length - (intOf (a'.tmps.getD 5 undef)).toNat) rfl ?_ ?_
  · intro K h0 hr hn'
    by_cases h200 : 200 < l.length
    · have HE : Hid (ptE l = 32) := by show _ = _; unfold ptE; rw [if_pos h200]
      have HB : Hid (ptB l = []) := by show _ = _; unfold ptB; rw [if_neg (by omega)]
      go_wp2_with fail
      refine hr _ _ ?_
      go_ret2
      rw [HE.out, HB.out]
      exact ⟨_, rfl, Own.nil _, Fr.refl _ _⟩
    · go_wp2_with fail
      refine (wb_new w w (Fr.refl _ _)).mono ?_
      rintro e w1 ⟨p, rfl, h1⟩
      go_wp2_with fail
      refine (wb_uint w w1 p [] h1 (by simp) l.length (by omega)).mono ?_
      rintro e w2 ⟨rfl, h2⟩
      rw [List.nil_append] at h2
      go_wp2_with fail
      go_step3
      rename_i hk
      exact hk _ _ (h0 _ _ ⟨0, p, _, _, _, _, _, _, _, _, _, _, _, _, _, _, _, _, _, _, _, _, _, _, _, _, _, _, _, _, _, _, _, _, _, rfl, rfl, by omega, by omega, rfl, by simpa [wri] using h2⟩)
  · rintro a' w' ⟨k, p, u1, u2, u3, u5, u6, u7, u8, u9, u10, u11, u12, u13, u14, u15, u16, u17, u18, u19, u20, u21, u22, u23, u24, u25, u26, u27, u28, u29, u30, u31, u32, u33, u34, rfl, rfl, h200', hk, hall, hw⟩ K hj hr hn'
    have h200 : ¬ 200 < l.length := by omega
    clear h200'
    have HA : Hid (allIs (l.take k) = true) := hall
    clear hall
    have hwl := wri_length (l.take k)
    have hel := enc_length l.length
    have htl : (l.take k).length ≤ 200 := by rw [List.length_take]; omega
    by_cases hend : k = l.length
    · subst hend
      rw [List.take_length] at hw HA hwl
      have HE : Hid (ptE l = 0) := by show _ = _; unfold ptE; rw [if_neg h200, if_pos HA.out]
      have HB : Hid (ptB l = enc l.length ++ wri l) := by show _ = _; unfold ptB; rw [if_pos ⟨by omega, HA.out⟩]
      go_wp2_with fail
      refine (wb_bytes w w' p _ hw (by rw [List.length_append]; omega)).mono ?_
      rintro e w3 ⟨v3, rfl, o3, h3, _, _⟩
      go_wp2_with fail
      refine hr _ _ ?_
      go_ret2
      rw [HE.out, HB.out]
      exact ⟨_, rfl, o3, h3.fr⟩
    · have hlt : k < l.length := by omega
      have hne : ((k : Int) == (l.length : Int)) = false := by simp; omega
      obtain ⟨⟨op, a⟩, hx⟩ : ∃ x, l[k]? = some x := ⟨_, List.getElem?_eq_getElem hlt⟩
      obtain ⟨b, off, rfl, c0', c1'⟩ := HI.out k _ hx
      have c0 := hw.fr.cell c0' (fun f => f)
      have c1 := hw.fr.cell c1' (fun f => f)
      have HX : Hid (l[k]? = some (op, a)) := hx
      clear c0' c1' hx
      simp only [] at c0 c1
      have I := is_any w' (T.kept hw.fr) op a
      unfold ins at I
      by_cases hi : isb op a = true
      · rw [hi] at I
        go_wp2_with fail
        refine I.mono ?_
        rintro e w3 ⟨rfl, f3⟩
        have hw3 := hw.kept f3
        have d0 := f3.cell c0 (fun f => f)
        have d1 := f3.cell c1 (fun f => f)
        have W := write_any w w3 T p _ hw3 (by rw [List.length_append]; omega) op a hi
        unfold ins at W
        clear hw hw3 f3 c0 c1 I
        go_wp2_with fail
        refine W.mono ?_
        rintro e w4 ⟨rfl, hw4⟩
        clear W d0 d1
        go_wp2_with fail
        go_step3
        refine hj _ _ ⟨k + 1, p, _, _, _, _, _, _, _, _, _, _, _, _, _, _, _, _, _, _, _, _, _, _, _, _, _, _, _, _, _, _, _, _, _, rfl, by go_num, by omega, by omega, ?_, ?_⟩ ?_
        · rw [take_next l k _ HX.out]
          unfold allIs at HA ⊢
          rw [List.all_append, HA.out]
          simp [hi]
        · rw [take_next l k _ HX.out, wri_append, ← List.append_assoc]
          simpa [wri] using hw4
        · simp [intOf]; omega
      · have hi' : isb op a = false := by simpa using hi
        rw [hi'] at I
        have hno : allIs l = false := by
          unfold allIs
          rw [List.all_eq_false]
          exact ⟨_, List.mem_of_getElem? HX.out, by simpa using hi'⟩
        have HE : Hid (ptE l = 40) := by show _ = _; unfold ptE; rw [if_neg h200, if_neg (by simp [hno])]
        have HB : Hid (ptB l = []) := by show _ = _; unfold ptB; rw [if_neg (by simp [hno])]
        clear hno hi hi'
        go_wp2_with fail
        refine I.mono ?_
        rintro e w3 ⟨rfl, f3⟩
        go_wp2_with fail
        refine hr _ _ ?_
        go_ret2
        rw [HE.out, HB.out]
        exact ⟨_, rfl, Own.nil _, hw.fr.new f3 (fun _ _ f => f)⟩
end Go.Proofs.YthncdbobjeeeaaaGreatDoor

/- What the document's own Put writes. -/
namespace Go.Proofs.YthncdbobjeeeaaaGreatDoor
open Go.ChangeShapes Go.WideShapes Go.ChangeAt Go.RowKit

theorem Sp.first {q : Nat → Prop} {w w1 w2 : World} {v1 v2 : Value} (h : Sp q nv w v1 w1) (k : Sp q v1 w1 v2 w2) : Sp q nv w v2 w2 := h.trans k

set_option maxRecDepth 100000 in
set_option maxHeartbeats 2000000 in
theorem docPut_any (w : World) (v : Value) (l : List (Int × Int)) (h : SlI w v l) :
    Calls Tryz.prog 86 #[v] w fun e w' => ∃ v', e = .returned (.tuple #[v', .int .i64 (ptE l : Int)]) ∧ Own w' v' (ptB l) ∧ Fr no w w' := by
  obtain ⟨ad, cap, rfl, hcap, hmx, hit⟩ := h
  unfold maxLen at hmx
  have HI : Hid (∀ (i : Nat) (x : Int × Int), l[i]? = some x → ∃ b off, ad = some ⟨b, off, none⟩ ∧ w.cell? ⟨b, off + i * 2, none⟩ = some (.int .i64 x.1) ∧ w.cell? ⟨b, off + i * 2 + 1, none⟩ = some (.int .i64 x.2)) := hit
  clear hit
  by_cases h200 : 200 < l.length
  · have HE : Hid (ptE l = 32) := by show _ = _; unfold ptE; rw [if_pos h200]
    have HB : Hid (ptB l = []) := by show _ = _; unfold ptB; rw [if_neg (by omega)]
    go_enter Tryz.func86, Tryz.ntmps86
    go_wp2_with fail
    go_ret2
    rw [HE.out, HB.out]
    exact ⟨_, rfl, Own.nil _, Fr.refl _ _⟩
  · go_enter Tryz.func86, Tryz.ntmps86
    go_wp2_with fail
    refine (ref_uint w nv [] (Own.nil w) (by simp) l.length (by omega)).mono ?_
    rintro e w1 ⟨v1, rfl, o1, s1⟩
    rw [List.nil_append] at o1
    go_wp2_with fail
    go_loopw [4, 5] (fun s i wr => ∃ (k : Nat), i = .int .i64 (k : Int) ∧ k ≤ l.length ∧ allIs (l.take k) = true ∧ Own wr s (enc l.length ++ wri (l.take k)) ∧ Sp no nv w s wr) (fun _ i _ => l.length - (intOf i).toNat)
    case atStart => exact ⟨0, rfl, Nat.zero_le _, rfl, by simpa [wri] using o1, s1⟩
    case round =>
      obtain ⟨k, rfl, hk, hall, ho, hs⟩ := hrel
      have HA : Hid (allIs (l.take k) = true) := hall
      clear hall o1 s1
      have hwl := wri_length (l.take k)
      have hel := enc_length l.length
      have htl : (l.take k).length ≤ 200 := by rw [List.length_take]; omega
      by_cases hlt : k < l.length
      · obtain ⟨⟨op, a⟩, hx⟩ : ∃ x, l[k]? = some x := ⟨_, List.getElem?_eq_getElem hlt⟩
        obtain ⟨b, off, rfl, c0', c1'⟩ := HI.out k _ hx
        have c0 := hs.fresh.1.cell c0' (fun f => f)
        have c1 := hs.fresh.1.cell c1' (fun f => f)
        have HX : Hid (l[k]? = some (op, a)) := hx
        have HC : Hid (w.cell? ⟨b, off + k * 2, none⟩ = some (.int .i64 op) ∧ w.cell? ⟨b, off + k * 2 + 1, none⟩ = some (.int .i64 a)) := ⟨c0', c1'⟩
        clear c0' c1' hx
        simp only [] at c0 c1
        have I := docIs_any wr op a
        unfold ins at I
        by_cases hi : isb op a = true
        · rw [hi] at I
          obtain ⟨n, m, hn, rfl, rfl, hm⟩ := isb_in op a hi
          have hc8 : IntKind.u8.wrap (n : Int) = (n : Int) := by simp [IntKind.wrap, IntKind.signed, IntKind.bits]; omega
          have hsz : (enc l.length ++ wri (l.take k)).length + 11 ≤ 1099511627776 := by rw [List.length_append]; omega
          have HN : Hid (allIs (l.take (k + 1)) = true) := by
            show _ = _
            rw [take_next l k _ HX.out]
            unfold allIs at HA ⊢
            rw [List.all_append, HA.out]
            simp [hi]
          have HL : Hid (enc l.length ++ wri (l.take (k + 1)) = (enc l.length ++ wri (l.take k)) ++ one ((n : Int), (m : Int))) := by
            show _ = _
            rw [take_next l k _ HX.out, wri_append, ← List.append_assoc]
            simp [wri]
          generalize enc l.length ++ wri (l.take k) = L at *
          clear hwl hel htl
          go_wp2_with fail
          refine I.mono ?_
          rintro e w3 ⟨rfl, f3⟩
          have d0 := f3.cell c0 (fun f => f)
          have d1 := f3.cell c1 (fun f => f)
          have o3 := ho.kept f3 (fun _ _ f => f)
          have s3 := hs.then f3 (fun _ _ f => f)
          have hS := src_one w3 n
          have o4 := own_alloc o3 #[.int .u8 ((n : Nat) : Int)] 5
          have s4 := s3.then ((Fr.refl no w3).alloc #[.int .u8 ((n : Nat) : Int)] 5) (fun _ _ f => f)
          have hbb : L.length + ([n] : List Nat).length ≤ 1099511627776 := by simp; omega
          have FC : Hid (∀ w5 : World, ∀ u5 : Value, Sp no u4 (w3.alloc (.cells #[.int .u8 ((n : Nat) : Int)] 5)) u5 w5 → w5.cell? ⟨b, off + k * 2, none⟩ = some (.int .i64 (n : Int)) ∧ w5.cell? ⟨b, off + k * 2 + 1, none⟩ = some (.int .i64 (m : Int)) ∧ Sp no nv w u5 w5) := by
            intro w5 u5 s5
            have f5 := (s4.trans s5).fresh.1
            exact ⟨f5.cell HC.out.1 (fun f => f), f5.cell HC.out.2 (fun f => f), s4.trans s5⟩
          clear ho hs o3 s3 s4 c0 c1 I f3
          obtain ⟨uo, un, uc, eu⟩ := o4.form
          subst eu
          rcases od_cases (n : Int) with e | e | ⟨e1, e2⟩
          · rw [od_in n hn] at e
            have := opd_bounds n hn
            omega
          · have HO : Hid (one ((n : Int), (m : Int)) = [n]) := by show _ = _; unfold one; simp [e]
            go_wp2_with (at_builtin; refine wpList_apd _ rfl rfl (.tmp 25) (.tmp 32) 22 rfl _ L rfl o4 _ rfl [n] hS hbb ?_; intro u5 w5 o5 s5; obtain ⟨e0, e1, s5'⟩ := FC.out w5 u5 s5; obtain ⟨uo', un', uc', eu'⟩ := o5.form; subst eu')
            have O := docOperand_any w5 (n : Int)
            rw [e] at O
            clear e
            refine O.mono ?_
            rintro e w6 ⟨rfl, rfl⟩
            go_wp2_with fail
            go_roundw
            case rel => exact ⟨k + 1, by go_num, by omega, HN.out, by rw [HL.out, HO.out]; exact o5, s5'⟩
            case measure => simp [intOf]; omega
          · have HO : Hid (one ((n : Int), (m : Int)) = [n] ++ enc m) := by show _ = _; unfold one; simp [e1]
            go_wp2_with (at_builtin; refine wpList_apd _ rfl rfl (.tmp 25) (.tmp 32) 22 rfl _ L rfl o4 _ rfl [n] hS hbb ?_; intro u5 w5 o5 s5; obtain ⟨e0, e1, s5'⟩ := FC.out w5 u5 s5; obtain ⟨uo', un', uc', eu'⟩ := o5.form; subst eu')
            have O := docOperand_any w5 (n : Int)
            generalize od (n : Int) = z at *
            refine O.mono ?_
            rintro e w6 ⟨rfl, rfl⟩
            go_wp2_with fail
            refine (ref_uint w6 _ _ o5 (by simp; omega) m (by omega)).mono ?_
            rintro e w7 ⟨u7, rfl, o7, s7⟩
            go_wp2_with fail
            go_roundw
            case rel => exact ⟨k + 1, by go_num, by omega, HN.out, by rw [HL.out, HO.out, ← List.append_assoc]; exact o7, s5'.trans s7⟩
            case measure => simp [intOf]; omega
        · have hi' : isb op a = false := by simpa using hi
          rw [hi'] at I
          have hno : allIs l = false := by
            unfold allIs
            rw [List.all_eq_false]
            exact ⟨_, List.mem_of_getElem? HX.out, by simpa using hi'⟩
          have HE : Hid (ptE l = 40) := by show _ = _; unfold ptE; rw [if_neg h200, if_neg (by simp [hno])]
          have HB : Hid (ptB l = []) := by show _ = _; unfold ptB; rw [if_neg (by simp [hno])]
          clear hno hi hi'
          go_wp2_with fail
          refine I.mono ?_
          rintro e w3 ⟨rfl, f3⟩
          go_wp2_with fail
          go_ret2
          rw [HE.out, HB.out]
          exact ⟨_, rfl, Own.nil _, hs.fresh.1.new f3 (fun _ _ f => f)⟩
      · have hkl : k = l.length := by omega
        subst hkl
        rw [List.take_length] at ho HA
        have HE : Hid (ptE l = 0) := by show _ = _; unfold ptE; rw [if_neg h200, if_pos HA.out]
        have HB : Hid (ptB l = enc l.length ++ wri l) := by show _ = _; unfold ptB; rw [if_pos ⟨by omega, HA.out⟩]
        go_wp2_with fail
        go_ret2
        rw [HE.out, HB.out]
        exact ⟨_, rfl, ho, hs.fresh.1⟩
end Go.Proofs.YthncdbobjeeeaaaGreatDoor

/- What code.Get reads: the document's instructions, or its error. -/
namespace Go.Proofs.YthncdbobjeeeaaaGreatDoor
open Go.ChangeShapes Go.WideShapes Go.ChangeAt Go.RowKit

/-- One instruction read: itself, the error, how many bytes. -/
def rone : List Nat → (Int × Int) × Nat × Nat
  | [] => ((0, 0), 30, 0)
  | c :: r => if od (c : Int) = -1 then ((0, 0), 40, 0) else if od (c : Int) = 0 then (((c : Int), 0), 0, 1)
    else if (rd r 0 0).2.1 ≠ 0 then ((0, 0), (rd r 0 0).2.1, 0) else if 999 < (rd r 0 0).1 then ((0, 0), 40, 0) else (((c : Int), ((rd r 0 0).1 : Int)), 0, 1 + (rd r 0 0).2.2)

theorem two_cells {w : World} {r : Nat} {x y : Value} {t : TypeId} (h : w.heap[r]? = some (.cells #[x, y] t (0, 0))) :
    w.cell? ⟨r, 0, none⟩ = some x ∧ w.cell? ⟨r, 1, none⟩ = some y ∧ w.frozen? ⟨r, 0, none⟩ = false ∧ w.frozen? ⟨r, 1, none⟩ = false := by
  refine ⟨?_, ?_, ?_, ?_⟩ <;> simp [World.cell?, World.frozen?, h]

theorem RB.set {w0 w : World} {p r : Nat} {l : List Nat} {x y : Int} {t : TypeId} (h : RB w0 w p l) (hr : w.heap[r]? = some (.cells #[.int .i64 x, .int .i64 y] t (0, 0))) (h0 : w0.heap.size ≤ r) (hp : r ≠ p) (u v : Value) :
    RB w0 ((w.setCell ⟨r, 0, none⟩ u).setCell ⟨r, 1, none⟩ v) p l := by
  have hf : Fr (fun k => k = r) w ((w.setCell ⟨r, 0, none⟩ u).setCell ⟨r, 1, none⟩ v) :=
    ((Fr.refl (fun k => k = r) w).setCell (p := ⟨r, 0, none⟩) (fun _ => rfl) u).setCell (p := ⟨r, 1, none⟩) (fun _ => rfl) v
  refine ⟨h.1.kept hf (fun e => hp e.symm) (fun k c hk e => ?_), h.2.1, h.2.2.new hf (fun i hi e => by omega)⟩
  unfold World.cell? at hk
  rw [e, hr] at hk
  obtain ⟨kb, ko, ke⟩ := k
  match ko, hk with
  | 0, hk => simp at hk
  | 1, hk => simp at hk
  | n + 2, hk => simp at hk

theorem two_set {w : World} {r : Nat} {x y u v : Value} {t : TypeId} (h : w.heap[r]? = some (.cells #[x, y] t (0, 0))) :
    ((w.setCell ⟨r, 0, none⟩ u).setCell ⟨r, 1, none⟩ v).heap[r]? = some (.cells #[u, v] t (0, 0)) := by
  have h1 : (w.setCell ⟨r, 0, none⟩ u).heap[r]? = some (.cells #[u, y] t (0, 0)) := by
    unfold World.setCell
    rw [Array.getElem?_modify, if_pos rfl, h]
    rfl
  unfold World.setCell at h1 ⊢
  rw [Array.getElem?_modify, if_pos rfl, h1]
  rfl

theorem results_ins (w : World) (r : Nat) (x y : Value) (h : w.heap[r]? = some (.cells #[x, y] 57 (0, 0))) (tmps : Array Value) (h2 : tmps.getD 2 undef = .pointer (some ⟨r, 0, none⟩)) :
    (results Tryz.f157 tmps).run Tryz.prog w = .ok (.tuple #[.agg #[x, y], tmps.getD 3 undef]) w := by
  have hl : (loadVar 57 ⟨r, 0, none⟩).run Tryz.prog w = .ok (.agg #[x, y]) w := by
    exact run_loadVar_row (P := Tryz.prog) w r 57 57 #[x, y] (0, 0) _ h Tryz.underlying57 rfl (by kernel_rfl)
  have h2' : tmps[2]?.getD undef = .pointer (some ⟨r, 0, none⟩) := by simpa using h2
  simp [results, asAddr, h2', hl]

set_option maxRecDepth 100000 in
set_option maxHeartbeats 2000000 in
theorem read_any (w0 w : World) (T : Tb w0) (p : Nat) (l : List Nat) (h : RB w0 w p l) (hl : ∀ c ∈ l, c < 256) (hb : l.length ≤ 1099511627776) :
    Calls Tryz.prog 157 #[.pointer (some ⟨p, 0, none⟩)] w fun e w' => e = .returned (.tuple #[ins (rone l).1.1 (rone l).1.2, .int .i64 ((rone l).2.1 : Int)]) ∧
      Fr (fun q => q = p) w w' ∧ ∃ r', RB w0 w' p r' ∧ ((rone l).2.1 = 0 → r' = l.drop (rone l).2.2) := by
  have hp : p < w.heap.size := by obtain ⟨⟨v, h1, _⟩, _, _⟩ := h; exact lt_of_heap h1
  have hW : w0.heap.size ≤ w.heap.size := h.2.2.size
  have ha : (w.alloc (.cells #[.int .i64 0, .int .i64 0] 57)).heap[w.heap.size]? = some (.cells #[.int .i64 0, .int .i64 0] 57 (0, 0)) := heap_alloc_new w _
  have hf : Fr no w (w.alloc (.cells #[.int .i64 0, .int .i64 0] 57)) := (Fr.refl no w).alloc _ _
  have h1 : RB w0 (w.alloc (.cells #[.int .i64 0, .int .i64 0] 57)) p l := ⟨h.1.kept hf (fun f => f) (fun _ _ _ f => f), h.2.1, h.2.2.new hf (fun _ _ f => f)⟩
  have B := readByte_any _ p l h1.1
  have K1 : Hid (∀ w2 r', Rd 176 w2 p r' → Fr (fun q => q = p) (w.alloc (.cells #[.int .i64 0, .int .i64 0] 57)) w2 → w2.heap[w.heap.size]? = some (.cells #[.int .i64 0, .int .i64 0] 57 (0, 0)) ∧ RB w0 w2 p r' ∧ Fr (fun q => q = p) w w2) := by
    intro w2 r' g1 g2
    exact ⟨g2.heap ha (fun e => by omega), h1.step g1 g2, hf.trans g2 (fun _ _ f => f.elim) (fun _ _ e => e)⟩
  have SET : Hid (∀ w2 r' u v, RB w0 w2 p r' → w2.heap[w.heap.size]? = some (.cells #[.int .i64 0, .int .i64 0] 57 (0, 0)) → Fr (fun q => q = p) w w2 →
      RB w0 ((w2.setCell ⟨w.heap.size, 0, none⟩ u).setCell ⟨w.heap.size, 1, none⟩ v) p r' ∧ Fr (fun q => q = p) w ((w2.setCell ⟨w.heap.size, 0, none⟩ u).setCell ⟨w.heap.size, 1, none⟩ v)) :=
    fun w2 r' u v g1 g2 g3 => ⟨g1.set g2 hW (by omega) u v, (g3.setCell (p := ⟨w.heap.size, 0, none⟩) (fun h => absurd h (Nat.lt_irrefl _)) u).setCell (p := ⟨w.heap.size, 1, none⟩) (fun h => absurd h (Nat.lt_irrefl _)) v⟩
  cases l with
  | nil =>
    have HR : Hid (rone [] = ((0, 0), 30, 0)) := rfl
    clear h hf h1 ha
    go_enter Tryz.func157, Tryz.ntmps157
    go_wp2_with fail
    refine B.mono ?_
    rintro e w2 ⟨rfl, g1, g2⟩
    obtain ⟨k1, k2, k3⟩ := K1.out w2 _ g1 g2
    obtain ⟨c0, c1, z0, z1⟩ := two_cells k1
    simp only [by1]
    clear g1 g2
    go_wp2_with fail
    refine bodyPost_ret (results_ins _ w.heap.size _ _ (two_set k1) _ rfl) rfl ?_
    rw [HR.out]
    exact ⟨rfl, (SET.out _ _ _ _ k2 k1 k3).2, _, (SET.out _ _ _ _ k2 k1 k3).1, fun h => by simp at h⟩
  | cons c r =>
    have hc := hl c (by simp)
    have hlr : ∀ d ∈ r, d < 256 := fun d hd => hl d (by simp [hd])
    have hbr : r.length ≤ 1099511627776 := by simp at hb; omega
    have HT : Hid (Tb w0) := T
    clear h hf h1 ha hl hb T
    have E : rone (c :: r) = if od (c : Int) = -1 then ((0, 0), 40, 0) else if od (c : Int) = 0 then (((c : Int), 0), 0, 1)
      else if (rd r 0 0).2.1 ≠ 0 then ((0, 0), (rd r 0 0).2.1, 0) else if 999 < (rd r 0 0).1 then ((0, 0), 40, 0) else (((c : Int), ((rd r 0 0).1 : Int)), 0, 1 + (rd r 0 0).2.2) := rfl
    rcases od_cases (c : Int) with e | e | ⟨e1, e2⟩
    · have HR : Hid (rone (c :: r) = ((0, 0), 40, 0)) := by show _ = _; rw [E, if_pos e]
      clear E
      go_enter Tryz.func157, Tryz.ntmps157
      go_wp2_with fail
      refine B.mono ?_
      rintro e' w2 ⟨rfl, g1, g2⟩
      obtain ⟨k1, k2, k3⟩ := K1.out w2 _ g1 g2
      obtain ⟨c0, c1, z0, z1⟩ := two_cells k1
      have O := operand_any w2 (HT.out.kept k2.2.2) (c : Int)
      rw [e] at O
      simp only [by1]
      clear g1 g2 e
      go_wp2_with fail
      refine O.mono ?_
      rintro e w3 ⟨rfl, rfl⟩
      go_wp2_with fail
      refine bodyPost_ret (results_ins _ w.heap.size _ _ (two_set k1) _ rfl) rfl ?_
      rw [HR.out]
      exact ⟨rfl, (SET.out _ _ _ _ k2 k1 k3).2, _, (SET.out _ _ _ _ k2 k1 k3).1, fun h => by simp at h⟩
    · have HR : Hid (rone (c :: r) = (((c : Int), 0), 0, 1)) := by show _ = _; rw [E, if_neg (by omega), if_pos e]
      clear E
      go_enter Tryz.func157, Tryz.ntmps157
      go_wp2_with fail
      refine B.mono ?_
      rintro e' w2 ⟨rfl, g1, g2⟩
      obtain ⟨k1, k2, k3⟩ := K1.out w2 _ g1 g2
      obtain ⟨c0, c1, z0, z1⟩ := two_cells k1
      have O := operand_any w2 (HT.out.kept k2.2.2) (c : Int)
      rw [e] at O
      simp only [by1]
      clear g1 g2 e
      go_wp2_with fail
      refine O.mono ?_
      rintro e w3 ⟨rfl, rfl⟩
      go_wp2_with fail
      refine bodyPost_ret (results_ins _ w.heap.size _ _ (two_set k1) _ rfl) rfl ?_
      rw [HR.out]
      exact ⟨rfl, (SET.out _ _ _ _ k2 k1 k3).2, _, (SET.out _ _ _ _ k2 k1 k3).1, fun _ => rfl⟩
    · have E' : rone (c :: r) = if (rd r 0 0).2.1 ≠ 0 then ((0, 0), (rd r 0 0).2.1, 0) else if 999 < (rd r 0 0).1 then ((0, 0), 40, 0) else (((c : Int), ((rd r 0 0).1 : Int)), 0, 1 + (rd r 0 0).2.2) := by
        rw [E, if_neg (by omega), if_neg (by omega)]
      have q1 : (od (c : Int) == 0) = false := by simp; omega
      have q2 : (od (c : Int) == -1) = false := by simp; omega
      clear E e1 e2
      have RU : Hid (∀ w3 : World, RB w0 w3 p r → Calls Tryz.prog 154 #[.pointer (some ⟨p, 0, none⟩)] w3 fun e w' => e = .returned (.tuple #[.int .u64 ((rd r 0 0).1 : Int), .int .i64 ((rd r 0 0).2.1 : Int)]) ∧ RB w0 w' p (r.drop (rd r 0 0).2.2) ∧ Fr (fun q => q = p) w3 w') := by
        intro w3 h3
        refine (readUint_any w3 p r h3.1 hlr hbr).mono ?_
        rintro e w' ⟨rfl, g1, _, g2⟩
        exact ⟨rfl, h3.step g1 g2, g2⟩
      have hrl := rd_lt r 0 0 hlr (by omega) (by omega)
      generalize rd r 0 0 = t at *
      obtain ⟨n, x, k⟩ := t
      simp only [] at *
      by_cases hx : x = 0
      · subst hx
        by_cases hbig : 999 < n
        · have HR : Hid (rone (c :: r) = ((0, 0), 40, 0)) := by show _ = _; rw [E', if_neg (by omega), if_pos hbig]
          clear E'
          go_enter Tryz.func157, Tryz.ntmps157
          go_wp2_with fail
          refine B.mono ?_
          rintro e' w2 ⟨rfl, g1, g2⟩
          obtain ⟨k1, k2, k3⟩ := K1.out w2 _ g1 g2
          have O := operand_any w2 (HT.out.kept k2.2.2) (c : Int)
          generalize od (c : Int) = z at *
          simp only [by1]
          clear g1 g2
          go_wp2_with fail
          refine O.mono ?_
          rintro e w3 ⟨rfl, rfl⟩
          go_wp2_with fail
          refine (RU.out w3 k2).mono ?_
          rintro e w4 ⟨rfl, h4, f4⟩
          have k4 := f4.heap k1 (fun e => by omega)
          have k5 := k3.trans f4 (fun _ _ e => e) (fun _ _ e => e)
          obtain ⟨c0, c1, z0, z1⟩ := two_cells k4
          clear O f4
          go_wp2_with fail
          refine bodyPost_ret (results_ins _ w.heap.size _ _ (two_set k4) _ rfl) rfl ?_
          rw [HR.out]
          exact ⟨rfl, (SET.out _ _ _ _ h4 k4 k5).2, _, (SET.out _ _ _ _ h4 k4 k5).1, fun h => by simp at h⟩
        · have HR : Hid (rone (c :: r) = (((c : Int), (n : Int)), 0, 1 + k)) := by show _ = _; rw [E', if_neg (by omega), if_neg hbig]
          clear E'
          go_enter Tryz.func157, Tryz.ntmps157
          go_wp2_with fail
          refine B.mono ?_
          rintro e' w2 ⟨rfl, g1, g2⟩
          obtain ⟨k1, k2, k3⟩ := K1.out w2 _ g1 g2
          have O := operand_any w2 (HT.out.kept k2.2.2) (c : Int)
          generalize od (c : Int) = z at *
          simp only [by1]
          clear g1 g2
          go_wp2_with fail
          refine O.mono ?_
          rintro e w3 ⟨rfl, rfl⟩
          go_wp2_with fail
          refine (RU.out w3 k2).mono ?_
          rintro e w4 ⟨rfl, h4, f4⟩
          have k4 := f4.heap k1 (fun e => by omega)
          have k5 := k3.trans f4 (fun _ _ e => e) (fun _ _ e => e)
          obtain ⟨c0, c1, z0, z1⟩ := two_cells k4
          clear O f4
          go_wp2_with fail
          refine bodyPost_ret (results_ins _ w.heap.size _ _ (two_set k4) _ rfl) rfl ?_
          rw [HR.out]
          refine ⟨rfl, (SET.out _ _ _ _ h4 k4 k5).2, _, (SET.out _ _ _ _ h4 k4 k5).1, fun _ => ?_⟩
          rw [Nat.add_comm, List.drop_succ_cons]
      · have HR : Hid (rone (c :: r) = ((0, 0), x, 0)) := by show _ = _; rw [E', if_pos hx]
        have hx' : ((x : Int) == 0) = false := by simp; omega
        clear E'
        go_enter Tryz.func157, Tryz.ntmps157
        go_wp2_with fail
        refine B.mono ?_
        rintro e' w2 ⟨rfl, g1, g2⟩
        obtain ⟨k1, k2, k3⟩ := K1.out w2 _ g1 g2
        have O := operand_any w2 (HT.out.kept k2.2.2) (c : Int)
        generalize od (c : Int) = z at *
        simp only [by1]
        clear g1 g2
        go_wp2_with fail
        refine O.mono ?_
        rintro e w3 ⟨rfl, rfl⟩
        go_wp2_with fail
        refine (RU.out w3 k2).mono ?_
        rintro e w4 ⟨rfl, h4, f4⟩
        have k4 := f4.heap k1 (fun e => by omega)
        have k5 := k3.trans f4 (fun _ _ e => e) (fun _ _ e => e)
        obtain ⟨c0, c1, z0, z1⟩ := two_cells k4
        clear O f4
        go_wp2_with fail
        refine bodyPost_ret (results_ins _ w.heap.size _ _ (two_set k4) _ rfl) rfl ?_
        rw [HR.out]
        exact ⟨rfl, (SET.out _ _ _ _ h4 k4 k5).2, _, (SET.out _ _ _ _ h4 k4 k5).1, fun h => absurd h hx⟩
end Go.Proofs.YthncdbobjeeeaaaGreatDoor

/- What code.Get reads of whatever bytes. -/
namespace Go.Proofs.YthncdbobjeeeaaaGreatDoor
open Go.ChangeShapes Go.WideShapes Go.ChangeAt Go.RowKit

/-- So many more read, behind these: the instructions, the error. -/
def fin (acc : List (Int × Int)) : Nat → List Nat → List (Int × Int) × Nat
  | 0, r => if r = [] then (acc, 0) else ([], 31)
  | n + 1, r => if (rone r).2.1 ≠ 0 then ([], (rone r).2.1) else fin (acc ++ [(rone r).1]) n (r.drop (rone r).2.2)

/-- What Get makes of bytes. -/
def gt (b : List Nat) : List (Int × Int) × Nat :=
  if (ct b 200).2.1 ≠ 0 then ([], (ct b 200).2.1) else fin [] (ct b 200).1 (b.drop (ct b 200).2.2)

def slen : Value → Nat
  | .slice _ n _ => n
  | _ => 0

def GetAt (w0 : World) (v : Value) (bs : List Nat) (a : Act) (w : World) : Prop :=
  ∃ (p n : Nat) (acc : List (Int × Int)) (r : List Nat) (u1 u2 u3 u5 u6 u7 u8 u9 u10 u11 u12 u13 u14 u15 u16 u17 u18 u19 u20 u21 u22 u23 u24 u25 u26 u27 u28 u29 u30 u31 u32 u33 u34 u35 u36 u37 u38 u39 u40 u41 : Value),
    a = { tmps := #[v, u1, u2, u3, .pointer (some ⟨p, 0, none⟩), u5, u6, u7, u8, u9, u10, u11, u12, u13, u14, u15, u16, u17, u18, u19, u20, u21, u22, u23, u24, u25, u26, u27, u28, u29, u30, u31, u32, u33, u34, u35, u36, u37, u38, u39, u40, u41], defers := [] } ∧ u5 = .int .i64 (n : Int) ∧ n ≤ 200 ∧ acc.length ≤ n ∧ OwnI w u7 acc ∧ u7.ownBlock ≠ some p ∧ (∀ k, u7.ownBlock = some k → w0.heap.size ≤ k) ∧
    RB w0 w p r ∧ (∀ c ∈ r, c < 256) ∧ r.length ≤ 1099511627776 ∧ fin acc (n - acc.length) r = gt bs

theorem size_alloc (w : World) (o : Obj) : (w.alloc o).heap.size = w.heap.size + 1 := by
  show (w.heap.push o).size = _
  exact Array.size_push _

theorem src_ins1 (w : World) (c : Array Value) (t : TypeId) (op a : Int) : Src Tryz.prog 2 50 (.slice (some ⟨w.heap.size + 1, 0, none⟩) 1 1) ([(op, a)] : List (Int × Int)).length (ci [(op, a)]) ((w.alloc (.cells c t)).alloc (.cells #[.int .i64 op, .int .i64 a] 57)) := by
  have := src_ins (w.alloc (.cells c t)) op a
  rwa [size_alloc] at this

theorem RB.kept {w0 w w' : World} {p : Nat} {l : List Nat} (h : RB w0 w p l) (hf : Fr no w w') : RB w0 w' p l :=
  ⟨h.1.kept hf (fun f => f) (fun _ _ _ f => f), h.2.1, h.2.2.new hf (fun _ _ f => f)⟩

theorem RB.beside {w0 w w' : World} {p : Nat} {l : List Nat} {v v' : Value} {acc : List (Int × Int)} (h : RB w0 w p l) (ho : OwnI w v acc) (hp : v.ownBlock ≠ some p) (h0 : ∀ k, v.ownBlock = some k → w0.heap.size ≤ k) (hs : Sp no v w v' w') :
    RB w0 w' p l ∧ v'.ownBlock ≠ some p ∧ (∀ k, v'.ownBlock = some k → w0.heap.size ≤ k) := by
  have hlt : p < w.heap.size := by obtain ⟨⟨u, h1, _⟩, _, _⟩ := h; exact lt_of_heap h1
  refine ⟨⟨h.1.kept hs.1 (fun s => s.elim id hp) (fun k c hk s => s.elim id (ho.apart k c hk)), h.2.1, h.2.2.new hs.1 (fun i hi s => s.elim id (fun e => by have := h0 i e; omega))⟩, fun e => hp (hs.2 p hlt e), fun k hk => ?_⟩
  rcases Nat.lt_or_ge k w.heap.size with hh | hh
  · exact h0 k (hs.2 k hh hk)
  · exact Nat.le_trans h.2.2.size hh

set_option maxRecDepth 100000 in
set_option maxHeartbeats 2000000 in
theorem get_any (w : World) (T : Tb w) (v : Value) (b : List Nat) (h : Sl w v b) (hl : ∀ c ∈ b, c < 256) (hb : b.length ≤ 1099511627776) :
    Calls Tryz.prog 130 #[v] w fun e w' => ∃ v', e = .returned (.tuple #[v', .int .i64 ((gt b).2 : Int)]) ∧ OwnI w' v' (gt b).1 ∧ Fr no w w' := by
  have hle := ct_le b 200
  have Hgt : Hid (gt b = if (ct b 200).2.1 ≠ 0 then ([], (ct b 200).2.1) else fin [] (ct b 200).1 (b.drop (ct b 200).2.2)) := rfl
  have RC : Hid (∀ w1 p, RB w w1 p b → Calls Tryz.prog 125 #[.pointer (some ⟨p, 0, none⟩), .int .i64 200] w1 fun e w' => e = .returned (.tuple #[.int .i64 ((ct b 200).1 : Int), .int .i64 ((ct b 200).2.1 : Int)]) ∧ RB w w' p (b.drop (ct b 200).2.2)) :=
    fun w1 p h1 => rb_count w w1 p b h1 hl hb 200 (by omega) (by omega)
  have RO := rb_open w w (Fr.refl _ _) v b h hb
  have HD : Hid (∀ k : Nat, (∀ c ∈ b.drop k, c < 256) ∧ (b.drop k).length ≤ 1099511627776) :=
    fun k => ⟨fun c hc => hl c (List.mem_of_mem_drop hc), by rw [List.length_drop]; omega⟩
  generalize ct b 200 = t at *
  obtain ⟨n, x, k⟩ := t
  simp only [] at *
  go_enter Tryz.func130, Tryz.ntmps130
  go_wp2_with fail
  refine wp_label_one 0 (GetAt w v b) (fun a' _ => (intOf (a'.tmps.getD 5 undef)).toNat - slen (a'.tmps.getD 7 undef)) rfl ?_ ?_
  · intro K h0 hr hn'
    by_cases hx : x = 0
    · subst hx
      have hn2 : n ≤ 200 := by have := hle rfl; omega
      have hmk := fun w => run_make w n (by omega)
      go_wp2_with fail
      refine RO.mono ?_
      rintro e w1 ⟨p, rfl, h1⟩
      go_wp2_with fail
      refine (RC.out w1 p h1).mono ?_
      rintro e w2 ⟨rfl, h2⟩
      go_wp2_with fail
      go_step3
      rename_i hk
      have hm := own_made w2 n (by unfold maxLen; omega)
      have h3 := h2.kept ((Fr.refl no w2).alloc (madeCells #[.int .i64 0, .int .i64 0] (n * 2)) 57)
      have hp2 : p < w2.heap.size := by obtain ⟨⟨u, g1, _⟩, _, _⟩ := h2; exact lt_of_heap g1
      refine hk _ _ (h0 _ _ ⟨p, n, [], b.drop k, _, _, _, _, _, _, _, _, _, _, _, _, _, _, _, _, _, _, _, _, _, _, _, _, _, _, _, _, _, _, _, _, _, _, _, _, _, _, _, _, rfl, rfl, hn2, Nat.zero_le _, hm, ?_, ?_, h3, (HD.out k).1, (HD.out k).2, ?_⟩)
      · simp [Value.ownBlock]; omega
      · intro i hi; simp only [Value.ownBlock, Option.some.injEq] at hi; subst hi; exact h2.2.2.size
      · rw [Hgt.out, if_neg (by simp)]; rfl
    · have hx' : ((x : Int) == 0) = false := by simp; omega
      have E : Hid (gt b = ([], x)) := by show _ = _; rw [Hgt.out, if_pos hx]
      go_wp2_with fail
      refine RO.mono ?_
      rintro e w1 ⟨p, rfl, h1⟩
      go_wp2_with fail
      refine (RC.out w1 p h1).mono ?_
      rintro e w2 ⟨rfl, h2⟩
      go_wp2_with fail
      refine hr _ _ ?_
      go_ret2
      rw [E.out]
      exact ⟨_, rfl, OwnI.nil _, h2.2.2⟩
  · clear RO RC Hgt HD hle
    clear n x k
    rintro a' w' ⟨p, n, acc, r, u1, u2, u3, u5, u6, u7, u8, u9, u10, u11, u12, u13, u14, u15, u16, u17, u18, u19, u20, u21, u22, u23, u24, u25, u26, u27, u28, u29, u30, u31, u32, u33, u34, u35, u36, u37, u38, u39, u40, u41, rfl, rfl, hn, hacc, ho, hop, ho0, hrb, hl', hb', hfin⟩ K hj hr hn'
    have HF : Hid (fin acc (n - acc.length) r = gt b) := hfin
    clear hfin h hl hb
    obtain ⟨o, cap, eo⟩ := ho.form
    by_cases hlt : acc.length < n
    · have hstep : fin acc (n - acc.length) r = if (rone r).2.1 ≠ 0 then ([], (rone r).2.1) else fin (acc ++ [(rone r).1]) (n - (acc.length + 1)) (r.drop (rone r).2.2) := by
        rw [show n - acc.length = (n - (acc.length + 1)) + 1 by omega]
        rfl
      rw [HF.out] at hstep
      have HS : Hid (gt b = if (rone r).2.1 ≠ 0 then ([], (rone r).2.1) else fin (acc ++ [(rone r).1]) (n - (acc.length + 1)) (r.drop (rone r).2.2)) := hstep
      have R := read_any w w' T p r hrb hl' hb'
      have HD : Hid (∀ k : Nat, (∀ c ∈ r.drop k, c < 256) ∧ (r.drop k).length ≤ 1099511627776) :=
        fun k => ⟨fun c hc => hl' c (List.mem_of_mem_drop hc), by rw [List.length_drop]; omega⟩
      clear hstep HF
      generalize rone r = t at *
      obtain ⟨⟨x, y⟩, er, kk⟩ := t
      unfold ins at R
      simp only [] at *
      subst eo
      by_cases her : er = 0
      · subst her
        go_wp2_with fail
        refine R.mono ?_
        rintro e w2 ⟨rfl, f2, r', h2, hr'⟩
        have hr' := hr' trivial
        subst hr'
        have o2 := ho.kept f2 (fun k hk e => hop (e ▸ hk))
        have fA : Fr no w2 ((w2.alloc (.cells #[.int .i64 x, .int .i64 y] 57)).alloc (.cells #[.int .i64 x, .int .i64 y] 57)) := ((Fr.refl no w2).alloc _ _).alloc _ _
        have o3 := o2.kept fA (fun _ _ f => f)
        have h3 := h2.kept fA
        have hS := src_ins1 w2 #[.int .i64 x, .int .i64 y] 57 x y
        have B : Hid (∀ v4 w4, Sp no (.slice o acc.length cap) ((w2.alloc (.cells #[.int .i64 x, .int .i64 y] 57)).alloc (.cells #[.int .i64 x, .int .i64 y] 57)) v4 w4 → _) := fun v4 w4 s4 => h3.beside o3 hop ho0 s4
        have hbb : acc.length + ([(x, y)] : List (Int × Int)).length ≤ 1099511627776 := by simp; omega
        clear R ho o2 f2 h2 hrb fA h3
        go_wp2_with (at_builtin; refine wpList_apdI _ rfl rfl (.tmp 34) (.tmp 36) rfl _ acc rfl o3 _ rfl [(x, y)] hS (by simp) hbb ?_; intro v4 w4 o4 s4; have b4 := B.out v4 w4 s4; obtain ⟨oo, cc, e4⟩ := o4.form; rw [List.length_append] at e4; subst e4)
        go_step3
        refine hj _ _ ⟨p, n, acc ++ [(x, y)], r.drop kk, _, _, _, _, _, _, _, _, _, _, _, _, _, _, _, _, _, _, _, _, _, _, _, _, _, _, _, _, _, _, _, _, _, _, _, _, _, _, _, _, rfl, rfl, hn, by simp; omega, o4, b4.2.1, b4.2.2, b4.1, (HD.out kk).1, (HD.out kk).2, ?_⟩ ?_
        · rw [HS.out, if_neg (by simp), List.length_append]; rfl
        · simp [intOf, slen]; omega
      · have her' : ((er : Int) == 0) = false := by simp; omega
        have E : Hid (gt b = ([], er)) := by show _ = _; rw [HS.out, if_pos her]
        go_wp2_with fail
        refine R.mono ?_
        rintro e w2 ⟨rfl, f2, r', h2, _⟩
        go_wp2_with fail
        refine hr _ _ ?_
        go_ret2
        rw [E.out]
        exact ⟨_, rfl, OwnI.nil _, h2.2.2.alloc _ _⟩
    · have hna : n = acc.length := by omega
      have L := left_any w' p r hrb.1
      subst eo
      by_cases hr0 : r = []
      · subst hr0
        have E : Hid (gt b = (acc, 0)) := by show _ = _; rw [← HF.out, show n - acc.length = 0 by omega]; rfl
        go_wp2_with fail
        refine L.mono ?_
        rintro e w2 ⟨rfl, rfl⟩
        go_wp2_with fail
        refine hr _ _ ?_
        go_ret2
        rw [E.out]
        exact ⟨_, rfl, ho, hrb.2.2⟩
      · have hpos : 0 < r.length := List.length_pos_iff.2 hr0
        have E : Hid (gt b = ([], 31)) := by show _ = _; rw [← HF.out, show n - acc.length = 0 by omega]; unfold fin; rw [if_neg hr0]
        go_wp2_with fail
        refine L.mono ?_
        rintro e w2 ⟨rfl, rfl⟩
        go_wp2_with fail
        refine hr _ _ ?_
        go_ret2
        rw [E.out]
        exact ⟨_, rfl, OwnI.nil _, hrb.2.2⟩
end Go.Proofs.YthncdbobjeeeaaaGreatDoor

/- What the document's own Get reads of whatever bytes. -/
namespace Go.Proofs.YthncdbobjeeeaaaGreatDoor
open Go.ChangeShapes Go.WideShapes Go.ChangeAt Go.RowKit

/-- The document's reader at p, newer than w0, whose bytes left are l. -/
def RD (w0 w : World) (p : Nat) (l : List Nat) : Prop := Rd 78 w p l ∧ w0.heap.size ≤ p ∧ Fr no w0 w

theorem RD.step {w0 w w' : World} {p : Nat} {l l' : List Nat} (h : RD w0 w p l) (h1 : Rd 78 w' p l') (h2 : Fr (fun q => q = p) w w') : RD w0 w' p l' :=
  ⟨h1, h.2.1, h.2.2.new h2 (fun i hi e => by have := h.2.1; omega)⟩

theorem RD.kept {w0 w w' : World} {p : Nat} {l : List Nat} (h : RD w0 w p l) (hf : Fr no w w') : RD w0 w' p l :=
  ⟨h.1.kept hf (fun f => f) (fun _ _ _ f => f), h.2.1, h.2.2.new hf (fun _ _ f => f)⟩

theorem RD.lt {w0 w : World} {p : Nat} {l : List Nat} (h : RD w0 w p l) : p < w.heap.size := by obtain ⟨⟨u, h1, _⟩, _, _⟩ := h; exact lt_of_heap h1

theorem RD.beside {w0 w w' : World} {p : Nat} {l : List Nat} {v v' : Value} {acc : List (Int × Int)} (h : RD w0 w p l) (ho : OwnI w v acc) (hp : v.ownBlock ≠ some p) (h0 : ∀ k, v.ownBlock = some k → w0.heap.size ≤ k) (hs : Sp no v w v' w') :
    RD w0 w' p l ∧ v'.ownBlock ≠ some p ∧ (∀ k, v'.ownBlock = some k → w0.heap.size ≤ k) := by
  have hlt := h.lt
  refine ⟨⟨h.1.kept hs.1 (fun s => s.elim id hp) (fun k c hk s => s.elim id (ho.apart k c hk)), h.2.1, h.2.2.new hs.1 (fun i hi s => s.elim id (fun e => by have := h0 i e; omega))⟩, fun e => hp (hs.2 p hlt e), fun k hk => ?_⟩
  rcases Nat.lt_or_ge k w.heap.size with hh | hh
  · exact h0 k (hs.2 k hh hk)
  · exact Nat.le_trans h.2.2.size hh

theorem RD.set {w0 w : World} {p r : Nat} {l : List Nat} {x y : Int} {t : TypeId} (h : RD w0 w p l) (hr : w.heap[r]? = some (.cells #[.int .i64 x, .int .i64 y] t (0, 0))) (h0 : w0.heap.size ≤ r) (hp : r ≠ p) (v : Value) :
    RD w0 (w.setCell ⟨r, 1, none⟩ v) p l := by
  have hf : Fr (fun k => k = r) w (w.setCell ⟨r, 1, none⟩ v) := (Fr.refl (fun k => k = r) w).setCell (p := ⟨r, 1, none⟩) (fun _ => rfl) v
  refine ⟨h.1.kept hf (fun e => hp e.symm) (fun k c hk e => ?_), h.2.1, h.2.2.new hf (fun i hi e => by omega)⟩
  unfold World.cell? at hk
  rw [e, hr] at hk
  obtain ⟨kb, ko, ke⟩ := k
  match ko, hk with
  | 0, hk => simp at hk
  | 1, hk => simp at hk
  | n + 2, hk => simp at hk

theorem size_setCell (w : World) (a : Addr) (v : Value) : (w.setCell a v).heap.size = w.heap.size := by unfold World.setCell; simp

theorem src_ins2 (w : World) (a : Addr) (u : Value) (op b : Int) : Src Tryz.prog 2 50 (.slice (some ⟨w.heap.size, 0, none⟩) 1 1) ([(op, b)] : List (Int × Int)).length (ci [(op, b)]) ((w.setCell a u).alloc (.cells #[.int .i64 op, .int .i64 b] 57)) := by
  have := src_ins (w.setCell a u) op b
  rwa [size_setCell] at this

set_option maxRecDepth 100000 in
set_option maxHeartbeats 4000000 in
theorem docGet_any (w : World) (v : Value) (b : List Nat) (h : Sl w v b) (hl : ∀ c ∈ b, c < 256) (hb : b.length ≤ 1099511627776) :
    Calls Tryz.prog 80 #[v] w fun e w' => ∃ v', e = .returned (.tuple #[v', .int .i64 ((gt b).2 : Int)]) ∧ OwnI w' v' (gt b).1 ∧ Fr no w w' := by
  have hle := ct_le b 200
  have Hgt : Hid (gt b = if (ct b 200).2.1 ≠ 0 then ([], (ct b 200).2.1) else fin [] (ct b 200).1 (b.drop (ct b 200).2.2)) := rfl
  have hf1 : Fr no w (w.alloc (.cells #[v] 78)) := (Fr.refl no w).alloc _ _
  have h1 : RD w (w.alloc (.cells #[v] 78)) w.heap.size b := ⟨⟨v, heap_alloc_new w _, h.kept hf1 (fun _ _ _ f => f)⟩, Nat.le_refl _, hf1⟩
  have RC : Calls Tryz.prog 76 #[.pointer (some ⟨w.heap.size, 0, none⟩), .int .i64 200] (w.alloc (.cells #[v] 78)) fun e w' => e = .returned (.tuple #[.int .i64 ((ct b 200).1 : Int), .int .i64 ((ct b 200).2.1 : Int)]) ∧ RD w w' w.heap.size (b.drop (ct b 200).2.2) := by
    refine (docCount_any _ w.heap.size b h1.1 hl hb 200 (by omega) (by omega)).mono ?_
    rintro e w' ⟨rfl, g1, _, g2⟩
    exact ⟨rfl, h1.step g1 g2⟩
  have HD0 : Hid (∀ k : Nat, (∀ c ∈ b.drop k, c < 256) ∧ (b.drop k).length ≤ 1099511627776) :=
    fun k => ⟨fun c hc => hl c (List.mem_of_mem_drop hc), by rw [List.length_drop]; omega⟩
  obtain ⟨vo, vc, rfl, _⟩ := h.shape
  clear h h1 hf1 hl
  generalize b.length = bl at *
  generalize ct b 200 = t at *
  obtain ⟨n, x, k⟩ := t
  simp only [] at *
  by_cases hx : x = 0
  · subst hx
    have hn2 : n ≤ 200 := by have := hle rfl; omega
    clear hle
    go_enter Tryz.func80, Tryz.ntmps80
    go_wp2_with fail
    refine RC.mono ?_
    rintro e w1 ⟨rfl, g1⟩
    have hfin0 : Hid (fin [] n (b.drop k) = gt b) := by show _ = _; rw [Hgt.out, if_neg (by simp)]
    clear RC Hgt
    go_wp2_with fail
    go_loopw [7, 8] (fun s i wr => ∃ (acc : List (Int × Int)) (r : List Nat), i = .int .i64 (acc.length : Int) ∧ acc.length ≤ n ∧ OwnI wr s acc ∧ s.ownBlock ≠ some w.heap.size ∧ (∀ k, s.ownBlock = some k → w.heap.size ≤ k) ∧
      RD w wr w.heap.size r ∧ (∀ c ∈ r, c < 256) ∧ r.length ≤ 1099511627776 ∧ Hid (fin acc (n - acc.length) r = gt b)) (fun _ i _ => n - (intOf i).toNat)
    case atStart => exact ⟨[], b.drop k, rfl, Nat.zero_le _, OwnI.nil _, by simp [Value.ownBlock], fun _ hk => by simp [Value.ownBlock] at hk, g1, (HD0.out k).1, (HD0.out k).2, hfin0⟩
    case round =>
      obtain ⟨acc, r, rfl, hacc, ho, hop, ho0, hrd, hl', hb', HF⟩ := hrel
      clear g1 hfin0 HD0
      obtain ⟨o, cap, eo⟩ := ho.form
      by_cases hlt : acc.length < n
      · have hF := HF.out
        rw [show n - acc.length = (n - (acc.length + 1)) + 1 by omega] at hF
        have hstep : gt b = if (rone r).2.1 ≠ 0 then ([], (rone r).2.1) else fin (acc ++ [(rone r).1]) (n - (acc.length + 1)) (r.drop (rone r).2.2) := hF.symm
        clear hF HF
        have B := docByte_any wr w.heap.size r hrd.1
        subst eo
        cases r with
        | nil =>
          have E : Hid (gt b = ([], 30)) := by show _ = _; rw [hstep, if_pos (by simp [rone])]; rfl
          clear hstep
          go_wp2_with fail
          refine B.mono ?_
          rintro e w2 ⟨rfl, g1, g2⟩
          simp only [by1]
          have h2 := hrd.step g1 g2
          go_wp2_with fail
          go_ret2
          rw [E.out]
          exact ⟨_, rfl, OwnI.nil _, h2.2.2⟩
        | cons c rs =>
          have hlr : ∀ d ∈ rs, d < 256 := fun d hd => hl' d (by simp [hd])
          have hbr : rs.length ≤ 1099511627776 := by simp at hb'; omega
          have hc := hl' c (by simp)
          have ER : rone (c :: rs) = if od (c : Int) = -1 then ((0, 0), 40, 0) else if od (c : Int) = 0 then (((c : Int), 0), 0, 1)
            else if (rd rs 0 0).2.1 ≠ 0 then ((0, 0), (rd rs 0 0).2.1, 0) else if 999 < (rd rs 0 0).1 then ((0, 0), 40, 0) else (((c : Int), ((rd rs 0 0).1 : Int)), 0, 1 + (rd rs 0 0).2.2) := rfl
          have KB : Hid (∀ w2, Rd 78 w2 w.heap.size rs → Fr (fun q => q = w.heap.size) wr w2 → OwnI w2 (.slice o acc.length cap) acc ∧ RD w w2 w.heap.size rs) := fun w2 g1 g2 =>
            ⟨ho.kept g2 (fun k hk e => hop (e ▸ hk)), hrd.step g1 g2⟩
          have hbb : ∀ y : Int, acc.length + ([((c : Int), y)] : List (Int × Int)).length ≤ 1099511627776 := fun y => by simp; omega
          clear hl' hb' ho hrd
          rcases od_cases (c : Int) with e | e | ⟨e1, e2⟩
          · have E : Hid (gt b = ([], 40)) := by show _ = _; rw [hstep, ER, if_pos e]; rfl
            clear hstep ER
            go_wp2_with fail
            refine B.mono ?_
            rintro e' w2 ⟨rfl, g1, g2⟩
            simp only [by1] at g1 ⊢
            have KB2 := KB.out w2 g1 g2
            have O := docOperand_any (w2.alloc (.cells #[.int .i64 (c : Int), .int .i64 0] 57)) (c : Int)
            rw [e] at O
            clear g1 g2 e
            go_wp2_with fail
            refine O.mono ?_
            rintro e w3 ⟨rfl, rfl⟩
            go_wp2_with fail
            go_ret2
            rw [E.out]
            exact ⟨_, rfl, OwnI.nil _, KB2.2.2.2.alloc _ _⟩
          · have E : Hid (gt b = fin (acc ++ [((c : Int), 0)]) (n - (acc.length + 1)) rs) := by
              show _ = _
              have ER2 : rone (c :: rs) = (((c : Int), 0), 0, 1) := by rw [ER, if_neg (by omega), if_pos e]
              rw [hstep, ER2]
              rfl
            clear hstep ER
            go_wp2_with fail
            refine B.mono ?_
            rintro e' w2 ⟨rfl, g1, g2⟩
            simp only [by1] at g1 ⊢
            obtain ⟨o2, h2⟩ := KB.out w2 g1 g2
            have O := docOperand_any (w2.alloc (.cells #[.int .i64 (c : Int), .int .i64 0] 57)) (c : Int)
            rw [e] at O
            clear g1 g2 e
            go_wp2_with fail
            refine O.mono ?_
            rintro e w3 ⟨rfl, rfl⟩
            go_wp2_with fail
            refine O.mono ?_
            rintro e w3 ⟨rfl, rfl⟩
            have fA : Fr no w2 ((w2.alloc (.cells #[.int .i64 (c : Int), .int .i64 0] 57)).alloc (.cells #[.int .i64 (c : Int), .int .i64 0] 57)) := ((Fr.refl no w2).alloc _ _).alloc _ _
            have o3 := o2.kept fA (fun _ _ f => f)
            have h3 := h2.kept fA
            have hS := src_ins1 w2 #[.int .i64 (c : Int), .int .i64 0] 57 (c : Int) 0
            have BB : Hid (∀ v4 w4, Sp no (.slice o acc.length cap) ((w2.alloc (.cells #[.int .i64 (c : Int), .int .i64 0] 57)).alloc (.cells #[.int .i64 (c : Int), .int .i64 0] 57)) v4 w4 → _) := fun v4 w4 s4 => h3.beside o3 hop ho0 s4
            clear O o2 h2 fA h3
            go_wp2_with (at_builtin; refine wpList_apdI _ rfl rfl (.tmp 62) (.tmp 64) rfl _ acc rfl o3 _ rfl [((c : Int), 0)] hS (by simp) (hbb 0) ?_; intro v4 w4 o4 s4; have b4 := BB.out v4 w4 s4; obtain ⟨oo, cc, e4⟩ := o4.form; rw [List.length_append] at e4; subst e4)
            go_roundw
            case rel => exact ⟨acc ++ [((c : Int), 0)], rs, by simp, by simp; omega, o4, b4.2.1, b4.2.2, b4.1, hlr, hbr, by show _ = _; rw [List.length_append]; exact E.out.symm⟩
            case measure => simp [intOf]; omega
          · have E' : gt b = if (rd rs 0 0).2.1 ≠ 0 then ([], (rd rs 0 0).2.1) else if 999 < (rd rs 0 0).1 then ([], 40) else fin (acc ++ [((c : Int), ((rd rs 0 0).1 : Int))]) (n - (acc.length + 1)) (rs.drop (rd rs 0 0).2.2) := by
              have ER3 : rone (c :: rs) = if (rd rs 0 0).2.1 ≠ 0 then ((0, 0), (rd rs 0 0).2.1, 0) else if 999 < (rd rs 0 0).1 then ((0, 0), 40, 0) else (((c : Int), ((rd rs 0 0).1 : Int)), 0, 1 + (rd rs 0 0).2.2) := by
                rw [ER, if_neg (by omega), if_neg (by omega)]
              rw [hstep, ER3]
              by_cases q1 : (rd rs 0 0).2.1 = 0
              · by_cases q2 : 999 < (rd rs 0 0).1
                · simp [q1, q2]
                · simp [q1, q2, Nat.add_comm 1]
              · simp [q1]
            have hpos : 0 < od (c : Int) := e1
            have RU : Hid (∀ w3 : World, RD w w3 w.heap.size rs → Calls Tryz.prog 131 #[.pointer (some ⟨w.heap.size, 0, none⟩)] w3 fun e w' => e = .returned (.tuple #[.int .u64 ((rd rs 0 0).1 : Int), .int .i64 ((rd rs 0 0).2.1 : Int)]) ∧ RD w w' w.heap.size (rs.drop (rd rs 0 0).2.2) ∧ Fr (fun q => q = w.heap.size) w3 w') := by
              intro w3 h3
              refine (docUint_any w3 w.heap.size rs h3.1 hlr hbr).mono ?_
              rintro e w' ⟨rfl, g1, _, g2⟩
              exact ⟨rfl, h3.step g1 g2, g2⟩
            have hrl := rd_lt rs 0 0 hlr (by omega) (by omega)
            have HD : Hid (∀ k : Nat, (∀ c ∈ rs.drop k, c < 256) ∧ (rs.drop k).length ≤ 1099511627776) :=
              fun k => ⟨fun c hc => hlr c (List.mem_of_mem_drop hc), by rw [List.length_drop]; omega⟩
            clear hstep ER e1 e2
            generalize rd rs 0 0 = t at *
            obtain ⟨m, x, kk⟩ := t
            simp only [] at *
            by_cases hx : x = 0
            · subst hx
              by_cases hbig : 999 < m
              · have E : Hid (gt b = ([], 40)) := by show _ = _; rw [E', if_neg (by omega), if_pos hbig]
                clear E'
                go_wp2_with fail
                refine B.mono ?_
                rintro e' w2 ⟨rfl, g1, g2⟩
                simp only [by1] at g1 ⊢
                obtain ⟨o2, h2⟩ := KB.out w2 g1 g2
                have O := docOperand_any (w2.alloc (.cells #[.int .i64 (c : Int), .int .i64 0] 57)) (c : Int)
                generalize od (c : Int) = z at *
                clear g1 g2
                go_wp2_with fail
                refine O.mono ?_
                rintro e w3 ⟨rfl, rfl⟩
                go_wp2_with fail
                refine O.mono ?_
                rintro e w3 ⟨rfl, rfl⟩
                go_wp2_with fail
                refine (RU.out _ (h2.kept ((Fr.refl no w2).alloc _ _))).mono ?_
                rintro e w4 ⟨rfl, h4, f4⟩
                go_wp2_with fail
                go_ret2
                rw [E.out]
                exact ⟨_, rfl, OwnI.nil _, h4.2.2⟩
              · have E : Hid (gt b = fin (acc ++ [((c : Int), (m : Int))]) (n - (acc.length + 1)) (rs.drop kk)) := by show _ = _; rw [E', if_neg (by omega), if_neg hbig]
                clear E'
                go_wp2_with fail
                refine B.mono ?_
                rintro e' w2 ⟨rfl, g1, g2⟩
                simp only [by1] at g1 ⊢
                obtain ⟨o2, h2⟩ := KB.out w2 g1 g2
                have O := docOperand_any (w2.alloc (.cells #[.int .i64 (c : Int), .int .i64 0] 57)) (c : Int)
                generalize od (c : Int) = z at *
                clear g1 g2
                go_wp2_with fail
                refine O.mono ?_
                rintro e w3 ⟨rfl, rfl⟩
                go_wp2_with fail
                refine O.mono ?_
                rintro e w3 ⟨rfl, rfl⟩
                have fA : Fr no w2 (w2.alloc (.cells #[.int .i64 (c : Int), .int .i64 0] 57)) := (Fr.refl no w2).alloc _ _
                have hX : (w2.alloc (.cells #[.int .i64 (c : Int), .int .i64 0] 57)).heap[w2.heap.size]? = some (.cells #[.int .i64 (c : Int), .int .i64 0] 57 (0, 0)) := heap_alloc_new w2 _
                have hpX : w2.heap.size ≠ w.heap.size := by have := h2.lt; omega
                have hX0 : w.heap.size ≤ w2.heap.size := h2.2.2.size
                have hoX : ∀ k, Value.ownBlock (.slice o acc.length cap) = some k → k ≠ w2.heap.size := fun k hk e => by have := o2.lt hk; omega
                have KU : Hid (∀ w4, RD w w4 w.heap.size (rs.drop kk) → Fr (fun q => q = w.heap.size) (w2.alloc (.cells #[.int .i64 (c : Int), .int .i64 0] 57)) w4 →
                    w4.heap[w2.heap.size]? = some (.cells #[.int .i64 (c : Int), .int .i64 0] 57 (0, 0)) ∧
                    OwnI ((w4.setCell ⟨w2.heap.size, 1, none⟩ (.int .i64 (m : Int))).alloc (.cells #[.int .i64 (c : Int), .int .i64 (m : Int)] 57)) (.slice o acc.length cap) acc ∧
                    RD w ((w4.setCell ⟨w2.heap.size, 1, none⟩ (.int .i64 (m : Int))).alloc (.cells #[.int .i64 (c : Int), .int .i64 (m : Int)] 57)) w.heap.size (rs.drop kk)) := by
                  intro w4 h4 f4
                  have hX4 := f4.heap hX hpX
                  have o4 := (o2.kept fA (fun _ _ f => f)).kept f4 (fun k hk e => hop (e ▸ hk))
                  have hf : Fr (fun k => k = w2.heap.size) w4 (w4.setCell ⟨w2.heap.size, 1, none⟩ (.int .i64 (m : Int))) := (Fr.refl (fun k => k = w2.heap.size) w4).setCell (p := ⟨w2.heap.size, 1, none⟩) (fun _ => rfl) _
                  exact ⟨hX4, (o4.kept hf (fun k hk e => hoX k hk e)).kept ((Fr.refl no _).alloc _ _) (fun _ _ f => f), (h4.set hX4 hX0 hpX _).kept ((Fr.refl no _).alloc _ _)⟩
                have RU2 := RU.out _ (h2.kept fA)
                clear O o2 h2 fA hX hoX
                go_wp2_with fail
                refine RU2.mono ?_
                rintro e w4 ⟨rfl, h4, f4⟩
                obtain ⟨hX4, o5, h5⟩ := KU.out w4 h4 f4
                obtain ⟨c0, c1, z0, z1⟩ := two_cells hX4
                have hS := src_ins2 w4 ⟨w2.heap.size, 1, none⟩ (.int .i64 (m : Int)) (c : Int) (m : Int)
                have BB : Hid (∀ v6 w6, Sp no (.slice o acc.length cap) ((w4.setCell ⟨w2.heap.size, 1, none⟩ (.int .i64 (m : Int))).alloc (.cells #[.int .i64 (c : Int), .int .i64 (m : Int)] 57)) v6 w6 → _) := fun v6 w6 s6 => h5.beside o5 hop ho0 s6
                clear h4 f4 hX4 RU2 h5
                go_wp2_with (at_builtin; refine wpList_apdI _ rfl rfl (.tmp 62) (.tmp 64) rfl _ acc rfl o5 _ rfl [((c : Int), (m : Int))] hS (by simp) (hbb _) ?_; intro v6 w6 o6 s6; have b6 := BB.out v6 w6 s6; obtain ⟨oo, cc, e6⟩ := o6.form; rw [List.length_append] at e6; subst e6)
                go_roundw
                case rel => exact ⟨acc ++ [((c : Int), (m : Int))], rs.drop kk, by simp, by simp; omega, o6, b6.2.1, b6.2.2, b6.1, (HD.out kk).1, (HD.out kk).2, by show _ = _; rw [List.length_append]; exact E.out.symm⟩
                case measure => simp [intOf]; omega
            · have E : Hid (gt b = ([], x)) := by show _ = _; rw [E', if_pos hx]
              have hx' : ((x : Int) == 0) = false := by simp; omega
              clear E'
              go_wp2_with fail
              refine B.mono ?_
              rintro e' w2 ⟨rfl, g1, g2⟩
              simp only [by1] at g1 ⊢
              obtain ⟨o2, h2⟩ := KB.out w2 g1 g2
              have O := docOperand_any (w2.alloc (.cells #[.int .i64 (c : Int), .int .i64 0] 57)) (c : Int)
              generalize od (c : Int) = z at *
              clear g1 g2
              go_wp2_with fail
              refine O.mono ?_
              rintro e w3 ⟨rfl, rfl⟩
              go_wp2_with fail
              refine O.mono ?_
              rintro e w3 ⟨rfl, rfl⟩
              go_wp2_with fail
              refine (RU.out _ (h2.kept ((Fr.refl no w2).alloc _ _))).mono ?_
              rintro e w4 ⟨rfl, h4, f4⟩
              go_wp2_with fail
              go_ret2
              rw [E.out]
              exact ⟨_, rfl, OwnI.nil _, h4.2.2⟩
      · have hna : n - acc.length = 0 := by omega
        have hF := HF.out
        rw [hna] at hF
        obtain ⟨u, e1, e2⟩ := hrd.1
        obtain ⟨uo, uc, eu, _⟩ := e2.shape
        have c1 := cell_of_one e1
        subst eu eo
        clear e1 e2
        by_cases hr0 : r = []
        · subst hr0
          have E : Hid (gt b = (acc, 0)) := by show _ = _; rw [← hF]; rfl
          clear hF HF
          go_wp2_with fail
          go_ret2
          rw [E.out]
          exact ⟨_, rfl, ho, hrd.2.2⟩
        · have hpos : 0 < r.length := List.length_pos_iff.2 hr0
          have E : Hid (gt b = ([], 31)) := by show _ = _; rw [← hF]; unfold fin; rw [if_neg hr0]
          clear hF HF
          go_wp2_with fail
          go_ret2
          rw [E.out]
          exact ⟨_, rfl, OwnI.nil _, hrd.2.2⟩
  · have hx' : ((x : Int) == 0) = false := by simp; omega
    have E : Hid (gt b = ([], x)) := by show _ = _; rw [Hgt.out, if_pos hx]
    go_enter Tryz.func80, Tryz.ntmps80
    go_wp2_with fail
    refine RC.mono ?_
    rintro e w2 ⟨rfl, h2⟩
    go_wp2_with fail
    go_ret2
    rw [E.out]
    exact ⟨_, rfl, OwnI.nil _, h2.2.2⟩
end Go.Proofs.YthncdbobjeeeaaaGreatDoor

/- What is written is read; what is cut off, or has a byte behind it, isn't: without memory. -/
namespace Go.Proofs.YthncdbobjeeeaaaGreatDoor

theorem one_zero (n : Nat) (m : Int) (h : od (n : Int) = 0) : one ((n : Int), m) = [n] := by unfold one; simp [h]
theorem one_pos (n m : Nat) (h : 0 < od (n : Int)) : one ((n : Int), (m : Int)) = n :: enc m := by unfold one; simp [h]

theorem od_is {op a : Int} (h : isb op a = true) : ∃ n m : Nat, n < 48 ∧ op = (n : Int) ∧ a = (m : Int) ∧ m ≤ 999 ∧ (od (n : Int) = 0 ∧ m = 0 ∨ 0 < od (n : Int)) := by
  obtain ⟨n, m, hn, rfl, rfl, hm⟩ := isb_in op a h
  refine ⟨n, m, hn, rfl, rfl, hm, ?_⟩
  unfold isb at h
  have h := of_decide_eq_true h
  omega

theorem rone_cons (c : Nat) (r : List Nat) : rone (c :: r) = if od (c : Int) = -1 then ((0, 0), 40, 0) else if od (c : Int) = 0 then (((c : Int), 0), 0, 1)
    else if (rd r 0 0).2.1 ≠ 0 then ((0, 0), (rd r 0 0).2.1, 0) else if 999 < (rd r 0 0).1 then ((0, 0), 40, 0) else (((c : Int), ((rd r 0 0).1 : Int)), 0, 1 + (rd r 0 0).2.2) := rfl

theorem rone_one (x : Int × Int) (r : List Nat) (h : isb x.1 x.2 = true) : rone (one x ++ r) = (x, 0, (one x).length) := by
  obtain ⟨op, a⟩ := x
  obtain ⟨n, m, hn, rfl, rfl, hm, hc⟩ := od_is h
  rcases hc with ⟨h0, rfl⟩ | hp
  · rw [one_zero n _ h0]
    show rone (n :: r) = _
    rw [rone_cons, if_neg (by omega), if_pos h0]
    rfl
  · rw [one_pos n m hp]
    show rone (n :: (enc m ++ r)) = _
    rw [rone_cons, if_neg (by omega), if_neg (by omega), rd_enc m r (by omega), if_neg (by simp), if_neg (by simp; omega)]
    simp [Nat.add_comm]

theorem fin_wri (l acc : List (Int × Int)) (r : List Nat) (h : allIs l = true) : fin acc l.length (wri l ++ r) = if r = [] then (acc ++ l, 0) else ([], 31) := by
  induction l generalizing acc with
  | nil => simp [wri, fin]
  | cons x l ih =>
    unfold allIs at h
    rw [List.all_cons, Bool.and_eq_true] at h
    have e : wri (x :: l) ++ r = one x ++ (wri l ++ r) := by simp [wri]
    rw [e, List.length_cons, fin, rone_one x _ h.1, if_neg (by simp)]
    simp only [List.drop_left]
    rw [ih (acc ++ [x]) h.2]
    simp

theorem gt_put (l : List (Int × Int)) (r : List Nat) (hl : l.length ≤ 200) (h : allIs l = true) : gt ((enc l.length ++ wri l) ++ r) = if r = [] then (l, 0) else ([], 31) := by
  unfold gt
  rw [List.append_assoc, ct_fits l.length (wri l ++ r) 200 (by omega) (by omega), if_neg (by simp)]
  simp only [List.drop_left]
  rw [fin_wri l [] r h]
  simp

theorem rone_cut (x : Int × Int) (k : Nat) (h : isb x.1 x.2 = true) (hk : k < (one x).length) : (rone ((one x).take k)).2.1 = 30 := by
  obtain ⟨op, a⟩ := x
  obtain ⟨n, m, hn, rfl, rfl, hm, hc⟩ := od_is h
  cases k with
  | zero => simp [rone]
  | succ k =>
    rcases hc with ⟨h0, rfl⟩ | hp
    · rw [one_zero n _ h0] at hk
      simp at hk
    · rw [one_pos n m hp] at hk ⊢
      rw [List.take_succ_cons]
      rw [rone_cons, if_neg (by omega), if_neg (by omega), rd_cut_enc m k (by omega) (by simpa using hk), if_pos (by simp)]

theorem fin_cut (l acc : List (Int × Int)) (k : Nat) (h : allIs l = true) (hk : k < (wri l).length) : (fin acc l.length ((wri l).take k)).2 = 30 := by
  induction l generalizing acc k with
  | nil => simp [wri] at hk
  | cons x l ih =>
    unfold allIs at h
    rw [List.all_cons, Bool.and_eq_true] at h
    have e : wri (x :: l) = one x ++ wri l := rfl
    rw [e] at hk ⊢
    rw [List.length_cons, fin]
    by_cases hc : k < (one x).length
    · rw [take_early _ _ _ hc, rone_cut x k h.1 hc, if_pos (by simp)]
    · have e2 : (one x ++ wri l).take k = one x ++ (wri l).take (k - (one x).length) := by rw [List.take_append, List.take_of_length_le (by omega)]
      rw [e2, rone_one x _ h.1, if_neg (by simp)]
      simp only [List.drop_left]
      rw [List.length_append] at hk
      exact ih (acc ++ [x]) _ h.2 (by omega)

theorem gt_cut (l : List (Int × Int)) (k : Nat) (hl : l.length ≤ 200) (h : allIs l = true) (hk : k < (enc l.length ++ wri l).length) : (gt ((enc l.length ++ wri l).take k)).2 = 30 := by
  unfold gt
  by_cases hc : k < (enc l.length).length
  · rw [take_early _ _ _ hc]
    have e : ct ((enc l.length).take k) 200 = (0, 30, 0) := by
      unfold ct
      rw [rd_cut_enc _ _ (by omega) hc, if_pos (by simp)]
    rw [e, if_pos (by simp)]
  · have e2 : (enc l.length ++ wri l).take k = enc l.length ++ (wri l).take (k - (enc l.length).length) := by rw [List.take_append, List.take_of_length_le (by omega)]
    rw [e2, ct_fits l.length _ 200 (by omega) (by omega), if_neg (by simp)]
    simp only [List.drop_left]
    rw [List.length_append] at hk
    exact fin_cut l [] _ h (by omega)

theorem wri_byte (l : List (Int × Int)) (h : allIs l = true) : ∀ c ∈ wri l, c < 256 := by
  induction l with
  | nil => intro c hc; simp [wri] at hc
  | cons x l ih =>
    unfold allIs at h
    rw [List.all_cons, Bool.and_eq_true] at h
    refine bytes_append ?_ (ih h.2)
    obtain ⟨op, a⟩ := x
    obtain ⟨n, m, hn, rfl, rfl, hm, hc⟩ := od_is h.1
    intro c hcm
    rcases hc with ⟨h0, rfl⟩ | hp
    · rw [one_zero n _ h0] at hcm
      simp at hcm
      omega
    · rw [one_pos n m hp] at hcm
      rcases List.mem_cons.1 hcm with rfl | hcm
      · omega
      · exact bytes_enc m c hcm

theorem put_byte (l : List (Int × Int)) (h : allIs l = true) : ∀ c ∈ enc l.length ++ wri l, c < 256 := bytes_append (bytes_enc _) (wri_byte l h)

theorem put_length (l : List (Int × Int)) (hl : l.length ≤ 200) : (enc l.length ++ wri l).length ≤ 2210 := by
  have := enc_length l.length
  have := wri_length l
  rw [List.length_append]
  omega
end Go.Proofs.YthncdbobjeeeaaaGreatDoor

