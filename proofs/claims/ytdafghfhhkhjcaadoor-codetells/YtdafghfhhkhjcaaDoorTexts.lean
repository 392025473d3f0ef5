/- The texts of instructions: an op's name, a number, both: the program's answers, and the document's. -/
import Derived.Test.YtdafghfhhkhjcaaDoorTraits
import Derived.Great.Walk
import Derived.Great.BuildSlice
import Derived.Deep.RegionWith
namespace Go.Proofs.YtdafghfhhkhjcaaDoor
open Go.ChangeShapes Go.WideShapes Go.ChangeAt Go.RowKit

def namCells : Array Value := (nams.map fun l => Value.string ⟨l.toArray⟩).toArray
def zeroCells : Array Value := Array.replicate 48 (Value.string ⟨#[]⟩)

theorem namCells_at (n : Nat) (h : n < 48) : namCells[n]? = some (.string (nam n)) := by
  unfold namCells nam
  have hl : nams.length = 48 := rfl
  rw [List.getElem?_toArray, List.getElem?_map, List.getD, List.getElem?_eq_getElem (by omega)]
  rfl

set_option maxRecDepth 100000 in
theorem docName_any (w : World) (n : Nat) (h : n < 48) : Calls Tryd.prog 29 #[.int .i64 (n : Int)] w fun e w' => e = .returned (.string (nam n)) ∧ Fr no w w' := by
  go_enter Tryd.func29, Tryd.ntmps29
  apply wp_seq_k; intro K0 hK0
  apply wp_region_lit
  refine Great.wpList_runTo rfl (some 2) rfl (.string ⟨#[]⟩) w (by as_aux_lemma => kernel_rfl) ?_
  refine wpList_nil ?_
  apply hK0
  clear hK0
  apply wp_seq_k; intro K1 hK1
  apply wp_region_lit
  refine wpList_buildTo rfl 47 _ rfl (some 4) rfl namCells (by as_aux_lemma => kernel_rfl) ?_
  refine Great.wpList_allocTo rfl (some 3) rfl (.pointer (some ⟨w.heap.size, 0, none⟩)) (.cells zeroCells 47) (by as_aux_lemma => kernel_rfl) ?_
  refine wpList_store_row rfl 47 (.tmp 3) (.tmp 4) rfl w.heap.size namCells rfl rfl 47 zeroCells (heap_alloc_new w _) (by as_aux_lemma => kernel_rfl) (by as_aux_lemma => kernel_rfl) (by as_aux_lemma => kernel_rfl) ?_
  refine wpList_nil ?_
  apply hK1
  clear hK1
  have hc : ((w.alloc (.cells zeroCells 47)).setRow w.heap.size namCells).cell? ⟨w.heap.size, n, none⟩ = some (.string (nam n)) := by
    rw [cell_setRow_same _ _ _ zeroCells namCells 47 (0, 0) (heap_alloc_new w _)]
    exact namCells_at n h
  have HF : Hid (Fr no w ((w.alloc (.cells zeroCells 47)).setRow w.heap.size namCells)) := by
    have hf := (Fr.refl no w).alloc zeroCells 47
    refine ⟨hf.os, hf.output, by rw [setRow_size]; exact hf.size, fun k hk hs => ?_, fun x => (frozen_setRow _ _ _ x).trans (hf.frozen x)⟩
    rw [setRow_other _ _ _ _ (by omega)]
    exact hf.block k hk hs
  generalize (w.alloc (.cells zeroCells 47)).setRow w.heap.size namCells = w2 at *
  generalize nam n = s at *
  simp only [Act.put, List.set_cons_succ, List.set_cons_zero, List.setIfInBounds_toArray]
  go_wp2_with fail
  go_ret
  exact ⟨rfl, HF.out⟩

/-- A number's digits. -/
def dgs (u : Nat) : List Nat := (Lib.decDigits u).map UInt8.toNat

theorem bstr_dgs (u : Nat) : bstr (dgs u) = ⟨(Lib.decDigits u).toArray⟩ := by unfold bstr dgs; simp [Function.comp_def]
theorem dgs_small (u : Nat) (h : u < 10) : dgs u = [48 + u] := by
  unfold dgs
  rw [Lib.decDigits_one h]
  simp
  omega
theorem dgs_great (u : Nat) (h : ¬ u < 10) : dgs u = dgs (u / 10) ++ [48 + u % 10] := by
  unfold dgs
  rw [Lib.decDigits, dif_neg h]
  simp
  omega
theorem dgs_length (u : Nat) (h : u ≤ 999) : (dgs u).length ≤ 3 := by
  by_cases h1 : u < 10
  · rw [dgs_small u h1]; simp
  · by_cases h2 : u / 10 < 10
    · rw [dgs_great u h1, dgs_small _ h2]; simp
    · rw [dgs_great u h1, dgs_great _ h2, dgs_small _ (by omega)]; simp

theorem conv_one (w : World) (x : Int) (c : Nat) (hx : x = (c : Int)) :
    (convert 30 9 (.slice (some ⟨w.heap.size, 0, none⟩) 1 1)).run Tryd.prog (w.alloc (.cells #[.int .u8 x] 5)) = .ok (.string (bstr [c])) (w.alloc (.cells #[.int .u8 x] 5)) := by
  subst hx
  have h := conv_text (w.alloc (.cells #[.int .u8 (c : Int)] 5)) w.heap.size 0 1 1 [c] (by simp) (fun i d hi => by
    match i, hi with
    | 0, hi => simp at hi; subst hi; simp)
  simpa using h

set_option maxHeartbeats 1000000 in
set_option maxRecDepth 100000 in
theorem docNumber_any (n : Nat) (hn : n ≤ 999) (w : World) : Calls Tryd.prog 30 #[.int .i64 (n : Int)] w fun e w' => e = .returned (.string (bstr (dgs n))) ∧ Fr no w w' := by
  have hlen := dgs_length n hn
  go_enter Tryd.func30, Tryd.ntmps30
  go_wp2
  go_loopw [3, 4] (fun u s wr => ∃ (l : List Nat) (r : Nat), u = .int .u64 (r : Int) ∧ s = .string (bstr l) ∧ Fr no w wr ∧ r ≤ 999 ∧ dgs r ++ l = dgs n) (fun u _ _ => (intOf u).toNat)
  case atStart => exact ⟨[], n, rfl, rfl, Fr.refl _ _, hn, by simp⟩
  case round =>
    obtain ⟨l, r, rfl, rfl, hg, hr, hd⟩ := hrel
    have hll : l.length ≤ 3 := by
      have := congrArg List.length hd
      rw [List.length_append] at this
      omega
    have HD : Hid (dgs r ++ l = dgs n) := hd
    clear hd
    have hcv := conv_one wr (48 + (r : Int) % 10) (48 + r % 10) (by omega)
    have hs1 : (bstr [48 + r % 10]).size = 1 := rfl
    have hs2 : (bstr l).size ≤ 3 := by rw [bstr_size]; omega
    have hap := bstr_append [48 + r % 10] l
    rw [List.cons_append, List.nil_append] at hap
    by_cases hq : 10 ≤ r
    · have hq' : ((r : Int) / 10 == 0) = false := by rw [beq_eq_false_iff_ne]; omega
      have hd2 : dgs (r / 10) ++ ((48 + r % 10) :: l) = dgs n := by
        rw [← HD.out, dgs_great r (by omega)]; simp
      have H2 : Hid (dgs (r / 10) ++ ((48 + r % 10) :: l) = dgs n) := hd2
      clear hd2
      go_wp2
      go_roundw
      case rel => exact ⟨(48 + r % 10) :: l, r / 10, by simp, rfl, hg.alloc _ _, by omega, H2.out⟩
      case measure => simp [intOf]; omega
    · have hq' : ((r : Int) / 10 == 0) = true := by rw [beq_iff_eq]; omega
      have HX : Hid (dgs n = (48 + r % 10) :: l) := by
        show _ = _
        rw [← HD.out, dgs_small r (by omega), show r % 10 = r by omega]; rfl
      go_wp2
      go_ret
      exact ⟨by rw [HX.out]; rfl, hg.alloc _ _⟩

/-- An instruction's text. -/
def prt (op a : Int) : ByteArray :=
  if isb op a = true then (if od op = 0 then nam op.toNat else nam op.toNat ++ ⟨#[32]⟩ ++ bstr (dgs a.toNat)) else ⟨#[63]⟩

theorem nam_size (n : Nat) (h : n < 48) : (nam n).size ≤ 9 := by
  have key : ∀ d : Fin 48, (nam d.val).size ≤ 9 := by decide +kernel
  exact key ⟨n, h⟩

theorem isb_in (op a : Int) (h : isb op a = true) : ∃ n m : Nat, n < 48 ∧ op = (n : Int) ∧ a = (m : Int) ∧ m ≤ 999 := by
  unfold isb at h
  have h := of_decide_eq_true h
  have hr : 0 ≤ op ∧ op < 48 := Classical.byContradiction fun hr => by rw [od_out op hr] at h; omega
  exact ⟨op.toNat, a.toNat, by omega, by omega, by omega, by omega⟩

set_option maxHeartbeats 2000000 in
set_option maxRecDepth 100000 in
theorem print_any (w : World) (h : Tb w) (op a : Int) : Calls Tryd.prog 19 #[ins op a] w fun e w' => e = .returned (.string (prt op a)) ∧ Fr no w w' := by
  have hf : Fr no w (w.alloc (.cells #[.int .i64 op, .int .i64 a] 23)) := (Fr.refl no w).alloc _ _
  have I := is_any _ (h.kept hf) op a
  have HF : Hid (Fr no w (w.alloc (.cells #[.int .i64 op, .int .i64 a] 23))) := hf
  have HT : Hid (Tb w) := h
  have hb : (w.alloc (.cells #[.int .i64 op, .int .i64 a] 23)).heap[w.heap.size]? = some (.cells #[.int .i64 op, .int .i64 a] 23 (0, 0)) := heap_alloc_new w _
  have HB : Hid ((w.alloc (.cells #[.int .i64 op, .int .i64 a] 23)).heap[w.heap.size]? = some (.cells #[.int .i64 op, .int .i64 a] 23 (0, 0))) := hb
  clear hb h hf
  unfold ins at *
  by_cases hi : isb op a = true
  · rw [hi] at I
    obtain ⟨n, m, hn, rfl, rfl, hm⟩ := isb_in op a hi
    have key : ∀ w2 : World, Fr no (w.alloc (.cells #[.int .i64 (n : Int), .int .i64 (m : Int)] 23)) w2 → w2.cell? ⟨w.heap.size, 0, none⟩ = some (.int .i64 (n : Int)) ∧ w2.cell? ⟨w.heap.size, 1, none⟩ = some (.int .i64 (m : Int)) ∧ Tb w2 ∧ Fr no w w2 := by
      intro w2 hf2
      have hb2 := hf2.heap HB.out (fun f => f)
      have hw2 := HF.out.new hf2 (fun _ _ f => f)
      refine ⟨?_, ?_, HT.out.kept hw2, hw2⟩ <;> simp [World.cell?, hb2]
    have KEY : Hid (∀ w2 : World, Fr no (w.alloc (.cells #[.int .i64 (n : Int), .int .i64 (m : Int)] 23)) w2 → w2.cell? ⟨w.heap.size, 0, none⟩ = some (.int .i64 (n : Int)) ∧ w2.cell? ⟨w.heap.size, 1, none⟩ = some (.int .i64 (m : Int)) ∧ Tb w2 ∧ Fr no w w2) := key
    clear key HB HF HT
    have hns := nam_size n hn
    by_cases h0 : od (n : Int) = 0
    · have HP : Hid (prt (n : Int) (m : Int) = nam n) := by show _ = _; unfold prt; rw [if_pos hi, if_pos h0]; simp
      clear hi
      go_enter Tryd.func19, Tryd.ntmps19
      go_wp2_with fail
      refine I.mono ?_
      rintro e w2 ⟨rfl, f2⟩
      obtain ⟨c0, c1, t2, g2⟩ := KEY.out w2 f2
      have hc := t2.nm n hn
      have O := operand_any w2 t2 (n : Int)
      rw [h0] at O
      go_wp2_with fail
      refine O.mono ?_
      rintro e w3 ⟨rfl, rfl⟩
      go_wp2_with fail
      go_ret
      exact ⟨by rw [HP.out]; rfl, g2⟩
    · have HP : Hid (prt (n : Int) (m : Int) = nam n ++ ⟨#[32]⟩ ++ bstr (dgs m)) := by show _ = _; unfold prt; rw [if_pos hi, if_neg h0]; simp
      have q0 : (od (n : Int) == 0) = false := by simpa using h0
      have hds : (bstr (dgs m)).size ≤ 3 := by rw [bstr_size]; exact dgs_length m hm
      clear hi h0
      go_enter Tryd.func19, Tryd.ntmps19
      go_wp2_with fail
      refine I.mono ?_
      rintro e w2 ⟨rfl, f2⟩
      obtain ⟨c0, c1, t2, g2⟩ := KEY.out w2 f2
      have hc := t2.nm n hn
      have O := operand_any w2 t2 (n : Int)
      generalize od (n : Int) = k at *
      go_wp2_with fail
      refine O.mono ?_
      rintro e w3 ⟨rfl, rfl⟩
      have K3 : Hid (∀ w4 : World, Fr no w3.drew w4 → w4.cell? ⟨w.heap.size, 0, none⟩ = some (.int .i64 (n : Int)) ∧ w4.cell? ⟨w.heap.size, 1, none⟩ = some (.int .i64 (m : Int)) ∧ w4.cell? ⟨1, n, none⟩ = some (.string (nam n)) ∧ Fr no w w4) := by
        intro w4 f4
        obtain ⟨d0, d1, t4, g4⟩ := KEY.out w4 ((f2.drew).new f4 (fun _ _ f => f))
        exact ⟨d0, d1, t4.nm n hn, g4⟩
      have P3 := itoa_any w3.drew m hm (t2.kept (Fr.refl no w3).drew).pw
      rw [← bstr_dgs] at P3
      generalize nam n = s at *
      generalize bstr (dgs m) = d at *
      have hn' : (n : Int) < 48 := by omega
      have z1 : ¬ 9223372036854775807 < s.size + 1 := by omega
      have z2 : ¬ 9223372036854775807 < s.size + 1 + d.size := by omega
      go_wp2_with fail
      go_region_with (go_at_call 28; refine P3.mono ?_; rintro e w4 ⟨rfl, f4⟩; obtain ⟨d0, d1, d2, g4⟩ := K3.out w4 f4)
      all_goals (go_wp2_with fail; go_ret; refine ⟨by rw [HP.out]; rfl, ?_⟩)
      all_goals assumption
  · have hi' : isb op a = false := by simpa using hi
    have HP : Hid (prt op a = ⟨#[63]⟩) := by show _ = _; unfold prt; rw [if_neg hi]
    rw [hi'] at I
    clear hi hi'
    go_enter Tryd.func19, Tryd.ntmps19
    go_wp2_with fail
    refine I.mono ?_
    rintro e w2 ⟨rfl, f2⟩
    go_wp2_with fail
    go_ret
    exact ⟨by rw [HP.out]; rfl, HF.out.new f2 (fun _ _ f => f)⟩

set_option maxHeartbeats 2000000 in
set_option maxRecDepth 100000 in
theorem docPrint_any (w : World) (op a : Int) : Calls Tryd.prog 20 #[ins op a] w fun e w' => e = .returned (.string (prt op a)) ∧ Fr no w w' := by
  have hf : Fr no w (w.alloc (.cells #[.int .i64 op, .int .i64 a] 23)) := (Fr.refl no w).alloc _ _
  have I := docIs_any (w.alloc (.cells #[.int .i64 op, .int .i64 a] 23)) op a
  have HF : Hid (Fr no w (w.alloc (.cells #[.int .i64 op, .int .i64 a] 23))) := hf
  have hb : (w.alloc (.cells #[.int .i64 op, .int .i64 a] 23)).heap[w.heap.size]? = some (.cells #[.int .i64 op, .int .i64 a] 23 (0, 0)) := heap_alloc_new w _
  have HB : Hid ((w.alloc (.cells #[.int .i64 op, .int .i64 a] 23)).heap[w.heap.size]? = some (.cells #[.int .i64 op, .int .i64 a] 23 (0, 0))) := hb
  clear hb hf
  unfold ins at *
  by_cases hi : isb op a = true
  · rw [hi] at I
    obtain ⟨n, m, hn, rfl, rfl, hm⟩ := isb_in op a hi
    have key : ∀ w2 : World, Fr no (w.alloc (.cells #[.int .i64 (n : Int), .int .i64 (m : Int)] 23)) w2 → w2.cell? ⟨w.heap.size, 0, none⟩ = some (.int .i64 (n : Int)) ∧ w2.cell? ⟨w.heap.size, 1, none⟩ = some (.int .i64 (m : Int)) ∧ Fr no w w2 := by
      intro w2 hf2
      have hb2 := hf2.heap HB.out (fun f => f)
      have hw2 := HF.out.new hf2 (fun _ _ f => f)
      refine ⟨?_, ?_, hw2⟩ <;> simp [World.cell?, hb2]
    have KEY : Hid (∀ w2 : World, Fr no (w.alloc (.cells #[.int .i64 (n : Int), .int .i64 (m : Int)] 23)) w2 → w2.cell? ⟨w.heap.size, 0, none⟩ = some (.int .i64 (n : Int)) ∧ w2.cell? ⟨w.heap.size, 1, none⟩ = some (.int .i64 (m : Int)) ∧ Fr no w w2) := key
    clear key HB HF
    have hns := nam_size n hn
    by_cases h0 : od (n : Int) = 0
    · have HP : Hid (prt (n : Int) (m : Int) = nam n) := by show _ = _; unfold prt; rw [if_pos hi, if_pos h0]; simp
      clear hi
      go_enter Tryd.func20, Tryd.ntmps20
      go_wp2_with fail
      refine I.mono ?_
      rintro e w2 ⟨rfl, f2⟩
      obtain ⟨c0, c1, g2⟩ := KEY.out w2 f2
      have O := docOperand_any w2 (n : Int)
      rw [h0] at O
      go_wp2_with fail
      refine O.mono ?_
      rintro e w3 ⟨rfl, rfl⟩
      go_wp2_with fail
      refine (docName_any w3 n hn).mono ?_
      rintro e w4 ⟨rfl, f4⟩
      go_wp2_with fail
      go_ret
      exact ⟨by rw [HP.out]; rfl, g2.new f4 (fun _ _ f => f)⟩
    · have HP : Hid (prt (n : Int) (m : Int) = nam n ++ ⟨#[32]⟩ ++ bstr (dgs m)) := by show _ = _; unfold prt; rw [if_pos hi, if_neg h0]; simp
      have q0 : (od (n : Int) == 0) = false := by simpa using h0
      have hds : (bstr (dgs m)).size ≤ 3 := by rw [bstr_size]; exact dgs_length m hm
      clear hi h0
      go_enter Tryd.func20, Tryd.ntmps20
      go_wp2_with fail
      refine I.mono ?_
      rintro e w2 ⟨rfl, f2⟩
      obtain ⟨c0, c1, g2⟩ := KEY.out w2 f2
      have O := docOperand_any w2 (n : Int)
      generalize od (n : Int) = k at *
      go_wp2_with fail
      refine O.mono ?_
      rintro e w3 ⟨rfl, rfl⟩
      have K3 : Hid (∀ w4 : World, Fr no w3.drew w4 → w4.cell? ⟨w.heap.size, 0, none⟩ = some (.int .i64 (n : Int)) ∧ w4.cell? ⟨w.heap.size, 1, none⟩ = some (.int .i64 (m : Int)) ∧ Fr no w w4) := by
        intro w4 f4
        exact KEY.out w4 ((f2.drew).new f4 (fun _ _ f => f))
      have N3 := fun w4 => docName_any w4 n hn
      have P3 := docNumber_any m hm
      generalize nam n = s at *
      generalize bstr (dgs m) = d at *
      have hn' : (n : Int) < 48 := by omega
      have z1 : ¬ 9223372036854775807 < s.size + 1 := by omega
      have z2 : ¬ 9223372036854775807 < s.size + 1 + d.size := by omega
      go_wp2_with fail
      go_region_with (first
        | (go_at_call 29; refine (N3 _).mono ?_; rintro e wa ⟨rfl, fa⟩; obtain ⟨d0, d1, ga⟩ := K3.out wa (by first | exact fa | exact Fr.new (by assumption) fa (fun _ _ f => f)))
        | (go_at_call 30; refine (P3 _).mono ?_; rintro e wb ⟨rfl, fb⟩; obtain ⟨d0, d1, gb⟩ := K3.out wb (by first | exact fb | exact Fr.new (by assumption) fb (fun _ _ f => f))))
      all_goals (go_wp2_with fail; go_ret; refine ⟨by rw [HP.out]; rfl, ?_⟩)
      all_goals assumption
  · have hi' : isb op a = false := by simpa using hi
    have HP : Hid (prt op a = ⟨#[63]⟩) := by show _ = _; unfold prt; rw [if_neg hi]
    rw [hi'] at I
    clear hi hi'
    go_enter Tryd.func20, Tryd.ntmps20
    go_wp2_with fail
    refine I.mono ?_
    rintro e w2 ⟨rfl, f2⟩
    go_wp2_with fail
    go_ret
    exact ⟨by rw [HP.out]; rfl, HF.out.new f2 (fun _ _ f => f)⟩
end Go.Proofs.YtdafghfhhkhjcaaDoor
