/- What is below what; a type of references that fits Object. -/
import Derived.Test.YtpfkigoffllieaaGreatDoorJaq
namespace Go.Proofs.YtpfkigoffllieaaGreatDoor
open Go.ChangeShapes Go.WideShapes Go.ChangeAt Go.RowKit

namespace H
set_option maxRecDepth 100000 in
set_option maxHeartbeats 1000000 in
theorem index_any (w : World) (v : Value) (l : List ByteArray) (h : SlG elS w v l) (s : ByteArray) :
    Calls Tryz.prog 157 #[v, .string s] w fun e w' => ∃ z : Int, e = .returned (.int .i64 z) ∧ decide (0 ≤ z) = inL s l ∧ w' = w := by
  obtain ⟨ad, cp, rfl, hcap, hmx, -, hit⟩ := h
  unfold maxLen at hmx
  have HI : Hid (∀ (i : Nat) (x : ByteArray), l[i]? = some x → ∃ b off, ad = some ⟨b, off, none⟩ ∧ w.cell? ⟨b, off + i, none⟩ = some (.string x)) := hit
  clear hit
  go_enter Tryz.func157, Tryz.ntmps157
  go_wp2_with fail
  go_loop [8] (fun i => ∃ (k : Nat), i = .int .i64 (k : Int) ∧ k ≤ l.length ∧ inL s (l.take k) = false) (fun i => l.length - (intOf i).toNat)
  case atStart => exact ⟨0, rfl, by omega, rfl⟩
  case round =>
    obtain ⟨k, rfl, hk, hall⟩ := hrel
    have HA : Hid (inL s (l.take k) = false) := hall
    clear hall
    by_cases hlt : k < l.length
    · obtain ⟨x, hx⟩ : ∃ x, l[k]? = some x := ⟨_, List.getElem?_eq_getElem hlt⟩
      obtain ⟨b, off, rfl, hc⟩ := HI.out k x hx
      have HX : Hid (l[k]? = some x) := hx
      clear hx
      have hlt' : (k : Int) < (l.length : Int) := by omega
      have hq := streq s x
      by_cases hn : s = x
      · rw [decide_eq_true hn] at hq
        have HT : Hid (inL s l = true) := inL_iff.2 (hn ▸ List.mem_of_getElem? HX.out)
        clear hn
        go_wp2_with fail
        go_ret
        refine ⟨_, rfl, ?_, rfl⟩
        rw [HT.out]
        simp
      · rw [decide_eq_false hn] at hq
        have HT : Hid (inL s (l.take (k + 1)) = false) := by
          show _ = _
          rw [take_next l k x HX.out]
          have := HA.out
          unfold inL at this ⊢
          rw [List.any_append, this]
          simp [Ne.symm hn]
        clear hn
        go_wp2_with fail
        go_round
        case rel => exact ⟨k + 1, by go_num, by omega, HT.out⟩
        case measure => simp [intOf]; omega
    · have hkl : k = l.length := by omega
      subst hkl
      have HT : Hid (inL s l = false) := by
        have := HA.out
        rwa [List.take_length] at this
      go_wp2_with fail
      go_ret
      refine ⟨_, rfl, ?_, rfl⟩
      rw [HT.out]
      rfl

theorem contains_any (w : World) (v : Value) (l : List ByteArray) (h : SlG elS w v l) (s : ByteArray) :
    Calls Tryz.prog 156 #[v, .string s] w fun e w' => e = .returned (.bool (inL s l)) ∧ w' = w := by
  have I := index_any w v l h s
  clear h
  generalize inL s l = b at *
  go_enter Tryz.func156, Tryz.ntmps156
  go_wp2_with fail
  refine I.mono ?_
  rintro e w1 ⟨z, rfl, hz, rfl⟩
  have HZ : Hid (decide (0 ≤ z) = b) := hz
  clear hz
  go_wp2_with fail
  go_ret
  rw [← HZ.out]
  exact ⟨rfl, rfl⟩

theorem sub_any {c : Nat} (w : World) (p : Nat) (N : List ByteArray) (A : List Nat) (h : HB c w p N A) (hA : Fine N.length A) (hN : N.length ≤ 1000) (s t : ByteArray) (hs : s.size ≤ 1099511627776) :
    Calls Tryz.prog 155 #[.pointer (some ⟨p, 0, none⟩), .string s, .string t] w fun e w' => e = .returned (.bool (inL t (anc N A s))) ∧ Fr no w w' := by
  have C := ancestors_any w p N A h hA hN s hs
  clear h hA hN
  generalize anc N A s = l at *
  go_enter Tryz.func155, Tryz.ntmps155
  go_wp2_with fail
  refine C.mono ?_
  rintro e w1 ⟨v, rfl, o1, -, f1⟩
  have I := contains_any w1 v l o1.sl t
  have F1 : Hid (Fr no w w1) := f1
  clear o1 f1
  go_wp2_with fail
  refine I.mono ?_
  rintro e w2 ⟨rfl, rfl⟩
  go_wp2_with fail
  go_ret
  exact ⟨rfl, F1.out⟩
end H

/-- Below q an object of Main is one of Object, whatever comes to the heap. -/
def FitQ (w : World) (q : Value) : Prop := ∀ w', Fr no w w' → Calls Tryz.prog 155 #[q, .string sMain, .string H.obj] w' fun e w2 => e = .returned (.bool true) ∧ Fr no w' w2
theorem FitQ.keep {w w' : World} {q : Value} (h : FitQ w q) (hf : Fr no w w') : FitQ w' q := fun w2 h2 => h w2 (hf.new h2 (fun _ _ f => f))

theorem fitQ_of {c : Nat} (w : World) (p : Nat) (N : List ByteArray) (A : List Nat) (h : H.HB c w p N A) (hA : H.Fine N.length A) (hN : N.length ≤ 1000) (hm : H.inL H.obj (H.anc N A sMain) = true) : FitQ w (.pointer (some ⟨p, 0, none⟩)) := fun w' hf => by
  have := H.sub_any w' p N A (h.keep hf) hA hN sMain H.obj (by decide)
  rwa [hm] at this

/-- What fits Object: null, an object of Main. -/
def fitO (a : Ty) : Bool := decide (a.k = 5 ∨ a.k = 4)

set_option maxRecDepth 100000 in
set_option maxHeartbeats 2000000 in
theorem fitsO_any (w : World) (q : Value) (hQ : FitQ w q) (a : Ty) (ha : a.k = 4 → a.c = sMain) :
    Calls Tryz.prog 152 #[q, tyV a, tyV ⟨4, H.obj⟩] w fun e w' => e = .returned (.bool (fitO a)) ∧ Fr no w w' := by
  obtain ⟨ka, ca⟩ := a
  simp only at ha
  have F : Fr no w ((w.alloc (.cells #[.int .i64 ka, .string ca] 55)).alloc (.cells #[.int .i64 4, .string H.obj] 55)) := ((Fr.refl no w).alloc _ _).alloc _ _
  have S := hQ _ F
  have HF : Hid _ := F
  clear hQ F
  unfold tyV
  unfold H.obj at S HF ⊢
  simp only
  by_cases h5 : ka = 5
  · subst h5
    clear S
    go_enter Tryz.func152, Tryz.ntmps152
    go_wp2_with fail
    go_ret
    exact ⟨rfl, HF.out⟩
  have q5 : (ka == 5) = false := by simpa using h5
  by_cases h4 : ka = 4
  · subst h4
    obtain rfl := ha rfl
    go_enter Tryz.func152, Tryz.ntmps152
    go_wp2_with fail
    refine S.mono ?_
    rintro e w2 ⟨rfl, f2⟩
    go_wp2_with fail
    go_ret
    exact ⟨rfl, HF.out.new f2 (fun _ _ f => f)⟩
  have q4 : (ka == 4) = false := by simpa using h4
  have HE : Hid (fitO ⟨ka, ca⟩ = false) := by show _ = _; simp [fitO, h5, h4]
  clear S
  go_enter Tryz.func152, Tryz.ntmps152
  go_wp2_with fail
  go_ret
  rw [HE.out]
  exact ⟨rfl, HF.out⟩

set_option maxRecDepth 100000 in
set_option maxHeartbeats 2000000 in
theorem ffitsO_any (w : World) (f : Nat) (q : Value) (hf : w.cell? ⟨f, 0, none⟩ = some q) (hQ : FitQ w q) (a : Ty) (ha : a.k = 4 → a.c = sMain) :
    Calls Tryz.prog 148 #[.pointer (some ⟨f, 0, none⟩), tyV a, tyV ⟨4, H.obj⟩] w fun e w' => e = .returned (.bool (fitO a)) ∧ Fr no w w' := by
  obtain ⟨ka, ca⟩ := a
  have A := fun (w2 : World) (hf : Fr no w w2) => fitsO_any w2 q (hQ.keep hf) ⟨ka, ca⟩ ha
  unfold tyV at A ⊢
  unfold H.obj at A ⊢
  simp only at A ⊢
  generalize hW : (w.alloc (.cells #[.int .i64 ka, .string ca] 55)).alloc (.cells #[.int .i64 4, .string ⟨#[79, 98, 106, 101, 99, 116]⟩] 55) = W
  have G1 : Fr no w (w.alloc (.cells #[.int .i64 ka, .string ca] 55)) := (Fr.refl no w).alloc _ _
  have G2 : Fr no (w.alloc (.cells #[.int .i64 ka, .string ca] 55)) W := by rw [← hW]; exact (Fr.refl no _).alloc _ _
  have F : Fr no w W := G1.new G2 (fun _ _ f => f)
  have E1 : W.heap[w.heap.size]? = some (.cells #[.int .i64 ka, .string ca] 55 (0, 0)) := G2.heap (heap_alloc_new w _) (fun f => f)
  have E2 : W.heap[w.heap.size + 1]? = some (.cells #[.int .i64 4, .string ⟨#[79, 98, 106, 101, 99, 116]⟩] 55 (0, 0)) := by rw [← hW, ← size_alloc w (.cells #[.int .i64 ka, .string ca] 55)]; exact heap_alloc_new _ _
  have z2 := cell_at (o := 0) E2
  simp only [List.getElem?_toArray, List.getElem?_cons_zero] at z2
  have KS : ∀ w2, Fr no W w2 → Fr no W w2 ∧ w2.cell? ⟨f, 0, none⟩ = some q ∧ w2.cell? ⟨w.heap.size, 0, none⟩ = some (.int .i64 ka) ∧ w2.cell? ⟨w.heap.size, 1, none⟩ = some (.string ca) ∧ w2.cell? ⟨w.heap.size + 1, 0, none⟩ = some (.int .i64 4) ∧ w2.cell? ⟨w.heap.size + 1, 1, none⟩ = some (.string ⟨#[79, 98, 106, 101, 99, 116]⟩) := fun w2 h2 => by
    refine ⟨h2, h2.cell (F.cell hf (fun f => f)) (fun f => f), ?_, ?_, ?_, ?_⟩
    · exact h2.cell (cell_at E1) (fun f => f)
    · exact h2.cell (cell_at E1) (fun f => f)
    · exact h2.cell (cell_at E2) (fun f => f)
    · exact h2.cell (cell_at E2) (fun f => f)
  have HF : Hid _ := F
  have A2 := fun (w2 : World) (h2 : Fr no W w2) => A w2 (F.new h2 (fun _ _ f => f))
  clear F E1 E2 G1 G2 A
  go_enter Tryz.func148, Tryz.ntmps148
  go_wp2_with fail
  go_region_held3 (fun w2 => Fr no W w2 ∧ w2.cell? ⟨f, 0, none⟩ = some q ∧ w2.cell? ⟨w.heap.size, 0, none⟩ = some (.int .i64 ka) ∧ w2.cell? ⟨w.heap.size, 1, none⟩ = some (.string ca) ∧ w2.cell? ⟨w.heap.size + 1, 0, none⟩ = some (.int .i64 4) ∧ w2.cell? ⟨w.heap.size + 1, 1, none⟩ = some (.string ⟨#[79, 98, 106, 101, 99, 116]⟩)) (first | exact KS _ (Fr.refl no _).drew | exact KS _ f3') (first | (go_at_call 152; refine (A2 _ (Fr.refl no _).drew).mono ?_; rintro e w3 ⟨rfl, f3⟩; have f3' := (Fr.refl no W).drew.new f3 (fun _ _ f => f)))
  go_wp2_with fail
  go_ret
  exact ⟨rfl, HF.out.new f3' (fun _ _ f => f)⟩

set_option maxRecDepth 100000 in
set_option maxHeartbeats 2000000 in
/-- A list of the one type Object. -/
theorem of4_any (w : World) (g : Nat) (hg : w.heap[g]? = some (.cells #[.int .i64 4] 3 (0, 0))) :
    Calls Tryz.prog 138 #[.slice (some ⟨g, 0, none⟩) 1 1] w fun e w' => ∃ b, e = .returned (.slice (some ⟨b, 0, none⟩) 1 1) ∧ w'.heap[b]? = some (.cells #[.int .i64 4, .string H.obj] 55 (0, 0)) ∧ Fr no w w' := by
  have hmd : (madeCells #[.int .i64 0, .string ⟨#[]⟩] (1 * 2)) = #[Value.int .i64 0, .string ⟨#[]⟩] := by kernel_rfl
  have hmk : (Instr.makeSlice 56 (.int .i64 1) (.int .i64 1)).run Tryz.prog w = .ok (.slice (some ⟨w.heap.size, 0, none⟩) 1 1) (w.alloc (.cells #[.int .i64 0, .string ⟨#[]⟩] 55)) := by
    have hK := okTy
    obtain ⟨i0, hi, hz0, hz1, hz2⟩ := info_parts hK.info
    have := _root_.Go.run_make w elTy.t elTy.e i0 elTy.z hK.und hi hz0 .i64 .i64 1 1 (by omega) (by omega) (by rw [hz2]; show (24 : Int) * _ ≤ _; omega) (by omega)
    rw [hz1] at this
    have h2 : (Instr.makeSlice elTy.t (.int .i64 1) (.int .i64 1)).run Tryz.prog w = .ok (.slice (some ⟨w.heap.size, 0, none⟩) 1 1) (w.alloc (.cells (madeCells elTy.z.cells (1 * elTy.n)) elTy.e)) := by simpa using this
    exact h2.trans (by show _ = _; rw [← hmd]; rfl)
  generalize hW : w.alloc (.cells #[.int .i64 0, .string ⟨#[]⟩] 55) = W at *
  have G0 : Fr no w W := by rw [← hW]; exact (Fr.refl no w).alloc _ _
  have E0 : W.heap[w.heap.size]? = some (.cells #[.int .i64 0, .string ⟨#[]⟩] 55 (0, 0)) := by rw [← hW]; exact heap_alloc_new w _
  have g0 : W.cell? ⟨g, 0, none⟩ = some (.int .i64 4) := G0.cell (cell_at (o := 0) hg) (fun f => f)
  have z0 := cell_at (o := 0) E0
  have z1 := cell_at (o := 1) E0
  simp only [List.getElem?_toArray, List.getElem?_cons_zero, List.getElem?_cons_succ] at z0 z1
  have fz := fun o => frozen_at (o := o) E0
  have E1 : ((W.setCell ⟨w.heap.size, 0, none⟩ (.int .i64 4)).setCell ⟨w.heap.size, 1, none⟩ (.string H.obj)).heap[w.heap.size]? = some (.cells #[.int .i64 4, .string H.obj] 55 (0, 0)) := chain2 E0 _ _
  have F1 : Fr no w ((W.setCell ⟨w.heap.size, 0, none⟩ (.int .i64 4)).setCell ⟨w.heap.size, 1, none⟩ (.string H.obj)) := G0.new (frc2 W w.heap.size _ _) (fun i hi e => by omega)
  have HZ : Hid (_ ∧ _) := ⟨E1, F1⟩
  have hlt : g < w.heap.size := lt_of_heap hg
  have hne : ¬ g = w.heap.size := by omega
  clear E0 E1 F1 G0 hW hmd hg
  unfold H.obj at HZ ⊢
  go_enter Tryz.func138, Tryz.ntmps138
  go_wp2_with fail
  go_loopw [11] (fun i wr => (i = .int .i64 0 ∧ wr = W) ∨ (i = .int .i64 1 ∧ wr = (W.setCell ⟨w.heap.size, 0, none⟩ (.int .i64 4)).setCell ⟨w.heap.size, 1, none⟩ (.string ⟨#[79, 98, 106, 101, 99, 116]⟩))) (fun i _ => 1 - (intOf i).toNat)
  case atStart => exact .inl ⟨rfl, rfl⟩
  case round =>
    rcases hrel with ⟨rfl, rfl⟩ | ⟨rfl, rfl⟩
    · go_wp2_with fail
      go_roundw
      case rel => exact .inr ⟨rfl, trivial⟩
      case measure => simp [intOf]
    · go_wp2_with fail
      go_ret
      exact ⟨_, rfl, HZ.out⟩
end Go.Proofs.YtpfkigoffllieaaGreatDoor
