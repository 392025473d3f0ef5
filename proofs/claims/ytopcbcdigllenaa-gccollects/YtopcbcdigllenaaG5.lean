/- A walk along the references begins. -/
import Derived.Test.YtopcbcdigllenaaG4
import Derived.Test.YtopcbcdigllenaaWq
namespace Go.Proofs.Ytopcbcdigllenaa
open Go.ChangeShapes Go.WideShapes Go.ChangeAt Go.RowKit

theorem made_zeroY (n : Nat) : madeCells (Value.int .u8 0).cells n = (cg elY (List.replicate n 0)).toArray := by
  have e1 : cg elY (List.replicate n 0) = List.replicate n (Value.int .u8 0) := by
    induction n with
    | zero => rfl
    | succ n ih =>
      have : cg elY (List.replicate (n + 1) 0) = elY.f 0 ++ cg elY (List.replicate n 0) := rfl
      rw [this, ih]
      rfl
  rw [e1]
  have e2 : (Value.int .u8 0).cells = #[Value.int .u8 0] := rfl
  rw [e2]
  unfold madeCells
  apply Array.ext
  · simp
  · intro i h1 h2
    simp [Nat.mod_one]

theorem run_newY (w : World) (n : Nat) (h : n ≤ 4096) :
    (Instr.makeSlice 50 (.int .i64 ((n : Int) + 1)) (.int .i64 ((n : Int) + 1))).run Try.prog w = .ok (.slice (some ⟨w.heap.size, 0, none⟩) (n + 1) (n + 1)) (w.alloc (.cells (cg elY (List.replicate (n + 1) 0)).toArray 5)) := by
  obtain ⟨i0, hi, hz0, hz1, hz2⟩ := info_parts elY_ok.info
  have hb : i0.bytes = 1 := hz2
  have hs : i0.size = 1 := hz1
  have := _root_.Go.run_make w 50 5 i0 (.int .u8 0) elY_ok.und hi hz0 .i64 .i64 ((n + 1 : Nat) : Int) ((n + 1 : Nat) : Int) (by omega) (by omega) (by rw [hb]; omega) (by omega)
  rw [hs] at this
  simp only [Int.toNat_natCast, Nat.mul_one] at this
  rw [made_zeroY] at this
  simpa using this

theorem size_alloc (w : World) (c : Array Value) (t : TypeId) : (w.alloc (.cells c t)).heap.size = w.heap.size + 1 := by show (w.heap.push _).size = _; simp

theorem mk_new (w : World) (vO : Value) (O : List Int) (h : OwnG elI w vO O) (n : Nat) (hn : n ≤ 4096) :
    Mk ((w.alloc (.cells (cg elY (List.replicate (n + 1) 0)).toArray 5)).alloc (.cells #[vO, .slice (some ⟨w.heap.size, 0, none⟩) (n + 1) (n + 1), .slice none 0 0] 88)) (w.heap.size + 1) vO (.slice (some ⟨w.heap.size, 0, none⟩) (n + 1) (n + 1)) (.slice none 0 0) O (startM n []) [] := by
  have f1 : Fr no w (w.alloc (.cells (cg elY (List.replicate (n + 1) 0)).toArray 5)) := (Fr.refl no w).alloc _ _
  have f2 : Fr no (w.alloc (.cells (cg elY (List.replicate (n + 1) 0)).toArray 5)) ((w.alloc (.cells (cg elY (List.replicate (n + 1) 0)).toArray 5)).alloc (.cells #[vO, .slice (some ⟨w.heap.size, 0, none⟩) (n + 1) (n + 1), .slice none 0 0] 88)) := (Fr.refl no _).alloc _ _
  refine ⟨?_, (h.keep f1).keep f2, ?_, OwnG.nil _ _, fun k _ e => by simp [Value.ownBlock] at e⟩
  · rw [← size_alloc w (cg elY (List.replicate (n + 1) 0)).toArray 5]
    exact heap_alloc_new _ _
  · refine OwnG.keep ?_ f2
    have := own_lit elY_ok w (List.replicate (n + 1) 0) (cg elY (List.replicate (n + 1) 0)).toArray rfl (by simp [maxLen]; omega)
    rw [List.length_replicate] at this
    exact this

set_option maxHeartbeats 4000000 in
set_option maxRecDepth 100000 in
theorem begin_any (w : World) (p g : Nat) (bs : List Blk) (h : HP w p g bs) :
    Calls Try.prog 49 #[.pointer (some ⟨p, 0, none⟩)] w fun e w' => ∃ m vO vM, e = .returned (.pointer (some ⟨m, 0, none⟩)) ∧ Mk w' m vO vM (.slice none 0 0) (objsA 0 bs) (startM (flat bs).length (objsA 0 bs)) [] ∧ Fr no w w' ∧ w.heap.size ≤ m ∧ NewV w vO ∧ NewV w vM := by
  have AA := all_any w p g bs h
  have hfl := h.len
  have hin := objsA_in 0 bs
  have hol := (freesA_len 0 bs).2
  have SZ : Hid (∀ w1, Fr no w w1 → Calls Try.prog 45 #[.pointer (some ⟨p, 0, none⟩)] w1 fun e w' => e = .returned (.int .i64 ((flat bs).length : Int)) ∧ w' = w1) := fun w1 f1 => size_any w1 p g (flat bs) (h.keep f1)
  clear h
  have hsz : siz bs = (flat bs).length := rfl
  rw [hsz] at hin hol
  clear hsz
  rw [objsA_eq] at AA hin
  have hol' : ((objL 0 bs).map (·.1)).length ≤ (flat bs).length := by rw [List.length_map]; omega
  rw [objsA_eq]
  generalize (objL 0 bs).map (·.1) = O at *
  generalize (flat bs).length = n at *
  go_enter Try.func49, Try.ntmps49
  go_wp2_with fail
  refine AA.mono ?_
  rintro e w1 ⟨vO, rfl, oO, nO, f1⟩
  have R := run_newY w1 n (by omega)
  have S1 := SZ.out w1 f1
  obtain ⟨aO, cO, hvO⟩ := oO.form
  subst hvO
  generalize hln : O.length = ln at *
  have H1 : Hid (OwnG elI w1 (.slice aO ln cO) O ∧ NewV w (.slice aO ln cO) ∧ Fr no w w1) := ⟨oO, nO, f1⟩
  clear oO nO f1 SZ AA
  go_wp2_with fail
  refine S1.mono ?_
  rintro e w2 ⟨rfl, rfl⟩
  have hs := size_alloc w2 (cg elY (List.replicate (n + 1) 0)).toArray 5
  have H2 : Hid (Mk ((w2.alloc (.cells (cg elY (List.replicate (n + 1) 0)).toArray 5)).alloc (.cells #[.slice aO ln cO, .slice (some ⟨w2.heap.size, 0, none⟩) (n + 1) (n + 1), .slice none 0 0] 88)) (w2.heap.size + 1) (.slice aO ln cO) (.slice (some ⟨w2.heap.size, 0, none⟩) (n + 1) (n + 1)) (.slice none 0 0) O (startM n []) [] ∧ Fr no w ((w2.alloc (.cells (cg elY (List.replicate (n + 1) 0)).toArray 5)).alloc (.cells #[.slice aO ln cO, .slice (some ⟨w2.heap.size, 0, none⟩) (n + 1) (n + 1), .slice none 0 0] 88))) := ⟨mk_new w2 (.slice aO ln cO) O H1.out.1 n (by omega), (H1.out.2.2.alloc _ _).alloc _ _⟩
  have c0 := H2.out.1.cells.1
  have HB : Hid (w.heap.size ≤ w2.heap.size) := H1.out.2.2.size
  have HN : Hid (NewV w (.slice aO ln cO)) := H1.out.2.1
  generalize hW1 : w2.alloc (.cells (cg elY (List.replicate (n + 1) 0)).toArray 5) = W1 at *
  clear H1 S1 hW1
  go_wp2_with fail
  revert H2 c0
  generalize W1.alloc (.cells #[.slice aO ln cO, .slice (some ⟨w2.heap.size, 0, none⟩) (n + 1) (n + 1), .slice none 0 0] 88) = W2
  intro H2 c0
  clear R hs c0
  generalize w2.heap.size = b at *
  clear w2 W1
  go_loopw [19] (fun i wr => ∃ t : Nat, i = .int .i64 (t : Int) ∧ t ≤ ln ∧ Mk wr (b + 1) (.slice aO ln cO) (.slice (some ⟨b, 0, none⟩) (n + 1) (n + 1)) (.slice none 0 0) O (startM n (O.take t)) [] ∧ Fr no w wr) (fun i _ => ln - (intOf i).toNat)
  case atStart => exact ⟨0, rfl, Nat.zero_le _, H2.out⟩
  case round =>
    clear H2
    obtain ⟨t, rfl, htn, hmk, hfr⟩ := hrel
    by_cases hti : t < ln
    · obtain ⟨x, hx⟩ : ∃ x, O[t]? = some x := ⟨_, List.getElem?_eq_getElem (by omega)⟩
      have hst := startM_step n O t x hx
      have hxi := hin x (List.mem_of_getElem? hx)
      obtain ⟨b0, o0, hov, hcx⟩ := (hmk.o.rd elI_ok).at1 (u := .int .i64 x) rfl rfl hx
      obtain ⟨i, rfl⟩ : ∃ i : Nat, x = (i : Int) := ⟨x.toNat, by omega⟩
      have hil : i < (startM n (O.take t)).length := by rw [startM_len]; omega
      obtain ⟨y, hy⟩ : ∃ y, (startM n (O.take t))[i]? = some y := ⟨_, List.getElem?_eq_getElem hil⟩
      obtain ⟨b1, o1, hov1, hcy⟩ := (hmk.mm.rd elY_ok).at1 (u := .int .u8 (y : Int)) rfl rfl hy
      simp only [Option.some.injEq, Addr.mk.injEq] at hov1
      obtain ⟨rfl, rfl, -⟩ := hov1
      subst hov
      have c1 := hmk.cells.2.1
      have tM : wr.frozen? ⟨b, 0 + i, none⟩ = false := by
        obtain ⟨cc, hcc⟩ := hmk.mm.tag (k := b) rfl
        simp [World.frozen?, hcc]
      have hti' : (t : Int) < (ln : Int) := by omega
      have hil' : (i : Int) < (n : Int) + 1 := by omega
      have H4 : Hid (Mk (wr.setCell ⟨b, 0 + i, none⟩ (.int .u8 1)) (b + 1) (.slice (some ⟨b0, o0, none⟩) ln cO) (.slice (some ⟨b, 0, none⟩) (n + 1) (n + 1)) (.slice none 0 0) O (startM n (O.take (t + 1))) [] ∧ Fr no w (wr.setCell ⟨b, 0 + i, none⟩ (.int .u8 1))) := by
        obtain ⟨m4, f4⟩ := hmk.mark i 1
        rw [Hid, hst]
        refine ⟨m4, hfr.new f4 (fun k hk e => ?_)⟩
        have := HB.out
        rcases e with e | e | e
        · omega
        · simp [Value.ownBlock] at e
          omega
        · simp [Value.ownBlock] at e
      simp only [Nat.zero_add] at H4 tM hcy
      clear hst hx hmk hfr hy
      go_wp2_with fail
      go_roundw
      case rel => exact ⟨t + 1, by go_num, by omega, H4.out⟩
      case measure => simp [intOf]; omega
    · obtain rfl : t = ln := by omega
      have HZ : Hid (Mk wr (b + 1) (.slice aO t cO) (.slice (some ⟨b, 0, none⟩) (n + 1) (n + 1)) (.slice none 0 0) O (startM n O) [] ∧ Fr no w wr) := by
        rw [List.take_of_length_le (by omega)] at hmk
        exact ⟨hmk, hfr⟩
      clear hmk hfr
      go_wp2_with fail
      go_ret
      exact ⟨_, _, _, rfl, HZ.out.1, HZ.out.2, by have := HB.out; omega, HN.out, fun k hk => by simp [Value.ownBlock] at hk; have := HB.out; omega⟩
end Go.Proofs.Ytopcbcdigllenaa
