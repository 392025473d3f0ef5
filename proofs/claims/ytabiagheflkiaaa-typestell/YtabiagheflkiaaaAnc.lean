/- A class's ancestors, what is below what, what two have in common: the program's answers. -/
import Derived.Test.YtabiagheflkiaaaWay
namespace Go.Proofs.Ytabiagheflkiaaa
open Go.ChangeShapes Go.WideShapes Go.ChangeAt Go.RowKit

set_option maxRecDepth 100000 in
set_option maxHeartbeats 1000000 in
theorem ancestors_any {c : Nat} (w : World) (p : Nat) (N : List ByteArray) (A : List Nat) (h : HB c w p N A) (hA : Fine N.length A) (hN : N.length ≤ 1000) (s : ByteArray) (hs : s.size ≤ 1099511627776) :
    Calls Try.prog 17 #[.pointer (some ⟨p, 0, none⟩), .string s] w fun e w' => ∃ v, e = .returned v ∧ OwnG elS w' v (anc N A s) ∧ NewV w v ∧ Fr no w w' := by
  have HBK : Hid (HB c w p N A) := h
  obtain ⟨vn, va, m, D, h1, h2, h3, h4, h5, h6⟩ := h
  obtain ⟨_, hc1, _⟩ := cells3 h1
  obtain ⟨x, hrun, hx⟩ := look h4 h5 s hs
  clear h1 h2 h3 h4 h5 h6
  cases hi : ix s N with
  | none =>
    have HA : Hid (anc N A s = []) := by show _ = _; unfold anc; rw [hi]
    rw [hi] at hrun
    simp only [Option.isSome_none] at hrun
    clear hx hi
    go_enter Try.func17, Try.ntmps17
    go_wp2_with fail
    go_ret
    exact ⟨_, rfl, by rw [HA.out]; exact OwnG.nil _ _, NewV.nil _, Fr.refl _ _⟩
  | some i =>
    have HA : Hid (anc N A s = (up A N.length i).1.map (nameAt N)) := by show _ = _; unfold anc; rw [hi]
    rw [hi] at hrun
    simp only [Option.isSome_some] at hrun
    obtain rfl := hx i hi
    have hiN := ix_lt hi
    have W := way_any w p N A HBK.out hA hN i hiN
    have HL : Hid (∀ j ∈ (up A N.length i).1, j < N.length) := up_lt hA _ i hiN
    have HU : Hid ((up A N.length i).1.length ≤ N.length) := up_len A _ i
    clear hx hi
    generalize (up A N.length i).2 = ub at *
    generalize (up A N.length i).1 = P at *
    have MK : ∀ (w : World) (n : Nat), n ≤ 1000 → (Instr.makeSlice 22 (.int .i64 0) (.int .i64 (n : Int))).run Try.prog w = .ok (.slice (some ⟨w.heap.size, 0, none⟩) 0 n) (w.alloc (.cells (madeCells (Value.cells (.string ByteArray.empty)) n) 9)) := run_makeG elS_ok
    go_enter Try.func17, Try.ntmps17
    go_wp2_with fail
    refine W.mono ?_
    rintro e w1 ⟨v, rfl, o1, nv1, f1⟩
    obtain ⟨ov, cv, hvf⟩ := o1.form
    have hPl : P.length ≤ 1000 := Nat.le_trans HU.out hN
    have MK1 := MK w1 P.length hPl
    have O1 : Hid (OwnG elI w1 v P) := o1
    have F1 : Hid (Fr no w w1) := f1
    have HLn : Hid (P.length ≤ 1000) := hPl
    clear o1 nv1 f1 MK
    subst hvf
    generalize hpl : P.length = n at *
    have OM : Hid (OwnG elS (w1.alloc (.cells (madeCells (Value.cells (.string ByteArray.empty)) n) 9)) (.slice (some ⟨w1.heap.size, 0, none⟩) 0 n) []) := own_made (K := elS) w1 n (by unfold maxLen; omega)
    generalize hmc : madeCells (Value.cells (.string ByteArray.empty)) n = mc at *
    go_wp2_with fail
    go_loopw [9, 34] (fun v i wr => ∃ (k : Nat), i = .int .i64 (k : Int) ∧ k ≤ n ∧ OwnG elS wr v ((P.take k).map (nameAt N)) ∧ NewV w1 v ∧ Fr no w1 wr) (fun _ i _ => n - (intOf i).toNat)
    case atStart => exact ⟨0, rfl, Nat.zero_le _, OM.out, fun k hk => by simp only [Value.ownBlock, Option.some.injEq] at hk; omega, (Fr.refl no w1).alloc _ _⟩
    case round =>
      obtain ⟨k, rfl, hk, ho, hv, hf⟩ := hrel
      have HO : Hid (OwnG elS wr u9 ((P.take k).map (nameAt N))) := ho
      have HV : Hid (NewV w1 u9) := hv
      have HF : Hid (Fr no w1 wr) := hf
      by_cases hlt : k < n
      · obtain ⟨x, hx⟩ : ∃ x, P[k]? = some x := ⟨_, List.getElem?_eq_getElem (by omega)⟩
        have HX : Hid (P[k]? = some x) := hx
        have hxN : x < N.length := HL.out x (List.mem_of_getElem? hx)
        obtain ⟨ad, cp2, e2, -, -, -, hit⟩ := (O1.out.keep hf).sl
        simp only [Value.slice.injEq] at e2
        obtain ⟨rfl, -, -⟩ := e2
        obtain ⟨b, off, rfl, hc⟩ := hit k x hx
        have hc' : wr.cell? ⟨b, off + k, none⟩ = some (.int .i64 (x : Int)) := hc
        obtain ⟨vn, va, m, D, g1, g2, g3, -⟩ := HBK.out.keep (F1.out.and hf)
        obtain ⟨d0, -, -⟩ := cells3 g1
        obtain ⟨ad2, cp3, rfl, hcap2, hmx2, -, hit2⟩ := g2.sl
        have hnx : N[x]? = some (nameAt N x) := by unfold nameAt; rw [List.getD_eq_getElem?_getD, List.getElem?_eq_getElem hxN]; rfl
        obtain ⟨b2, off2, rfl, hd⟩ := hit2 x _ hnx
        have hd' : wr.cell? ⟨b2, off2 + x, none⟩ = some (.string (nameAt N x)) := hd
        have hxi : (x : Int) < (N.length : Int) := by omega
        have hki : (k : Int) < (n : Int) := by omega
        have LEM : Hid (∀ v' w2, OwnG elS w2 v' ((P.take k).map (nameAt N) ++ [nameAt N x]) → Sp u9 (wr.alloc (.cells #[.string (nameAt N x)] 9)) v' w2 → Hid (OwnG elS w2 v' ((P.take (k + 1)).map (nameAt N))) ∧ Hid (NewV w1 v') ∧ Hid (Fr no w1 w2)) := by
          intro v' w2 o2 s2
          obtain ⟨nv2, f2⟩ := HV.out.step (HF.out.alloc _ _) s2
          refine ⟨?_, nv2, f2⟩
          show OwnG _ _ _ _
          rw [take_next P k x HX.out, List.map_append]
          exact o2
        clear ho hv hf hx hit hit2 hc hd g1 g2 g3 hnx hcap2
        unfold maxLen at hmx2
        generalize nameAt N x = nm at *
        have hkl : Hid (((P.take k).map (nameAt N)).length + 1 ≤ 1000000) := by show _ ≤ _; simp; omega
        go_wp2_with (first | (at_builtin; refine wpList_apdG elS_ok _ rfl rfl _ _ rfl u9 _ rfl (HO.out.keep ((Fr.refl no wr).alloc _ _)) _ rfl [nm] (srcG_one elS_ok wr nm) hkl.out ?_; intro v' w2 o2 s2; obtain ⟨O2, N2, F2⟩ := LEM.out v' w2 o2 s2; clear o2 s2) | go_in)
        go_roundw
        case rel => exact ⟨k + 1, by go_num, by omega, O2.out, N2.out, F2.out⟩
        case measure => simp [intOf]; omega
      · have hkl : k = n := by omega
        subst hkl
        clear ho hv hf
        go_wp2_with fail
        go_ret
        refine ⟨_, rfl, ?_, fun j hj => ?_, F1.out.and HF.out⟩
        · rw [HA.out]
          have := HO.out
          rwa [← hpl, List.take_length] at this
        · have := HV.out j hj
          have := F1.out.size
          omega

theorem sub_any {c : Nat} (w : World) (p : Nat) (N : List ByteArray) (A : List Nat) (h : HB c w p N A) (hA : Fine N.length A) (hN : N.length ≤ 1000) (s t : ByteArray) (hs : s.size ≤ 1099511627776) :
    Calls Try.prog 19 #[.pointer (some ⟨p, 0, none⟩), .string s, .string t] w fun e w' => e = .returned (.bool (inL t (anc N A s))) ∧ Fr no w w' := by
  have C := ancestors_any w p N A h hA hN s hs
  clear h hA hN
  generalize anc N A s = l at *
  go_enter Try.func19, Try.ntmps19
  go_wp2_with fail
  refine C.mono ?_
  rintro e w1 ⟨v, rfl, o1, -, f1⟩
  have I := contains_any w1 v l o1.sl t
  have F1 : Hid (Fr no w w1) := f1
  clear o1 f1
  go_wp2_with fail
  refine I.mono ?_
  rintro e w2 ⟨rfl, rfl⟩
  go_wp2_with fail
  go_ret
  exact ⟨rfl, F1.out⟩

theorem shared_none {l m : List ByteArray} (h : ∀ x ∈ l, inL x m = false) : shared l m = ByteArray.empty := by
  unfold shared
  rw [List.find?_eq_none.2 (fun x hx => by simp [h x hx])]
  rfl

theorem shared_at {l m : List ByteArray} {k : Nat} {x : ByteArray} (hx : l[k]? = some x) (h : ∀ y ∈ l.take k, inL y m = false) (hm : inL x m = true) : shared l m = x := by
  unfold shared
  have e : l = l.take k ++ x :: l.drop (k + 1) := by
    obtain ⟨hk, e⟩ := List.getElem?_eq_some_iff.1 hx
    rw [← e, List.getElem_cons_drop hk, List.take_append_drop]
  rw [e, List.find?_append, List.find?_eq_none.2 (fun y hy => by simp [h y hy])]
  simp [hm]

set_option maxRecDepth 100000 in
theorem common_any {c : Nat} (w : World) (p : Nat) (N : List ByteArray) (A : List Nat) (h : HB c w p N A) (hA : Fine N.length A) (hN : N.length ≤ 1000) (s t : ByteArray) (hs : s.size ≤ 1099511627776) (ht : t.size ≤ 1099511627776) :
    Calls Try.prog 21 #[.pointer (some ⟨p, 0, none⟩), .string s, .string t] w fun e w' => e = .returned (.string (shared (anc N A s) (anc N A t))) ∧ Fr no w w' := by
  have HBK : Hid (HB c w p N A) := h
  have C := ancestors_any w p N A h hA hN t ht
  have C2 : Hid (∀ w', Fr no w w' → Calls Try.prog 17 #[.pointer (some ⟨p, 0, none⟩), .string s] w' fun e w'' => ∃ v, e = .returned v ∧ OwnG elS w'' v (anc N A s) ∧ NewV w' v ∧ Fr no w' w'') := fun w' f => ancestors_any w' p N A (HBK.out.keep f) hA hN s hs
  clear h hA hN HBK
  generalize anc N A s = l at *
  generalize anc N A t = m at *
  go_enter Try.func21, Try.ntmps21
  go_wp2_with fail
  refine C.mono ?_
  rintro e w1 ⟨v, rfl, o1, -, f1⟩
  have O1 : Hid (OwnG elS w1 v m) := o1
  have F1 : Hid (Fr no w w1) := f1
  have C3 := C2.out w1 f1
  clear o1 f1
  go_wp2_with fail
  refine C3.mono ?_
  rintro e w2 ⟨v2, rfl, o2, -, f2⟩
  have S1 : Hid (SlG elS w2 v m) := (O1.out.keep f2).sl
  have F2 : Hid (Fr no w w2) := F1.out.and f2
  obtain ⟨ad, cp, rfl, hcap, hmx, -, hit⟩ := o2.sl
  unfold maxLen at hmx
  have HI : Hid (∀ (i : Nat) (x : ByteArray), l[i]? = some x → ∃ b off, ad = some ⟨b, off, none⟩ ∧ w2.cell? ⟨b, off + i, none⟩ = some (.string x)) := hit
  clear o2 f2 hit
  generalize hll : l.length = n at *
  go_wp2_with fail
  go_loop [17] (fun i => ∃ (k : Nat), i = .int .i64 (k : Int) ∧ k ≤ n ∧ ∀ x ∈ l.take k, inL x m = false) (fun i => n - (intOf i).toNat)
  case atStart => exact ⟨0, rfl, by omega, fun x hx => by simp at hx⟩
  case round =>
    obtain ⟨k, rfl, hk, hall⟩ := hrel
    have HA : Hid (∀ x ∈ l.take k, inL x m = false) := hall
    clear hall
    by_cases hlt : k < n
    · obtain ⟨x, hx⟩ : ∃ x, l[k]? = some x := ⟨_, List.getElem?_eq_getElem (by omega)⟩
      obtain ⟨b, off, rfl, hc⟩ := HI.out k x hx
      have HX : Hid (l[k]? = some x) := hx
      clear hx
      have hlt' : (k : Int) < (n : Int) := by omega
      have I := contains_any w2 v m S1.out x
      by_cases hin : inL x m = true
      · rw [hin] at I
        have HT : Hid (shared l m = x) := shared_at HX.out HA.out hin
        clear hin
        go_wp2_with fail
        refine I.mono ?_
        rintro e w3 ⟨rfl, rfl⟩
        go_wp2_with fail
        go_ret
        rw [HT.out]
        exact ⟨rfl, F2.out⟩
      · have hin' : inL x m = false := by simpa using hin
        rw [hin'] at I
        have HT : Hid (∀ y ∈ l.take (k + 1), inL y m = false) := by
          intro y hy
          rw [take_next l k x HX.out, List.mem_append] at hy
          rcases hy with hy | hy
          · exact HA.out y hy
          · simp only [List.mem_singleton] at hy
            rw [hy]; exact hin'
        clear hin hin'
        go_wp2_with fail
        refine I.mono ?_
        rintro e w3 ⟨rfl, rfl⟩
        go_wp2_with fail
        go_round
        case rel => exact ⟨k + 1, by go_num, by omega, HT.out⟩
        case measure => simp [intOf]; omega
    · have hkl : k = n := by omega
      subst hkl
      have HT : Hid (shared l m = ByteArray.empty) := by
        refine shared_none ?_
        have := HA.out
        rwa [← hll, List.take_length] at this
      go_wp2_with fail
      go_ret
      rw [HT.out]
      exact ⟨rfl, F2.out⟩
end Go.Proofs.Ytabiagheflkiaaa
