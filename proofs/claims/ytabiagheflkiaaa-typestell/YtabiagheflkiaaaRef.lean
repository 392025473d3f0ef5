/- The document's classes in memory: places, ancestors, what is below what, what two have in common. -/
import Derived.Test.YtabiagheflkiaaaFits
namespace Go.Proofs.Ytabiagheflkiaaa
open Go.ChangeShapes Go.WideShapes Go.ChangeAt Go.RowKit

/-- The place that the document tells. -/
def plc (N : List ByteArray) (s : ByteArray) : Int := match ix s N with | some i => (i : Int) | none => -1

/-- The block p holds the document's classes N, with texts S of those above them. -/
def RB (w : World) (p : Nat) (N S : List ByteArray) : Prop :=
  ∃ vn vs, w.heap[p]? = some (.cells #[vn, vs] 37 (0, 0)) ∧ OwnG elS w vn N ∧ OwnG elS w vs S

/-- .. and the texts S stand for the places A. -/
structure RA (N S : List ByteArray) (A : List Nat) : Prop where
  len : S.length = N.length
  at_ : ∀ i, 1 ≤ i → i < N.length → ix (S.getD i ByteArray.empty) N = some (A.getD i 0)

theorem RB.keep {w w' : World} {p : Nat} {N S : List ByteArray} (h : RB w p N S) (hf : Fr no w w') : RB w' p N S := by
  obtain ⟨vn, vs, h1, h2, h3⟩ := h
  exact ⟨vn, vs, hf.heap h1 (fun f => f), h2.keep hf, h3.keep hf⟩

theorem cells2 {w : World} {p : Nat} {x y : Value} {t : TypeId} (h : w.heap[p]? = some (.cells #[x, y] t (0, 0))) :
    w.cell? ⟨p, 0, none⟩ = some x ∧ w.cell? ⟨p, 1, none⟩ = some y := by
  refine ⟨?_, ?_⟩ <;> simp [World.cell?, h]

set_option maxRecDepth 100000 in
theorem at_any (w : World) (p : Nat) (N S : List ByteArray) (h : RB w p N S) (s : ByteArray) :
    Calls Try.prog 16 #[.pointer (some ⟨p, 0, none⟩), .string s] w fun e w' => e = .returned (.int .i64 (plc N s)) ∧ w' = w := by
  obtain ⟨vn, vs, h1, h2, -⟩ := h
  obtain ⟨c0, -⟩ := cells2 h1
  obtain ⟨ad, cp, rfl, hcap, hmx, -, hit⟩ := h2.sl
  unfold maxLen at hmx
  have HI : Hid (∀ (i : Nat) (x : ByteArray), N[i]? = some x → ∃ b off, ad = some ⟨b, off, none⟩ ∧ w.cell? ⟨b, off + i, none⟩ = some (.string x)) := hit
  clear hit h1 h2
  go_enter Try.func16, Try.ntmps16
  go_wp2_with fail
  go_loop [5] (fun i => ∃ (k : Nat), i = .int .i64 (k : Int) ∧ k ≤ N.length ∧ s ∉ N.take k) (fun i => N.length - (intOf i).toNat)
  case atStart => exact ⟨0, rfl, by omega, by simp⟩
  case round =>
    obtain ⟨k, rfl, hk, hall⟩ := hrel
    have HA : Hid (s ∉ N.take k) := hall
    clear hall
    by_cases hlt : k < N.length
    · obtain ⟨x, hx⟩ : ∃ x, N[k]? = some x := ⟨_, List.getElem?_eq_getElem hlt⟩
      obtain ⟨b, off, rfl, hc⟩ := HI.out k x hx
      have HX : Hid (N[k]? = some x) := hx
      clear hx
      have hlt' : (k : Int) < (N.length : Int) := by omega
      have hq := streq x s
      by_cases hn : x = s
      · rw [decide_eq_true hn] at hq
        have HT : Hid (plc N s = (k : Int)) := by show _ = _; unfold plc; rw [ix_first (hn ▸ HX.out) HA.out]
        clear hn
        go_wp2_with fail
        go_ret
        rw [HT.out]
        exact ⟨rfl, rfl⟩
      · rw [decide_eq_false hn] at hq
        have HT : Hid (s ∉ N.take (k + 1)) := by
          show ¬ _
          rw [take_next N k x HX.out, List.mem_append]
          rintro (h | h)
          · exact HA.out h
          · simp only [List.mem_singleton] at h
            exact hn h.symm
        clear hn
        go_wp2_with fail
        go_round
        case rel => exact ⟨k + 1, by go_num, by omega, HT.out⟩
        case measure => simp [intOf]; omega
    · have hkl : k = N.length := by omega
      subst hkl
      have HT : Hid (plc N s = -1) := by
        have := HA.out
        rw [List.take_length] at this
        show _ = _
        unfold plc
        rw [ix_none.2 this]
      go_wp2_with fail
      go_ret
      rw [HT.out]
      exact ⟨rfl, rfl⟩

theorem getD_at (S : List ByteArray) (i : Nat) (h : i < S.length) : S[i]? = some (S.getD i ByteArray.empty) := by
  rw [List.getD_eq_getElem?_getD, List.getElem?_eq_getElem h]; rfl

set_option maxRecDepth 100000 in
set_option maxHeartbeats 1000000 in
theorem docAnc_any (w : World) (p : Nat) (N S : List ByteArray) (A : List Nat) (h : RB w p N S) (hA : Fine N.length A) (hR : RA N S A) (hN : N.length ≤ 1000) (hring : ∀ i, i < N.length → (up A N.length i).2 = true) (s : ByteArray) :
    Calls Try.prog 18 #[.pointer (some ⟨p, 0, none⟩), .string s] w fun e w' => ∃ v, e = .returned v ∧ OwnG elS w' v (anc N A s) ∧ NewV w v ∧ Fr no w w' := by
  have HBK : Hid (RB w p N S) := h
  have AT : Hid (∀ w', Fr no w w' → ∀ s, Calls Try.prog 16 #[.pointer (some ⟨p, 0, none⟩), .string s] w' fun e w'' => e = .returned (.int .i64 (plc N s)) ∧ w'' = w') := fun w' f s => at_any w' p N S (HBK.out.keep f) s
  have C := AT.out w (Fr.refl _ _) s
  clear h
  cases hi : ix s N with
  | none =>
    have HA : Hid (anc N A s = []) := by show _ = _; unfold anc; rw [hi]
    have hp : plc N s = -1 := by unfold plc; rw [hi]
    rw [hp] at C
    clear hi hp
    go_enter Try.func18, Try.ntmps18
    go_wp2_with fail
    refine C.mono ?_
    rintro e w1 ⟨rfl, rfl⟩
    go_wp2_with fail
    go_loopw [5, 6] (fun v z wr => v = .slice none 0 0 ∧ z = .int .i64 (-1) ∧ wr = w1) (fun _ _ _ => 0)
    case atStart => exact ⟨rfl, rfl, rfl⟩
    case round =>
      obtain ⟨rfl, rfl, rfl⟩ := hrel
      go_wp2_with fail
      go_ret
      exact ⟨_, rfl, by rw [HA.out]; exact OwnG.nil _ _, NewV.nil _, Fr.refl _ _⟩
  | some i0 =>
    have HA : Hid (anc N A s = (up A N.length i0).1.map (nameAt N)) := by show _ = _; unfold anc; rw [hi]
    have hp : plc N s = (i0 : Int) := by unfold plc; rw [hi]
    rw [hp] at C
    have hi0 := ix_lt hi
    have HT : Hid ((up A N.length i0).2 = true) := hring i0 hi0
    clear hi hp hring
    generalize hn : N.length = n at *
    go_enter Try.func18, Try.ntmps18
    go_wp2_with fail
    refine C.mono ?_
    rintro e w0 ⟨rfl, rfl⟩
    clear C
    go_wp2_with fail
    go_loopw [5, 6] (fun v z wr => ∃ (i : Nat) (P : List Nat), z = .int .i64 (i : Int) ∧ i < n ∧ P.length ≤ n ∧ OwnG elS wr v (P.map (nameAt N)) ∧ NewV w0 v ∧ Fr no w0 wr ∧ up A n i0 = (P ++ (up A (n - P.length) i).1, (up A (n - P.length) i).2)) (fun v _ _ => n - lenOf v)
    case atStart => exact ⟨i0, [], rfl, hi0, Nat.zero_le _, OwnG.nil _ _, NewV.nil _, Fr.refl _ _, by simp⟩
    case round =>
      obtain ⟨i, P, rfl, hi, hP, ho, hv, hf, he⟩ := hrel
      obtain ⟨o, cp, hvf⟩ := ho.form
      obtain ⟨f, hfu⟩ : ∃ f, n - P.length = f + 1 := by
        cases hc : n - P.length with
        | zero =>
          rw [hc] at he
          have := HT.out
          rw [he] at this
          simp [up] at this
        | succ f => exact ⟨f, rfl⟩
      have HE : Hid (up A n i0 = (P ++ (up A (f + 1) i).1, (up A (f + 1) i).2)) := by rw [hfu] at he; exact he
      have HO : Hid (OwnG elS wr u5 (P.map (nameAt N))) := ho
      have HV : Hid (NewV w0 u5) := hv
      have HF : Hid (Fr no w0 wr) := hf
      obtain ⟨vn, vs, g1, g2, g3⟩ := HBK.out.keep hf
      obtain ⟨c0, -⟩ := cells2 g1
      obtain ⟨ad, cap, rfl, hcap, hmx, -, hit⟩ := g2.sl
      have hx : N[i]? = some (nameAt N i) := by unfold nameAt; exact getD_at N i (by omega)
      obtain ⟨b, off, rfl, hc⟩ := hit i _ hx
      have hc' : wr.cell? ⟨b, off + i, none⟩ = some (.string (nameAt N i)) := hc
      have hii : (i : Int) < (n : Int) := by omega
      rw [hn] at c0
      have hPl : Hid ((P.map (nameAt N)).length + 1 ≤ 1000000) := by show _ ≤ _; simp; omega
      have LEM : Hid (∀ v' w2, OwnG elS w2 v' (P.map (nameAt N) ++ [nameAt N i]) → Sp u5 (wr.alloc (.cells #[.string (nameAt N i)] 9)) v' w2 → ∃ ov q cv, v' = .slice ov q cv ∧ Hid (q = P.length + 1) ∧ Hid (OwnG elS w2 v' ((P ++ [i]).map (nameAt N))) ∧ Hid (NewV w0 v') ∧ Hid (Fr no w0 w2) ∧
          ∃ bs os cs, w2.cell? ⟨p, 1, none⟩ = some (.slice (some ⟨bs, os, none⟩) n cs) ∧ w2.cell? ⟨bs, os + i, none⟩ = some (.string (S.getD i ByteArray.empty))) := by
        intro v' w2 o2 s2
        obtain ⟨nv2, f2⟩ := HV.out.step (HF.out.alloc _ _) s2
        obtain ⟨ov, cv, hvf⟩ := o2.form
        obtain ⟨vn, vs, k1, k2, k3⟩ := HBK.out.keep f2
        obtain ⟨-, d1⟩ := cells2 k1
        obtain ⟨ad, cap, rfl, hcap, hmx, -, hit⟩ := k3.sl
        have hSl := hR.len
        have hx : S[i]? = some (S.getD i ByteArray.empty) := getD_at S i (by omega)
        obtain ⟨bs, os, rfl, hc⟩ := hit i _ hx
        rw [hSl, hn] at d1
        exact ⟨ov, _, cv, hvf, (by show _ = _; simp), (by show OwnG _ _ _ _; rw [List.map_append]; exact o2), nv2, f2, bs, os, cap, d1, hc⟩
      subst hvf
      clear ho hv hf he hit hc hx g1 g2 g3 hcap hmx
      generalize nameAt N i = nm at *
      by_cases hz : i = 0
      · have HB2 : Hid (up A n i0 = (P ++ [i], true)) := by
          show _ = _
          rw [HE.out]
          simp [up, hz]
        have hz' : ((i : Int) == 0) = true := by simp; omega
        clear hz
        go_wp2_with (at_builtin; refine wpList_apdG elS_ok _ rfl rfl _ _ rfl _ _ rfl (HO.out.keep ((Fr.refl no wr).alloc _ _)) _ rfl [nm] (srcG_one elS_ok wr nm) hPl.out ?_; intro v' w2 o2 s2; obtain ⟨ov, q, cv, rfl, HQ, O2, N2, F2, bs, os, cs, d1, d2⟩ := LEM.out v' w2 o2 s2; clear o2 s2)
        go_ret
        refine ⟨_, rfl, ?_, N2.out, F2.out⟩
        rw [HA.out, HB2.out]
        exact O2.out
      · have HB2 : Hid (up A n i0 = ((P ++ [i]) ++ (up A (n - (P ++ [i]).length) (A.getD i 0)).1, (up A (n - (P ++ [i]).length) (A.getD i 0)).2)) := by
          show _ = _
          rw [HE.out]
          have hfl : n - (P ++ [i]).length = f := by simp; omega
          rw [hfl]
          simp [up, hz]
        have hz' : ((i : Int) == 0) = false := by simp; omega
        have hpl : plc N (S.getD i ByteArray.empty) = ((A.getD i 0 : Nat) : Int) := by unfold plc; rw [hR.at_ i (by omega) (by omega)]
        have HG : Hid (A.getD i 0 < n) := hA.2 i
        have AT2 : Hid (∀ w', Fr no w0 w' → Calls Try.prog 16 #[.pointer (some ⟨p, 0, none⟩), .string (S.getD i ByteArray.empty)] w' fun e w'' => e = .returned (.int .i64 ((A.getD i 0 : Nat) : Int)) ∧ w'' = w') := fun w' f => by rw [← hpl]; exact AT.out w' f _
        have hPn : Hid (P.length + 1 ≤ n) := by show _ ≤ _; omega
        clear hz hpl
        generalize A.getD i 0 = j at *
        generalize S.getD i ByteArray.empty = sp at *
        go_wp2_with (at_builtin; refine wpList_apdG elS_ok _ rfl rfl _ _ rfl _ _ rfl (HO.out.keep ((Fr.refl no wr).alloc _ _)) _ rfl [nm] (srcG_one elS_ok wr nm) hPl.out ?_; intro v' w2 o2 s2; obtain ⟨ov, q, cv, rfl, HQ, O2, N2, F2, bs, os, cs, d1, d2⟩ := LEM.out v' w2 o2 s2; clear o2 s2)
        refine (AT2.out _ F2.out).mono ?_
        rintro e w3 ⟨rfl, rfl⟩
        go_wp2_with fail
        go_roundw
        case rel => exact ⟨j, P ++ [i], rfl, HG.out, by simpa using hPn.out, O2.out, N2.out, F2.out, HB2.out⟩
        case measure =>
          have e := HQ.out
          have := hPn.out
          simp [lenOf]
          omega
end Go.Proofs.Ytabiagheflkiaaa
