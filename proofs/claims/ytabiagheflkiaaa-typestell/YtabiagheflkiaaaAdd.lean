/- New classes: their names, those above them. -/
import Derived.Test.YtabiagheflkiaaaWay
namespace Go.Proofs.Ytabiagheflkiaaa
open Go.ChangeShapes Go.WideShapes Go.ChangeAt Go.RowKit

theorem turned_fr {w w' : World} {m : Nat} (h : w.mapTurned w' m) : Fr (fun k => k = m) w w' :=
  ⟨h.grown.os, h.grown.output, h.grown.size, fun k hk hs => h.grown.block k hk (by simpa using hs), fun a _ => h.frozen a⟩

/-- The names, one by one: the first fault; the list up to there. -/
def addN (N : List ByteArray) : List ByteArray → Int × List ByteArray
  | [] => (0, N)
  | x :: l => if isName x = false then (50, N) else if (ix x N).isSome = true then (53, N) else addN (N ++ [x]) l

/-- What a step leaves of the blocks that hold the classes. -/
theorem HB.parts {c : Nat} {w : World} {p : Nat} {N : List ByteArray} {A : List Nat} (h : HB c w p N A) : ∃ vn va m D, w.heap[p]? = some (.cells #[vn, .map (some m), va] 58 (0, 0)) ∧ OwnG elS w vn N ∧ OwnG elI w va A ∧ Owns w m N.length D ∧ MapOf D N ∧
    c ≤ p ∧ c ≤ m ∧ (∀ k, vn.ownBlock = some k → c ≤ k) ∧ (∀ k, va.ownBlock = some k → c ≤ k) ∧ p ≠ m ∧ vn.ownBlock ≠ some p ∧ va.ownBlock ≠ some p ∧ vn.ownBlock ≠ some m ∧ va.ownBlock ≠ some m ∧ (∀ k, vn.ownBlock = some k → va.ownBlock ≠ some k) := by
  obtain ⟨vn, va, m, D, h1, h2, h3, h4, h5, h6, h7, h8, h9⟩ := h
  obtain ⟨es, ck, hm, -⟩ := id h4
  refine ⟨vn, va, m, D, h1, h2, h3, h4, h5, h6, h7, h8, h9, ?_, ?_, ?_, ?_, ?_, ?_⟩
  · rintro rfl; rw [h1] at hm; simp at hm
  · intro e; obtain ⟨cur, hc⟩ := h2.tag e; rw [h1] at hc; simp [elS] at hc
  · intro e; obtain ⟨cur, hc⟩ := h3.tag e; rw [h1] at hc; simp [elI] at hc
  · intro e; obtain ⟨cur, hc⟩ := h2.tag e; rw [hm] at hc; simp at hc
  · intro e; obtain ⟨cur, hc⟩ := h3.tag e; rw [hm] at hc; simp at hc
  · intro k e e'
    obtain ⟨cur, hc⟩ := h2.tag e
    obtain ⟨cur', hc'⟩ := h3.tag e'
    rw [hc] at hc'
    simp [elS, elI] at hc'

theorem set_first {w : World} {p : Nat} {x y z u : Value} {t : TypeId} (h : w.heap[p]? = some (.cells #[x, y, z] t (0, 0))) : (w.setCell ⟨p, 0, none⟩ u).heap[p]? = some (.cells #[u, y, z] t (0, 0)) := by
  unfold World.setCell
  rw [Array.getElem?_modify, if_pos rfl, h]
  rfl

theorem set_third {w : World} {p : Nat} {x y z u : Value} {t : TypeId} (h : w.heap[p]? = some (.cells #[x, y, z] t (0, 0))) : (w.setCell ⟨p, 2, none⟩ u).heap[p]? = some (.cells #[x, y, u] t (0, 0)) := by
  unfold World.setCell
  rw [Array.getElem?_modify, if_pos rfl, h]
  rfl

theorem frozen3 {w : World} {p : Nat} {x y z : Value} {t : TypeId} (h : w.heap[p]? = some (.cells #[x, y, z] t (0, 0))) : w.frozen? ⟨p, 0, none⟩ = false ∧ w.frozen? ⟨p, 2, none⟩ = false := by
  refine ⟨?_, ?_⟩ <;> simp [World.frozen?, h]

/-- One more name: the map's store, then the row's append, then the field's store. -/
theorem hb_name {w0 wr : World} {p : Nat} {M : List ByteArray} {A : List Nat} (h : HB w0.heap.size wr p M A) (hf : Fr no w0 wr) (x : ByteArray) (hx : ix x M = none) (hs : x.size ≤ 1099511627776) (hM : M.length ≤ 1000) :
    ∃ m on cn w1, (wr.cell? ⟨p, 0, none⟩ = some (.slice on M.length cn) ∧ wr.cell? ⟨p, 1, none⟩ = some (.map (some m))) ∧
      (Instr.mapUpdate 55 (.map (some m)) (.string x) (.int .i64 (M.length : Int))).run Try.prog wr.drew = .ok () w1 ∧ w1.cell? ⟨p, 0, none⟩ = some (.slice on M.length cn) ∧
      OwnG elS (w1.alloc (.cells #[.string x] 9)) (.slice on M.length cn) M ∧
      ∀ v' w2, OwnG elS w2 v' (M ++ [x]) → Sp (.slice on M.length cn) (w1.alloc (.cells #[.string x] 9)) v' w2 →
        w2.cell? ⟨p, 0, none⟩ = some (.slice on M.length cn) ∧ w2.frozen? ⟨p, 0, none⟩ = false ∧ HB w0.heap.size (w2.setCell ⟨p, 0, none⟩ v') p (M ++ [x]) A ∧ Fr no w0 (w2.setCell ⟨p, 0, none⟩ v') := by
  obtain ⟨vn, va, m, D, h1, h2, h3, h4, h5, h6, h7, h8, h9, n1, n2, n3, n4, n5, n6⟩ := h.parts
  obtain ⟨on, cn, rfl⟩ := h2.form
  have h4d : Owns wr.drew m M.length D := h4.drew
  obtain ⟨w1, hrun, own1, turn1⟩ := h4d.store keyed Try.underlying55 (by unfold maxLen; omega) (ky_key hs) (plainElem_int (a := (M.length : Int)) Try.underlying3 (WalkArith.wf_i64 (by omega)))
  have t1 : Fr (fun k => k = m) wr w1 := ((Fr.refl (fun k => k = m) wr).drew).trans (turned_fr turn1) (fun _ _ e => e) (fun _ _ e => e)
  have f1 : Fr no w0 w1 := hf.new t1 (fun i hi e => by omega)
  have a1 : Fr (fun k => k = m) wr (w1.alloc (.cells #[.string x] 9)) := t1.alloc _ _
  have p1 : w1.heap[p]? = some (.cells #[.slice on M.length cn, .map (some m), va] 58 (0, 0)) := t1.heap h1 n1
  have pa : (w1.alloc (.cells #[.string x] 9)).heap[p]? = some (.cells #[.slice on M.length cn, .map (some m), va] 58 (0, 0)) := a1.heap h1 n1
  refine ⟨m, on, cn, w1, ⟨(cells3 h1).1, (cells3 h1).2.1⟩, hrun, (cells3 p1).1, h2.kept a1 (fun k hk e => n4 (by rw [hk, e])), fun v' w2 o2 s2 => ?_⟩
  have p2 : w2.heap[p]? = some (.cells #[.slice on M.length cn, .map (some m), va] 58 (0, 0)) := s2.1.heap pa n2
  have own2 : Owns w2 m (M.length + 1) (D.put (ky x) (.lit (.int .i64 (M.length : Int)))) := owns_keep (own1.alloc _) s2.1 n4
  have va2 : OwnG elI w2 va A := (h3.kept a1 (fun k hk e => n5 (by rw [hk, e]))).kept s2.1 (fun k hk e => n6 k e hk)
  have hsz : w0.heap.size ≤ (w1.alloc (.cells #[.string x] 9)).heap.size := (f1.alloc _ _).size
  have f2 : Fr no w0 w2 := (f1.alloc _ _).new s2.1 (fun i hi e => by have := h8 i e; omega)
  have nv : ∀ k, v'.ownBlock = some k → w0.heap.size ≤ k := fun k hk => by
    by_cases hlt : k < (w1.alloc (.cells #[.string x] 9)).heap.size
    · exact h8 k (s2.2 k hlt hk)
    · omega
  have hv'p : v'.ownBlock ≠ some p := fun e => by obtain ⟨cur, hc⟩ := o2.tag e; rw [p2] at hc; simp [elS] at hc
  have fs : Fr (fun k => k = p) w2 (w2.setCell ⟨p, 0, none⟩ v') := (Fr.refl (fun k => k = p) w2).setCell (p := ⟨p, 0, none⟩) (fun _ => rfl) v'
  refine ⟨(cells3 p2).1, (frozen3 p2).1, ⟨v', va, m, _, set_first p2, o2.kept fs (fun k hk e => hv'p (by rw [hk, e])), va2.kept fs (fun k hk e => n3 (by rw [hk, e])), ?_, mapOf_put h5 hx, h6, h7, nv, h9⟩, f2.new fs (fun i hi e => by omega)⟩
  have := owns_keep own2 fs (fun e => n1 e.symm)
  simpa using this

set_option maxRecDepth 100000 in
set_option maxHeartbeats 1000000 in
theorem addNames_any (w0 w : World) (hw : Fr no w0 w) (p : Nat) (N : List ByteArray) (A : List Nat) (h : HB w0.heap.size w p N A) (v : Value) (l : List ByteArray) (hl : SlG elS w0 v l) (hs : ∀ x ∈ l, x.size ≤ 1099511627776) (hN : N.length + l.length ≤ 1000) :
    Calls Try.prog 30 #[.pointer (some ⟨p, 0, none⟩), v] w fun e w' => e = .returned (.int .i64 (addN N l).1) ∧ HB w0.heap.size w' p (addN N l).2 A ∧ Fr no w0 w' := by
  have HH : Hid (HB w0.heap.size w p N A) := h
  have HW : Hid (Fr no w0 w) := hw
  have HL : Hid (SlG elS w0 v l) := hl
  obtain ⟨ad, cp, rfl, hcap, hmx, -, -⟩ := id hl
  unfold maxLen at hmx
  have HS : Hid (∀ x ∈ l, x.size ≤ 1099511627776) := hs
  clear h hw hl hs
  generalize hln : l.length = n at *
  go_enter Try.func30, Try.ntmps30
  go_wp2_with fail
  go_loopw [9] (fun i wr => ∃ (k : Nat) (M : List ByteArray), i = .int .i64 (k : Int) ∧ k ≤ n ∧ HB w0.heap.size wr p M A ∧ Fr no w0 wr ∧ addN N l = addN M (l.drop k) ∧ M.length ≤ N.length + k) (fun i _ => n - (intOf i).toNat)
  case atStart => exact ⟨0, N, rfl, Nat.zero_le _, HH.out, HW.out, rfl, Nat.le_refl _⟩
  case round =>
    obtain ⟨k, M, rfl, hk, hh, hf, he, hM⟩ := hrel
    have H1 : Hid (HB w0.heap.size wr p M A) := hh
    have F1 : Hid (Fr no w0 wr) := hf
    have HE : Hid (addN N l = addN M (l.drop k)) := he
    have HM : Hid (M.length ≤ N.length + k) := hM
    clear hh hf he hM
    by_cases hlt : k < n
    · obtain ⟨x, hx⟩ : ∃ x, l[k]? = some x := ⟨_, List.getElem?_eq_getElem (by omega)⟩
      have hdr : Hid (l.drop k = x :: l.drop (k + 1)) := by
        obtain ⟨hk', e⟩ := List.getElem?_eq_some_iff.1 hx
        show _ = _
        rw [← e, List.getElem_cons_drop hk']
      obtain ⟨ad', cp', e', -, -, -, hit⟩ := HL.out.keep F1.out
      simp only [Value.slice.injEq] at e'
      obtain ⟨rfl, -, -⟩ := e'
      obtain ⟨b, off, rfl, hc⟩ := hit k x hx
      have hc' : wr.cell? ⟨b, off + k, none⟩ = some (.string x) := hc
      have hki : (k : Int) < (n : Int) := by omega
      have hxs := HS.out x (List.mem_of_getElem? hx)
      have I := isName_any wr x hxs
      have Hs := has_any wr p M A H1.out x hxs
      clear hit hc hx
      cases hn : isName x with
      | false =>
        have HA : Hid (addN N l = (50, M)) := by show _ = _; rw [HE.out, hdr.out]; unfold addN; rw [if_pos hn]
        rw [hn] at I
        clear hn Hs
        go_wp2_with fail
        refine I.mono ?_
        rintro e w1 ⟨rfl, rfl⟩
        go_wp2_with fail
        go_ret
        rw [HA.out]
        exact ⟨rfl, H1.out, F1.out⟩
      | true =>
        rw [hn] at I
        cases hi : ix x M with
        | some i =>
          have HA : Hid (addN N l = (53, M)) := by show _ = _; rw [HE.out, hdr.out]; unfold addN; rw [if_neg (by simp [hn]), if_pos (by rw [hi]; rfl)]
          rw [hi] at Hs
          simp only [Option.isSome_some] at Hs
          clear hn hi
          go_wp2_with fail
          refine I.mono ?_
          rintro e w1 ⟨rfl, rfl⟩
          go_wp2_with fail
          refine Hs.mono ?_
          rintro e w1 ⟨rfl, rfl⟩
          go_wp2_with fail
          go_ret
          rw [HA.out]
          exact ⟨rfl, H1.out, F1.out⟩
        | none =>
          have HA : Hid (addN N l = addN (M ++ [x]) (l.drop (k + 1))) := by show _ = _; rw [HE.out, hdr.out]; unfold addN; rw [if_neg (by simp [hn]), if_neg (by rw [hi]; simp)]; cases l.drop (k + 1) <;> rfl
          obtain ⟨m, on, cn, w1, ⟨d0, d1⟩, hrun, d2, ho, hstep⟩ := hb_name H1.out F1.out x hi hxs (by have := HM.out; omega)
          have HO : Hid (OwnG elS (w1.alloc (.cells #[.string x] 9)) (.slice on M.length cn) M) := ho
          have HT : Hid (∀ v' w2, OwnG elS w2 v' (M ++ [x]) → Sp (.slice on M.length cn) (w1.alloc (.cells #[.string x] 9)) v' w2 → ∃ ov q cv, v' = .slice ov q cv ∧ w2.cell? ⟨p, 0, none⟩ = some (.slice on M.length cn) ∧ w2.frozen? ⟨p, 0, none⟩ = false ∧ Hid (HB w0.heap.size (w2.setCell ⟨p, 0, none⟩ v') p (M ++ [x]) A) ∧ Hid (Fr no w0 (w2.setCell ⟨p, 0, none⟩ v'))) := by
            intro v' w2 o2 s2
            obtain ⟨ov, cv, e⟩ := o2.form
            exact ⟨ov, _, cv, e, hstep v' w2 o2 s2⟩
          rw [hi] at Hs
          simp only [Option.isSome_none] at Hs
          have hM1 : Hid (M.length + 1 ≤ 1000000) := by have := HM.out; show _ ≤ _; omega
          clear hn hi ho hstep
          generalize hml : M.length = ml at *
          go_wp2_with fail
          refine I.mono ?_
          rintro e w1' ⟨rfl, rfl⟩
          go_wp2_with fail
          refine Hs.mono ?_
          rintro e w1' ⟨rfl, rfl⟩
          go_wp2_with fail
          go_region
          go_wp2_with (first | (at_builtin; refine wpList_apdG elS_ok _ rfl rfl _ _ rfl (.slice on ml cn) M rfl HO.out _ rfl [x] (srcG_one elS_ok w1 x) (by rw [hml]; exact hM1.out) ?_; intro v' w2 o2 s2; obtain ⟨ov, q, cv, rfl, e0, z0, HB2, F2⟩ := HT.out v' w2 o2 s2; clear o2 s2) | go_in)
          go_roundw
          case rel => exact ⟨k + 1, M ++ [x], by go_num, by omega, HB2.out, F2.out, HA.out, by have := HM.out; simp; omega⟩
          case measure => simp [intOf]; omega
    · have hkl : k = n := by omega
      subst hkl
      have HA : Hid (addN N l = (0, M)) := by
        show _ = _
        rw [HE.out, List.drop_eq_nil_of_le (by omega)]
        rfl
      go_wp2_with fail
      go_ret
      rw [HA.out]
      exact ⟨rfl, H1.out, F1.out⟩
end Go.Proofs.Ytabiagheflkiaaa
