/- Who is called along a chain. -/
import Derived.Test.YtcbpmahekgkjlaaGreatDoorJat
namespace Go.Proofs.YtcbpmahekgkjlaaGreatDoor
open Go.ChangeShapes Go.WideShapes Go.ChangeAt Go.RowKit
open H (ix NewV)

theorem made_u8 (w : World) (n : Nat) (h : n ≤ 12) : (Instr.makeSlice 22 (.int .i64 (n : Int)) (.int .i64 (n : Int))).run Tryz.prog w = .ok (.slice (some ⟨w.heap.size, 0, none⟩) n n) (w.alloc (.cells (madeCells #[.int .u8 0] n) 5)) := by
  have hK := elU_ok
  obtain ⟨i0, hi, hz0, hz1, hz2⟩ := info_parts hK.info
  have := _root_.Go.run_make w elU.t elU.e i0 elU.z hK.und hi hz0 .i64 .i64 (n : Int) (n : Int) (by omega) (by omega) (by rw [hz2]; show (1 : Int) * _ ≤ _; omega) (by omega)
  rw [hz1] at this
  have h2 : (Instr.makeSlice elU.t (.int .i64 (n : Int)) (.int .i64 (n : Int))).run Tryz.prog w = .ok (.slice (some ⟨w.heap.size, 0, none⟩) n n) (w.alloc (.cells (madeCells elU.z.cells n) elU.e)) := by simpa using this
  exact h2

theorem made_sl (w : World) (n : Nat) (h : n ≤ 12) : H.SlG elU (w.alloc (.cells (madeCells #[.int .u8 0] n) 5)) (.slice (some ⟨w.heap.size, 0, none⟩) n n) (List.replicate n 0) := by
  refine ⟨_, n, by rw [List.length_replicate], by rw [List.length_replicate]; omega, by unfold maxLen; omega, fun e => by simp at e, fun i x hx => ⟨w.heap.size, 0, rfl, ?_⟩⟩
  have hi : i < n := by
    have := (List.getElem?_eq_some_iff.1 hx).1
    rwa [List.length_replicate] at this
  rw [List.getElem?_replicate, if_pos hi] at hx
  simp only [Option.some.injEq] at hx
  subst hx
  rw [cell_at (heap_alloc_new w _), Nat.zero_add]
  unfold madeCells
  simp [hi, Nat.mod_one, elU]

theorem toList_ne {s : ByteArray} (h : ¬ s = ⟨#[]⟩) : ¬ s.toList = [] := fun e => h (by
  rw [ByteArray.toList_eq] at e
  obtain ⟨d⟩ := s
  have : d = #[] := by simpa using e
  rw [this])
theorem toList_ne' {s : ByteArray} (h : ¬ s = ⟨#[]⟩) : s.toList.isEmpty = false := by
  have := toList_ne h
  cases e : s.toList with
  | nil => exact absurd e this
  | cons => rfl

set_option maxRecDepth 100000 in
set_option maxHeartbeats 2000000 in
theorem calls_any (w : World) (T : Tb w) (Rt : Tr w) (hv : Value) (has : List Bool) (hh : H.SlG elB w hv has) :
    Calls Tryz.prog 4 #[hv] w fun e w' => e = .returned (.bool true) ∧ Fr no w w' := by
  have HT : Hid (Tb w ∧ Tr w) := ⟨T, Rt⟩
  have KN := known_any w T Rt
  clear T Rt
  obtain ⟨ha, hc, rfl, hh1, hh2, h0, hh3⟩ := hh
  have HH : Hid (∀ (i : Nat) (x : Bool), has[i]? = some x → ∃ b off, ha = some ⟨b, off, none⟩ ∧ w.cell? ⟨b, off + i, none⟩ = some (elB.f x)) := hh3
  have HS : Hid (H.SlG elB w (.slice ha has.length hc) has) := ⟨ha, hc, rfl, hh1, hh2, h0, hh3⟩
  clear hh3 h0
  generalize hn : has.length = n at *
  by_cases h12 : 12 < n
  · have h12' : (12 : Int) < (n : Int) := by omega
    go_enter Tryz.func4, Tryz.ntmps4
    go_wp2_with fail
    refine KN.mono ?_
    rintro e w1 ⟨rfl, f1⟩
    go_wp2_with fail
    go_ret
    exact ⟨rfl, f1⟩
  · have h12' : ¬ ((12 : Int) < (n : Int)) := by omega
    go_enter Tryz.func4, Tryz.ntmps4
    go_wp2_with fail
    refine KN.mono ?_
    rintro e w1 ⟨rfl, f1⟩
    have hmk := made_u8 w1 n (by omega)
    have G2 : Fr no w1 (w1.alloc (.cells (madeCells #[.int .u8 0] n) 5)) := (Fr.refl no w1).alloc _ _
    have f2 : Fr no w (w1.alloc (.cells (madeCells #[.int .u8 0] n) 5)) := f1.new G2 (fun _ _ f => f)
    have CH := chain_any _ _ _ _ _ (made_sl w1 n (by omega)) (HS.out.keep f2) (by rw [List.length_replicate]; omega) (fun x hx => by rw [List.eq_of_mem_replicate hx]; decide)
    rw [List.length_replicate] at CH
    have HF2 : Hid _ := f2
    clear G2 f1 f2
    generalize hW2 : w1.alloc (.cells (madeCells #[.int .u8 0] n) 5) = W2 at *
    go_wp2_with fail
    refine CH.mono ?_
    rintro e w3 ⟨v, wc, ks, bs, rfl, R, fc⟩
    have g3 : Fr no w w3 := HF2.out.new (fc.new R.fr (fun _ _ f => f)) (fun _ _ f => f)
    have LK := chain_links (HT.out.1.kept g3) (HT.out.2.kept g3) R (by omega) (fun i => by omega)
    obtain ⟨vo, vc, rfl⟩ := R.own.form
    clear CH R fc hmk
    go_wp2_with fail
    refine LK.mono ?_
    rintro e w4 ⟨p, rfl, hP, hsm, f4⟩
    have HG : Hid (Fr no w w4) := g3.new f4 (fun _ _ f => f)
    have HP : Hid (∀ w', Fr no w4 w' → Prg w' p (allC (chain (fun i => (List.replicate n 0).getD i 0 % 3 + 1) (fun i => has.getD i false) n)) (newC (chain (fun i => (List.replicate n 0).getD i 0 % 3 + 1) (fun i => has.getD i false) n)).2.2) := fun w' hf => hP.keep hf
    have HSM : Hid _ := hsm
    clear LK hP hsm f4 g3
    go_wp2_with fail
    go_loopw [6, 5] (fun i s wr => ∃ k : Nat, i = .int .i64 (k : Int) ∧ k ≤ n ∧ s = .string (nearS (fun i => has.getD i false) k) ∧ Fr no w4 wr) (fun i _ _ => n - (intOf i).toNat)
    case atStart => exact ⟨0, rfl, Nat.zero_le _, rfl, Fr.refl _ _⟩
    case round =>
      obtain ⟨k, rfl, hkn, rfl, fr⟩ := hrel
      by_cases hlt : k < n
      · have hki : (k : Int) < (n : Int) := by omega
        have hsl := fun w' => slice_lt k (by omega) w'
        obtain ⟨y, hy⟩ : ∃ y, has[k]? = some y := ⟨_, List.getElem?_eq_getElem (by omega)⟩
        obtain ⟨hb', hoff, rfl, hhx⟩ := HH.out k y hy
        have zh := (HG.out.new fr (fun _ _ f => f)).cell hhx (fun f => f)
        simp only [elB] at zh
        have hgd : has.getD k false = y := by rw [List.getD_eq_getElem?_getD, hy, Option.getD_some]
        have ME := method_any wr p _ _ (HP.out wr fr) HSM.out (lt k) sm (by show (1 : Nat) ≤ _; decide) (by show (1 : Nat) ≤ _; decide)
        rw [chain_find (by omega) hlt] at ME
        have NE : nearS (fun i => has.getD i false) (k + 1) = if y = true then lt k else nearS (fun i => has.getD i false) k := by rw [← hgd]; rfl
        have HN : Hid _ := near_name (kd := (fun i => (List.replicate n 0).getD i 0 % 3 + 1)) (hs := (fun i => has.getD i false)) (n := n) (k + 1) (by omega)
        have HNE : Hid _ := NE
        clear NE hgd hy
        generalize hN1 : nearS (fun i => has.getD i false) (k + 1) = N1 at *
        generalize hN0 : nearS (fun i => has.getD i false) k = N0 at *
        have HN1 : Hid _ := hN1
        clear hN1 hN0
        cases hr : near (fun i => has.getD i false) (k + 1) with
        | none =>
          rw [hr] at ME
          have e0' := HN.out.1 hr
          cases y
          · have e1 : N1 = N0 := by simpa using HNE.out
            subst e1
            unfold e0 at e0'
            subst e0'
            clear HNE HN
            go_wp2_with fail
            refine ME.mono ?_
            rintro e w5 ⟨hm, f5⟩
            obtain rfl := hm.1 rfl
            have f6 := fr.new f5 (fun _ _ f => f)
            unfold msV zMs
            clear ME
            go_wp2_with fail
            go_roundw
            case rel => exact ⟨k + 1, by go_num, by omega, by rw [HN1.out], f6.alloc _ _⟩
            case measure => simp [intOf]; omega
          · exfalso
            rw [HNE.out, if_pos rfl] at e0'
            have h1 : (1 : Nat) = 0 := congrArg ByteArray.size e0'
            exact absurd h1 (by decide)
        | some q =>
          rw [hr] at ME
          obtain ⟨q1, q2, q3⟩ := HN.out.2 q hr
          have q4 := toList_ne q3
          have q5 := toList_ne' q3
          have HQ : Hid _ := q2
          clear q2 q3
          generalize hcn : clsAt (allC (chain (fun i => (List.replicate n 0).getD i 0 % 3 + 1) (fun i => has.getD i false) n)) q.1 = cn at *
          have ME' : Calls Tryz.prog 11 #[.pointer (some ⟨p, 0, none⟩), .string (lt k), .string sm] wr fun e w' => (∃ s' : Ms, e = .returned (.tuple #[.string N1, msV s', .bool true]) ∧ s'.name = sm) ∧ Fr no wr w' := by
            refine ME.mono ?_
            rintro e w5 ⟨hm, f5⟩
            obtain ⟨s', m, hm1, rfl, hm3⟩ := hm.2 q rfl
            rw [HQ.out] at hm1
            simp only [Option.some.injEq] at hm1
            subst hm1
            rw [hcn, q1]
            exact ⟨⟨s', rfl, hm3.name⟩, f5⟩
          clear ME hcn q1 HN HQ
          cases y
          · have e1 : N1 = N0 := by simpa using HNE.out
            subst e1
            clear HNE
            go_wp2_with fail
            refine ME'.mono ?_
            rintro e w5 ⟨⟨s', rfl, hm3⟩, f5⟩
            have f6 := fr.new f5 (fun _ _ f => f)
            unfold msV
            rw [hm3]
            unfold sm
            clear ME'
            go_wp2_with fail
            go_roundw
            case rel => exact ⟨k + 1, by go_num, by omega, by rw [HN1.out], f6.alloc _ _⟩
            case measure => simp [intOf]; omega
          · have e1 : N1 = lt k := by simpa using HNE.out
            subst e1
            clear HNE
            go_wp2_with fail
            refine ME'.mono ?_
            rintro e w5 ⟨⟨s', rfl, hm3⟩, f5⟩
            have f6 := fr.new f5 (fun _ _ f => f)
            unfold msV
            rw [hm3]
            unfold sm
            clear ME'
            go_wp2_with fail
            go_roundw
            case rel => exact ⟨k + 1, by go_num, by omega, by rw [HN1.out], f6.alloc _ _⟩
            case measure => simp [intOf]; omega
      · have hki : ¬ (k : Int) < (n : Int) := by omega
        go_wp2_with fail
        go_ret
        exact ⟨rfl, HG.out.new fr (fun _ _ f => f)⟩
end Go.Proofs.YtcbpmahekgkjlaaGreatDoor
