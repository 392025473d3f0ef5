/- The document's Alloc: the walk. -/
import Derived.Test.YtopcbcdigllenaaRk
namespace Go.Proofs.Ytopcbcdigllenaa
open Go.ChangeShapes Go.WideShapes Go.ChangeAt Go.RowKit

set_option maxRecDepth 100000 in
theorem refAlloc_bad (w : World) (q : Nat) (c n : Int) (h : c < 0 ∨ n < 0) :
    Calls Try.prog 12 #[.pointer (some ⟨q, 0, none⟩), .int .i64 c, .int .i64 n] w fun e w' => e = .returned (.tuple #[.int .i64 0, .int .i64 111]) ∧ w' = w := by
  by_cases hc : c < 0
  · go_enter Try.func12, Try.ntmps12
    go_wp2_with fail
    go_ret2
    exact ⟨rfl, rfl⟩
  · have hn : n < 0 := by omega
    have hcd : decide (c < 0) = false := decide_eq_false hc
    go_enter Try.func12, Try.ntmps12
    go_wp2_with fail
    go_ret2
    exact ⟨rfl, rfl⟩

set_option maxRecDepth 100000 in
theorem refAlloc_none (w : World) (q g : Nat) (size : Int) (T : List Ob) (h : RR w q g size T) (hs : 0 ≤ size ∧ size ≤ 2048) (hT : Low T) (hl : T.length ≤ 3000) (c n : Nat) (hgl : ∀ x ∈ gaps size 1 T, 0 ≤ x.2 ∧ x.2 ≤ 5000) (hgn : (gaps size 1 T).length ≤ 3001)
    (hpl : placeG (n : Int) (gaps size 1 T) = 0) :
    Calls Try.prog 12 #[.pointer (some ⟨q, 0, none⟩), .int .i64 (c : Int), .int .i64 (n : Int)] w fun e w' => e = .returned (.tuple #[.int .i64 0, .int .i64 110]) ∧ Fr no w w' := by
  have PL := refPlace_any w q g size T h hs hT hl n hgl hgn
  rw [hpl] at PL
  clear h hs hT hl hgl hgn hpl
  go_enter Try.func12, Try.ntmps12
  go_wp2_with fail
  refine PL.mono ?_
  rintro e w1 ⟨rfl, f1⟩
  have F1 : Hid (Fr no w w1) := f1
  clear f1
  go_wp2_with fail
  go_ret2
  exact ⟨rfl, F1.out⟩

set_option maxRecDepth 100000 in
set_option maxHeartbeats 4000000 in
theorem refAlloc_some {base : Nat} (w : World) (q g : Nat) (size : Int) (A B : List Ob) (h : RR w q g size (A ++ B)) (hb : RB base w q (A ++ B)) (hbw : base ≤ w.heap.size) (hg : g < w.heap.size)
    (hs : 0 ≤ size ∧ size ≤ 2048) (hT : Low (A ++ B)) (hl : (A ++ B).length ≤ 2999) (c n : Nat) (hn : n ≤ 2048) (hgl : ∀ x ∈ gaps size 1 (A ++ B), 0 ≤ x.2 ∧ x.2 ≤ 5000) (hgn : (gaps size 1 (A ++ B)).length ≤ 3001)
    (pl : Int) (hpl : placeG (n : Int) (gaps size 1 (A ++ B)) = pl) (hpl0 : pl ≠ 0) (hA : ∀ x ∈ A, x.at_ < pl) (hB : ∀ x ∈ B, ¬ x.at_ < pl) :
    Calls Try.prog 12 #[.pointer (some ⟨q, 0, none⟩), .int .i64 (c : Int), .int .i64 (n : Int)] w fun e w' => e = .returned (.tuple #[.int .i64 pl, .int .i64 0]) ∧
      ∃ b, RR w' q g size (A ++ ⟨pl, c, List.replicate n 0, some b⟩ :: B) ∧ RB base w' q (A ++ ⟨pl, c, List.replicate n 0, some b⟩ :: B) ∧ Fr (TS base w) w w' := by
  have PL := refPlace_any w q g size (A ++ B) h hs hT (by omega) n hgl hgn
  rw [hpl] at PL
  have HH : Hid (RR w q g size (A ++ B) ∧ RB base w q (A ++ B) ∧ base ≤ w.heap.size ∧ g < w.heap.size) := ⟨h, hb, hbw, hg⟩
  have HA : Hid (∀ x ∈ A, x.at_ < pl) := hA
  have HB : Hid (∀ x ∈ B, ¬ x.at_ < pl) := hB
  have hpz : (pl == 0) = false := by simpa using hpl0
  clear h hb hbw hg hs hT hgl hgn hpl hA hB hpl0
  go_enter Try.func12, Try.ntmps12
  go_wp2_with fail
  refine PL.mono ?_
  rintro e w1 ⟨rfl, f1⟩
  have h1 := HH.out.1.keep f1
  obtain ⟨v, hq1, ho1, hc1⟩ := h1.cellv
  obtain ⟨ad, cp, hvf⟩ := ho1.form
  subst hvf
  have HR : Hid (RdG elO w1 (.slice ad (A ++ B).length cp) (A ++ B)) := ho1.rd elO_ok
  have H1 : Hid (RR w1 q g size (A ++ B) ∧ RB base w1 q (A ++ B) ∧ base ≤ w1.heap.size ∧ g < w1.heap.size ∧ Fr no w w1) := by
    refine ⟨h1, ⟨HH.out.2.1.low, fun v hv k hk => ?_, HH.out.2.1.b⟩, Nat.le_trans HH.out.2.2.1 f1.size, Nat.lt_of_lt_of_le HH.out.2.2.2 f1.size, f1⟩
    obtain ⟨v0, -, -, hc0⟩ := HH.out.1.cellv
    have := f1.cell hc0 (fun x => x)
    rw [hv] at this
    simp only [Option.some.injEq] at this
    subst this
    exact HH.out.2.1.v _ hc0 k hk
  have HO1 : Hid (OwnG elO w1 (.slice ad (A ++ B).length cp) (A ++ B)) := ho1
  clear h1 hq1 ho1 f1 PL
  generalize hnl : (A ++ B).length = nl at *
  have hal : A.length ≤ nl := by rw [← hnl]; simp
  go_upto_block 0 with fail
  go_cut [9] (fun u wc => u = .int .i64 (A.length : Int) ∧ w1 = wc)
  case first =>
    go_wp2_with fail
    go_loop [9] (fun i => ∃ (k : Nat), i = .int .i64 (k : Int) ∧ k ≤ A.length) (fun i => A.length - (intOf i).toNat)
    case atStart => exact ⟨0, rfl, Nat.zero_le _⟩
    case round =>
      obtain ⟨k, rfl, hk⟩ := hrel
      by_cases hka : k < A.length
      · obtain ⟨x, hx⟩ : ∃ x, A[k]? = some x := ⟨_, List.getElem?_eq_getElem hka⟩
        obtain ⟨b, off, had, d1, -, -⟩ := HR.out.at3 (i := k) (x := x) (by rw [List.getElem?_append_left hka]; exact hx)
        subst had
        have hlt : x.at_ < pl := HA.out x (List.mem_of_getElem? hx)
        have hki : (k : Int) < (nl : Int) := by omega
        generalize x.at_ = xa at *
        go_wp2_with fail
        go_round
        case rel => exact ⟨k + 1, by go_num, by omega⟩
        case measure => simp [intOf]; omega
      · obtain rfl : k = A.length := by omega
        by_cases hbn : A.length < nl
        · obtain ⟨x, hx⟩ : ∃ x, (A ++ B)[A.length]? = some x := ⟨_, List.getElem?_eq_getElem (by omega)⟩
          obtain ⟨b, off, had, d1, -, -⟩ := HR.out.at3 hx
          subst had
          have hxB : x ∈ B := by
            rw [List.getElem?_append_right (Nat.le_refl _)] at hx
            exact List.mem_of_getElem? hx
          have hlt : decide (x.at_ < pl) = false := decide_eq_false (by have := HB.out x hxB; omega)
          have hki : (A.length : Int) < (nl : Int) := by omega
          clear hx hxB
          generalize x.at_ = xa at *
          generalize A.length = al at *
          go_wp2_with fail
          go_meet
          exact ⟨rfl, by first | rfl | trivial⟩
        · have hki : decide ((A.length : Int) < (nl : Int)) = false := decide_eq_false (by omega)
          generalize A.length = al at *
          go_wp2_with fail
          go_meet
          exact ⟨rfl, by first | rfl | trivial⟩
  case rest =>
    obtain ⟨rfl, hwc⟩ := hcut
    subst hwc
    have HO2 : Hid (OwnG elO (w1.alloc (.cells (elO.f zO).toArray elO.e)) (.slice ad nl cp) (A ++ B)) := HO1.out.keep ((Fr.refl no w1).alloc _ _)
    have LEM : Hid (∀ v' w3, OwnG elO w3 v' ((A ++ B) ++ [zO]) → Sp (.slice ad nl cp) (w1.alloc (.cells (elO.f zO).toArray 40)) v' w3 → _) := fun v' w3 o3 s3 => refAlloc_steps H1.out.1 H1.out.2.1 H1.out.2.2.1 H1.out.2.2.2.1 pl c n hn o3 hc1 s3
    have HAL : Hid (A.length < nl + 1) := by rw [Hid]; omega
    have hnb : (A ++ B).length + 1 ≤ 1000000 := by omega
    rw [hnl] at LEM
    generalize hAl : A.length = al at *
    go_wp2_with (at_builtin; refine wpList_apdG elO_ok _ rfl rfl _ _ rfl (.slice ad nl cp) (A ++ B) rfl HO2.out _ rfl [zO] (srcG_one elO_ok w1 zO) hnb ?_; intro v' w3 o3 s3; obtain ⟨gg, oo, cc, hv', hc3, hz3, hc4, dv, sv, w5, r1, r2, r3, r4, ⟨m5, r5⟩, hc5, hc6, hmk, hth, w7, hst, hfin⟩ := LEM.out v' w3 o3 s3; have HF : Hid _ := hfin; subst hv'; clear o3 s3 hfin)
    have hwp : IntKind.i64.wrap ((al : Int) + 1) = (al : Int) + 1 := by rw [IntKind.wrap_i64]; omega
    have hali : (al : Int) < ((nl + 1 : Nat) : Int) := by have := HAL.out; omega
    have hali2 : (al : Int) < (nl : Int) + 1 := by omega
    generalize w3.setCell ⟨q, 1, none⟩ (.slice (some ⟨gg, oo, none⟩) (nl + 1) cc) = w4 at *
    generalize hW6 : w5.drew.alloc (.cells (cg elU (List.replicate n 0)).toArray 28) = w6 at *
    clear LEM HO1 HO2 HR hc3 hz3 hc1 HA HB HH
    have HF2 : Hid (∃ b, RR w7 q g size (A ++ ⟨pl, c, List.replicate n 0, some b⟩ :: B) ∧ RB base w7 q (A ++ ⟨pl, c, List.replicate n 0, some b⟩ :: B) ∧ Fr (TS base w) w w7) := by
      refine ⟨_, HF.out.1, HF.out.2.1, H1.out.2.2.2.2.up.trans HF.out.2.2 (fun _ _ x => x) (fun k hk hts => ?_)⟩
      obtain ⟨h1, cs, t, h2, h3⟩ := hts
      exact ⟨h1, cs, t, by rw [← H1.out.2.2.2.2.block k hk (fun x => x)]; exact h2, h3⟩
    clear HF H1
    generalize w5.heap.size = nb at *
    have hmid := run_storeAt_mid (P := Try.prog) w6 gg (oo + al * 3) 40 #[.int .i64 pl, .int .i64 (c : Int), .slice (some ⟨nb, 0, none⟩) n n] (fun j hj => by
      obtain ⟨⟨x, h1⟩, h2⟩ := hth j hj
      exact ⟨by rw [h1]; rfl, h2⟩) (by kernel_rfl) (by kernel_rfl)
    have HW7 : Hid (w7 = ((w6.setCell ⟨gg, oo + al * 3, none⟩ (.int .i64 pl)).setCell ⟨gg, oo + al * 3 + 1, none⟩ (.int .i64 (c : Int))).setCell ⟨gg, oo + al * 3 + 1 + 1, none⟩ (.slice (some ⟨nb, 0, none⟩) n n)) := by
      rw [hmid] at hst
      simp only [Result.ok.injEq, true_and] at hst
      exact hst.symm
    obtain ⟨⟨x0, k0⟩, z0⟩ := hth 0 (by omega)
    obtain ⟨⟨x1, k1⟩, z1⟩ := hth 1 (by omega)
    obtain ⟨⟨x2, k2⟩, z2⟩ := hth 2 (by omega)
    rw [Nat.add_zero] at k0 z0
    clear hmid hst hth
    go_region
    all_goals
      go_wp2_with fail
      go_region
    all_goals
      have HF3 := HF2.out
      rw [HW7.out] at HF3
      have HF4 : Hid _ := HF3
      clear HF3 HF2 HW7
      generalize ((w6.setCell ⟨gg, oo + al * 3, none⟩ (.int .i64 pl)).setCell ⟨gg, oo + al * 3 + 1, none⟩ (.int .i64 (c : Int))).setCell ⟨gg, oo + al * 3 + 1 + 1, none⟩ (.slice (some ⟨nb, 0, none⟩) n n) = w8 at *
      go_wp2_with fail
      go_ret2
      exact ⟨rfl, HF4.out⟩
end Go.Proofs.Ytopcbcdigllenaa
