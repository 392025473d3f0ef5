/- SchedPlays, walked. -/
import Derived.Test.YtancclmnliiijaaBv
import Derived.Deep.CutBlock
import Derived.Deep.DeepCutAuto
namespace Go.Proofs.Ytancclmnliiijaa
open Go.ChangeShapes Go.WideShapes Go.ChangeAt Go.RowKit

def elS : El (Int × Int × Int) := ⟨22, 31, 3, .agg #[.int .i64 0, .int .i64 0, .int .i64 0], 24, fun x => [.int .i64 x.1, .int .i64 x.2.1, .int .i64 x.2.2]⟩

theorem RdG.atS {w : World} {o : Option Addr} {n c : Nat} {l : List (Int × Int × Int)} (h : RdG elS w (.slice o n c) l) {i : Nat} {x : Int × Int × Int} (hx : l[i]? = some x) :
    ∃ b off, o = some ⟨b, off, none⟩ ∧ w.cell? ⟨b, off + i * 3, none⟩ = some (.int .i64 x.1) ∧ w.cell? ⟨b, off + i * 3 + 1, none⟩ = some (.int .i64 x.2.1) ∧ w.cell? ⟨b, off + i * 3 + 2, none⟩ = some (.int .i64 x.2.2) := by
  obtain ⟨ad, cap, he, -, -, hit⟩ := h
  obtain ⟨b, off, hb, hc⟩ := hit i x hx
  simp only [Value.slice.injEq] at he
  exact ⟨b, off, by rw [he.1, hb], hc 0 _ rfl, hc 1 _ rfl, hc 2 _ rfl⟩

/-- Whether none is ready, by how many are. -/
theorem empty_len (l : List Int) : l.isEmpty = ((l.length : Int) == 0) := by
  cases l with
  | nil => rfl
  | cons a b => simp; omega

set_option maxRecDepth 100000 in
set_option maxHeartbeats 4000000 in
theorem plays_any (w : World) (v : Value) (l : List (Int × Int × Int)) (h : RdG elS w v l) (hin : ∀ x ∈ l, In x.2.1 ∧ In x.2.2) :
    Calls Try.prog 3 #[v] w fun e w' => e = .returned (.bool true) ∧ Fr no w w' := by
  have HR : Hid (RdG elS w v l) := h
  obtain ⟨ad, cp, rfl⟩ := h.form
  have HIN : Hid (∀ x ∈ l, In x.2.1 ∧ In x.2.2) := hin
  have KN := known_any w
  have nb1 : ∀ b : Bool, (b != b) = false := fun b => by simp
  have nb2 : ∀ b : Int, (b != b) = false := fun b => by simp
  clear h hin
  generalize hn : l.length = n at *
  by_cases hlen : n > 100
  · have hlen' : (n : Int) > 100 := by omega
    go_enter Try.func3, Try.ntmps3
    go_wp2_with fail
    refine KN.mono ?_
    rintro _ w1 ⟨rfl, f1⟩
    have HF : Hid _ := f1
    clear KN f1
    go_wp2_with fail
    go_ret
    exact ⟨rfl, HF.out⟩
  · have hlen' : ¬ ((n : Int) > 100) := by omega
    go_enter Try.func3, Try.ntmps3
    go_wp2_with fail
    refine KN.mono ?_
    rintro _ w1 ⟨rfl, f1⟩
    have NW := Js.new f1
    clear KN f1
    go_wp2_with fail
    refine NW.mono ?_
    rintro _ w2 ⟨p, rfl, j2, -⟩
    have HB0 : Hid _ := Bs.new j2
    clear NW j2
    go_wp2_with fail
    generalize w2.heap.size = q at *
    go_loopw [5] (fun iv wr => ∃ (i n1 : Nat) (T L : List (Int × Int)), iv = .int .i64 (i : Int) ∧ i ≤ n ∧ Bs w wr p q n1 T L) (fun iv _ => n - (intOf iv).toNat)
    case atStart => exact ⟨0, _, _, _, rfl, Nat.zero_le _, HB0.out⟩
    case round =>
      clear HB0
      obtain ⟨i, n1, T, L, rfl, hi, hbt⟩ := hrel
      by_cases hlt : i < n
      · obtain ⟨⟨wt, a, t⟩, hx⟩ : ∃ x, l[i]? = some x := ⟨_, List.getElem?_eq_getElem (by omega)⟩
        obtain ⟨sb, so, rfl, c0, c1, c2⟩ := (HR.out.keep hbt.js.fr).atS hx
        simp only [] at c0 c1 c2
        have hir := HIN.out _ (List.mem_of_getElem? hx)
        simp only [] at hir
        have hlt' : (i : Int) < (n : Int) := by omega
        have fa : Fr no wr (wr.alloc (.cells #[.int .i64 wt, .int .i64 a, .int .i64 t] 31)) := (Fr.refl no wr).alloc _ _
        have HB : Hid (Bs w (wr.alloc (.cells #[.int .i64 wt, .int .i64 a, .int .i64 t] 31)) p q n1 T L) := hbt.keep fa
        have HX : Hid ((wr.alloc (.cells #[.int .i64 wt, .int .i64 a, .int .i64 t] 31)).heap[wr.heap.size]? = some (.cells #[.int .i64 wt, .int .i64 a, .int .i64 t] 31 (0, 0))) := heap_alloc_new wr _
        clear hbt fa hx
        go_upto_block 2 with fail
        revert HB HX
        generalize wr.alloc (.cells #[.int .i64 wt, .int .i64 a, .int .i64 t] 31) = W1
        generalize wr.heap.size = bx at *
        intro HB HX
        clear c0 c1 c2
        obtain ⟨p1, p2, p0⟩ := bx1 HX.out
        go_cut [5] (fun iv wc => iv = .int .i64 (i : Int) ∧ ∃ n2 T' L', Bs w wc p q n2 T' L' ∧ wc.heap[bx]? = some (.cells #[.int .i64 wt, .int .i64 a, .int .i64 t] 31 (0, 0)))
        case first =>
          by_cases h1 : wt ≤ 1
          ·
            by_cases hn12 : n1 < 12
            · have C1 := HB.out.js.spawn hn12
              go_wp2_with fail
              refine C1.mono ?_
              rintro _ w3 ⟨rfl, j3, f3⟩
              have hb3 := f3.box HX.out (by decide)
              have d3 := HB.out.prog f3
              have C2 := dspawn_any d3 (by rw [HB.out.rl.len]; exact hn12) j3.fr.size
              rw [HB.out.rl.len] at C2
              have HJ3 : Hid _ := And.intro j3 hb3
              clear C1 f3 hb3 p0 p1 p2 d3 j3
              go_wp2_with fail
              refine C2.mono ?_
              rintro _ w4 ⟨rfl, d4, f4⟩
              have HZ : Hid (Bs w w4 p q (n1 + 1) (spT n1 T) (L ++ [(1, 0)]) ∧ w4.heap[bx]? = some (.cells #[.int .i64 wt, .int .i64 a, .int .i64 t] 31 (0, 0))) := ⟨Bs.doc HJ3.out.1 d4 f4 (HB.out.rl.spawn (by rw [HB.out.js.ps.len]; exact hn12)), f4.box HJ3.out.2 (by decide)⟩
              clear C2 d4 f4 HJ3
              go_wp2_with fail
              go_meet
              exact ⟨rfl, _, _, _, HZ.out⟩
            · obtain rfl : n1 = 12 := by have := HB.out.js.ps.le; omega
              have C1 := HB.out.js.full
              have C2 := dfull_any HB.out.ds HB.out.rl.len
              clear p0 p1 p2
              have p0 := (bx1 HX.out).2.2
              go_wp2_with fail
              refine C1.mono ?_
              rintro _ w3 ⟨rfl, hw3⟩
              subst hw3
              clear C1
              go_wp2_with fail
              refine C2.mono ?_
              rintro _ w4 ⟨rfl, hw4⟩
              subst hw4
              clear C2
              go_wp2_with fail
              go_meet
              exact ⟨rfl, _, _, _, HB.out, HX.out⟩

          by_cases h3 : wt ≤ 3
          · go_upto_region 16 with fail
            rename_i K0 h0x
            refine Code.wp_mono (Q := Exit.then K0 (fun _ _ _ => False)) (fun e a w h => by cases e <;> first | exact h | exact False.elim h) ?_
            refine preg16 HB.out a t hir.1 bx (.int .i64 wt) HX.out K0 _ _ _ _ _ _ _ _ _ _ _ _ _ _ _ _ _ _ _ _ _ _ _ _ _ _ _ _ _ _ _ _ _ _ _ _ _ _ _ _ _ _ _ _ _ _ _ _ _ _ _ _ _ _ _ _ _ _ _ _ _ _ _ _ _ _ _ _ _ _ _ _ _ _ _ _ _ _ _ _ _ _ _ _ _ _ _ _ _ _ _ _ _ _ _ _ _ _ _ _ _ _ _ _ _ _ _ _ _ _ _ _ _ _ _ _ _ _ _ _ _ _ _ _ _ _ _ _ _ _ _ _ _ _ _ _ _ _ _ _ _ _ _ _ _ _ _ _ _ _ _ _ _ _ _ _ _ _ _ _ _ _ _ _ _ _ _ _ _ _ _ _ _ _ _ _ _ _ _ _ _ _ _ _ _ _ _ _ _ _ _ _ _ _ _ _ _ _ _ _ _ _ _ _ _ _ _ (fun w4 t4 b4 => ?_)
            have HZ : Hid _ := And.intro t4 b4
            clear t4 b4 p0 p1 p2
            refine h0x _ _ ?_
            clear h0x
            go_wp2_with fail
            go_meet
            exact ⟨rfl, _, _, _, HZ.out⟩
          by_cases h5 : wt ≤ 5
          ·
            have C1 := HB.out.js.join a t hir.1 hir.2
            rw [HB.out.rl.rJoin, HB.out.rl.eJoin] at C1
            go_wp2_with fail
            refine C1.mono ?_
            rintro _ w3 ⟨rfl, j3, f3⟩
            have hb3 := f3.box HX.out (by decide)
            have C2 := djoin_any (HB.out.prog f3) a t hir.1 hir.2
            have HJ3 : Hid _ := And.intro j3 hb3
            obtain ⟨q1, q2, q0⟩ := bx1 hb3
            clear C1 f3 hb3 p0 p1 p2 j3
            go_wp2_with fail
            refine C2.mono ?_
            rintro _ w4 ⟨rfl, d4, f4⟩
            have HZ : Hid (Bs w w4 p q n1 (joinT n1 T a t) (joinT L.length L a t) ∧ w4.heap[bx]? = some (.cells #[.int .i64 wt, .int .i64 a, .int .i64 t] 31 (0, 0))) := ⟨Bs.doc HJ3.out.1 d4 f4 (HB.out.rl.joins a t), f4.box HJ3.out.2 (by decide)⟩
            clear C2 d4 f4 HJ3 q0 q1 q2
            go_wp2_with fail
            go_meet
            exact ⟨rfl, _, _, _, HZ.out⟩

          by_cases h7 : wt ≤ 7
          ·
            have C1 := HB.out.js.end_ a hir.1
            rw [HB.out.rl.eEnd, HB.out.rl.lEnd] at C1
            go_wp2_with fail
            refine C1.mono ?_
            rintro _ w3 ⟨o3, k3, c3, rfl, -, h3, n3, j3, f3⟩
            have hb3 := f3.box HX.out (by decide)
            have C2 := dend_any (HB.out.prog f3) a hir.1
            have HJ3 : Hid _ := And.intro j3 hb3
            have HO3 : Hid (OwnG elI w3 (.slice o3 k3 c3) (endL L.length L a)) := h3
            obtain ⟨q1, q2, q0⟩ := bx1 hb3
            clear C1 f3 hb3 p0 p1 p2 j3 h3 n3
            go_wp2_with fail
            refine C2.mono ?_
            rintro _ w4 ⟨o4, k4, c4, rfl, h4, n4, d4, f4⟩
            have HZ : Hid (Bs w w4 p q n1 (endT n1 T a) (endD L.length L a) ∧ w4.heap[bx]? = some (.cells #[.int .i64 wt, .int .i64 a, .int .i64 t] 31 (0, 0))) := ⟨Bs.doc HJ3.out.1 d4 f4 (HB.out.rl.end_ a), f4.box HJ3.out.2 (by decide)⟩
            have IN := ints_any w4 (.slice o3 k3 c3) (.slice o4 k4 c4) _ _ ((HO3.out.tk f4 (by decide)).rd elI_ok) (h4.rd elI_ok)
            rw [show sameI (endL L.length L a) (endL L.length L a) = true from decide_eq_true rfl] at IN
            clear C2 d4 f4 HJ3 q0 q1 q2 HO3 h4 n4
            generalize endE L.length L a = ee at *
            go_wp2_with fail
            refine IN.mono ?_
            rintro _ w5 ⟨rfl, m5, hw5⟩
            have HZ5 : Hid (Bs w w5 p q n1 (endT n1 T a) (endD L.length L a) ∧ w5.heap[bx]? = some (.cells #[.int .i64 wt, .int .i64 a, .int .i64 t] 31 (0, 0))) := by
              rw [hw5]
              exact ⟨HZ.out.1.keep ((Fr.refl no w4).drewN m5), HZ.out.2⟩
            clear IN hw5 HZ
            go_wp2_with fail
            go_meet
            exact ⟨rfl, _, _, _, HZ5.out⟩

          · go_wp2_with fail
            go_meet
            exact ⟨rfl, _, _, _, HB.out, HX.out⟩
        case rest =>
          clear HB HX p0 p1 p2
          obtain ⟨rfl, n2, T', L', hbt, hbx⟩ := hcut
          have HB : Hid (Bs w wc p q n2 T' L' ∧ wc.heap[bx]? = some (.cells #[.int .i64 wt, .int .i64 a, .int .i64 t] 31 (0, 0))) := ⟨hbt, hbx⟩
          obtain ⟨p1, p2, p0⟩ := bx1 hbx
          have P1 := hbt.js.pick a
          rw [hbt.rl.rd] at P1
          clear hbt hbx
          go_wp2_with fail
          refine P1.mono ?_
          rintro _ w3 ⟨rfl, f3⟩
          have HB3 : Hid (Bs w w3 p q n2 T' L' ∧ w3.heap[bx]? = some (.cells #[.int .i64 wt, .int .i64 a, .int .i64 t] 31 (0, 0))) := ⟨HB.out.1.keep f3, f3.heap HB.out.2 (fun f => f)⟩
          obtain ⟨q1, q2, q0⟩ := bx1 HB3.out.2
          have P2 := dpick_any HB3.out.1.ds a
          clear P1 f3 HB p0 p1 p2
          generalize pkN (sel rdy L' L'.length) a = pv at *
          generalize pkO (sel rdy L' L'.length) = po at *
          go_wp2_with fail
          refine P2.mono ?_
          rintro _ w4 ⟨rfl, f4⟩
          have HB4 : Hid (Bs w w4 p q n2 T' L') := HB3.out.1.keep f4
          clear P2 f4 HB3 q0 q1 q2
          go_upto_region 30 with fail
          go_cut [5, 195] (fun iv rv wx => iv = .int .i64 (i : Int) ∧ rv = .bool false ∧ Bs w wx p q n2 T' L')
          case first =>
            have N1 := len_any HB4.out.js.ps
            have N2 := dlen_any HB4.out.ds
            rw [HB4.out.rl.len] at N2
            have R1 := HB4.out.js.ready
            rw [HB4.out.rl.rd] at R1
            go_wp2_with fail
            refine N1.mono ?_
            rintro _ w5 ⟨rfl, hw5⟩
            subst hw5
            clear N1
            go_wp2_with fail
            refine N2.mono ?_
            rintro _ w5 ⟨rfl, hw5⟩
            subst hw5
            clear N2
            go_wp2_with fail
            refine R1.mono ?_
            rintro _ w6 ⟨o6, k6, c6, rfl, hk6, h6, -, f6⟩
            have HB6 : Hid (Bs w w6 p q n2 T' L') := HB4.out.keep f6
            have HO6 : Hid (OwnG elI w6 (.slice o6 k6 c6) (sel rdy L' L'.length)) := h6
            have R2 := dready_any HB6.out.ds
            have HK6 : Hid (k6 = (sel rdy L' L'.length).length) := hk6
            clear R1 h6 f6 HB4 hk6
            go_wp2_with fail
            refine R2.mono ?_
            rintro _ w7 ⟨o7, k7, c7, rfl, hk7, h7, -, f7⟩
            have HB7 : Hid (Bs w w7 p q n2 T' L') := HB6.out.keep f7
            have IN := ints_any w7 (.slice o6 k6 c6) (.slice o7 k7 c7) _ _ ((HO6.out.keep f7).rd elI_ok) (h7.rd elI_ok)
            rw [show sameI (sel rdy L' L'.length) (sel rdy L' L'.length) = true from decide_eq_true rfl] at IN
            clear R2 h7 f7 HB6 HO6 hk7
            go_wp2_with fail
            refine IN.mono ?_
            rintro _ w8 ⟨rfl, m8, hw8⟩
            have HB8 : Hid (Bs w w8 p q n2 T' L') := by
              rw [hw8]
              exact HB7.out.keep ((Fr.refl no w7).drewN m8)
            have O1 := over_any HB8.out.js.ps
            rw [HB8.out.rl.ov] at O1
            have O2 := dover_any HB8.out.ds
            have SK := stuck_any HB8.out.js.ps
            rw [show stk n2 T' = (!ovr L'.length L' && ((k6 : Int) == 0)) by rw [HK6.out, ← empty_len, stk, HB8.out.rl.ov, HB8.out.rl.rd]] at SK
            have RD := dready_any HB8.out.ds
            rw [← HK6.out] at RD
            clear IN hw8 HB7
            cases hov : ovr L'.length L' with
            | true =>
              rw [hov] at O1 O2 SK
              simp only [Bool.not_true, Bool.false_and] at SK
              clear hov RD
              go_wp2_with fail
              refine O1.mono ?_
              rintro _ w9 ⟨rfl, hw9⟩
              subst hw9
              clear O1
              go_wp2_with fail
              refine O2.mono ?_
              rintro _ w9 ⟨rfl, hw9⟩
              subst hw9
              go_wp2_with fail
              refine SK.mono ?_
              rintro _ w9 ⟨rfl, hw9⟩
              subst hw9
              clear SK
              go_wp2_with fail
              refine O2.mono ?_
              rintro _ w9 ⟨rfl, hw9⟩
              subst hw9
              clear O2
              go_wp2_with fail
              go_meet
              exact ⟨rfl, rfl, HB8.out⟩
            | false =>
              rw [hov] at O1 O2 SK
              simp only [Bool.not_false, Bool.true_and] at SK
              clear hov
              go_wp2_with fail
              refine O1.mono ?_
              rintro _ w9 ⟨rfl, hw9⟩
              subst hw9
              clear O1
              go_wp2_with fail
              refine O2.mono ?_
              rintro _ w9 ⟨rfl, hw9⟩
              subst hw9
              go_wp2_with fail
              refine SK.mono ?_
              rintro _ w9 ⟨rfl, hw9⟩
              subst hw9
              clear SK
              go_wp2_with fail
              refine O2.mono ?_
              rintro _ w9 ⟨rfl, hw9⟩
              subst hw9
              clear O2
              go_wp2_with fail
              refine RD.mono ?_
              rintro _ w10 ⟨o10, k10, c10, rfl, hk10, -, -, f10⟩
              subst hk10
              have HB10 : Hid (Bs w w10 p q n2 T' L') := HB8.out.keep f10
              clear RD f10 HB8
              have hkk := nb1 ((k10 : Int) == 0)
              go_wp2_with fail
              go_meet
              exact ⟨rfl, rfl, HB10.out⟩
          case rest =>
            clear HB4
            obtain ⟨rfl, rfl, hbt⟩ := hcut
            have HB5 : Hid (Bs w wc p q n2 T' L') := hbt
            have hn12 := hbt.js.ps.le
            clear hbt
            go_wp2_with fail
            go_loopw [23] (fun kv wz => ∃ k : Nat, kv = .int .i64 ((k : Int) - 1) ∧ k ≤ n2 + 3 ∧ Bs w wz p q n2 T' L') (fun kv _ => n2 + 3 - (intOf kv + 1).toNat)
            case atStart => exact ⟨0, rfl, Nat.zero_le _, HB5.out⟩
            case round =>
              clear HB5
              obtain ⟨k, rfl, hk, hbt⟩ := hrel
              have HBz : Hid (Bs w wr p q n2 T' L') := hbt
              have N2 := dlen_any hbt.ds
              rw [hbt.rl.len] at N2
              have hki : In ((k : Int) - 1) := ⟨by omega, by omega⟩
              have S1 := state_any hbt.js.ps ((k : Int) - 1) hki
              rw [hbt.rl.st] at S1
              have S2 := dstate_any hbt.ds ((k : Int) - 1) hki
              clear hbt
              by_cases hkl : k < n2 + 3
              · have hkl' : (k : Int) - 1 ≤ (n2 : Int) + 1 := by omega
                generalize stA L'.length L' ((k : Int) - 1) = sv at *
                go_wp2_with fail
                refine N2.mono ?_
                rintro _ w5 ⟨rfl, hw5⟩
                subst hw5
                clear N2
                go_wp2_with fail
                refine S1.mono ?_
                rintro _ w5 ⟨rfl, hw5⟩
                subst hw5
                clear S1
                go_wp2_with fail
                refine S2.mono ?_
                rintro _ w5 ⟨rfl, hw5⟩
                subst hw5
                clear S2
                go_wp2_with fail
                go_roundw
                case rel => exact ⟨k + 1, by go_num, by omega, HBz.out⟩
                case measure => simp [intOf]; omega
              · have hkl' : ¬ ((k : Int) - 1 ≤ (n2 : Int) + 1) := by omega
                clear S1 S2
                go_wp2_with fail
                refine N2.mono ?_
                rintro _ w5 ⟨rfl, hw5⟩
                subst hw5
                clear N2
                go_wp2_with fail
                go_roundw
                case rel => exact ⟨i + 1, _, _, _, by go_num, by omega, HBz.out⟩
                case measure => simp [intOf]; omega
      · have HZ : Hid (Fr no w wr) := hbt.js.fr
        have hlt' : ¬ ((i : Int) < (n : Int)) := by omega
        clear hbt
        go_wp2_with fail
        go_ret
        exact ⟨rfl, HZ.out⟩
end Go.Proofs.Ytancclmnliiijaa
