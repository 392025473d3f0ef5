/- MonitorPlays, walked. -/
import Derived.Test.YtkkpimpmhnnbjaaBw
import Derived.Deep.CutBlock
import Derived.Deep.DeepCutAuto
namespace Go.Proofs.Ytkkpimpmhnnbjaa
open Go.ChangeShapes Go.WideShapes Go.ChangeAt Go.RowKit

def elS : El (Int × Int × Int) := ⟨22, 31, 3, .agg #[.int .i64 0, .int .i64 0, .int .i64 0], 24, fun x => [.int .i64 x.1, .int .i64 x.2.1, .int .i64 x.2.2]⟩

theorem RdG.atS {w : World} {o : Option Addr} {n c : Nat} {l : List (Int × Int × Int)} (h : RdG elS w (.slice o n c) l) {i : Nat} {x : Int × Int × Int} (hx : l[i]? = some x) :
    ∃ b off, o = some ⟨b, off, none⟩ ∧ w.cell? ⟨b, off + i * 3, none⟩ = some (.int .i64 x.1) ∧ w.cell? ⟨b, off + i * 3 + 1, none⟩ = some (.int .i64 x.2.1) ∧ w.cell? ⟨b, off + i * 3 + 2, none⟩ = some (.int .i64 x.2.2) := by
  obtain ⟨ad, cap, he, -, -, hit⟩ := h
  obtain ⟨b, off, hb, hc⟩ := hit i x hx
  simp only [Value.slice.injEq] at he
  exact ⟨b, off, by rw [he.1, hb], hc 0 _ rfl, hc 1 _ rfl, hc 2 _ rfl⟩

set_option maxRecDepth 100000 in
set_option maxHeartbeats 4000000 in
theorem plays_any (SC : SortC) (w : World) (v : Value) (l : List (Int × Int × Int)) (h : RdG elS w v l) (hin : ∀ x ∈ l, In x.2.1 ∧ In x.2.2) :
    Calls Try.prog 3 #[v] w fun e w' => e = .returned (.bool true) ∧ Fr no w w' := by
  have HR : Hid (RdG elS w v l) := h
  obtain ⟨ad, cp, rfl⟩ := h.form
  have HIN : Hid (∀ x ∈ l, In x.2.1 ∧ In x.2.2) := hin
  have KN := known_any w
  have nb1 : ∀ b : Bool, (b != b) = false := fun b => by simp
  have nb2 : ∀ b : Int, (b != b) = false := fun b => by simp
  clear h hin
  generalize hn : l.length = n at *
  by_cases hlen : n > 100
  · have hlen' : (n : Int) > 100 := by omega
    go_enter Try.func3, Try.ntmps3
    go_wp2_with fail
    refine KN.mono ?_
    rintro _ w1 ⟨rfl, f1⟩
    have HF : Hid _ := f1
    clear KN f1
    go_wp2_with fail
    go_ret
    exact ⟨rfl, HF.out⟩
  · have hlen' : ¬ ((n : Int) > 100) := by omega
    go_enter Try.func3, Try.ntmps3
    go_wp2_with fail
    refine KN.mono ?_
    rintro _ w1 ⟨rfl, f1⟩
    have NW := jNew w w1 f1
    clear KN f1
    go_wp2_with fail
    refine NW.mono ?_
    rintro _ w2 ⟨p, rfl, j2, -⟩
    have HB0 : Hid _ := Bt.new j2
    clear NW j2
    go_wp2_with fail
    generalize w2.heap.size = q at *
    go_loopw [5] (fun iv wr => ∃ (i : Nat) (s : St) (T : List (Int × Lk)), iv = .int .i64 (i : Int) ∧ i ≤ n ∧ Bt w wr p q (2 * i) s T) (fun iv _ => n - (intOf iv).toNat)
    case atStart => exact ⟨0, _, _, rfl, Nat.zero_le _, HB0.out⟩
    case round =>
      clear HB0
      obtain ⟨i, s, T, rfl, hi, hbt⟩ := hrel
      by_cases hlt : i < n
      · obtain ⟨⟨wt, a, t⟩, hx⟩ : ∃ x, l[i]? = some x := ⟨_, List.getElem?_eq_getElem (by omega)⟩
        obtain ⟨sb, so, rfl, c0, c1, c2⟩ := (HR.out.keep hbt.jt.fr).atS hx
        simp only [] at c0 c1 c2
        have hir := HIN.out _ (List.mem_of_getElem? hx)
        simp only [] at hir
        have hlt' : (i : Int) < (n : Int) := by omega
        have fa : Fr no wr (wr.alloc (.cells #[.int .i64 wt, .int .i64 a, .int .i64 t] 31)) := (Fr.refl no wr).alloc _ _
        have HB : Hid (Bt w (wr.alloc (.cells #[.int .i64 wt, .int .i64 a, .int .i64 t] 31)) p q (2 * i) s T) := hbt.keep fa
        have HX : Hid ((wr.alloc (.cells #[.int .i64 wt, .int .i64 a, .int .i64 t] 31)).heap[wr.heap.size]? = some (.cells #[.int .i64 wt, .int .i64 a, .int .i64 t] 31 (0, 0))) := heap_alloc_new wr _
        clear hbt fa hx
        go_upto_block 2 with fail
        revert HB HX
        generalize wr.alloc (.cells #[.int .i64 wt, .int .i64 a, .int .i64 t] 31) = W1
        generalize wr.heap.size = bx at *
        intro HB HX
        clear c0 c1 c2
        obtain ⟨p1, p2, p0⟩ := bx1 HX.out
        go_cut [5] (fun iv wc => iv = .int .i64 (i : Int) ∧ ∃ s' T', Bt w wc p q (2 * i + 2) s' T' ∧ wc.heap[bx]? = some (.cells #[.int .i64 wt, .int .i64 a, .int .i64 t] 31 (0, 0)))
        case first =>
          by_cases h2 : wt ≤ 2
          ·
            have C1 := HB.out.enter1 (by omega) a t hir.1 hir.2 
            go_wp2_with fail
            refine C1.mono ?_
            rintro _ w3 ⟨rfl, m3, f3⟩
            have hb3 := box_tm HX.out f3
            have C2 := HB.out.enter2 (by omega) a t m3
            have HX3 : Hid _ := hb3
            obtain ⟨q1, q2, q0⟩ := bx1 hb3
            clear C1 f3 m3 hb3 p0 p1 p2
            go_wp2_with fail
            refine C2.mono ?_
            rintro _ w4 ⟨rfl, t4, f4⟩
            have HZ : Hid _ := And.intro t4 (box_td HX3.out f4)
            clear C2 t4 f4 q0 q1 q2
            go_wp2_with fail
            go_meet
            exact ⟨rfl, _, _, HZ.out⟩
          by_cases h4 : wt ≤ 4
          ·
            have C1 := HB.out.exit1 (by omega) a t hir.1 
            go_wp2_with fail
            refine C1.mono ?_
            rintro _ w3 ⟨rfl, m3, f3⟩
            have hb3 := box_tm HX.out f3
            have C2 := HB.out.exit2 (by omega) a t m3
            have HX3 : Hid _ := hb3
            obtain ⟨q1, q2, q0⟩ := bx1 hb3
            clear C1 f3 m3 hb3 p0 p1 p2
            go_wp2_with fail
            refine C2.mono ?_
            rintro _ w4 ⟨rfl, t4, f4⟩
            have HZ : Hid _ := And.intro t4 (box_td HX3.out f4)
            clear C2 t4 f4 q0 q1 q2
            go_wp2_with fail
            go_meet
            exact ⟨rfl, _, _, HZ.out⟩
          by_cases h5 : wt = 5
          · have h5' : (wt == 5) = true := by simp [h5]
            have C1 := HB.out.wait1 (by omega) a t hir.1 hir.2 
            go_wp2_with fail
            refine C1.mono ?_
            rintro _ w3 ⟨rfl, m3, f3⟩
            have hb3 := box_tm HX.out f3
            have C2 := HB.out.wait2 (by omega) a t m3
            have HX3 : Hid _ := hb3
            obtain ⟨q1, q2, q0⟩ := bx1 hb3
            clear C1 f3 m3 hb3 p0 p1 p2
            go_wp2_with fail
            refine C2.mono ?_
            rintro _ w4 ⟨rfl, t4, f4⟩
            have HZ : Hid _ := And.intro t4 (box_td HX3.out f4)
            clear C2 t4 f4 q0 q1 q2
            go_wp2_with fail
            go_meet
            exact ⟨rfl, _, _, HZ.out⟩
          have h5' : (wt == 5) = false := by simp [h5]
          by_cases h7 : wt ≤ 7
          · have HNB : Hid (∀ b : Bool, True) := fun _ => trivial
            have C1 := HB.out.notify1 (by omega) a t (wt == 7) hir.1 
            go_wp2_with fail
            refine C1.mono ?_
            rintro _ w3 ⟨rfl, m3, f3⟩
            have hb3 := box_tm HX.out f3
            have C2 := HB.out.notify2 (by omega) a t (wt == 7) m3
            have HX3 : Hid _ := hb3
            obtain ⟨q1, q2, q0⟩ := bx1 hb3
            clear C1 f3 m3 hb3 p0 p1 p2
            go_wp2_with fail
            refine C2.mono ?_
            rintro _ w4 ⟨so4, k4, sc4, rfl, hk4, t4, f4⟩
            have HZ : Hid _ := And.intro t4 (box_td HX3.out f4)
            clear C2 t4 f4 q0 q1 q2
            have hkk : (noR a t (wt == 7) s != (k4 : Int)) = false := by rw [hk4]; simp
            go_wp2_with fail
            go_meet
            exact ⟨rfl, _, _, HZ.out⟩
          · go_upto_region 10 with fail
            rename_i K0 h0x
            refine Code.wp_mono (Q := Exit.then K0 (fun _ _ _ => False)) (fun e a w h => by cases e <;> first | exact h | exact False.elim h) ?_
            refine preg10 HB.out (by omega) a t hir.1 bx (.int .i64 wt) HX.out K0 _ _ _ _ _ _ _ _ _ _ _ _ _ _ _ _ _ _ _ _ _ _ _ _ _ _ _ _ _ _ _ _ _ _ _ _ _ _ _ _ _ _ _ _ _ _ _ _ _ _ _ _ _ _ _ _ _ _ _ _ _ _ _ _ _ _ _ _ _ _ _ _ _ _ _ _ _ _ _ _ _ _ _ _ _ _ _ _ _ _ _ _ _ _ _ _ _ _ _ _ _ _ _ _ _ _ _ _ _ _ _ _ _ _ _ _ _ _ _ _ _ _ _ _ _ _ _ _ _ _ _ _ _ _ _ _ _ _ _ _ _ _ _ _ _ _ _ _ _ _ _ _ _ _ _ _ _ _ _ _ _ _ _ _ _ _ _ _ _ _ _ _ _ _ _ _ _ _ _ _ _ _ _ _ _ _ _ _ _ _ _ _ _ _ _ _ _ _ _ _ _ _ _ _ _ _ (fun w4 t4 b4 => ?_)
            have HZ : Hid _ := And.intro t4 b4
            clear t4 b4 p0 p1 p2
            refine h0x _ _ ?_
            clear h0x
            go_wp2_with fail
            go_meet
            exact ⟨rfl, _, _, HZ.out⟩
        case rest =>
          clear HB HX p0 p1 p2
          obtain ⟨rfl, s', T', hbt, hbx⟩ := hcut
          have HB : Hid (Bt w wc p q (2 * i + 2) s' T' ∧ wc.heap[bx]? = some (.cells #[.int .i64 wt, .int .i64 a, .int .i64 t] 31 (0, 0))) := ⟨hbt, hbx⟩
          clear hbt hbx
          go_upto_block 3 with fail
          go_cut [5] (fun iv wd => iv = .int .i64 (i : Int) ∧ Bt w wd p q (2 * i + 2) s' T' ∧ wd.heap[bx]? = some (.cells #[.int .i64 wt, .int .i64 a, .int .i64 t] 31 (0, 0)))
          case first =>
            go_wp2_with fail
            go_loopw [23] (fun kv wz => ∃ k : Nat, kv = .int .i64 (k : Int) ∧ k ≤ i + 1 ∧ Bt w wz p q (2 * i + 2) s' T' ∧ wz.heap[bx]? = some (.cells #[.int .i64 wt, .int .i64 a, .int .i64 t] 31 (0, 0))) (fun kv _ => i + 1 - (intOf kv).toNat)
            case atStart => exact ⟨0, rfl, Nat.zero_le _, HB.out⟩
            case round =>
              clear HB
              obtain ⟨k, rfl, hk, hbt, hbx⟩ := hrel
              have HB : Hid _ := And.intro hbt hbx
              by_cases hki : k ≤ i
              · have hki' : (k : Int) ≤ (i : Int) := by omega
                obtain ⟨⟨wk, ak, tk⟩, hxk⟩ : ∃ x, l[k]? = some x := ⟨_, List.getElem?_eq_getElem (by omega)⟩
                obtain ⟨sb', so', e1, -, c1, -⟩ := (HR.out.keep hbt.jt.fr).atS hxk
                obtain ⟨rfl, rfl⟩ := same_at rfl e1
                simp only [] at c1
                have hik := HIN.out _ (List.mem_of_getElem? hxk)
                simp only [] at hik
                have hkn : (k : Int) < (n : Int) := by omega
                clear hbt hbx hxk e1
                go_upto_region 35 with fail
                rename_i K0 h0x
                refine Code.wp_mono (Q := Exit.then K0 (fun _ _ _ => False)) (fun e a w h => by cases e <;> first | exact h | exact False.elim h) ?_
                refine preg35 HB.out.1 (by omega) ak hik.1 sb' so' n cp k hkn c1 K0 _ _ _ _ _ _ _ _ _ _ _ _ _ _ _ _ _ _ _ _ _ _ _ _ _ _ _ _ _ _ _ _ _ _ _ _ _ _ _ _ _ _ _ _ _ _ _ _ _ _ _ _ _ _ _ _ _ _ _ _ _ _ _ _ _ _ _ _ _ _ _ _ _ _ _ _ _ _ _ _ _ _ _ _ _ _ _ _ _ _ _ _ _ _ _ _ _ _ _ _ _ _ _ _ _ _ _ _ _ _ _ _ _ _ _ _ _ _ _ _ _ _ _ _ _ _ _ _ _ _ _ _ _ _ _ _ _ _ _ _ _ _ _ _ _ _ _ _ _ _ _ _ _ _ _ _ _ _ _ _ _ _ _ _ _ _ _ _ _ _ _ _ _ _ _ _ _ _ _ _ _ _ _ _ _ _ _ _ _ _ _ _ _ _ _ _ _ _ _ _ _ _ _ _ _ (fun o1 d1 o2 d2 o3 d3 o4 d4 w5 f5 => ?_)
                have HZ : Hid _ := And.intro (HB.out.1.keep f5) (f5.heap HB.out.2 (fun f => f))
                clear f5 HB c1
                refine h0x _ _ ?_
                clear h0x
                go_wp2_with fail
                go_roundw
                case rel => exact ⟨k + 1, by go_num, by omega, HZ.out⟩
                case measure => simp [intOf]; omega
              · have hki' : ¬ ((k : Int) ≤ (i : Int)) := by omega
                clear hbt hbx
                go_wp2_with fail
                go_meet
                exact ⟨rfl, HB.out⟩
          case rest =>
            clear HB
            obtain ⟨rfl, hbt, hbx⟩ := hcut
            have HB : Hid _ := And.intro hbt hbx
            clear hbt hbx
            go_upto_region 37 with fail
            rename_i K0 h0x
            refine Code.wp_mono (Q := Exit.then K0 (fun _ _ _ => False)) (fun e a w h => by cases e <;> first | exact h | exact False.elim h) ?_
            refine preg37 SC HB.out.1 (by omega) a t bx (.int .i64 wt) HB.out.2 K0 _ _ _ _ _ _ _ _ _ _ _ _ _ _ _ _ _ _ _ _ _ _ _ _ _ _ _ _ _ _ _ _ _ _ _ _ _ _ _ _ _ _ _ _ _ _ _ _ _ _ _ _ _ _ _ _ _ _ _ _ _ _ _ _ _ _ _ _ _ _ _ _ _ _ _ _ _ _ _ _ _ _ _ _ _ _ _ _ _ _ _ _ _ _ _ _ _ _ _ _ _ _ _ _ _ _ _ _ _ _ _ _ _ _ _ _ _ _ _ _ _ _ _ _ _ _ _ _ _ _ _ _ _ _ _ _ _ _ _ _ _ _ _ _ _ _ _ _ _ _ _ _ _ _ _ _ _ _ _ _ _ _ _ _ _ _ _ _ _ _ _ _ _ _ _ _ _ _ _ _ _ _ _ _ _ _ _ _ _ _ _ _ _ _ _ _ _ _ _ _ _ _ _ _ _ _ (fun o1 d1 o2 d2 w5 f5 => ?_)
            have HZ : Hid _ := (HB.out.1.keep f5).mono (n' := 2 * (i + 1)) (by omega)
            clear f5 HB
            refine h0x _ _ ?_
            clear h0x
            go_wp2_with fail
            go_roundw
            case rel => exact ⟨i + 1, _, _, by go_num, by omega, HZ.out⟩
            case measure => simp [intOf]; omega
      · have HZ : Hid (Fr no w wr) := hbt.jt.fr
        have hlt' : ¬ ((i : Int) < (n : Int)) := by omega
        clear hbt
        go_wp2_with fail
        go_ret
        exact ⟨rfl, HZ.out⟩
end Go.Proofs.Ytkkpimpmhnnbjaa
