/- The law RacePlays: the walk. -/
import Derived.Test.YtnineggppoipiaaRp
import Derived.Deep.DeepCutAuto
namespace Go.Proofs.Ytnineggppoipiaa
open Go.ChangeShapes Go.WideShapes Go.ChangeAt Go.RowKit

def elS : El (Int × Int × Int × Int) := ⟨22, 29, 4, .agg #[.int .i64 0, .int .i64 0, .int .i64 0, .int .i64 0], 32, fun x => [.int .i64 x.1, .int .i64 x.2.1, .int .i64 x.2.2.1, .int .i64 x.2.2.2]⟩

theorem RdG.atS {w : World} {o : Option Addr} {n c : Nat} {l : List (Int × Int × Int × Int)} (h : RdG elS w (.slice o n c) l) {i : Nat} {x : Int × Int × Int × Int} (hx : l[i]? = some x) :
    ∃ b off, o = some ⟨b, off, none⟩ ∧ w.cell? ⟨b, off + i * 4, none⟩ = some (.int .i64 x.1) ∧ w.cell? ⟨b, off + i * 4 + 1, none⟩ = some (.int .i64 x.2.1) ∧ w.cell? ⟨b, off + i * 4 + 2, none⟩ = some (.int .i64 x.2.2.1) ∧ w.cell? ⟨b, off + i * 4 + 3, none⟩ = some (.int .i64 x.2.2.2) := by
  obtain ⟨ad, cap, he, -, -, hit⟩ := h
  obtain ⟨b, off, hb, hc⟩ := hit i x hx
  simp only [Value.slice.injEq] at he
  exact ⟨b, off, by rw [he.1, hb], hc 0 _ rfl, hc 1 _ rfl, hc 2 _ rfl, hc 3 _ rfl⟩
theorem bx4 {w : World} {bx : Nat} {x0 x1 x2 x3 : Value} {t : TypeId} (h : w.heap[bx]? = some (.cells #[x0, x1, x2, x3] t (0, 0))) : w.cell? ⟨bx, 0, none⟩ = some x0 ∧ w.cell? ⟨bx, 1, none⟩ = some x1 ∧ w.cell? ⟨bx, 2, none⟩ = some x2 ∧ w.cell? ⟨bx, 3, none⟩ = some x3 := by
  unfold World.cell?
  simp [h]

theorem Both.of {w0 w : World} {p q k : Nat} {F : Cm} {D : Dw} (d : DW w0.heap.size w q D k) (s : PS w0.heap.size w p F D.n k) (h : Sim F D) (f : Fr no w0 w) : Both w0 w p q F D k := ⟨s, d, h, f⟩
set_option maxRecDepth 100000 in
set_option maxHeartbeats 8000000 in
theorem plays_any (w : World) (v : Value) (l : List (Int × Int × Int × Int)) (h : RdG elS w v l) (hin : ∀ x ∈ l, In x.1 ∧ In x.2.1 ∧ In x.2.2.1 ∧ In x.2.2.2) :
    Calls Try.prog 3 #[v] w fun e w' => e = .returned (.bool true) ∧ Fr no w w' := by
  have HR : Hid (RdG elS w v l) := h
  obtain ⟨ad, cp, rfl⟩ := h.form
  have HIN : Hid (∀ x ∈ l, In x.1 ∧ In x.2.1 ∧ In x.2.2.1 ∧ In x.2.2.2) := hin
  have KN := known_any w
  clear h hin
  generalize hn : l.length = n at *
  by_cases hlen : n > 100
  · have hlen' : (n : Int) > 100 := by omega
    go_enter Try.func3, Try.ntmps3
    go_wp2_with fail
    refine KN.mono ?_
    rintro _ w1 ⟨rfl, f1⟩
    have HF : Hid _ := f1
    clear KN f1
    go_wp2_with fail
    go_ret
    exact ⟨rfl, HF.out⟩
  · have hlen' : ¬ ((n : Int) > 100) := by omega
    go_enter Try.func3, Try.ntmps3
    go_wp2_with fail
    refine KN.mono ?_
    rintro _ w1 ⟨rfl, f1⟩
    have NW := ps_new w1 w.heap.size f1.size
    have HF1 : Hid _ := f1
    clear KN f1
    generalize w1.heap.size = p at *
    go_wp2_with fail
    refine NW.mono ?_
    rintro _ w2 ⟨rfl, p2, f2⟩
    have HP2 : Hid _ := p2
    have HF2 : Hid (Fr no w w2) := HF1.out.and f2
    have ND := dw_new w2 w.heap.size (HF1.out.and f2).size
    clear NW p2 f2 HF1
    generalize w2.heap.size = q at *
    go_wp2_with fail
    refine ND.mono ?_
    rintro _ w3 ⟨rfl, d3, f3⟩
    have HB0 : Hid (Both w w3 p q _ _ 1) := ⟨HP2.out.keep f3, d3, Sim.begin _, HF2.out.and f3⟩
    clear ND d3 f3 HP2 HF2
    go_wp2_with fail
    go_loopw [5] (fun iv wr => ∃ (j : Nat) (F : Cm) (D : Dw), iv = .int .i64 (j : Int) ∧ j ≤ n ∧ Hid (Both w wr p q F D (j + 1))) (fun iv _ => n - (intOf iv).toNat)
    case atStart => exact ⟨0, _, _, rfl, Nat.zero_le _, HB0.out⟩
    case round =>
      clear HB0
      obtain ⟨j, F, D, rfl, hj, HB0⟩ := hrel
      by_cases hlt : j < n
      · have hlt' : (j : Int) < (n : Int) := by omega
        obtain ⟨⟨wt, t, b, ii⟩, hx⟩ : ∃ x, l[j]? = some x := ⟨_, List.getElem?_eq_getElem (by omega)⟩
        obtain ⟨sb, so, rfl, c0, c1, c2, c3⟩ := (HR.out.keep HB0.out.fr).atS hx
        simp only [] at c0 c1 c2 c3
        have hir := HIN.out _ (List.mem_of_getElem? hx)
        simp only [] at hir
        have fa : Fr no wr (wr.alloc (.cells #[.int .i64 wt, .int .i64 t, .int .i64 b, .int .i64 ii] 29)) := (Fr.refl no wr).alloc _ _
        have HB : Hid (Both w (wr.alloc (.cells #[.int .i64 wt, .int .i64 t, .int .i64 b, .int .i64 ii] 29)) p q F D (j + 1)) := HB0.out.keep fa
        have HX : Hid ((wr.alloc (.cells #[.int .i64 wt, .int .i64 t, .int .i64 b, .int .i64 ii] 29)).heap[wr.heap.size]? = some (.cells #[.int .i64 wt, .int .i64 t, .int .i64 b, .int .i64 ii] 29 (0, 0))) := heap_alloc_new wr _
        have HJ : j + 1 ≤ 101 := by omega
        clear fa hx HB0
        go_upto_region 10 with fail
        revert HB HX
        generalize wr.alloc (.cells #[.int .i64 wt, .int .i64 t, .int .i64 b, .int .i64 ii] 29) = W1
        generalize wr.heap.size = bx at *
        intro HB HX
        clear c0 c1 c2 c3
        have HIR : Hid _ := hir
        by_cases h0 : wt ≤ 0
        · have C1 := HB.out.ps.begin (by omega) t b
          obtain ⟨p0, p1, p2, p3⟩ := bx4 HX.out
          go_wp2_with fail
          refine C1.mono ?_
          rintro _ w3 ⟨rfl, q3, f3⟩
          have HM : Hid (_ ∧ _ ∧ _) := And.intro q3 (HB.out.mid f3)
          have HX3 : Hid _ := f3.boxT HX.out (by decide)
          clear C1 q3 f3 p0 p1 p2 p3
          have C2 := HM.out.2.1.begin (by omega) t b
          obtain ⟨p0, p1, p2, p3⟩ := bx4 HX3.out
          go_wp2_with fail
          refine C2.mono ?_
          rintro _ w4 ⟨rfl, d4, f4⟩
          have HB4 : Hid (Both w w4 p q _ _ (j + 1 + 1)) := Both.of d4 (HM.out.1.td f4) (HB.out.sim.beginS t b) (fr_td HM.out.2.2 (Nat.le_refl _) f4)
          have HX4 : Hid _ := f4.box HX3.out (by decide)
          clear C2 d4 f4 HM HX3 p0 p1 p2 p3 HB HX
          go_upto_region 38 with fail
          refine use_then ?_ (fun _ _ h => h)
          refine reg3 w w4 p q bx _ _ (j + 1 + 1) false t HB4.out (fun w' f => f.cell (bx4 HX4.out).2.1 (fun x => x)) _ _ _ _ _ _ _ _ _ _ _ _ _ _ _ _ _ _ _ _ _ _ _ _ _ _ _ _ _ _ _ _ _ _ _ _ _ _ _ _ _ _ _ _ _ _ _ _ _ _ _ _ _ _ _ _ _ _ _ _ _ _ _ _ _ _ _ _ _ _ _ _ _ _ _ _ _ _ _ _ _ _ _ _ _ _ _ _ _ _ _ _ _ _ _ _ _ _ _ _ _ _ _ _ _ _ _ _ _ _ _ _ _ _ _ _ _ _ _ _ _ _ _ _ _ _ _ _ _ _ _ _ _ _ _ _ _ _ _ _ _ _ _ _ _ _ _ _ _ _ _ _ _ _ _ _ _ _ _ _ _ _ _ _ _ _ _ _ _ _ _ _ _ _ _ _ _ _ _ _ _ _ _ _ _ _ ?_
          intro w5 vc f5
          have HB5 : Hid (Both w w5 p q _ _ (j + 1 + 1)) := HB4.out.keep f5
          clear f5 HB4 HX4
          show Exit.then _ _ Exit.normal _ _
          go_wp2_with fail
          go_roundw
          case rel => exact ⟨j + 1, _, _, by go_num, by omega, HB5.out⟩
          case measure => simp [intOf]; omega
        by_cases h1 : wt = 1
        · subst h1
          have C1 := HB.out.ps.end_ (by omega) t
          obtain ⟨p0, p1, p2, p3⟩ := bx4 HX.out
          go_wp2_with fail
          refine C1.mono ?_
          rintro _ w3 ⟨rfl, q3, f3⟩
          have HM : Hid (_ ∧ _ ∧ _) := And.intro q3 (HB.out.mid f3)
          have HX3 : Hid _ := f3.boxT HX.out (by decide)
          clear C1 q3 f3 p0 p1 p2 p3
          have C2 := HM.out.2.1.end_ t
          obtain ⟨p0, p1, p2, p3⟩ := bx4 HX3.out
          go_wp2_with fail
          refine C2.mono ?_
          rintro _ w4 ⟨rfl, d4, f4⟩
          have HB4 : Hid (Both w w4 p q _ _ (j + 1 + 1)) := Both.of d4 (HM.out.1.td f4) (HB.out.sim.endS t) (fr_td HM.out.2.2 (Nat.le_refl _) f4)
          have HX4 : Hid _ := f4.box HX3.out (by decide)
          clear C2 d4 f4 HM HX3 p0 p1 p2 p3 HB HX
          go_upto_region 38 with fail
          refine use_then ?_ (fun _ _ h => h)
          refine reg3 w w4 p q bx _ _ (j + 1 + 1) false t HB4.out (fun w' f => f.cell (bx4 HX4.out).2.1 (fun x => x)) _ _ _ _ _ _ _ _ _ _ _ _ _ _ _ _ _ _ _ _ _ _ _ _ _ _ _ _ _ _ _ _ _ _ _ _ _ _ _ _ _ _ _ _ _ _ _ _ _ _ _ _ _ _ _ _ _ _ _ _ _ _ _ _ _ _ _ _ _ _ _ _ _ _ _ _ _ _ _ _ _ _ _ _ _ _ _ _ _ _ _ _ _ _ _ _ _ _ _ _ _ _ _ _ _ _ _ _ _ _ _ _ _ _ _ _ _ _ _ _ _ _ _ _ _ _ _ _ _ _ _ _ _ _ _ _ _ _ _ _ _ _ _ _ _ _ _ _ _ _ _ _ _ _ _ _ _ _ _ _ _ _ _ _ _ _ _ _ _ _ _ _ _ _ _ _ _ _ _ _ _ _ _ _ _ _ ?_
          intro w5 vc f5
          have HB5 : Hid (Both w w5 p q _ _ (j + 1 + 1)) := HB4.out.keep f5
          clear f5 HB4 HX4
          show Exit.then _ _ Exit.normal _ _
          go_wp2_with fail
          go_roundw
          case rel => exact ⟨j + 1, _, _, by go_num, by omega, HB5.out⟩
          case measure => simp [intOf]; omega
        have g1 : (wt == 1) = false := by simpa using h1
        by_cases h2 : wt = 2
        · subst h2
          have C1 := HB.out.ps.joined (by omega) t b hir.2.2.1
          obtain ⟨p0, p1, p2, p3⟩ := bx4 HX.out
          go_wp2_with fail
          refine C1.mono ?_
          rintro _ w3 ⟨rfl, q3, f3⟩
          have HM : Hid (_ ∧ _ ∧ _) := And.intro q3 (HB.out.mid f3)
          have HX3 : Hid _ := f3.boxT HX.out (by decide)
          clear C1 q3 f3 p0 p1 p2 p3
          have C2 := HM.out.2.1.joined (by omega) t b
          obtain ⟨p0, p1, p2, p3⟩ := bx4 HX3.out
          go_wp2_with fail
          refine C2.mono ?_
          rintro _ w4 ⟨rfl, d4, f4⟩
          have HB4 : Hid (Both w w4 p q _ _ (j + 1 + 1)) := Both.of d4 (HM.out.1.td f4) (HB.out.sim.joinedS (HB.out.bp (by omega)) t b) (fr_td HM.out.2.2 (Nat.le_refl _) f4)
          have HX4 : Hid _ := f4.box HX3.out (by decide)
          clear C2 d4 f4 HM HX3 p0 p1 p2 p3 HB HX
          go_upto_region 38 with fail
          refine use_then ?_ (fun _ _ h => h)
          refine reg3 w w4 p q bx _ _ (j + 1 + 1) false t HB4.out (fun w' f => f.cell (bx4 HX4.out).2.1 (fun x => x)) _ _ _ _ _ _ _ _ _ _ _ _ _ _ _ _ _ _ _ _ _ _ _ _ _ _ _ _ _ _ _ _ _ _ _ _ _ _ _ _ _ _ _ _ _ _ _ _ _ _ _ _ _ _ _ _ _ _ _ _ _ _ _ _ _ _ _ _ _ _ _ _ _ _ _ _ _ _ _ _ _ _ _ _ _ _ _ _ _ _ _ _ _ _ _ _ _ _ _ _ _ _ _ _ _ _ _ _ _ _ _ _ _ _ _ _ _ _ _ _ _ _ _ _ _ _ _ _ _ _ _ _ _ _ _ _ _ _ _ _ _ _ _ _ _ _ _ _ _ _ _ _ _ _ _ _ _ _ _ _ _ _ _ _ _ _ _ _ _ _ _ _ _ _ _ _ _ _ _ _ _ _ _ _ _ _ ?_
          intro w5 vc f5
          have HB5 : Hid (Both w w5 p q _ _ (j + 1 + 1)) := HB4.out.keep f5
          clear f5 HB4 HX4
          show Exit.then _ _ Exit.normal _ _
          go_wp2_with fail
          go_roundw
          case rel => exact ⟨j + 1, _, _, by go_num, by omega, HB5.out⟩
          case measure => simp [intOf]; omega
        have g2 : (wt == 2) = false := by simpa using h2
        by_cases h3 : wt = 3
        · subst h3
          have C1 := HB.out.ps.acquire (by omega) t b hir.2.2.1
          obtain ⟨p0, p1, p2, p3⟩ := bx4 HX.out
          go_wp2_with fail
          refine C1.mono ?_
          rintro _ w3 ⟨rfl, q3, f3⟩
          have HM : Hid (_ ∧ _ ∧ _) := And.intro q3 (HB.out.mid f3)
          have HX3 : Hid _ := f3.boxT HX.out (by decide)
          clear C1 q3 f3 p0 p1 p2 p3
          have C2 := HM.out.2.1.acquire (by omega) t b (-1)
          obtain ⟨p0, p1, p2, p3⟩ := bx4 HX3.out
          go_wp2_with fail
          refine C2.mono ?_
          rintro _ w4 ⟨rfl, d4, f4⟩
          have HB4 : Hid (Both w w4 p q _ _ (j + 1 + 1)) := Both.of d4 (HM.out.1.td f4) (HB.out.sim.acqS t b (-1) _ (HB.out.sim.lck b)) (fr_td HM.out.2.2 (Nat.le_refl _) f4)
          have HX4 : Hid _ := f4.box HX3.out (by decide)
          clear C2 d4 f4 HM HX3 p0 p1 p2 p3 HB HX
          go_upto_region 38 with fail
          refine use_then ?_ (fun _ _ h => h)
          refine reg3 w w4 p q bx _ _ (j + 1 + 1) false t HB4.out (fun w' f => f.cell (bx4 HX4.out).2.1 (fun x => x)) _ _ _ _ _ _ _ _ _ _ _ _ _ _ _ _ _ _ _ _ _ _ _ _ _ _ _ _ _ _ _ _ _ _ _ _ _ _ _ _ _ _ _ _ _ _ _ _ _ _ _ _ _ _ _ _ _ _ _ _ _ _ _ _ _ _ _ _ _ _ _ _ _ _ _ _ _ _ _ _ _ _ _ _ _ _ _ _ _ _ _ _ _ _ _ _ _ _ _ _ _ _ _ _ _ _ _ _ _ _ _ _ _ _ _ _ _ _ _ _ _ _ _ _ _ _ _ _ _ _ _ _ _ _ _ _ _ _ _ _ _ _ _ _ _ _ _ _ _ _ _ _ _ _ _ _ _ _ _ _ _ _ _ _ _ _ _ _ _ _ _ _ _ _ _ _ _ _ _ _ _ _ _ _ _ _ ?_
          intro w5 vc f5
          have HB5 : Hid (Both w w5 p q _ _ (j + 1 + 1)) := HB4.out.keep f5
          clear f5 HB4 HX4
          show Exit.then _ _ Exit.normal _ _
          go_wp2_with fail
          go_roundw
          case rel => exact ⟨j + 1, _, _, by go_num, by omega, HB5.out⟩
          case measure => simp [intOf]; omega
        have g3 : (wt == 3) = false := by simpa using h3
        by_cases h4 : wt = 4
        · subst h4
          have C1 := HB.out.ps.release (by omega) t b hir.2.2.1
          obtain ⟨p0, p1, p2, p3⟩ := bx4 HX.out
          go_wp2_with fail
          refine C1.mono ?_
          rintro _ w3 ⟨rfl, q3, f3⟩
          have HM : Hid (_ ∧ _ ∧ _) := And.intro q3 (HB.out.mid f3)
          have HX3 : Hid _ := f3.boxT HX.out (by decide)
          clear C1 q3 f3 p0 p1 p2 p3
          have C2 := HM.out.2.1.release (by omega) t b (-1)
          obtain ⟨p0, p1, p2, p3⟩ := bx4 HX3.out
          go_wp2_with fail
          refine C2.mono ?_
          rintro _ w4 ⟨rfl, d4, f4⟩
          have HB4 : Hid (Both w w4 p q _ _ (j + 1 + 1)) := Both.of d4 (HM.out.1.td f4) (HB.out.sim.relS t b (-1) _ (.inl ⟨rfl, rfl⟩)) (fr_td HM.out.2.2 (Nat.le_refl _) f4)
          have HX4 : Hid _ := f4.box HX3.out (by decide)
          clear C2 d4 f4 HM HX3 p0 p1 p2 p3 HB HX
          go_upto_region 38 with fail
          refine use_then ?_ (fun _ _ h => h)
          refine reg3 w w4 p q bx _ _ (j + 1 + 1) false t HB4.out (fun w' f => f.cell (bx4 HX4.out).2.1 (fun x => x)) _ _ _ _ _ _ _ _ _ _ _ _ _ _ _ _ _ _ _ _ _ _ _ _ _ _ _ _ _ _ _ _ _ _ _ _ _ _ _ _ _ _ _ _ _ _ _ _ _ _ _ _ _ _ _ _ _ _ _ _ _ _ _ _ _ _ _ _ _ _ _ _ _ _ _ _ _ _ _ _ _ _ _ _ _ _ _ _ _ _ _ _ _ _ _ _ _ _ _ _ _ _ _ _ _ _ _ _ _ _ _ _ _ _ _ _ _ _ _ _ _ _ _ _ _ _ _ _ _ _ _ _ _ _ _ _ _ _ _ _ _ _ _ _ _ _ _ _ _ _ _ _ _ _ _ _ _ _ _ _ _ _ _ _ _ _ _ _ _ _ _ _ _ _ _ _ _ _ _ _ _ _ _ _ _ _ ?_
          intro w5 vc f5
          have HB5 : Hid (Both w w5 p q _ _ (j + 1 + 1)) := HB4.out.keep f5
          clear f5 HB4 HX4
          show Exit.then _ _ Exit.normal _ _
          go_wp2_with fail
          go_roundw
          case rel => exact ⟨j + 1, _, _, by go_num, by omega, HB5.out⟩
          case measure => simp [intOf]; omega
        have g4 : (wt == 4) = false := by simpa using h4
        by_cases h5 : ii < 0
        · obtain ⟨p0, p1, p2, p3⟩ := bx4 HX.out
          have HZ : Hid (Fr no w W1) := HB.out.fr
          clear HB HX
          go_wp2_with fail
          go_ret
          exact ⟨rfl, HZ.out⟩
        by_cases h7 : wt ≤ 7
        · by_cases h8 : 4 ≤ ii
          · have C1 := HB.out.ps.vread (by omega) t b ii hir.2.2.1 hir.2.2.2
            obtain ⟨p0, p1, p2, p3⟩ := bx4 HX.out
            go_wp2_with fail
            refine C1.mono ?_
            rintro _ w3 ⟨rfl, q3, f3⟩
            have HM : Hid (_ ∧ _ ∧ _) := And.intro q3 (HB.out.mid f3)
            have HX3 : Hid _ := f3.boxT HX.out (by decide)
            clear C1 q3 f3 p0 p1 p2 p3
            have C2 := HM.out.2.1.acquire (by omega) t b ii
            obtain ⟨p0, p1, p2, p3⟩ := bx4 HX3.out
            go_wp2_with fail
            refine C2.mono ?_
            rintro _ w4 ⟨rfl, d4, f4⟩
            have HB4 : Hid (Both w w4 p q _ _ (j + 1 + 1)) := Both.of d4 (HM.out.1.td f4) (HB.out.sim.acqS t b ii _ (HB.out.sim.vol b ii (by omega))) (fr_td HM.out.2.2 (Nat.le_refl _) f4)
            have HX4 : Hid _ := f4.box HX3.out (by decide)
            clear C2 d4 f4 HM HX3 p0 p1 p2 p3 HB HX
            go_upto_region 38 with fail
            refine use_then ?_ (fun _ _ h => h)
            refine reg3 w w4 p q bx _ _ (j + 1 + 1) false t HB4.out (fun w' f => f.cell (bx4 HX4.out).2.1 (fun x => x)) _ _ _ _ _ _ _ _ _ _ _ _ _ _ _ _ _ _ _ _ _ _ _ _ _ _ _ _ _ _ _ _ _ _ _ _ _ _ _ _ _ _ _ _ _ _ _ _ _ _ _ _ _ _ _ _ _ _ _ _ _ _ _ _ _ _ _ _ _ _ _ _ _ _ _ _ _ _ _ _ _ _ _ _ _ _ _ _ _ _ _ _ _ _ _ _ _ _ _ _ _ _ _ _ _ _ _ _ _ _ _ _ _ _ _ _ _ _ _ _ _ _ _ _ _ _ _ _ _ _ _ _ _ _ _ _ _ _ _ _ _ _ _ _ _ _ _ _ _ _ _ _ _ _ _ _ _ _ _ _ _ _ _ _ _ _ _ _ _ _ _ _ _ _ _ _ _ _ _ _ _ _ _ _ _ _ ?_
            intro w5 vc f5
            have HB5 : Hid (Both w w5 p q _ _ (j + 1 + 1)) := HB4.out.keep f5
            clear f5 HB4 HX4
            show Exit.then _ _ Exit.normal _ _
            go_wp2_with fail
            go_roundw
            case rel => exact ⟨j + 1, _, _, by go_num, by omega, HB5.out⟩
            case measure => simp [intOf]; omega
          · have h9 : ii < 4 := by omega
            have HS : Hid (_ ∧ _) := HB.out.sim.accS (HB.out.bp (by omega)) t b ii false
            have C1 := HB.out.ps.read (by omega) t b ii hir.2.1 hir.2.2.1 hir.2.2.2
            rw [show touB F ⟨4, t, b, ii⟩ = accB D.T D.as_ t b ii false from HS.out.1] at C1
            obtain ⟨p0, p1, p2, p3⟩ := bx4 HX.out
            go_wp2_with fail
            refine C1.mono ?_
            rintro _ w3 ⟨rfl, q3, f3⟩
            have HM : Hid (_ ∧ _ ∧ _) := And.intro q3 (HB.out.mid f3)
            have HX3 : Hid _ := f3.boxT HX.out (by decide)
            clear C1 q3 f3 p0 p1 p2 p3
            have C2 := HM.out.2.1.access (by omega) t b ii false
            obtain ⟨p0, p1, p2, p3⟩ := bx4 HX3.out
            generalize accB D.T D.as_ t b ii false = g at *
            go_wp2_with fail
            refine C2.mono ?_
            rintro _ w4 ⟨rfl, d4, f4⟩
            have HB4 : Hid (Both w w4 p q _ _ (j + 1 + 1)) := Both.of d4 (HM.out.1.td f4) (HS.out.2.nOf _) (fr_td HM.out.2.2 (Nat.le_refl _) f4)
            have HX4 : Hid _ := f4.box HX3.out (by decide)
            clear C2 d4 f4 HM HX3 p0 p1 p2 p3 HB HX
            go_upto_region 38 with fail
            refine use_then ?_ (fun _ _ h => h)
            refine reg3 w w4 p q bx _ _ (j + 1 + 1) g t HB4.out (fun w' f => f.cell (bx4 HX4.out).2.1 (fun x => x)) _ _ _ _ _ _ _ _ _ _ _ _ _ _ _ _ _ _ _ _ _ _ _ _ _ _ _ _ _ _ _ _ _ _ _ _ _ _ _ _ _ _ _ _ _ _ _ _ _ _ _ _ _ _ _ _ _ _ _ _ _ _ _ _ _ _ _ _ _ _ _ _ _ _ _ _ _ _ _ _ _ _ _ _ _ _ _ _ _ _ _ _ _ _ _ _ _ _ _ _ _ _ _ _ _ _ _ _ _ _ _ _ _ _ _ _ _ _ _ _ _ _ _ _ _ _ _ _ _ _ _ _ _ _ _ _ _ _ _ _ _ _ _ _ _ _ _ _ _ _ _ _ _ _ _ _ _ _ _ _ _ _ _ _ _ _ _ _ _ _ _ _ _ _ _ _ _ _ _ _ _ _ _ _ _ _ ?_
            intro w5 vc f5
            have HB5 : Hid (Both w w5 p q _ _ (j + 1 + 1)) := HB4.out.keep f5
            clear f5 HB4 HX4
            show Exit.then _ _ Exit.normal _ _
            go_wp2_with fail
            go_roundw
            case rel => exact ⟨j + 1, _, _, by go_num, by omega, HB5.out⟩
            case measure => simp [intOf]; omega
        · by_cases h8 : 4 ≤ ii
          · have C1 := HB.out.ps.vwrite (by omega) t b ii hir.2.2.1 hir.2.2.2
            obtain ⟨p0, p1, p2, p3⟩ := bx4 HX.out
            go_wp2_with fail
            refine C1.mono ?_
            rintro _ w3 ⟨rfl, q3, f3⟩
            have HM : Hid (_ ∧ _ ∧ _) := And.intro q3 (HB.out.mid f3)
            have HX3 : Hid _ := f3.boxT HX.out (by decide)
            clear C1 q3 f3 p0 p1 p2 p3
            have C2 := HM.out.2.1.release (by omega) t b ii
            obtain ⟨p0, p1, p2, p3⟩ := bx4 HX3.out
            go_wp2_with fail
            refine C2.mono ?_
            rintro _ w4 ⟨rfl, d4, f4⟩
            have HB4 : Hid (Both w w4 p q _ _ (j + 1 + 1)) := Both.of d4 (HM.out.1.td f4) (HB.out.sim.relS t b ii _ (.inr ⟨rfl, by omega⟩)) (fr_td HM.out.2.2 (Nat.le_refl _) f4)
            have HX4 : Hid _ := f4.box HX3.out (by decide)
            clear C2 d4 f4 HM HX3 p0 p1 p2 p3 HB HX
            go_upto_region 38 with fail
            refine use_then ?_ (fun _ _ h => h)
            refine reg3 w w4 p q bx _ _ (j + 1 + 1) false t HB4.out (fun w' f => f.cell (bx4 HX4.out).2.1 (fun x => x)) _ _ _ _ _ _ _ _ _ _ _ _ _ _ _ _ _ _ _ _ _ _ _ _ _ _ _ _ _ _ _ _ _ _ _ _ _ _ _ _ _ _ _ _ _ _ _ _ _ _ _ _ _ _ _ _ _ _ _ _ _ _ _ _ _ _ _ _ _ _ _ _ _ _ _ _ _ _ _ _ _ _ _ _ _ _ _ _ _ _ _ _ _ _ _ _ _ _ _ _ _ _ _ _ _ _ _ _ _ _ _ _ _ _ _ _ _ _ _ _ _ _ _ _ _ _ _ _ _ _ _ _ _ _ _ _ _ _ _ _ _ _ _ _ _ _ _ _ _ _ _ _ _ _ _ _ _ _ _ _ _ _ _ _ _ _ _ _ _ _ _ _ _ _ _ _ _ _ _ _ _ _ _ _ _ _ ?_
            intro w5 vc f5
            have HB5 : Hid (Both w w5 p q _ _ (j + 1 + 1)) := HB4.out.keep f5
            clear f5 HB4 HX4
            show Exit.then _ _ Exit.normal _ _
            go_wp2_with fail
            go_roundw
            case rel => exact ⟨j + 1, _, _, by go_num, by omega, HB5.out⟩
            case measure => simp [intOf]; omega
          · have h9 : ii < 4 := by omega
            have HS : Hid (_ ∧ _) := HB.out.sim.accS (HB.out.bp (by omega)) t b ii true
            have C1 := HB.out.ps.write (by omega) t b ii hir.2.1 hir.2.2.1 hir.2.2.2
            rw [show touB F ⟨5, t, b, ii⟩ = accB D.T D.as_ t b ii true from HS.out.1] at C1
            obtain ⟨p0, p1, p2, p3⟩ := bx4 HX.out
            go_wp2_with fail
            refine C1.mono ?_
            rintro _ w3 ⟨rfl, q3, f3⟩
            have HM : Hid (_ ∧ _ ∧ _) := And.intro q3 (HB.out.mid f3)
            have HX3 : Hid _ := f3.boxT HX.out (by decide)
            clear C1 q3 f3 p0 p1 p2 p3
            have C2 := HM.out.2.1.access (by omega) t b ii true
            obtain ⟨p0, p1, p2, p3⟩ := bx4 HX3.out
            generalize accB D.T D.as_ t b ii true = g at *
            go_wp2_with fail
            refine C2.mono ?_
            rintro _ w4 ⟨rfl, d4, f4⟩
            have HB4 : Hid (Both w w4 p q _ _ (j + 1 + 1)) := Both.of d4 (HM.out.1.td f4) (HS.out.2.nOf _) (fr_td HM.out.2.2 (Nat.le_refl _) f4)
            have HX4 : Hid _ := f4.box HX3.out (by decide)
            clear C2 d4 f4 HM HX3 p0 p1 p2 p3 HB HX
            go_upto_region 38 with fail
            refine use_then ?_ (fun _ _ h => h)
            refine reg3 w w4 p q bx _ _ (j + 1 + 1) g t HB4.out (fun w' f => f.cell (bx4 HX4.out).2.1 (fun x => x)) _ _ _ _ _ _ _ _ _ _ _ _ _ _ _ _ _ _ _ _ _ _ _ _ _ _ _ _ _ _ _ _ _ _ _ _ _ _ _ _ _ _ _ _ _ _ _ _ _ _ _ _ _ _ _ _ _ _ _ _ _ _ _ _ _ _ _ _ _ _ _ _ _ _ _ _ _ _ _ _ _ _ _ _ _ _ _ _ _ _ _ _ _ _ _ _ _ _ _ _ _ _ _ _ _ _ _ _ _ _ _ _ _ _ _ _ _ _ _ _ _ _ _ _ _ _ _ _ _ _ _ _ _ _ _ _ _ _ _ _ _ _ _ _ _ _ _ _ _ _ _ _ _ _ _ _ _ _ _ _ _ _ _ _ _ _ _ _ _ _ _ _ _ _ _ _ _ _ _ _ _ _ _ _ _ _ ?_
            intro w5 vc f5
            have HB5 : Hid (Both w w5 p q _ _ (j + 1 + 1)) := HB4.out.keep f5
            clear f5 HB4 HX4
            show Exit.then _ _ Exit.normal _ _
            go_wp2_with fail
            go_roundw
            case rel => exact ⟨j + 1, _, _, by go_num, by omega, HB5.out⟩
            case measure => simp [intOf]; omega
      · have HZ : Hid (Fr no w wr) := HB0.out.fr
        have hlt' : ¬ ((j : Int) < (n : Int)) := by omega
        clear HB0
        go_wp2_with fail
        go_ret
        exact ⟨rfl, HZ.out⟩
end Go.Proofs.Ytnineggppoipiaa
