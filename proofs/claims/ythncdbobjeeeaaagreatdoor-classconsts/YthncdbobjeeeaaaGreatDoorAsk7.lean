/- What is asked of a method's body: the program's answers. -/
import Derived.Test.YthncdbobjeeeaaaGreatDoorAsk6
namespace Go.Proofs.YthncdbobjeeeaaaGreatDoor
open Go.ChangeShapes Go.WideShapes Go.ChangeAt Go.RowKit

/-- The block r holds the slice v. -/
def BoxV (w : World) (r : Nat) (v : Value) : Prop := w.heap[r]? = some (.cells #[v] 24 (0, 0))

theorem askIns_any (w : World) (T : Tb w) (x : Int × Int) (s : Ms) (m : Mt) (hm : MtAt w s m) (v : Value) (pool : List Cs) (hp : SlG elCs w v pool) (v' : Value) (q r : Nat) (hq : BoxMs w q s) (hr : BoxV w r v) :
    Calls Tryz.prog 112 #[.agg #[.int .i64 x.1, .int .i64 x.2], v', .pointer (some ⟨q, 0, none⟩), .pointer (some ⟨r, 0, none⟩)] w fun e w' => e = .returned (.int .i64 (ckIns pool m.lo m.code.length x : Int)) ∧ Fr no w w' := by
  have HF : Hid (Fr no w (w.alloc (.cells #[.int .i64 x.1, .int .i64 x.2] 57))) := (Fr.refl no w).alloc _ _
  have I := checkIns_any _ (T.kept HF.out) x s m (hm.kept HF.out) v pool (hp.kept HF.out)
  have hb := box8 (HF.out.heap hq (fun f => f))
  have hr1 := cell_of_one (HF.out.heap hr (fun f => f))
  have hq1 := lt_of_heap hq
  have hr2 := lt_of_heap hr
  obtain ⟨ad, cp, rfl, _⟩ := hp
  unfold ins msV at I
  generalize hW : w.alloc (.cells #[.int .i64 x.1, .int .i64 x.2] 57) = W at *
  have ha : W.cell? ⟨w.heap.size, 0, none⟩ = some (.int .i64 x.1) ∧ W.cell? ⟨w.heap.size, 1, none⟩ = some (.int .i64 x.2) := by
    rw [← hW]; exact box2 (heap_alloc_new w _)
  obtain ⟨a0, a1⟩ := ha
  obtain ⟨b0, b1, b2, b3, b4, b5, b6, b7⟩ := hb
  clear hq hr hm T
  go_enter Tryz.func112, Tryz.ntmps112
  go_wp2_with fail
  refine I.mono ?_
  rintro e w1 ⟨rfl, f1⟩
  go_wp2_with fail
  go_ret
  exact ⟨rfl, HF.out.new f1 (fun _ _ f => f)⟩

theorem askHd_any (w : World) (h : Hd) (s : Ms) (m : Mt) (hm : MtAt w s m) (v : Value) (pool : List Cs) (hp : SlG elCs w v pool) (v' : Value) (q r : Nat) (hq : BoxMs w q s) (hr : BoxV w r v) :
    Calls Tryz.prog 116 #[.agg #[.int .i64 h.fr, .int .i64 h.to, .int .i64 h.tg, .int .i64 h.cl, .int .i64 h.dp], v', .pointer (some ⟨q, 0, none⟩), .pointer (some ⟨r, 0, none⟩)] w fun e w' => e = .returned (.int .i64 (ckHd pool m.code.length h : Int)) ∧ Fr no w w' := by
  have HF : Hid (Fr no w (w.alloc (.cells #[.int .i64 h.fr, .int .i64 h.to, .int .i64 h.tg, .int .i64 h.cl, .int .i64 h.dp] 59))) := (Fr.refl no w).alloc _ _
  have I := checkHandler_any _ h m.code.length v pool (hp.kept HF.out)
  obtain ⟨pa, pc, ca, cc, ha, hc, rfl, hbs⟩ := hm.open
  have hb := box8 (HF.out.heap hq (fun f => f))
  have hr1 := cell_of_one (HF.out.heap hr (fun f => f))
  have hq1 := lt_of_heap hq
  have hr2 := lt_of_heap hr
  obtain ⟨ad, cp, rfl, _⟩ := hp
  generalize hW : w.alloc (.cells #[.int .i64 h.fr, .int .i64 h.to, .int .i64 h.tg, .int .i64 h.cl, .int .i64 h.dp] 59) = W at *
  have hA : _ := box5 (show W.heap[w.heap.size]? = some (.cells #[.int .i64 h.fr, .int .i64 h.to, .int .i64 h.tg, .int .i64 h.cl, .int .i64 h.dp] 59 (0, 0)) by rw [← hW]; exact heap_alloc_new w _)
  obtain ⟨a0, a1, a2, a3, a4⟩ := hA
  obtain ⟨b0, b1, b2, b3, b4, b5, b6, b7⟩ := hb
  simp only [] at b0 b1 b2 b3 b4 b5 b6 b7
  clear hq hr hm
  go_enter Tryz.func116, Tryz.ntmps116
  go_wp2_with fail
  refine I.mono ?_
  rintro e w1 ⟨rfl, f1⟩
  go_wp2_with fail
  go_ret
  exact ⟨rfl, HF.out.new f1 (fun _ _ f => f)⟩

set_option maxRecDepth 100000 in
set_option maxHeartbeats 4000000 in
theorem checkBody_any (w : World) (T : Tb w) (R : Tr w) (s : Ms) (m : Mt) (hm : MtAt w s m) (hpl : m.params.length ≤ 1000000) (v : Value) (pool : List Cs) (hp : SlG elCs w v pool) :
    Calls Tryz.prog 57 #[msV s, v] w fun e w' => e = .returned (.int .i64 (ckBody pool m : Int)) ∧ Fr no w w' := by
  have hpp := hm.p
  have hcc := hm.c
  have hhh := hm.h
  have hmm := hm
  obtain ⟨pa, pc, ca, cc, ha, hc, rfl, hp1, hp2, hc1, hc2⟩ := hm.open
  obtain ⟨ad, cp, rfl, hv1, hv2, _⟩ : ∃ ad cp, v = .slice ad pool.length cp ∧ pool.length ≤ cp ∧ cp ≤ maxLen ∧ True := by obtain ⟨ad, cp, e, h1, h2, _⟩ := hp; exact ⟨ad, cp, e, h1, h2, trivial⟩
  simp only [] at hpp hcc hhh
  unfold maxLen at hp2 hc2 hv2
  unfold msV
  simp only []
  have HF : Hid (Fr no w ((w.alloc (.cells #[.string m.name, .slice pa m.params.length pc, .int .i64 m.ret.k, .string m.ret.c, .int .i64 m.lo, .int .i64 m.st, .slice ca m.code.length cc, .slice ha m.hands.length hc] 53)).alloc (.cells #[.slice ad pool.length cp] 24))) := ((Fr.refl no w).alloc _ _).alloc _ _
  have hs1 : (w.alloc (.cells #[.string m.name, .slice pa m.params.length pc, .int .i64 m.ret.k, .string m.ret.c, .int .i64 m.lo, .int .i64 m.st, .slice ca m.code.length cc, .slice ha m.hands.length hc] 53)).heap.size = w.heap.size + 1 := size_alloc _ _
  have hbr : BoxV ((w.alloc (.cells #[.string m.name, .slice pa m.params.length pc, .int .i64 m.ret.k, .string m.ret.c, .int .i64 m.lo, .int .i64 m.st, .slice ca m.code.length cc, .slice ha m.hands.length hc] 53)).alloc (.cells #[.slice ad pool.length cp] 24)) (w.heap.size + 1) (.slice ad pool.length cp) := by
    unfold BoxV; rw [← hs1]; exact heap_alloc_new _ _
  have hbq : BoxMs ((w.alloc (.cells #[.string m.name, .slice pa m.params.length pc, .int .i64 m.ret.k, .string m.ret.c, .int .i64 m.lo, .int .i64 m.st, .slice ca m.code.length cc, .slice ha m.hands.length hc] 53)).alloc (.cells #[.slice ad pool.length cp] 24)) w.heap.size ⟨m.name, ⟨pa, m.params.length, pc⟩, m.ret, m.lo, m.st, ⟨ca, m.code.length, cc⟩, ⟨ha, m.hands.length, hc⟩⟩ :=
    ((Fr.refl no _).alloc _ _).heap (heap_alloc_new w _) (fun f => f)
  generalize hW : (w.alloc (.cells #[.string m.name, .slice pa m.params.length pc, .int .i64 m.ret.k, .string m.ret.c, .int .i64 m.lo, .int .i64 m.st, .slice ca m.code.length cc, .slice ha m.hands.length hc] 53)).alloc (.cells #[.slice ad pool.length cp] 24) = W at *
  have HB : Hid (∀ w1, Fr no W w1 → _) := fun w1 f1 => box8 (f1.heap hbq (fun f => f))
  have HI : Hid (∀ w1, Fr no W w1 → Calls Tryz.prog 111 #[.slice ca m.code.length cc, .int .i64 200, .func (.func 112) #[] #[.pointer (some ⟨w.heap.size, 0, none⟩), .pointer (some ⟨w.heap.size + 1, 0, none⟩)]] w1 fun e w' => e = .returned (.int .i64 (eachE 200 (fun x _ => ckIns pool m.lo m.code.length x) m.code : Int)) ∧ Fr no w1 w') := by
    intro w1 f1
    have g1 := HF.out.new f1 (fun _ _ f => f)
    refine eachIn_any w1 _ m.code (hcc.kept g1).g 200 (by omega) _ _ (fun x _ => ckIns pool m.lo m.code.length x) (fun w' v' k x hf _ _ => ?_)
    have g2 := g1.new hf (fun _ _ f => f)
    have f2 := f1.new hf (fun _ _ f => f)
    exact askIns_any w' (T.kept g2) x _ m (hmm.kept g2) _ pool (hp.kept g2) v' _ _ (hbq.kept f2) (f2.heap hbr (fun f => f))
  have HH : Hid (∀ w1, Fr no W w1 → Calls Tryz.prog 115 #[.slice ha m.hands.length hc, .int .i64 16, .func (.func 116) #[] #[.pointer (some ⟨w.heap.size, 0, none⟩), .pointer (some ⟨w.heap.size + 1, 0, none⟩)]] w1 fun e w' => e = .returned (.int .i64 (eachE 16 (fun h _ => ckHd pool m.code.length h) m.hands : Int)) ∧ Fr no w1 w') := by
    intro w1 f1
    have g1 := HF.out.new f1 (fun _ _ f => f)
    refine eachHd_any w1 _ m.hands (hhh.kept g1) 16 (by omega) _ _ (fun h _ => ckHd pool m.code.length h) (fun w' v' k x hf _ _ => ?_)
    have g2 := g1.new hf (fun _ _ f => f)
    have f2 := f1.new hf (fun _ _ f => f)
    exact askHd_any w' x _ m (hmm.kept g2) _ pool (hp.kept g2) v' _ _ (hbq.kept f2) (f2.heap hbr (fun f => f))
  have HS : Hid (∀ w1 op, Fr no W w1 → Calls Tryz.prog 114 #[.int .i64 op] w1 fun e w' => e = .returned (.bool (has op 1)) ∧ w' = w1) := fun w1 op f1 => stops_any w1 (R.kept (HF.out.new f1 (fun _ _ f => f))) op
  obtain ⟨b0, b1, b2, b3, b4, b5, b6, b7⟩ := HB.out W (Fr.refl no _)
  have HK : Hid (ckBody pool m = if 1 + (m.params.length : Int) ≤ m.lo ∧ m.lo ≤ 32 ∧ 0 ≤ m.st ∧ m.st ≤ 64 then
    (if m.code.length = 0 then 32
     else if eachE 200 (fun x _ => ckIns pool m.lo m.code.length x) m.code ≠ 0 then eachE 200 (fun x _ => ckIns pool m.lo m.code.length x) m.code
     else if has (m.code.getD (m.code.length - 1) (0, 0)).1 1 = true then eachE 16 (fun h _ => ckHd pool m.code.length h) m.hands else 54)
  else 32) := rfl
  have HL : Hid (0 < m.code.length → ∀ w1, Fr no W w1 → ∃ b off, ca = some ⟨b, off, none⟩ ∧ w1.cell? ⟨b, off + (m.code.length - 1) * 2, none⟩ = some (.int .i64 (m.code.getD (m.code.length - 1) (0, 0)).1)) := by
    intro h0 w1 f1
    obtain ⟨ad', cp', e, _, _, hit⟩ := hcc.kept (HF.out.new f1 (fun _ _ f => f))
    simp only [Value.slice.injEq] at e
    have hx : m.code[m.code.length - 1]? = some (m.code.getD (m.code.length - 1) (0, 0)) := by
      rw [List.getD_eq_getElem?_getD, List.getElem?_eq_getElem (by omega)]
      rfl
    obtain ⟨b, off, e2, c0, _⟩ := hit _ _ hx
    exact ⟨b, off, e.1.trans e2, c0⟩
  clear hbq hbr hmm hp hpp hcc hhh hm
  by_cases g1 : 1 + (m.params.length : Int) ≤ m.lo
  · by_cases g2 : m.lo ≤ 32
    · by_cases g3 : 0 ≤ m.st
      · by_cases g4 : m.st ≤ 64
        · rw [if_pos ⟨g1, g2, g3, g4⟩] at HK
          have hlo : IntKind.i64.wrap (1 + (m.params.length : Int)) = 1 + (m.params.length : Int) := by simp [IntKind.wrap, IntKind.signed, IntKind.bits]; omega
          by_cases hz : m.code.length = 0
          · rw [if_pos hz] at HK
            have HE := HK
            have hz' : ((m.code.length : Int) == 0) = true := by rw [hz]; rfl
            clear HK hz
            go_enter Tryz.func57, Tryz.ntmps57
            go_wp2_with fail
            go_ret
            rw [HE.out]
            exact ⟨rfl, HF.out⟩
          · rw [if_neg hz] at HK
            have hz' : ((m.code.length : Int) == 0) = false := beq_eq_false_iff_ne.2 (by omega)
            by_cases hE : eachE 200 (fun x _ => ckIns pool m.lo m.code.length x) m.code = 0
            · rw [if_neg (fun h => h hE)] at HK
              rw [hE] at HI
              clear hE
              by_cases hst : has (m.code.getD (m.code.length - 1) (0, 0)).1 1 = true
              · rw [if_pos hst] at HK
                have HST : Hid (∀ w1, Fr no W w1 → Calls Tryz.prog 114 #[.int .i64 (m.code.getD (m.code.length - 1) (0, 0)).1] w1 fun e w' => e = .returned (.bool true) ∧ w' = w1) := fun w1 f1 => by rw [← hst]; exact HS.out w1 _ f1
                clear hst HS
                have HE := HK
                clear HK
                obtain ⟨bb, off, rfl, _⟩ := HL.out (by omega) W (Fr.refl no _)
                have hl1 : IntKind.i64.wrap ((m.code.length : Int) - 1) = ((m.code.length - 1 : Nat) : Int) := by simp [IntKind.wrap, IntKind.signed, IntKind.bits]; omega
                have hl2 : (m.code.length : Int) - 1 = ((m.code.length - 1 : Nat) : Int) := by omega
                generalize hop : (m.code.getD (m.code.length - 1) (0, 0)).1 = op at *
                generalize m.code.length - 1 = last at *
                go_enter Tryz.func57, Tryz.ntmps57
                go_wp2_with fail
                refine (HI.out W (Fr.refl no _)).mono ?_
                rintro e w1 ⟨rfl, f1⟩
                clear b0 b1 b2 b3 b4 b5 b6 b7
                obtain ⟨b0, b1, b2, b3, b4, b5, b6, b7⟩ := HB.out w1 f1
                obtain ⟨bb2, off2, ee, cl⟩ := HL.out (by omega) w1 f1
                simp only [Option.some.injEq, Addr.mk.injEq, and_true] at ee
                obtain ⟨rfl, rfl⟩ := ee
                go_wp2_with fail
                refine (HST.out w1 f1).mono ?_
                rintro e w2 ⟨rfl, hw2⟩
                rw [hw2]
                clear hw2 w2
                go_wp2_with fail
                refine (HH.out w1 f1).mono ?_
                rintro e w2 ⟨rfl, f2⟩
                go_wp2_with fail
                go_ret
                rw [HE.out]
                exact ⟨rfl, (HF.out.new f1 (fun _ _ f => f)).new f2 (fun _ _ f => f)⟩
              · rw [if_neg hst] at HK
                have hst' : has (m.code.getD (m.code.length - 1) (0, 0)).1 1 = false := by simpa using hst
                have HST : Hid (∀ w1, Fr no W w1 → Calls Tryz.prog 114 #[.int .i64 (m.code.getD (m.code.length - 1) (0, 0)).1] w1 fun e w' => e = .returned (.bool false) ∧ w' = w1) := fun w1 f1 => by rw [← hst']; exact HS.out w1 _ f1
                clear hst hst' HS
                have HE := HK
                clear HK
                obtain ⟨bb, off, rfl, _⟩ := HL.out (by omega) W (Fr.refl no _)
                have hl1 : IntKind.i64.wrap ((m.code.length : Int) - 1) = ((m.code.length - 1 : Nat) : Int) := by simp [IntKind.wrap, IntKind.signed, IntKind.bits]; omega
                have hl2 : (m.code.length : Int) - 1 = ((m.code.length - 1 : Nat) : Int) := by omega
                generalize hop : (m.code.getD (m.code.length - 1) (0, 0)).1 = op at *
                generalize m.code.length - 1 = last at *
                go_enter Tryz.func57, Tryz.ntmps57
                go_wp2_with fail
                refine (HI.out W (Fr.refl no _)).mono ?_
                rintro e w1 ⟨rfl, f1⟩
                clear b0 b1 b2 b3 b4 b5 b6 b7
                obtain ⟨b0, b1, b2, b3, b4, b5, b6, b7⟩ := HB.out w1 f1
                obtain ⟨bb2, off2, ee, cl⟩ := HL.out (by omega) w1 f1
                simp only [Option.some.injEq, Addr.mk.injEq, and_true] at ee
                obtain ⟨rfl, rfl⟩ := ee
                go_wp2_with fail
                refine (HST.out w1 f1).mono ?_
                rintro e w2 ⟨rfl, hw2⟩
                rw [hw2]
                clear hw2 w2
                go_wp2_with fail
                go_ret
                rw [HE.out]
                exact ⟨rfl, HF.out.new f1 (fun _ _ f => f)⟩
            · rw [if_pos hE] at HK
              have HE := HK
              clear HK
              have hE' : ((eachE 200 (fun x _ => ckIns pool m.lo m.code.length x) m.code : Int) == 0) = false := by simp; omega
              generalize eachE 200 (fun x _ => ckIns pool m.lo m.code.length x) m.code = err at *
              go_enter Tryz.func57, Tryz.ntmps57
              go_wp2_with fail
              refine (HI.out W (Fr.refl no _)).mono ?_
              rintro e w1 ⟨rfl, f1⟩
              go_wp2_with fail
              go_ret
              rw [HE.out]
              exact ⟨rfl, HF.out.new f1 (fun _ _ f => f)⟩
        · have HE : Hid (ckBody pool m = 32) := by show _ = _; rw [HK.out, if_neg (by omega)]
          clear HK
          have hlo : IntKind.i64.wrap (1 + (m.params.length : Int)) = 1 + (m.params.length : Int) := by simp [IntKind.wrap, IntKind.signed, IntKind.bits]; omega
          go_enter Tryz.func57, Tryz.ntmps57
          go_wp2_with fail
          go_ret
          rw [HE.out]
          exact ⟨rfl, HF.out⟩
      · have HE : Hid (ckBody pool m = 32) := by show _ = _; rw [HK.out, if_neg (by omega)]
        clear HK
        have hlo : IntKind.i64.wrap (1 + (m.params.length : Int)) = 1 + (m.params.length : Int) := by simp [IntKind.wrap, IntKind.signed, IntKind.bits]; omega
        go_enter Tryz.func57, Tryz.ntmps57
        go_wp2_with fail
        go_ret
        rw [HE.out]
        exact ⟨rfl, HF.out⟩
    · have HE : Hid (ckBody pool m = 32) := by show _ = _; rw [HK.out, if_neg (by omega)]
      clear HK
      have hlo : IntKind.i64.wrap (1 + (m.params.length : Int)) = 1 + (m.params.length : Int) := by simp [IntKind.wrap, IntKind.signed, IntKind.bits]; omega
      go_enter Tryz.func57, Tryz.ntmps57
      go_wp2_with fail
      go_ret
      rw [HE.out]
      exact ⟨rfl, HF.out⟩
  · have HE : Hid (ckBody pool m = 32) := by show _ = _; rw [HK.out, if_neg (by omega)]
    clear HK
    have hlo : IntKind.i64.wrap (1 + (m.params.length : Int)) = 1 + (m.params.length : Int) := by simp [IntKind.wrap, IntKind.signed, IntKind.bits]; omega
    go_enter Tryz.func57, Tryz.ntmps57
    go_wp2_with fail
    go_ret
    rw [HE.out]
    exact ⟨rfl, HF.out⟩
end Go.Proofs.YthncdbobjeeeaaaGreatDoor
