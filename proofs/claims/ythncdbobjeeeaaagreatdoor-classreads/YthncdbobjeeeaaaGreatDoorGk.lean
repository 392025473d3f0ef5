/- What is asked of a handler, and of a method's body: the program's answers. -/
import Derived.Test.YthncdbobjeeeaaaGreatDoorGj
namespace Go.Proofs.YthncdbobjeeeaaaGreatDoor
open Go.ChangeShapes Go.WideShapes Go.ChangeAt Go.RowKit

set_option maxRecDepth 100000 in
set_option maxHeartbeats 2000000 in
theorem checkHandler_any (w : World) (h : Hd) (n : Nat) (v : Value) (pool : List Cs) (hp : SlG elCs w v pool) :
    Calls Tryz.prog 117 #[.agg #[.int .i64 h.fr, .int .i64 h.to, .int .i64 h.tg, .int .i64 h.cl, .int .i64 h.dp], .int .i64 (n : Int), v] w fun e w' => e = .returned (.int .i64 (ckHd pool n h : Int)) ∧ Fr no w w' := by
  have HF : Hid (Fr no w (w.alloc (.cells #[.int .i64 h.fr, .int .i64 h.to, .int .i64 h.tg, .int .i64 h.cl, .int .i64 h.dp] 59))) := (Fr.refl no w).alloc _ _
  have hb0 : (w.alloc (.cells #[.int .i64 h.fr, .int .i64 h.to, .int .i64 h.tg, .int .i64 h.cl, .int .i64 h.dp] 59)).heap[w.heap.size]? = some (.cells #[.int .i64 h.fr, .int .i64 h.to, .int .i64 h.tg, .int .i64 h.cl, .int .i64 h.dp] 59 (0, 0)) := heap_alloc_new w _
  have C := isConst_any (w.alloc (.cells #[.int .i64 h.fr, .int .i64 h.to, .int .i64 h.tg, .int .i64 h.cl, .int .i64 h.dp] 59)) v pool (hp.kept HF.out) h.cl 3
  generalize hW : w.alloc (.cells #[.int .i64 h.fr, .int .i64 h.to, .int .i64 h.tg, .int .i64 h.cl, .int .i64 h.dp] 59) = W at *
  obtain ⟨b0, b1, b2, b3, b4⟩ := box5 hb0
  clear hb0 hp
  have HK : Hid (ckHd pool n h = if 0 ≤ h.fr ∧ h.fr < h.to ∧ h.to ≤ (n : Int) ∧ 0 ≤ h.tg ∧ h.tg < (n : Int) then (if h.cl = -1 ∨ isCst pool h.cl 3 = true then (if 0 ≤ h.dp ∧ h.dp ≤ 6 then 0 else 32) else 51) else 52) := rfl
  obtain ⟨fr, to, tg, cl, dp⟩ := h
  simp only [] at *
  by_cases g1 : 0 ≤ fr
  · by_cases g2 : fr < to
    · by_cases g3 : to ≤ (n : Int)
      · by_cases g4 : 0 ≤ tg
        · by_cases g5 : tg < (n : Int)
          · rw [if_pos ⟨g1, g2, g3, g4, g5⟩] at HK
            by_cases c1 : cl = -1
            · subst c1
              rw [if_pos (.inl rfl)] at HK
              by_cases d1 : 0 ≤ dp
              · by_cases d2 : dp ≤ 6
                · rw [if_pos ⟨d1, d2⟩] at HK
                  have HE := HK
                  clear HK
                  go_enter Tryz.func117, Tryz.ntmps117
                  go_wp2_with fail
                  go_ret
                  rw [HE.out]
                  exact ⟨by first | rfl | (simp; omega), HF.out⟩
                · rw [if_neg (fun h => d2 h.2)] at HK
                  have HE := HK
                  clear HK
                  go_enter Tryz.func117, Tryz.ntmps117
                  go_wp2_with fail
                  go_ret
                  rw [HE.out]
                  exact ⟨by first | rfl | (simp; omega), HF.out⟩
              · rw [if_neg (fun h => d1 h.1)] at HK
                have HE := HK
                clear HK
                go_enter Tryz.func117, Tryz.ntmps117
                go_wp2_with fail
                go_ret
                rw [HE.out]
                exact ⟨by first | rfl | (simp; omega), HF.out⟩
            · have c1' : (cl == -1) = false := by simpa using c1
              by_cases c2 : isCst pool cl 3 = true
              · rw [if_pos (.inr c2)] at HK
                rw [c2] at C
                by_cases d1 : 0 ≤ dp
                · by_cases d2 : dp ≤ 6
                  · rw [if_pos ⟨d1, d2⟩] at HK
                    have HE := HK
                    clear HK
                    go_enter Tryz.func117, Tryz.ntmps117
                    go_wp2_with fail
                    refine C.mono ?_
                    rintro e w1 ⟨rfl, hw1⟩
                    rw [hw1]
                    clear hw1 w1
                    go_wp2_with fail
                    go_ret
                    rw [HE.out]
                    exact ⟨by first | rfl | (simp; omega), HF.out⟩
                  · rw [if_neg (fun h => d2 h.2)] at HK
                    have HE := HK
                    clear HK
                    go_enter Tryz.func117, Tryz.ntmps117
                    go_wp2_with fail
                    refine C.mono ?_
                    rintro e w1 ⟨rfl, hw1⟩
                    rw [hw1]
                    clear hw1 w1
                    go_wp2_with fail
                    go_ret
                    rw [HE.out]
                    exact ⟨by first | rfl | (simp; omega), HF.out⟩
                · rw [if_neg (fun h => d1 h.1)] at HK
                  have HE := HK
                  clear HK
                  go_enter Tryz.func117, Tryz.ntmps117
                  go_wp2_with fail
                  refine C.mono ?_
                  rintro e w1 ⟨rfl, hw1⟩
                  rw [hw1]
                  clear hw1 w1
                  go_wp2_with fail
                  go_ret
                  rw [HE.out]
                  exact ⟨by first | rfl | (simp; omega), HF.out⟩
              · have c2' : isCst pool cl 3 = false := by simpa using c2
                rw [if_neg (fun h => h.elim c1 c2)] at HK
                rw [c2'] at C
                have HE := HK
                clear HK
                go_enter Tryz.func117, Tryz.ntmps117
                go_wp2_with fail
                refine C.mono ?_
                rintro e w1 ⟨rfl, hw1⟩
                rw [hw1]
                clear hw1 w1
                go_wp2_with fail
                go_ret
                rw [HE.out]
                exact ⟨by first | rfl | (simp; omega), HF.out⟩
          · have HE : Hid (ckHd pool n ⟨fr, to, tg, cl, dp⟩ = 52) := by show _ = _; rw [HK.out, if_neg (by omega)]
            clear HK
            go_enter Tryz.func117, Tryz.ntmps117
            go_wp2_with fail
            go_ret
            rw [HE.out]
            exact ⟨by first | rfl | (simp; omega), HF.out⟩
        · have HE : Hid (ckHd pool n ⟨fr, to, tg, cl, dp⟩ = 52) := by show _ = _; rw [HK.out, if_neg (by omega)]
          clear HK
          go_enter Tryz.func117, Tryz.ntmps117
          go_wp2_with fail
          go_ret
          rw [HE.out]
          exact ⟨by first | rfl | (simp; omega), HF.out⟩
      · have HE : Hid (ckHd pool n ⟨fr, to, tg, cl, dp⟩ = 52) := by show _ = _; rw [HK.out, if_neg (by omega)]
        clear HK
        go_enter Tryz.func117, Tryz.ntmps117
        go_wp2_with fail
        go_ret
        rw [HE.out]
        exact ⟨by first | rfl | (simp; omega), HF.out⟩
    · have HE : Hid (ckHd pool n ⟨fr, to, tg, cl, dp⟩ = 52) := by show _ = _; rw [HK.out, if_neg (by omega)]
      clear HK
      go_enter Tryz.func117, Tryz.ntmps117
      go_wp2_with fail
      go_ret
      rw [HE.out]
      exact ⟨by first | rfl | (simp; omega), HF.out⟩
  · have HE : Hid (ckHd pool n ⟨fr, to, tg, cl, dp⟩ = 52) := by show _ = _; rw [HK.out, if_neg (by omega)]
    clear HK
    go_enter Tryz.func117, Tryz.ntmps117
    go_wp2_with fail
    go_ret
    rw [HE.out]
    exact ⟨by first | rfl | (simp; omega), HF.out⟩
end Go.Proofs.YthncdbobjeeeaaaGreatDoor

/- What is asked of a method's body: the program's answers. -/
namespace Go.Proofs.YthncdbobjeeeaaaGreatDoor
open Go.ChangeShapes Go.WideShapes Go.ChangeAt Go.RowKit

/-- The block r holds the slice v. -/
def BoxV (w : World) (r : Nat) (v : Value) : Prop := w.heap[r]? = some (.cells #[v] 24 (0, 0))

theorem askIns_any (w : World) (T : Tb w) (x : Int × Int) (s : Ms) (m : Mt) (hm : MtAt w s m) (v : Value) (pool : List Cs) (hp : SlG elCs w v pool) (v' : Value) (q r : Nat) (hq : BoxMs w q s) (hr : BoxV w r v) :
    Calls Tryz.prog 112 #[.agg #[.int .i64 x.1, .int .i64 x.2], v', .pointer (some ⟨q, 0, none⟩), .pointer (some ⟨r, 0, none⟩)] w fun e w' => e = .returned (.int .i64 (ckIns pool m.lo m.code.length x : Int)) ∧ Fr no w w' := by
  have HF : Hid (Fr no w (w.alloc (.cells #[.int .i64 x.1, .int .i64 x.2] 57))) := (Fr.refl no w).alloc _ _
  have I := checkIns_any _ (T.kept HF.out) x s m (hm.kept HF.out) v pool (hp.kept HF.out)
  have hb := box8 (HF.out.heap hq (fun f => f))
  have hr1 := cell_of_one (HF.out.heap hr (fun f => f))
  have hq1 := lt_of_heap hq
  have hr2 := lt_of_heap hr
  obtain ⟨ad, cp, rfl, _⟩ := hp
  unfold ins msV at I
  generalize hW : w.alloc (.cells #[.int .i64 x.1, .int .i64 x.2] 57) = W at *
  have ha : W.cell? ⟨w.heap.size, 0, none⟩ = some (.int .i64 x.1) ∧ W.cell? ⟨w.heap.size, 1, none⟩ = some (.int .i64 x.2) := by
    rw [← hW]; exact box2 (heap_alloc_new w _)
  obtain ⟨a0, a1⟩ := ha
  obtain ⟨b0, b1, b2, b3, b4, b5, b6, b7⟩ := hb
  clear hq hr hm T
  go_enter Tryz.func112, Tryz.ntmps112
  go_wp2_with fail
  refine I.mono ?_
  rintro e w1 ⟨rfl, f1⟩
  go_wp2_with fail
  go_ret
  exact ⟨rfl, HF.out.new f1 (fun _ _ f => f)⟩

theorem askHd_any (w : World) (h : Hd) (s : Ms) (m : Mt) (hm : MtAt w s m) (v : Value) (pool : List Cs) (hp : SlG elCs w v pool) (v' : Value) (q r : Nat) (hq : BoxMs w q s) (hr : BoxV w r v) :
    Calls Tryz.prog 116 #[.agg #[.int .i64 h.fr, .int .i64 h.to, .int .i64 h.tg, .int .i64 h.cl, .int .i64 h.dp], v', .pointer (some ⟨q, 0, none⟩), .pointer (some ⟨r, 0, none⟩)] w fun e w' => e = .returned (.int .i64 (ckHd pool m.code.length h : Int)) ∧ Fr no w w' := by
  have HF : Hid (Fr no w (w.alloc (.cells #[.int .i64 h.fr, .int .i64 h.to, .int .i64 h.tg, .int .i64 h.cl, .int .i64 h.dp] 59))) := (Fr.refl no w).alloc _ _
  have I := checkHandler_any _ h m.code.length v pool (hp.kept HF.out)
  obtain ⟨pa, pc, ca, cc, ha, hc, rfl, hbs⟩ := hm.open
  have hb := box8 (HF.out.heap hq (fun f => f))
  have hr1 := cell_of_one (HF.out.heap hr (fun f => f))
  have hq1 := lt_of_heap hq
  have hr2 := lt_of_heap hr
  obtain ⟨ad, cp, rfl, _⟩ := hp
  generalize hW : w.alloc (.cells #[.int .i64 h.fr, .int .i64 h.to, .int .i64 h.tg, .int .i64 h.cl, .int .i64 h.dp] 59) = W at *
  have hA : _ := box5 (show W.heap[w.heap.size]? = some (.cells #[.int .i64 h.fr, .int .i64 h.to, .int .i64 h.tg, .int .i64 h.cl, .int .i64 h.dp] 59 (0, 0)) by rw [← hW]; exact heap_alloc_new w _)
  obtain ⟨a0, a1, a2, a3, a4⟩ := hA
  obtain ⟨b0, b1, b2, b3, b4, b5, b6, b7⟩ := hb
  simp only [] at b0 b1 b2 b3 b4 b5 b6 b7
  clear hq hr hm
  go_enter Tryz.func116, Tryz.ntmps116
  go_wp2_with fail
  refine I.mono ?_
  rintro e w1 ⟨rfl, f1⟩
  go_wp2_with fail
  go_ret
  exact ⟨rfl, HF.out.new f1 (fun _ _ f => f)⟩

set_option maxRecDepth 100000 in
set_option maxHeartbeats 4000000 in
theorem checkBody_any (w : World) (T : Tb w) (R : Tr w) (s : Ms) (m : Mt) (hm : MtAt w s m) (hpl : m.params.length ≤ 1000000) (v : Value) (pool : List Cs) (hp : SlG elCs w v pool) :
    Calls Tryz.prog 57 #[msV s, v] w fun e w' => e = .returned (.int .i64 (ckBody pool m : Int)) ∧ Fr no w w' := by
  have hpp := hm.p
  have hcc := hm.c
  have hhh := hm.h
  have hmm := hm
  obtain ⟨pa, pc, ca, cc, ha, hc, rfl, hp1, hp2, hc1, hc2⟩ := hm.open
  obtain ⟨ad, cp, rfl, hv1, hv2, _⟩ : ∃ ad cp, v = .slice ad pool.length cp ∧ pool.length ≤ cp ∧ cp ≤ maxLen ∧ True := by obtain ⟨ad, cp, e, h1, h2, _⟩ := hp; exact ⟨ad, cp, e, h1, h2, trivial⟩
  simp only [] at hpp hcc hhh
  unfold maxLen at hp2 hc2 hv2
  unfold msV
  simp only []
  have HF : Hid (Fr no w ((w.alloc (.cells #[.string m.name, .slice pa m.params.length pc, .int .i64 m.ret.k, .string m.ret.c, .int .i64 m.lo, .int .i64 m.st, .slice ca m.code.length cc, .slice ha m.hands.length hc] 53)).alloc (.cells #[.slice ad pool.length cp] 24))) := ((Fr.refl no w).alloc _ _).alloc _ _
  have hs1 : (w.alloc (.cells #[.string m.name, .slice pa m.params.length pc, .int .i64 m.ret.k, .string m.ret.c, .int .i64 m.lo, .int .i64 m.st, .slice ca m.code.length cc, .slice ha m.hands.length hc] 53)).heap.size = w.heap.size + 1 := size_alloc _ _
  have hbr : BoxV ((w.alloc (.cells #[.string m.name, .slice pa m.params.length pc, .int .i64 m.ret.k, .string m.ret.c, .int .i64 m.lo, .int .i64 m.st, .slice ca m.code.length cc, .slice ha m.hands.length hc] 53)).alloc (.cells #[.slice ad pool.length cp] 24)) (w.heap.size + 1) (.slice ad pool.length cp) := by
    unfold BoxV; rw [← hs1]; exact heap_alloc_new _ _
  have hbq : BoxMs ((w.alloc (.cells #[.string m.name, .slice pa m.params.length pc, .int .i64 m.ret.k, .string m.ret.c, .int .i64 m.lo, .int .i64 m.st, .slice ca m.code.length cc, .slice ha m.hands.length hc] 53)).alloc (.cells #[.slice ad pool.length cp] 24)) w.heap.size ⟨m.name, ⟨pa, m.params.length, pc⟩, m.ret, m.lo, m.st, ⟨ca, m.code.length, cc⟩, ⟨ha, m.hands.length, hc⟩⟩ :=
    ((Fr.refl no _).alloc _ _).heap (heap_alloc_new w _) (fun f => f)
  generalize hW : (w.alloc (.cells #[.string m.name, .slice pa m.params.length pc, .int .i64 m.ret.k, .string m.ret.c, .int .i64 m.lo, .int .i64 m.st, .slice ca m.code.length cc, .slice ha m.hands.length hc] 53)).alloc (.cells #[.slice ad pool.length cp] 24) = W at *
  have HB : Hid (∀ w1, Fr no W w1 → _) := fun w1 f1 => box8 (f1.heap hbq (fun f => f))
  have HI : Hid (∀ w1, Fr no W w1 → Calls Tryz.prog 111 #[.slice ca m.code.length cc, .int .i64 200, .func (.func 112) #[] #[.pointer (some ⟨w.heap.size, 0, none⟩), .pointer (some ⟨w.heap.size + 1, 0, none⟩)]] w1 fun e w' => e = .returned (.int .i64 (eachE 200 (fun x _ => ckIns pool m.lo m.code.length x) m.code : Int)) ∧ Fr no w1 w') := by
    intro w1 f1
    have g1 := HF.out.new f1 (fun _ _ f => f)
    refine eachIn_any w1 _ m.code (hcc.kept g1).g 200 (by omega) _ _ (fun x _ => ckIns pool m.lo m.code.length x) (fun w' v' k x hf _ _ => ?_)
    have g2 := g1.new hf (fun _ _ f => f)
    have f2 := f1.new hf (fun _ _ f => f)
    exact askIns_any w' (T.kept g2) x _ m (hmm.kept g2) _ pool (hp.kept g2) v' _ _ (hbq.kept f2) (f2.heap hbr (fun f => f))
  have HH : Hid (∀ w1, Fr no W w1 → Calls Tryz.prog 115 #[.slice ha m.hands.length hc, .int .i64 16, .func (.func 116) #[] #[.pointer (some ⟨w.heap.size, 0, none⟩), .pointer (some ⟨w.heap.size + 1, 0, none⟩)]] w1 fun e w' => e = .returned (.int .i64 (eachE 16 (fun h _ => ckHd pool m.code.length h) m.hands : Int)) ∧ Fr no w1 w') := by
    intro w1 f1
    have g1 := HF.out.new f1 (fun _ _ f => f)
    refine eachHd_any w1 _ m.hands (hhh.kept g1) 16 (by omega) _ _ (fun h _ => ckHd pool m.code.length h) (fun w' v' k x hf _ _ => ?_)
    have g2 := g1.new hf (fun _ _ f => f)
    have f2 := f1.new hf (fun _ _ f => f)
    exact askHd_any w' x _ m (hmm.kept g2) _ pool (hp.kept g2) v' _ _ (hbq.kept f2) (f2.heap hbr (fun f => f))
  have HS : Hid (∀ w1 op, Fr no W w1 → Calls Tryz.prog 114 #[.int .i64 op] w1 fun e w' => e = .returned (.bool (has op 1)) ∧ w' = w1) := fun w1 op f1 => stops_any w1 (R.kept (HF.out.new f1 (fun _ _ f => f))) op
  obtain ⟨b0, b1, b2, b3, b4, b5, b6, b7⟩ := HB.out W (Fr.refl no _)
  have HK : Hid (ckBody pool m = if 1 + (m.params.length : Int) ≤ m.lo ∧ m.lo ≤ 32 ∧ 0 ≤ m.st ∧ m.st ≤ 64 then
    (if m.code.length = 0 then 32
     else if eachE 200 (fun x _ => ckIns pool m.lo m.code.length x) m.code ≠ 0 then eachE 200 (fun x _ => ckIns pool m.lo m.code.length x) m.code
     else if has (m.code.getD (m.code.length - 1) (0, 0)).1 1 = true then eachE 16 (fun h _ => ckHd pool m.code.length h) m.hands else 54)
  else 32) := rfl
  have HL : Hid (0 < m.code.length → ∀ w1, Fr no W w1 → ∃ b off, ca = some ⟨b, off, none⟩ ∧ w1.cell? ⟨b, off + (m.code.length - 1) * 2, none⟩ = some (.int .i64 (m.code.getD (m.code.length - 1) (0, 0)).1)) := by
    intro h0 w1 f1
    obtain ⟨ad', cp', e, _, _, hit⟩ := hcc.kept (HF.out.new f1 (fun _ _ f => f))
    simp only [Value.slice.injEq] at e
    have hx : m.code[m.code.length - 1]? = some (m.code.getD (m.code.length - 1) (0, 0)) := by
      rw [List.getD_eq_getElem?_getD, List.getElem?_eq_getElem (by omega)]
      rfl
    obtain ⟨b, off, e2, c0, _⟩ := hit _ _ hx
    exact ⟨b, off, e.1.trans e2, c0⟩
  clear hbq hbr hmm hp hpp hcc hhh hm
  by_cases g1 : 1 + (m.params.length : Int) ≤ m.lo
  · by_cases g2 : m.lo ≤ 32
    · by_cases g3 : 0 ≤ m.st
      · by_cases g4 : m.st ≤ 64
        · rw [if_pos ⟨g1, g2, g3, g4⟩] at HK
          have hlo : IntKind.i64.wrap (1 + (m.params.length : Int)) = 1 + (m.params.length : Int) := by simp [IntKind.wrap, IntKind.signed, IntKind.bits]; omega
          by_cases hz : m.code.length = 0
          · rw [if_pos hz] at HK
            have HE := HK
            have hz' : ((m.code.length : Int) == 0) = true := by rw [hz]; rfl
            clear HK hz
            go_enter Tryz.func57, Tryz.ntmps57
            go_wp2_with fail
            go_ret
            rw [HE.out]
            exact ⟨rfl, HF.out⟩
          · rw [if_neg hz] at HK
            have hz' : ((m.code.length : Int) == 0) = false := beq_eq_false_iff_ne.2 (by omega)
            by_cases hE : eachE 200 (fun x _ => ckIns pool m.lo m.code.length x) m.code = 0
            · rw [if_neg (fun h => h hE)] at HK
              rw [hE] at HI
              clear hE
              by_cases hst : has (m.code.getD (m.code.length - 1) (0, 0)).1 1 = true
              · rw [if_pos hst] at HK
                have HST : Hid (∀ w1, Fr no W w1 → Calls Tryz.prog 114 #[.int .i64 (m.code.getD (m.code.length - 1) (0, 0)).1] w1 fun e w' => e = .returned (.bool true) ∧ w' = w1) := fun w1 f1 => by rw [← hst]; exact HS.out w1 _ f1
                clear hst HS
                have HE := HK
                clear HK
                obtain ⟨bb, off, rfl, _⟩ := HL.out (by omega) W (Fr.refl no _)
                have hl1 : IntKind.i64.wrap ((m.code.length : Int) - 1) = ((m.code.length - 1 : Nat) : Int) := by simp [IntKind.wrap, IntKind.signed, IntKind.bits]; omega
                have hl2 : (m.code.length : Int) - 1 = ((m.code.length - 1 : Nat) : Int) := by omega
                generalize hop : (m.code.getD (m.code.length - 1) (0, 0)).1 = op at *
                generalize m.code.length - 1 = last at *
                go_enter Tryz.func57, Tryz.ntmps57
                go_wp2_with fail
                refine (HI.out W (Fr.refl no _)).mono ?_
                rintro e w1 ⟨rfl, f1⟩
                clear b0 b1 b2 b3 b4 b5 b6 b7
                obtain ⟨b0, b1, b2, b3, b4, b5, b6, b7⟩ := HB.out w1 f1
                obtain ⟨bb2, off2, ee, cl⟩ := HL.out (by omega) w1 f1
                simp only [Option.some.injEq, Addr.mk.injEq, and_true] at ee
                obtain ⟨rfl, rfl⟩ := ee
                go_wp2_with fail
                refine (HST.out w1 f1).mono ?_
                rintro e w2 ⟨rfl, hw2⟩
                rw [hw2]
                clear hw2 w2
                go_wp2_with fail
                refine (HH.out w1 f1).mono ?_
                rintro e w2 ⟨rfl, f2⟩
                go_wp2_with fail
                go_ret
                rw [HE.out]
                exact ⟨rfl, (HF.out.new f1 (fun _ _ f => f)).new f2 (fun _ _ f => f)⟩
              · rw [if_neg hst] at HK
                have hst' : has (m.code.getD (m.code.length - 1) (0, 0)).1 1 = false := by simpa using hst
                have HST : Hid (∀ w1, Fr no W w1 → Calls Tryz.prog 114 #[.int .i64 (m.code.getD (m.code.length - 1) (0, 0)).1] w1 fun e w' => e = .returned (.bool false) ∧ w' = w1) := fun w1 f1 => by rw [← hst']; exact HS.out w1 _ f1
                clear hst hst' HS
                have HE := HK
                clear HK
                obtain ⟨bb, off, rfl, _⟩ := HL.out (by omega) W (Fr.refl no _)
                have hl1 : IntKind.i64.wrap ((m.code.length : Int) - 1) = ((m.code.length - 1 : Nat) : Int) := by simp [IntKind.wrap, IntKind.signed, IntKind.bits]; omega
                have hl2 : (m.code.length : Int) - 1 = ((m.code.length - 1 : Nat) : Int) := by omega
                generalize hop : (m.code.getD (m.code.length - 1) (0, 0)).1 = op at *
                generalize m.code.length - 1 = last at *
                go_enter Tryz.func57, Tryz.ntmps57
                go_wp2_with fail
                refine (HI.out W (Fr.refl no _)).mono ?_
                rintro e w1 ⟨rfl, f1⟩
                clear b0 b1 b2 b3 b4 b5 b6 b7
                obtain ⟨b0, b1, b2, b3, b4, b5, b6, b7⟩ := HB.out w1 f1
                obtain ⟨bb2, off2, ee, cl⟩ := HL.out (by omega) w1 f1
                simp only [Option.some.injEq, Addr.mk.injEq, and_true] at ee
                obtain ⟨rfl, rfl⟩ := ee
                go_wp2_with fail
                refine (HST.out w1 f1).mono ?_
                rintro e w2 ⟨rfl, hw2⟩
                rw [hw2]
                clear hw2 w2
                go_wp2_with fail
                go_ret
                rw [HE.out]
                exact ⟨rfl, HF.out.new f1 (fun _ _ f => f)⟩
            · rw [if_pos hE] at HK
              have HE := HK
              clear HK
              have hE' : ((eachE 200 (fun x _ => ckIns pool m.lo m.code.length x) m.code : Int) == 0) = false := by simp; omega
              generalize eachE 200 (fun x _ => ckIns pool m.lo m.code.length x) m.code = err at *
              go_enter Tryz.func57, Tryz.ntmps57
              go_wp2_with fail
              refine (HI.out W (Fr.refl no _)).mono ?_
              rintro e w1 ⟨rfl, f1⟩
              go_wp2_with fail
              go_ret
              rw [HE.out]
              exact ⟨rfl, HF.out.new f1 (fun _ _ f => f)⟩
        · have HE : Hid (ckBody pool m = 32) := by show _ = _; rw [HK.out, if_neg (by omega)]
          clear HK
          have hlo : IntKind.i64.wrap (1 + (m.params.length : Int)) = 1 + (m.params.length : Int) := by simp [IntKind.wrap, IntKind.signed, IntKind.bits]; omega
          go_enter Tryz.func57, Tryz.ntmps57
          go_wp2_with fail
          go_ret
          rw [HE.out]
          exact ⟨rfl, HF.out⟩
      · have HE : Hid (ckBody pool m = 32) := by show _ = _; rw [HK.out, if_neg (by omega)]
        clear HK
        have hlo : IntKind.i64.wrap (1 + (m.params.length : Int)) = 1 + (m.params.length : Int) := by simp [IntKind.wrap, IntKind.signed, IntKind.bits]; omega
        go_enter Tryz.func57, Tryz.ntmps57
        go_wp2_with fail
        go_ret
        rw [HE.out]
        exact ⟨rfl, HF.out⟩
    · have HE : Hid (ckBody pool m = 32) := by show _ = _; rw [HK.out, if_neg (by omega)]
      clear HK
      have hlo : IntKind.i64.wrap (1 + (m.params.length : Int)) = 1 + (m.params.length : Int) := by simp [IntKind.wrap, IntKind.signed, IntKind.bits]; omega
      go_enter Tryz.func57, Tryz.ntmps57
      go_wp2_with fail
      go_ret
      rw [HE.out]
      exact ⟨rfl, HF.out⟩
  · have HE : Hid (ckBody pool m = 32) := by show _ = _; rw [HK.out, if_neg (by omega)]
    clear HK
    have hlo : IntKind.i64.wrap (1 + (m.params.length : Int)) = 1 + (m.params.length : Int) := by simp [IntKind.wrap, IntKind.signed, IntKind.bits]; omega
    go_enter Tryz.func57, Tryz.ntmps57
    go_wp2_with fail
    go_ret
    rw [HE.out]
    exact ⟨rfl, HF.out⟩
end Go.Proofs.YthncdbobjeeeaaaGreatDoor

/- What Check tells of a class. -/
namespace Go.Proofs.YthncdbobjeeeaaaGreatDoor
open Go.ChangeShapes Go.WideShapes Go.ChangeAt Go.RowKit

/-- A class whose lists are slices. -/
structure Ks where
  name : ByteArray
  super : ByteArray
  p : Sv
  f : Sv
  m : Sv

/-- The slices of a class hold its lists. -/
structure ClAt (w : World) (s : Ks) (c : Cl) : Prop where
  name : s.name = c.name
  super : s.super = c.super
  p : SlG elCs w (.slice s.p.a s.p.n s.p.c) c.pool
  f : SlG elFd w (.slice s.f.a s.f.n s.f.c) c.fields
  m : ∃ ls, SlG elMs w (.slice s.m.a s.m.n s.m.c) ls ∧ AtAll w ls c.methods

theorem ClAt.kept {w w' : World} {s : Ks} {c : Cl} (h : ClAt w s c) (hf : Fr no w w') : ClAt w' s c :=
  ⟨h.name, h.super, h.p.kept hf, h.f.kept hf, h.m.elim fun ls hh => ⟨ls, hh.1.kept hf, hh.2.kept hf⟩⟩

def ksV (s : Ks) : Value := .agg #[.string s.name, .string s.super, .slice s.p.a s.p.n s.p.c, .slice s.f.a s.f.n s.f.c, .slice s.m.a s.m.n s.m.c]

/-- A class whose texts a machine can hold. -/
structure FitC (c : Cl) : Prop where
  name : fitS c.name
  super : fitS c.super
  pool : ∀ x ∈ c.pool, fitS x.c ∧ fitS x.m
  fields : ∀ x ∈ c.fields, fitS x.name ∧ fitS x.ty.c
  methods : ∀ m ∈ c.methods, FitM m

theorem face_params (m : Mt) (l : List Mt) (h : ckFace m l = 0) : m.params.length ≤ 6 := by
  unfold ckFace at h
  by_cases h1 : isName m.name = true
  · rw [if_pos h1] at h
    by_cases h2 : eachE 6 ckTy m.params = 0
    · unfold eachE at h2
      by_cases h3 : 6 < m.params.length
      · rw [if_pos h3] at h2; simp at h2
      · omega
    · rw [if_pos h2] at h; exact absurd h h2
  · rw [if_neg h1] at h; simp at h

/-- The block q holds a class. -/
def BoxK (w : World) (q : Nat) (s : Ks) : Prop := w.heap[q]? = some (.cells #[.string s.name, .string s.super, .slice s.p.a s.p.n s.p.c, .slice s.f.a s.f.n s.f.c, .slice s.m.a s.m.n s.m.c] 28 (0, 0))

theorem BoxK.kept {w w' : World} {q : Nat} {s : Ks} (h : BoxK w q s) (hf : Fr no w w') : BoxK w' q s := hf.heap h (fun f => f)

set_option maxRecDepth 100000 in
set_option maxHeartbeats 1000000 in
theorem askMt_any (w : World) (T : Tb w) (R : Tr w) (s : Ms) (m : Mt) (hm : MtAt w s m) (hf : FitM m) (v : Value) (ls : List Ms) (l : List Mt) (h : SlG elMs w v ls) (ha : AtAll w ls l) (q : Nat) (ks : Ks) (hq : BoxK w q ks) (pool : List Cs) (hp : SlG elCs w (.slice ks.p.a ks.p.n ks.p.c) pool) :
    Calls Tryz.prog 55 #[msV s, v, .pointer (some ⟨q, 0, none⟩)] w fun e w' => e = .returned (.int .i64 (ckMt pool m l : Int)) ∧ Fr no w w' := by
  have HF : Hid (Fr no w (w.alloc (.cells #[.string s.name, .slice s.p.a s.p.n s.p.c, .int .i64 s.ret.k, .string s.ret.c, .int .i64 s.lo, .int .i64 s.st, .slice s.c.a s.c.n s.c.c, .slice s.h.a s.h.n s.h.c] 53))) := (Fr.refl no w).alloc _ _
  have FA := checkFace_any _ s m (hm.kept HF.out) hf v ls l (h.kept HF.out) (ha.kept HF.out)
  have hb0 := heap_alloc_new w (.cells #[.string s.name, .slice s.p.a s.p.n s.p.c, .int .i64 s.ret.k, .string s.ret.c, .int .i64 s.lo, .int .i64 s.st, .slice s.c.a s.c.n s.c.c, .slice s.h.a s.h.n s.h.c] 53)
  have hq' := hq.kept HF.out
  unfold msV at *
  generalize hW : w.alloc (.cells #[.string s.name, .slice s.p.a s.p.n s.p.c, .int .i64 s.ret.k, .string s.ret.c, .int .i64 s.lo, .int .i64 s.st, .slice s.c.a s.c.n s.c.c, .slice s.h.a s.h.n s.h.c] 53) = W at *
  have BO : Hid (∀ w1, Fr no W w1 → m.params.length ≤ 1000000 → Calls Tryz.prog 57 #[.agg #[.string s.name, .slice s.p.a s.p.n s.p.c, .int .i64 s.ret.k, .string s.ret.c, .int .i64 s.lo, .int .i64 s.st, .slice s.c.a s.c.n s.c.c, .slice s.h.a s.h.n s.h.c], .slice ks.p.a ks.p.n ks.p.c] w1 fun e w' => e = .returned (.int .i64 (ckBody pool m : Int)) ∧ Fr no w1 w') :=
    fun w1 f1 hl => checkBody_any w1 (T.kept (HF.out.new f1 (fun _ _ f => f))) (R.kept (HF.out.new f1 (fun _ _ f => f))) s m (hm.kept (HF.out.new f1 (fun _ _ f => f))) hl _ pool (hp.kept (HF.out.new f1 (fun _ _ f => f)))
  have HB : Hid (∀ w1, Fr no W w1 → _) := fun w1 f1 => box8 (f1.heap hb0 (fun f => f))
  have HQ : Hid (∀ w1, Fr no W w1 → _) := fun w1 f1 => box5 (hq'.kept f1)
  obtain ⟨b0, b1, b2, b3, b4, b5, b6, b7⟩ := HB.out W (Fr.refl no _)
  have hne : ¬ w.heap.size = q := fun e => by have := lt_of_heap hq; omega
  clear hb0 hq' hq h ha hp hm
  by_cases hE : ckFace m l = 0
  · have HE : Hid (ckMt pool m l = ckBody pool m) := by show _ = _; unfold ckMt; rw [if_neg (fun h => h hE)]
    have HL : Hid (m.params.length ≤ 1000000) := Nat.le_trans (face_params m l hE) (by omega)
    rw [hE] at FA
    go_enter Tryz.func55, Tryz.ntmps55
    go_wp2_with fail
    refine FA.mono ?_
    rintro e w1 ⟨rfl, f1⟩
    clear b0 b1 b2 b3 b4 b5 b6 b7
    obtain ⟨b0, b1, b2, b3, b4, b5, b6, b7⟩ := HB.out w1 f1
    obtain ⟨q0, q1, q2, q3, q4⟩ := HQ.out w1 f1
    go_wp2_with fail
    refine (BO.out w1 f1 HL.out).mono ?_
    rintro e w2 ⟨rfl, f2⟩
    go_wp2_with fail
    go_ret
    rw [HE.out]
    exact ⟨rfl, (HF.out.new f1 (fun _ _ f => f)).new f2 (fun _ _ f => f)⟩
  · have HE : Hid (ckMt pool m l = ckFace m l) := by show _ = _; unfold ckMt; rw [if_pos hE]
    have hE' : ((ckFace m l : Int) == 0) = false := beq_eq_false_iff_ne.2 (by omega)
    generalize ckFace m l = err at *
    go_enter Tryz.func55, Tryz.ntmps55
    go_wp2_with fail
    refine FA.mono ?_
    rintro e w1 ⟨rfl, f1⟩
    go_wp2_with fail
    go_ret
    rw [HE.out]
    exact ⟨rfl, HF.out.new f1 (fun _ _ f => f)⟩

/-- What is asked of a method by its place. -/
def askAt (g : Mt → List Mt → Nat) (l : List Mt) (_ : Ms) (ah : List Ms) : Nat := match l[ah.length]? with | some m => g m (l.take ah.length) | none => 0

theorem firstE_at (g : Mt → List Mt → Nat) (l : List Mt) (rs : List Ms) : ∀ (r a : List Mt) (az : List Ms), l = a ++ r → az.length = a.length → rs.length = r.length → firstE (askAt g l) az rs = firstE g a r := by
  induction rs with
  | nil =>
    intro r a az _ _ hr
    cases r with
    | nil => rfl
    | cons _ _ => simp at hr
  | cons s rs ih =>
    intro r a az hl ha hr
    cases r with
    | nil => simp at hr
    | cons m r =>
      have e : askAt g l s az = g m a := by
        unfold askAt
        rw [hl, ha]
        simp
      unfold firstE
      rw [e, ih r (a ++ [m]) (az ++ [s]) (by simp [hl]) (by simp [ha]) (by simpa using hr)]

theorem eachE_at (g : Mt → List Mt → Nat) (l : List Mt) (ls : List Ms) (most : Nat) (h : ls.length = l.length) : eachE most (askAt g l) ls = eachE most g l := by
  unfold eachE
  rw [h, firstE_at g l ls l [] [] rfl rfl h]

theorem methods_any (w : World) (T : Tb w) (R : Tr w) (v : Value) (ls : List Ms) (l : List Mt) (h : SlG elMs w v ls) (ha : AtAll w ls l) (hf : ∀ m ∈ l, FitM m) (q : Nat) (ks : Ks) (hq : BoxK w q ks) (pool : List Cs) (hp : SlG elCs w (.slice ks.p.a ks.p.n ks.p.c) pool) :
    Calls Tryz.prog 54 #[v, .int .i64 12, .func (.func 55) #[] #[.pointer (some ⟨q, 0, none⟩)]] w fun e w' => e = .returned (.int .i64 (eachE 12 (ckMt pool) l : Int)) ∧ Fr no w w' := by
  rw [← eachE_at (ckMt pool) l ls 12 ha.1]
  refine eachMs_any w v ls h 12 (by omega) q (askAt (ckMt pool) l) (fun w' v' k x f1 hx hs => ?_)
  have hk : k < ls.length := (List.getElem?_eq_some_iff.1 hx).1
  obtain ⟨m, hm⟩ : ∃ m, l[k]? = some m := ⟨_, List.getElem?_eq_getElem (by rw [← ha.1]; exact hk)⟩
  have e : askAt (ckMt pool) l x (ls.take k) = ckMt pool m (l.take k) := by
    unfold askAt
    rw [List.length_take, Nat.min_eq_left (by omega), hm]
  rw [e]
  exact askMt_any w' (T.kept f1) (R.kept f1) x m ((ha.2 k x m hx hm).kept f1) (hf m (List.mem_of_getElem? hm)) v' (ls.take k) (l.take k) hs ((ha.kept f1).take k) q ks (hq.kept f1) pool (hp.kept f1)

theorem pool_any (w : World) (v : Value) (l : List Cs) (h : SlG elCs w v l) (hf : ∀ x ∈ l, fitS x.c ∧ fitS x.m) : Calls Tryz.prog 50 #[v, .int .i64 128, .func (.func 51) #[] #[]] w fun e w' => e = .returned (.int .i64 (eachE 128 (fun x _ => ckCs x) l : Int)) ∧ Fr no w w' :=
  eachCs_any w v l h 128 (by omega) (fun x _ => ckCs x) (fun w' v' k x _ hx _ => checkConst_any w' x (hf x (List.mem_of_getElem? hx)).1 (hf x (List.mem_of_getElem? hx)).2 v')

theorem fields_any (w : World) (v : Value) (l : List Fd) (h : SlG elFd w v l) (hf : ∀ x ∈ l, fitS x.name ∧ fitS x.ty.c) : Calls Tryz.prog 52 #[v, .int .i64 8, .func (.func 53) #[] #[]] w fun e w' => e = .returned (.int .i64 (eachE 8 ckFd l : Int)) ∧ Fr no w w' :=
  eachFd_any w v l h 8 (by omega) ckFd (fun w' v' k x _ hx hs => checkField_any w' x (hf x (List.mem_of_getElem? hx)).1 (hf x (List.mem_of_getElem? hx)).2 v' _ hs)

set_option maxRecDepth 100000 in
set_option maxHeartbeats 2000000 in
theorem check_any (w : World) (T : Tb w) (R : Tr w) (s : Ks) (c : Cl) (hc : ClAt w s c) (hf : FitC c) : Calls Tryz.prog 14 #[ksV s] w fun e w' => e = .returned (.int .i64 (chk c : Int)) ∧ Fr no w w' := by
  obtain ⟨sn, ss, sp, sf, sm⟩ := s
  obtain ⟨e1, e2, hp, hfi, ls, hm, hma⟩ := hc
  simp only [] at e1 e2 hp hfi hm
  subst e1 e2
  unfold ksV
  simp only []
  have HF : Hid (Fr no w (w.alloc (.cells #[.string c.name, .string c.super, .slice sp.a sp.n sp.c, .slice sf.a sf.n sf.c, .slice sm.a sm.n sm.c] 28))) := (Fr.refl no w).alloc _ _
  have hb0 : BoxK (w.alloc (.cells #[.string c.name, .string c.super, .slice sp.a sp.n sp.c, .slice sf.a sf.n sf.c, .slice sm.a sm.n sm.c] 28)) w.heap.size ⟨c.name, c.super, sp, sf, sm⟩ := heap_alloc_new w _
  generalize hW : w.alloc (.cells #[.string c.name, .string c.super, .slice sp.a sp.n sp.c, .slice sf.a sf.n sf.c, .slice sm.a sm.n sm.c] 28) = W at *
  have HB : Hid (∀ w1, Fr no W w1 → _) := fun w1 f1 => box5 (hb0.kept f1)
  have N1 := fun w1 => isName_any w1 c.name hf.name
  have N2 := fun w1 => isName_any w1 c.super hf.super
  have HP : Hid (∀ w1, Fr no W w1 → Calls Tryz.prog 50 #[.slice sp.a sp.n sp.c, .int .i64 128, .func (.func 51) #[] #[]] w1 fun e w' => e = .returned (.int .i64 (eachE 128 (fun x _ => ckCs x) c.pool : Int)) ∧ Fr no w1 w') := fun w1 f1 => pool_any w1 _ _ (hp.kept (HF.out.new f1 (fun _ _ f => f))) hf.pool
  have HFi : Hid (∀ w1, Fr no W w1 → Calls Tryz.prog 52 #[.slice sf.a sf.n sf.c, .int .i64 8, .func (.func 53) #[] #[]] w1 fun e w' => e = .returned (.int .i64 (eachE 8 ckFd c.fields : Int)) ∧ Fr no w1 w') := fun w1 f1 => fields_any w1 _ _ (hfi.kept (HF.out.new f1 (fun _ _ f => f))) hf.fields
  have HM : Hid (∀ w1, Fr no W w1 → Calls Tryz.prog 54 #[.slice sm.a sm.n sm.c, .int .i64 12, .func (.func 55) #[] #[.pointer (some ⟨w.heap.size, 0, none⟩)]] w1 fun e w' => e = .returned (.int .i64 (eachE 12 (ckMt c.pool) c.methods : Int)) ∧ Fr no w1 w') := by
    intro w1 f1
    have g1 := HF.out.new f1 (fun _ _ f => f)
    exact methods_any w1 (T.kept g1) (R.kept g1) _ ls c.methods (hm.kept g1) (hma.kept g1) hf.methods w.heap.size ⟨c.name, c.super, sp, sf, sm⟩ (hb0.kept f1) c.pool (hp.kept g1)
  have HK : Hid (chk c = if isName c.name = true ∧ (c.super = e0 ∨ isName c.super = true) then
    (if eachE 128 (fun x _ => ckCs x) c.pool ≠ 0 then eachE 128 (fun x _ => ckCs x) c.pool
     else if eachE 8 ckFd c.fields ≠ 0 then eachE 8 ckFd c.fields
     else eachE 12 (ckMt c.pool) c.methods)
  else 50) := rfl
  obtain ⟨b0, b1, b2, b3, b4⟩ := HB.out W (Fr.refl no _)
  clear hb0 hp hfi hm hma
  by_cases h1 : isName c.name = true
  · rw [h1] at N1
    by_cases h2 : c.super = e0
    · rw [if_pos ⟨h1, .inl h2⟩] at HK
      have q2 := emp_eq _ h2
      clear h2
      by_cases hP : eachE 128 (fun x _ => ckCs x) c.pool = 0
      · rw [if_neg (fun h => h hP)] at HK
        rw [hP] at HP
        by_cases hF : eachE 8 ckFd c.fields = 0
        · rw [if_neg (fun h => h hF)] at HK
          rw [hF] at HFi
          have HE := HK
          clear HK
          go_enter Tryz.func14, Tryz.ntmps14
          go_wp2_with fail
          refine (N1 _).mono ?_
          rintro e w1 ⟨rfl, hw1⟩
          rw [hw1]
          clear hw1 w1
          go_wp2_with fail
          refine (HP.out W (Fr.refl no _)).mono ?_
          rintro e w2 ⟨rfl, f2⟩
          clear b0 b1 b2 b3 b4
          obtain ⟨b0, b1, b2, b3, b4⟩ := HB.out w2 f2
          go_wp2_with fail
          refine (HFi.out w2 f2).mono ?_
          rintro e w3 ⟨rfl, f3⟩
          have f3' := f2.new f3 (fun _ _ f => f)
          clear b0 b1 b2 b3 b4 f3
          obtain ⟨b0, b1, b2, b3, b4⟩ := HB.out w3 f3'
          go_wp2_with fail
          refine (HM.out w3 f3').mono ?_
          rintro e w4 ⟨rfl, f4⟩
          have f4' := f3'.new f4 (fun _ _ f => f)
          go_wp2_with fail
          go_ret
          rw [HE.out]
          exact ⟨rfl, HF.out.new f4' (fun _ _ f => f)⟩
        · rw [if_pos hF] at HK
          have HE := HK
          clear HK
          have hF' : ((eachE 8 ckFd c.fields : Int) == 0) = false := beq_eq_false_iff_ne.2 (by omega)
          generalize eachE 8 ckFd c.fields = err at *
          go_enter Tryz.func14, Tryz.ntmps14
          go_wp2_with fail
          refine (N1 _).mono ?_
          rintro e w1 ⟨rfl, hw1⟩
          rw [hw1]
          clear hw1 w1
          go_wp2_with fail
          refine (HP.out W (Fr.refl no _)).mono ?_
          rintro e w2 ⟨rfl, f2⟩
          clear b0 b1 b2 b3 b4
          obtain ⟨b0, b1, b2, b3, b4⟩ := HB.out w2 f2
          go_wp2_with fail
          refine (HFi.out w2 f2).mono ?_
          rintro e w3 ⟨rfl, f3⟩
          have f3' := f2.new f3 (fun _ _ f => f)
          clear b0 b1 b2 b3 b4 f3
          obtain ⟨b0, b1, b2, b3, b4⟩ := HB.out w3 f3'
          go_wp2_with fail
          go_ret
          rw [HE.out]
          exact ⟨rfl, HF.out.new f3' (fun _ _ f => f)⟩
      · rw [if_pos hP] at HK
        have HE := HK
        clear HK
        have hP' : ((eachE 128 (fun x _ => ckCs x) c.pool : Int) == 0) = false := beq_eq_false_iff_ne.2 (by omega)
        generalize eachE 128 (fun x _ => ckCs x) c.pool = err at *
        go_enter Tryz.func14, Tryz.ntmps14
        go_wp2_with fail
        refine (N1 _).mono ?_
        rintro e w1 ⟨rfl, hw1⟩
        rw [hw1]
        clear hw1 w1
        go_wp2_with fail
        refine (HP.out W (Fr.refl no _)).mono ?_
        rintro e w2 ⟨rfl, f2⟩
        clear b0 b1 b2 b3 b4
        obtain ⟨b0, b1, b2, b3, b4⟩ := HB.out w2 f2
        go_wp2_with fail
        go_ret
        rw [HE.out]
        exact ⟨rfl, HF.out.new f2 (fun _ _ f => f)⟩
    · have q2 := emp_ne _ h2
      have q3 := emp_false _ h2
      by_cases h3 : isName c.super = true
      · rw [if_pos ⟨h1, .inr h3⟩] at HK
        rw [h3] at N2
        by_cases hP : eachE 128 (fun x _ => ckCs x) c.pool = 0
        · rw [if_neg (fun h => h hP)] at HK
          rw [hP] at HP
          by_cases hF : eachE 8 ckFd c.fields = 0
          · rw [if_neg (fun h => h hF)] at HK
            rw [hF] at HFi
            have HE := HK
            clear HK
            go_enter Tryz.func14, Tryz.ntmps14
            go_wp2_with fail
            refine (N1 _).mono ?_
            rintro e w1 ⟨rfl, hw1⟩
            rw [hw1]
            clear hw1 w1
            go_wp2_with fail
            refine (N2 _).mono ?_
            rintro e w1 ⟨rfl, hw1⟩
            rw [hw1]
            clear hw1 w1
            go_wp2_with fail
            refine (HP.out W (Fr.refl no _)).mono ?_
            rintro e w2 ⟨rfl, f2⟩
            clear b0 b1 b2 b3 b4
            obtain ⟨b0, b1, b2, b3, b4⟩ := HB.out w2 f2
            go_wp2_with fail
            refine (HFi.out w2 f2).mono ?_
            rintro e w3 ⟨rfl, f3⟩
            have f3' := f2.new f3 (fun _ _ f => f)
            clear b0 b1 b2 b3 b4 f3
            obtain ⟨b0, b1, b2, b3, b4⟩ := HB.out w3 f3'
            go_wp2_with fail
            refine (HM.out w3 f3').mono ?_
            rintro e w4 ⟨rfl, f4⟩
            have f4' := f3'.new f4 (fun _ _ f => f)
            go_wp2_with fail
            go_ret
            rw [HE.out]
            exact ⟨rfl, HF.out.new f4' (fun _ _ f => f)⟩
          · rw [if_pos hF] at HK
            have HE := HK
            clear HK
            have hF' : ((eachE 8 ckFd c.fields : Int) == 0) = false := beq_eq_false_iff_ne.2 (by omega)
            generalize eachE 8 ckFd c.fields = err at *
            go_enter Tryz.func14, Tryz.ntmps14
            go_wp2_with fail
            refine (N1 _).mono ?_
            rintro e w1 ⟨rfl, hw1⟩
            rw [hw1]
            clear hw1 w1
            go_wp2_with fail
            refine (N2 _).mono ?_
            rintro e w1 ⟨rfl, hw1⟩
            rw [hw1]
            clear hw1 w1
            go_wp2_with fail
            refine (HP.out W (Fr.refl no _)).mono ?_
            rintro e w2 ⟨rfl, f2⟩
            clear b0 b1 b2 b3 b4
            obtain ⟨b0, b1, b2, b3, b4⟩ := HB.out w2 f2
            go_wp2_with fail
            refine (HFi.out w2 f2).mono ?_
            rintro e w3 ⟨rfl, f3⟩
            have f3' := f2.new f3 (fun _ _ f => f)
            clear b0 b1 b2 b3 b4 f3
            obtain ⟨b0, b1, b2, b3, b4⟩ := HB.out w3 f3'
            go_wp2_with fail
            go_ret
            rw [HE.out]
            exact ⟨rfl, HF.out.new f3' (fun _ _ f => f)⟩
        · rw [if_pos hP] at HK
          have HE := HK
          clear HK
          have hP' : ((eachE 128 (fun x _ => ckCs x) c.pool : Int) == 0) = false := beq_eq_false_iff_ne.2 (by omega)
          generalize eachE 128 (fun x _ => ckCs x) c.pool = err at *
          go_enter Tryz.func14, Tryz.ntmps14
          go_wp2_with fail
          refine (N1 _).mono ?_
          rintro e w1 ⟨rfl, hw1⟩
          rw [hw1]
          clear hw1 w1
          go_wp2_with fail
          refine (N2 _).mono ?_
          rintro e w1 ⟨rfl, hw1⟩
          rw [hw1]
          clear hw1 w1
          go_wp2_with fail
          refine (HP.out W (Fr.refl no _)).mono ?_
          rintro e w2 ⟨rfl, f2⟩
          clear b0 b1 b2 b3 b4
          obtain ⟨b0, b1, b2, b3, b4⟩ := HB.out w2 f2
          go_wp2_with fail
          go_ret
          rw [HE.out]
          exact ⟨rfl, HF.out.new f2 (fun _ _ f => f)⟩
      · have HE : Hid (chk c = 50) := by show _ = _; rw [HK.out, if_neg (fun h => h.2.elim h2 h3)]
        have h3' : isName c.super = false := by simpa using h3
        rw [h3'] at N2
        clear HK
        go_enter Tryz.func14, Tryz.ntmps14
        go_wp2_with fail
        refine (N1 _).mono ?_
        rintro e w1 ⟨rfl, hw1⟩
        rw [hw1]
        clear hw1 w1
        go_wp2_with fail
        refine (N2 _).mono ?_
        rintro e w1 ⟨rfl, hw1⟩
        rw [hw1]
        clear hw1 w1
        go_wp2_with fail
        go_ret
        rw [HE.out]
        exact ⟨rfl, HF.out.new (Fr.refl no _) (fun _ _ f => f)⟩
  · have HE : Hid (chk c = 50) := by show _ = _; rw [HK.out, if_neg (fun h => h1 h.1)]
    have h1' : isName c.name = false := by simpa using h1
    rw [h1'] at N1
    clear HK
    go_enter Tryz.func14, Tryz.ntmps14
    go_wp2_with fail
    refine (N1 _).mono ?_
    rintro e w1 ⟨rfl, hw1⟩
    rw [hw1]
    clear hw1 w1
    go_wp2_with fail
    go_ret
    rw [HE.out]
    exact ⟨rfl, HF.out.new (Fr.refl no _) (fun _ _ f => f)⟩
end Go.Proofs.YthncdbobjeeeaaaGreatDoor

