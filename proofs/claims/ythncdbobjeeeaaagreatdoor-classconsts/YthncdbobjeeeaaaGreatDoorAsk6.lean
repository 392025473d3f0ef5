/- What is asked of a handler, and of a method's body: the program's answers. -/
import Derived.Test.YthncdbobjeeeaaaGreatDoorAsk5
namespace Go.Proofs.YthncdbobjeeeaaaGreatDoor
open Go.ChangeShapes Go.WideShapes Go.ChangeAt Go.RowKit

set_option maxRecDepth 100000 in
set_option maxHeartbeats 2000000 in
theorem checkHandler_any (w : World) (h : Hd) (n : Nat) (v : Value) (pool : List Cs) (hp : SlG elCs w v pool) :
    Calls Tryz.prog 117 #[.agg #[.int .i64 h.fr, .int .i64 h.to, .int .i64 h.tg, .int .i64 h.cl, .int .i64 h.dp], .int .i64 (n : Int), v] w fun e w' => e = .returned (.int .i64 (ckHd pool n h : Int)) ∧ Fr no w w' := by
  have HF : Hid (Fr no w (w.alloc (.cells #[.int .i64 h.fr, .int .i64 h.to, .int .i64 h.tg, .int .i64 h.cl, .int .i64 h.dp] 59))) := (Fr.refl no w).alloc _ _
  have hb0 : (w.alloc (.cells #[.int .i64 h.fr, .int .i64 h.to, .int .i64 h.tg, .int .i64 h.cl, .int .i64 h.dp] 59)).heap[w.heap.size]? = some (.cells #[.int .i64 h.fr, .int .i64 h.to, .int .i64 h.tg, .int .i64 h.cl, .int .i64 h.dp] 59 (0, 0)) := heap_alloc_new w _
  have C := isConst_any (w.alloc (.cells #[.int .i64 h.fr, .int .i64 h.to, .int .i64 h.tg, .int .i64 h.cl, .int .i64 h.dp] 59)) v pool (hp.kept HF.out) h.cl 3
  generalize hW : w.alloc (.cells #[.int .i64 h.fr, .int .i64 h.to, .int .i64 h.tg, .int .i64 h.cl, .int .i64 h.dp] 59) = W at *
  obtain ⟨b0, b1, b2, b3, b4⟩ := box5 hb0
  clear hb0 hp
  have HK : Hid (ckHd pool n h = if 0 ≤ h.fr ∧ h.fr < h.to ∧ h.to ≤ (n : Int) ∧ 0 ≤ h.tg ∧ h.tg < (n : Int) then (if h.cl = -1 ∨ isCst pool h.cl 3 = true then (if 0 ≤ h.dp ∧ h.dp ≤ 6 then 0 else 32) else 51) else 52) := rfl
  obtain ⟨fr, to, tg, cl, dp⟩ := h
  simp only [] at *
  by_cases g1 : 0 ≤ fr
  · by_cases g2 : fr < to
    · by_cases g3 : to ≤ (n : Int)
      · by_cases g4 : 0 ≤ tg
        · by_cases g5 : tg < (n : Int)
          · rw [if_pos ⟨g1, g2, g3, g4, g5⟩] at HK
            by_cases c1 : cl = -1
            · subst c1
              rw [if_pos (.inl rfl)] at HK
              by_cases d1 : 0 ≤ dp
              · by_cases d2 : dp ≤ 6
                · rw [if_pos ⟨d1, d2⟩] at HK
                  have HE := HK
                  clear HK
                  go_enter Tryz.func117, Tryz.ntmps117
                  go_wp2_with fail
                  go_ret
                  rw [HE.out]
                  exact ⟨by first | rfl | (simp; omega), HF.out⟩
                · rw [if_neg (fun h => d2 h.2)] at HK
                  have HE := HK
                  clear HK
                  go_enter Tryz.func117, Tryz.ntmps117
                  go_wp2_with fail
                  go_ret
                  rw [HE.out]
                  exact ⟨by first | rfl | (simp; omega), HF.out⟩
              · rw [if_neg (fun h => d1 h.1)] at HK
                have HE := HK
                clear HK
                go_enter Tryz.func117, Tryz.ntmps117
                go_wp2_with fail
                go_ret
                rw [HE.out]
                exact ⟨by first | rfl | (simp; omega), HF.out⟩
            · have c1' : (cl == -1) = false := by simpa using c1
              by_cases c2 : isCst pool cl 3 = true
              · rw [if_pos (.inr c2)] at HK
                rw [c2] at C
                by_cases d1 : 0 ≤ dp
                · by_cases d2 : dp ≤ 6
                  · rw [if_pos ⟨d1, d2⟩] at HK
                    have HE := HK
                    clear HK
                    go_enter Tryz.func117, Tryz.ntmps117
                    go_wp2_with fail
                    refine C.mono ?_
                    rintro e w1 ⟨rfl, hw1⟩
                    rw [hw1]
                    clear hw1 w1
                    go_wp2_with fail
                    go_ret
                    rw [HE.out]
                    exact ⟨by first | rfl | (simp; omega), HF.out⟩
                  · rw [if_neg (fun h => d2 h.2)] at HK
                    have HE := HK
                    clear HK
                    go_enter Tryz.func117, Tryz.ntmps117
                    go_wp2_with fail
                    refine C.mono ?_
                    rintro e w1 ⟨rfl, hw1⟩
                    rw [hw1]
                    clear hw1 w1
                    go_wp2_with fail
                    go_ret
                    rw [HE.out]
                    exact ⟨by first | rfl | (simp; omega), HF.out⟩
                · rw [if_neg (fun h => d1 h.1)] at HK
                  have HE := HK
                  clear HK
                  go_enter Tryz.func117, Tryz.ntmps117
                  go_wp2_with fail
                  refine C.mono ?_
                  rintro e w1 ⟨rfl, hw1⟩
                  rw [hw1]
                  clear hw1 w1
                  go_wp2_with fail
                  go_ret
                  rw [HE.out]
                  exact ⟨by first | rfl | (simp; omega), HF.out⟩
              · have c2' : isCst pool cl 3 = false := by simpa using c2
                rw [if_neg (fun h => h.elim c1 c2)] at HK
                rw [c2'] at C
                have HE := HK
                clear HK
                go_enter Tryz.func117, Tryz.ntmps117
                go_wp2_with fail
                refine C.mono ?_
                rintro e w1 ⟨rfl, hw1⟩
                rw [hw1]
                clear hw1 w1
                go_wp2_with fail
                go_ret
                rw [HE.out]
                exact ⟨by first | rfl | (simp; omega), HF.out⟩
          · have HE : Hid (ckHd pool n ⟨fr, to, tg, cl, dp⟩ = 52) := by show _ = _; rw [HK.out, if_neg (by omega)]
            clear HK
            go_enter Tryz.func117, Tryz.ntmps117
            go_wp2_with fail
            go_ret
            rw [HE.out]
            exact ⟨by first | rfl | (simp; omega), HF.out⟩
        · have HE : Hid (ckHd pool n ⟨fr, to, tg, cl, dp⟩ = 52) := by show _ = _; rw [HK.out, if_neg (by omega)]
          clear HK
          go_enter Tryz.func117, Tryz.ntmps117
          go_wp2_with fail
          go_ret
          rw [HE.out]
          exact ⟨by first | rfl | (simp; omega), HF.out⟩
      · have HE : Hid (ckHd pool n ⟨fr, to, tg, cl, dp⟩ = 52) := by show _ = _; rw [HK.out, if_neg (by omega)]
        clear HK
        go_enter Tryz.func117, Tryz.ntmps117
        go_wp2_with fail
        go_ret
        rw [HE.out]
        exact ⟨by first | rfl | (simp; omega), HF.out⟩
    · have HE : Hid (ckHd pool n ⟨fr, to, tg, cl, dp⟩ = 52) := by show _ = _; rw [HK.out, if_neg (by omega)]
      clear HK
      go_enter Tryz.func117, Tryz.ntmps117
      go_wp2_with fail
      go_ret
      rw [HE.out]
      exact ⟨by first | rfl | (simp; omega), HF.out⟩
  · have HE : Hid (ckHd pool n ⟨fr, to, tg, cl, dp⟩ = 52) := by show _ = _; rw [HK.out, if_neg (by omega)]
    clear HK
    go_enter Tryz.func117, Tryz.ntmps117
    go_wp2_with fail
    go_ret
    rw [HE.out]
    exact ⟨by first | rfl | (simp; omega), HF.out⟩
end Go.Proofs.YthncdbobjeeeaaaGreatDoor
