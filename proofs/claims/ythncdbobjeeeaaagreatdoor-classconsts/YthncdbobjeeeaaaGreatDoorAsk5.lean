/- What is asked of an instruction and of a handler: the program's answers. -/
import Derived.Test.YthncdbobjeeeaaaGreatDoorAsk4
import Derived.Deep.RegionHeld3
namespace Go.Proofs.YthncdbobjeeeaaaGreatDoor
open Go.ChangeShapes Go.WideShapes Go.ChangeAt Go.RowKit

theorem MtAt.open {w : World} {s : Ms} {m : Mt} (h : MtAt w s m) : ∃ pa pc ca cc ha hc, s = ⟨m.name, ⟨pa, m.params.length, pc⟩, m.ret, m.lo, m.st, ⟨ca, m.code.length, cc⟩, ⟨ha, m.hands.length, hc⟩⟩ ∧
    m.params.length ≤ pc ∧ pc ≤ maxLen ∧ m.code.length ≤ cc ∧ cc ≤ maxLen := by
  obtain ⟨sn, ⟨sp1, sp2, sp3⟩, sr, slo, sst, ⟨sc1, sc2, sc3⟩, ⟨sh1, sh2, sh3⟩⟩ := s
  obtain ⟨e1, e2, e3, e4, ⟨a1, c1, q1, p1, p2, _⟩, ⟨a2, c2, q2, p3, p4, _⟩, ⟨a3, c3, q3, p5, p6, _⟩⟩ := h
  simp only [Value.slice.injEq] at e1 e2 e3 e4 q1 q2 q3
  obtain ⟨rfl, rfl, rfl⟩ := q1
  obtain ⟨rfl, rfl, rfl⟩ := q2
  obtain ⟨rfl, rfl, rfl⟩ := q3
  subst e1 e2 e3 e4
  exact ⟨_, _, _, _, _, _, rfl, p1, p2, p3, p4⟩

set_option maxRecDepth 100000 in
set_option maxHeartbeats 2000000 in
theorem checkIns_any (w : World) (T : Tb w) (x : Int × Int) (s : Ms) (m : Mt) (hm : MtAt w s m) (v : Value) (pool : List Cs) (hp : SlG elCs w v pool) :
    Calls Tryz.prog 113 #[ins x.1 x.2, msV s, v] w fun e w' => e = .returned (.int .i64 (ckIns pool m.lo m.code.length x : Int)) ∧ Fr no w w' := by
  obtain ⟨op, a⟩ := x
  have hm0 := hm
  obtain ⟨pa, pc, ca, cc, ha, hc, rfl, hb⟩ := hm.open
  clear hm0
  have hb2 := hb.2.2.2
  have hb1' := hb.2.2.1
  unfold maxLen at hb2
  clear hb
  unfold msV ins
  simp only []
  have HF : Hid (Fr no w ((w.alloc (.cells #[.int .i64 op, .int .i64 a] 57)).alloc (.cells #[.string m.name, .slice pa m.params.length pc, .int .i64 m.ret.k, .string m.ret.c, .int .i64 m.lo, .int .i64 m.st, .slice ca m.code.length cc, .slice ha m.hands.length hc] 53))) := ((Fr.refl no w).alloc _ _).alloc _ _
  have hs1 : (w.alloc (.cells #[.int .i64 op, .int .i64 a] 57)).heap.size = w.heap.size + 1 := size_alloc _ _
  have hb1 : ((w.alloc (.cells #[.int .i64 op, .int .i64 a] 57)).alloc (.cells #[.string m.name, .slice pa m.params.length pc, .int .i64 m.ret.k, .string m.ret.c, .int .i64 m.lo, .int .i64 m.st, .slice ca m.code.length cc, .slice ha m.hands.length hc] 53)).heap[w.heap.size + 1]? = some (.cells #[.string m.name, .slice pa m.params.length pc, .int .i64 m.ret.k, .string m.ret.c, .int .i64 m.lo, .int .i64 m.st, .slice ca m.code.length cc, .slice ha m.hands.length hc] 53 (0, 0)) := by
    rw [← hs1]; exact heap_alloc_new _ _
  have hb0 : ((w.alloc (.cells #[.int .i64 op, .int .i64 a] 57)).alloc (.cells #[.string m.name, .slice pa m.params.length pc, .int .i64 m.ret.k, .string m.ret.c, .int .i64 m.lo, .int .i64 m.st, .slice ca m.code.length cc, .slice ha m.hands.length hc] 53)).heap[w.heap.size]? = some (.cells #[.int .i64 op, .int .i64 a] 57 (0, 0)) :=
    ((Fr.refl no _).alloc _ _).heap (heap_alloc_new w _) (fun f => f)
  generalize hW : ((w.alloc (.cells #[.int .i64 op, .int .i64 a] 57)).alloc (.cells #[.string m.name, .slice pa m.params.length pc, .int .i64 m.ret.k, .string m.ret.c, .int .i64 m.lo, .int .i64 m.st, .slice ca m.code.length cc, .slice ha m.hands.length hc] 53)) = W at *
  have HB : Hid (∀ w1, Fr no W w1 → _) := fun w1 f1 => box2 (f1.heap hb0 (fun f => f))
  have HC : Hid (∀ w1, Fr no W w1 → _) := fun w1 f1 => box8 (f1.heap hb1 (fun f => f))
  have TW := T.kept HF.out
  have I := is_any W TW op a
  have O := fun w1 (f1 : Fr no W w1) => operand_any w1 (TW.kept f1) op
  have A := fun w1 => askedKind_any w1 op
  have C := fun w1 (f1 : Fr no W w1) k => isConst_any w1 v pool ((hp.kept HF.out).kept f1) a k
  unfold ins at I
  clear hb0 hb1 hm TW
  have HK : Hid (ckIns pool m.lo m.code.length (op, a) = if isb op a = true then (if od op = 1 then (if m.lo ≤ a then 52 else 0) else if od op = 2 then (if isCst pool a (asked op) = true then 0 else 51) else if od op = 3 then (if (m.code.length : Int) ≤ a then 52 else 0) else 0) else 40) := rfl
  obtain ⟨b0, b1⟩ := HB.out W (Fr.refl no _)
  by_cases hi : isb op a = true
  · rw [hi] at I
    rw [if_pos hi] at HK
    rcases od_cases op with e | e | ⟨ep, ep3⟩
    · exact absurd hi (by rw [isb_none op a e]; simp)
    · rw [e] at O
      have HE : Hid (ckIns pool m.lo m.code.length (op, a) = 0) := by show _ = _; rw [HK.out, e]; rfl
      clear e
      go_enter Tryz.func113, Tryz.ntmps113
      go_wp2_with fail
      refine I.mono ?_
      rintro e w1 ⟨rfl, f1⟩
      clear b0 b1
      obtain ⟨b0, b1⟩ := HB.out w1 f1
      obtain ⟨d0, d1, d2, d3, d4, d5, d6, d7⟩ := HC.out w1 f1
      go_wp2_with fail
      refine (O w1 f1).mono ?_
      rintro e w1 ⟨rfl, rfl⟩
      go_wp2_with fail
      go_ret
      rw [HE.out]
      exact ⟨rfl, HF.out.new f1 (fun _ _ f => f)⟩
    · rcases (show od op = 1 ∨ od op = 2 ∨ od op = 3 by omega) with e | e | e
      · rw [e] at O
        have HK' : Hid (ckIns pool m.lo m.code.length (op, a) = if m.lo ≤ a then 52 else 0) := by show _ = _; rw [HK.out, if_pos e]
        clear HK e ep ep3
        by_cases hl : m.lo ≤ a
        · have HE : Hid (ckIns pool m.lo m.code.length (op, a) = 52) := by show _ = _; rw [HK'.out, if_pos hl]
          go_enter Tryz.func113, Tryz.ntmps113
          go_wp2_with fail
          refine I.mono ?_
          rintro e w1 ⟨rfl, f1⟩
          clear b0 b1
          obtain ⟨b0, b1⟩ := HB.out w1 f1
          obtain ⟨d0, d1, d2, d3, d4, d5, d6, d7⟩ := HC.out w1 f1
          go_wp2_with fail
          refine (O w1 f1).mono ?_
          rintro e w1 ⟨rfl, rfl⟩
          go_wp2_with fail
          go_ret
          rw [HE.out]
          exact ⟨rfl, HF.out.new f1 (fun _ _ f => f)⟩
        · have HE : Hid (ckIns pool m.lo m.code.length (op, a) = 0) := by show _ = _; rw [HK'.out, if_neg hl]
          go_enter Tryz.func113, Tryz.ntmps113
          go_wp2_with fail
          refine I.mono ?_
          rintro e w1 ⟨rfl, f1⟩
          clear b0 b1
          obtain ⟨b0, b1⟩ := HB.out w1 f1
          obtain ⟨d0, d1, d2, d3, d4, d5, d6, d7⟩ := HC.out w1 f1
          go_wp2_with fail
          refine (O w1 f1).mono ?_
          rintro e w1 ⟨rfl, rfl⟩
          go_wp2_with fail
          go_ret
          rw [HE.out]
          exact ⟨rfl, HF.out.new f1 (fun _ _ f => f)⟩
      · rw [e] at O
        have HK' : Hid (ckIns pool m.lo m.code.length (op, a) = if isCst pool a (asked op) = true then 0 else 51) := by show _ = _; rw [HK.out, if_neg (by omega), if_pos e]
        clear HK e ep ep3
        have KS : ∀ w2, Fr no W w2 → Fr no W w2 ∧ w2.cell? ⟨w.heap.size, 0, none⟩ = some (.int .i64 op) ∧ w2.cell? ⟨w.heap.size, 1, none⟩ = some (.int .i64 a) := fun w2 f2 => ⟨f2, (HB.out w2 f2).1, (HB.out w2 f2).2⟩
        have C' := fun w1 (f1 : Fr no W w1) => C w1 f1 (asked op)
        generalize asked op = ak at *
        by_cases hl : isCst pool a ak = true
        · have HE : Hid (ckIns pool m.lo m.code.length (op, a) = 0) := by show _ = _; rw [HK'.out, if_pos hl]
          rw [hl] at C'
          go_enter Tryz.func113, Tryz.ntmps113
          go_wp2_with fail
          refine I.mono ?_
          rintro e w1 ⟨rfl, f1⟩
          clear b0 b1
          obtain ⟨b0, b1⟩ := HB.out w1 f1
          obtain ⟨d0, d1, d2, d3, d4, d5, d6, d7⟩ := HC.out w1 f1
          go_wp2_with fail
          refine (O w1 f1).mono ?_
          rintro e w1 ⟨rfl, rfl⟩
          go_wp2_with fail
          go_region_held3 (fun w2 => Fr no W w2 ∧ w2.cell? ⟨w.heap.size, 0, none⟩ = some (.int .i64 op) ∧ w2.cell? ⟨w.heap.size, 1, none⟩ = some (.int .i64 a)) (first | exact KS _ f1.drew | assumption) (first | (go_at_call 151; refine (A _).mono ?_; rintro e w3 ⟨rfl, rfl⟩) | (go_at_call 150; refine (C' _ f1.drew).mono ?_; rintro e w3 ⟨rfl, rfl⟩))
          go_wp2_with fail
          go_ret
          rw [HE.out]
          exact ⟨rfl, HF.out.new f1.drew (fun _ _ f => f)⟩
        · have HE : Hid (ckIns pool m.lo m.code.length (op, a) = 51) := by show _ = _; rw [HK'.out, if_neg hl]
          have hl' : isCst pool a ak = false := by simpa using hl
          rw [hl'] at C'
          go_enter Tryz.func113, Tryz.ntmps113
          go_wp2_with fail
          refine I.mono ?_
          rintro e w1 ⟨rfl, f1⟩
          clear b0 b1
          obtain ⟨b0, b1⟩ := HB.out w1 f1
          obtain ⟨d0, d1, d2, d3, d4, d5, d6, d7⟩ := HC.out w1 f1
          go_wp2_with fail
          refine (O w1 f1).mono ?_
          rintro e w1 ⟨rfl, rfl⟩
          go_wp2_with fail
          go_region_held3 (fun w2 => Fr no W w2 ∧ w2.cell? ⟨w.heap.size, 0, none⟩ = some (.int .i64 op) ∧ w2.cell? ⟨w.heap.size, 1, none⟩ = some (.int .i64 a)) (first | exact KS _ f1.drew | assumption) (first | (go_at_call 151; refine (A _).mono ?_; rintro e w3 ⟨rfl, rfl⟩) | (go_at_call 150; refine (C' _ f1.drew).mono ?_; rintro e w3 ⟨rfl, rfl⟩))
          go_wp2_with fail
          go_ret
          rw [HE.out]
          exact ⟨rfl, HF.out.new f1.drew (fun _ _ f => f)⟩
      · rw [e] at O
        have HK' : Hid (ckIns pool m.lo m.code.length (op, a) = if (m.code.length : Int) ≤ a then 52 else 0) := by show _ = _; rw [HK.out, if_neg (by omega), if_neg (by omega), if_pos e]
        clear HK e ep ep3
        by_cases hl : (m.code.length : Int) ≤ a
        · have HE : Hid (ckIns pool m.lo m.code.length (op, a) = 52) := by show _ = _; rw [HK'.out, if_pos hl]
          go_enter Tryz.func113, Tryz.ntmps113
          go_wp2_with fail
          refine I.mono ?_
          rintro e w1 ⟨rfl, f1⟩
          clear b0 b1
          obtain ⟨b0, b1⟩ := HB.out w1 f1
          obtain ⟨d0, d1, d2, d3, d4, d5, d6, d7⟩ := HC.out w1 f1
          go_wp2_with fail
          refine (O w1 f1).mono ?_
          rintro e w1 ⟨rfl, rfl⟩
          go_wp2_with fail
          go_ret
          rw [HE.out]
          exact ⟨rfl, HF.out.new f1 (fun _ _ f => f)⟩
        · have HE : Hid (ckIns pool m.lo m.code.length (op, a) = 0) := by show _ = _; rw [HK'.out, if_neg hl]
          go_enter Tryz.func113, Tryz.ntmps113
          go_wp2_with fail
          refine I.mono ?_
          rintro e w1 ⟨rfl, f1⟩
          clear b0 b1
          obtain ⟨b0, b1⟩ := HB.out w1 f1
          obtain ⟨d0, d1, d2, d3, d4, d5, d6, d7⟩ := HC.out w1 f1
          go_wp2_with fail
          refine (O w1 f1).mono ?_
          rintro e w1 ⟨rfl, rfl⟩
          go_wp2_with fail
          go_ret
          rw [HE.out]
          exact ⟨rfl, HF.out.new f1 (fun _ _ f => f)⟩
  · have hi' : isb op a = false := by simpa using hi
    rw [hi'] at I
    have HE : Hid (ckIns pool m.lo m.code.length (op, a) = 40) := by show _ = _; rw [HK.out, if_neg hi]
    go_enter Tryz.func113, Tryz.ntmps113
    go_wp2_with fail
    refine I.mono ?_
    rintro e w1 ⟨rfl, f1⟩
    go_wp2_with fail
    go_ret
    rw [HE.out]
    exact ⟨rfl, HF.out.new f1 (fun _ _ f => f)⟩
end Go.Proofs.YthncdbobjeeeaaaGreatDoor
