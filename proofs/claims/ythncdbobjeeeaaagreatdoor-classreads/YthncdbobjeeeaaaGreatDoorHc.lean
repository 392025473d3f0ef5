/- What is asked of a method: the document's answers. -/
import Derived.Test.YthncdbobjeeeaaaGreatDoorHb
namespace Go.Proofs.YthncdbobjeeeaaaGreatDoor
open Go.ChangeShapes Go.WideShapes Go.ChangeAt Go.RowKit

theorem text_eq {a b : ByteArray} (h : a = b) : (a.toList == b.toList) = true := by rw [h]; simp
theorem text_ne {a b : ByteArray} (h : a ≠ b) : (a.toList == b.toList) = false := by
  rw [ByteArray.toList_eq, ByteArray.toList_eq]
  simp only [beq_eq_false_iff_ne, ne_eq]
  intro e
  exact h (ByteArray.ext (by simpa using congrArg List.toArray e))

set_option maxRecDepth 100000 in
set_option maxHeartbeats 8000000 in
theorem docMethod_any (w : World) (k : Ks) (pool : List Cs) (hp : SlG elCs w (.slice k.p.a k.p.n k.p.c) pool) (ls : List Ms) (l : List Mt) (hl : SlG elMs w (.slice k.m.a k.m.n k.m.c) ls) (ha : AtAll w ls l) (i : Nat) (m : Mt) (hi : l[i]? = some m) (hf : FitM m) :
    Calls Tryz.prog 137 #[ksV k, .int .i64 (i : Int)] w fun e w' => e = .returned (.int .i64 (ckMt pool m (l.take i) : Int)) ∧ Fr no w w' := by
  obtain ⟨kn, ks, ⟨kpa, kpn, kpc⟩, ⟨kfa, kfn, kfc⟩, ⟨kma, kmn, kmc⟩⟩ := k
  simp only [] at hp hl
  have hil : i < l.length := (List.getElem?_eq_some_iff.1 hi).1
  have hils : i < ls.length := by rw [ha.1]; exact hil
  obtain ⟨s, hs⟩ : ∃ s, ls[i]? = some s := ⟨_, List.getElem?_eq_getElem hils⟩
  have HM : Hid (MtAt w s m) := ha.2 i s m hs hi
  have HANY : Hid (((ls.take i).any fun y => decide (y.name = m.name)) = (l.take i).any fun y => decide (y.name = m.name)) := (ha.take i).any m.name
  have HP : Hid (SlG elCs w (.slice kpa kpn kpc) pool) := hp
  obtain ⟨pa, pc, ca, cc, ha3, hc, rfl, ⟨hq1, hq2⟩, -, -⟩ := HM.out.open3
  have hpI := HM.out.p
  simp only [] at hpI
  obtain ⟨ad2, cp2, q2, -, -, hpI⟩ := hpI
  simp only [Value.slice.injEq, true_and] at q2
  obtain ⟨rfl, rfl⟩ := q2
  obtain ⟨ad1, cp1, q1, hk1, hk2, hlI⟩ := hl
  simp only [Value.slice.injEq] at q1
  obtain ⟨rfl, rfl, rfl⟩ := q1
  have HPI : Hid (∀ (j : Nat) (t : Ty), m.params[j]? = some t → ∃ b off, pa = some ⟨b, off, none⟩ ∧ w.cell? ⟨b, off + j * 2, none⟩ = some (.int .i64 t.k) ∧ w.cell? ⟨b, off + j * 2 + 1, none⟩ = some (.string t.c)) := fun j t ht => by
    obtain ⟨b, off, e, hj⟩ := hpI j t ht
    exact ⟨b, off, e, hj 0 _ rfl, hj 1 _ rfl⟩
  obtain ⟨lb, lo, rfl, hj⟩ := hlI i _ hs
  have e0' : w.cell? ⟨lb, lo + i * 8, none⟩ = some (.string m.name) := hj 0 _ rfl
  have e1' : w.cell? ⟨lb, lo + i * 8 + 1, none⟩ = some (.slice pa m.params.length pc) := hj 1 _ rfl
  have e2' : w.cell? ⟨lb, lo + i * 8 + 2, none⟩ = some (.int .i64 m.ret.k) := hj 2 _ rfl
  have e3' : w.cell? ⟨lb, lo + i * 8 + 3, none⟩ = some (.string m.ret.c) := hj 3 _ rfl
  have e4' : w.cell? ⟨lb, lo + i * 8 + 4, none⟩ = some (.int .i64 m.lo) := hj 4 _ rfl
  have e5' : w.cell? ⟨lb, lo + i * 8 + 5, none⟩ = some (.int .i64 m.st) := hj 5 _ rfl
  have e6' : w.cell? ⟨lb, lo + i * 8 + 6, none⟩ = some (.slice ca m.code.length cc) := hj 6 _ rfl
  have e7' : w.cell? ⟨lb, lo + i * 8 + 7, none⟩ = some (.slice ha3 m.hands.length hc) := hj 7 _ rfl
  have HLI : Hid (∀ (j : Nat) (y : Ms), ls[j]? = some y → w.cell? ⟨lb, lo + j * 8, none⟩ = some (.string y.name)) := fun j y hy => by
    obtain ⟨b, off, e, hj⟩ := hlI j y hy
    simp only [Option.some.injEq, Addr.mk.injEq, and_true] at e
    obtain ⟨rfl, rfl⟩ := e
    exact hj 0 _ rfl
  clear hpI hlI hj hs hi hp ha hil
  unfold maxLen at hk2 hq2
  unfold ksV
  simp only []
  have hit : (i : Int) < (ls.length : Int) := by omega
  have s0 := size_alloc w (.cells #[.string kn, .string ks, .slice kpa kpn kpc, .slice kfa kfn kfc, .slice (some ⟨lb, lo, none⟩) ls.length kmc] 28)
  have b0 := heap_alloc_new w (.cells #[.string kn, .string ks, .slice kpa kpn kpc, .slice kfa kfn kfc, .slice (some ⟨lb, lo, none⟩) ls.length kmc] 28)
  have f0 : Fr no w (w.alloc (.cells #[.string kn, .string ks, .slice kpa kpn kpc, .slice kfa kfn kfc, .slice (some ⟨lb, lo, none⟩) ls.length kmc] 28)) := (Fr.refl no w).alloc _ _
  generalize hW0 : w.alloc (.cells #[.string kn, .string ks, .slice kpa kpn kpc, .slice kfa kfn kfc, .slice (some ⟨lb, lo, none⟩) ls.length kmc] 28) = W0 at *
  have b1 := heap_alloc_new W0 (.cells #[.string m.name, .slice pa m.params.length pc, .int .i64 m.ret.k, .string m.ret.c, .int .i64 m.lo, .int .i64 m.st, .slice ca m.code.length cc, .slice ha3 m.hands.length hc] 53)
  have f1 : Fr no W0 (W0.alloc (.cells #[.string m.name, .slice pa m.params.length pc, .int .i64 m.ret.k, .string m.ret.c, .int .i64 m.lo, .int .i64 m.st, .slice ca m.code.length cc, .slice ha3 m.hands.length hc] 53)) := (Fr.refl no W0).alloc _ _
  rw [s0] at b1
  have b0' := f1.heap b0 (fun f => f)
  have NM := docName_any (W0.alloc (.cells #[.string m.name, .slice pa m.params.length pc, .int .i64 m.ret.k, .string m.ret.c, .int .i64 m.lo, .int .i64 m.st, .slice ca m.code.length cc, .slice ha3 m.hands.length hc] 53)) m.name hf.name
  have HW : Hid (Fr no w (W0.alloc (.cells #[.string m.name, .slice pa m.params.length pc, .int .i64 m.ret.k, .string m.ret.c, .int .i64 m.lo, .int .i64 m.st, .slice ca m.code.length cc, .slice ha3 m.hands.length hc] 53))) := f0.new f1 (fun _ _ f => f)
  have HB : Hid (∀ w1, Fr no (W0.alloc (.cells #[.string m.name, .slice pa m.params.length pc, .int .i64 m.ret.k, .string m.ret.c, .int .i64 m.lo, .int .i64 m.st, .slice ca m.code.length cc, .slice ha3 m.hands.length hc] 53)) w1 → w1.cell? ⟨w.heap.size, 4, none⟩ = some (.slice (some ⟨lb, lo, none⟩) ls.length kmc) ∧ w1.heap[w.heap.size]? = some (.cells #[.string kn, .string ks, .slice kpa kpn kpc, .slice kfa kfn kfc, .slice (some ⟨lb, lo, none⟩) ls.length kmc] 28 (0, 0)) ∧ w1.heap[w.heap.size + 1]? = some (.cells #[.string m.name, .slice pa m.params.length pc, .int .i64 m.ret.k, .string m.ret.c, .int .i64 m.lo, .int .i64 m.st, .slice ca m.code.length cc, .slice ha3 m.hands.length hc] 53 (0, 0))) := fun w1 g => by
    have x := box5 (g.heap b0' (fun f => f))
    exact ⟨x.2.2.2.2, g.heap b0' (fun f => f), g.heap b1 (fun f => f)⟩
  have e0 := f0.cell e0' (fun f => f)
  have e1 := f0.cell e1' (fun f => f)
  have e2 := f0.cell e2' (fun f => f)
  have e3 := f0.cell e3' (fun f => f)
  have e4 := f0.cell e4' (fun f => f)
  have e5 := f0.cell e5' (fun f => f)
  have e6 := f0.cell e6' (fun f => f)
  have e7 := f0.cell e7' (fun f => f)
  obtain ⟨B0, B1, B2, B3, B4⟩ := box5 b0
  clear b0 b0' b1 f0 f1 e0' e1' e2' e3' e4' e5' e6' e7'
  have HFC : Hid (ckMt pool m (l.take i) = if ckFace m (l.take i) ≠ 0 then ckFace m (l.take i) else ckBody pool m) := rfl
  have HFA : Hid (ckFace m (l.take i) = if isName m.name = true then
    (if eachE 6 ckTy m.params ≠ 0 then eachE 6 ckTy m.params
     else if isType m.ret true = true then (if (l.take i).any (fun y => decide (y.name = m.name)) = true then 53 else 0) else 50)
  else 50) := rfl
  have HBAD : Hid (∀ e, e ≠ 0 → ckFace m (l.take i) = e → ckMt pool m (l.take i) = e) := fun e he e1 => by rw [HFC.out, e1, if_pos he]
  rcases Bool.eq_false_or_eq_true (isName m.name) with hn | hn
  · rw [hn] at NM
    rw [if_pos hn] at HFA
    clear hn
    by_cases h6 : 6 < m.params.length
    · have h6' : 6 < (m.params.length : Int) := by omega
      have HE : Hid (ckMt pool m (l.take i) = 32) := HBAD.out 32 (by decide) (by
        rw [HFA.out, show eachE 6 ckTy m.params = 32 by unfold eachE; rw [if_pos h6], if_pos (by decide)])
      go_enter Tryz.func137, Tryz.ntmps137
      go_wp2_with fail
      refine NM.mono ?_
      rintro e w1 ⟨rfl, rfl⟩
      clear e0 e1 e2 e3 e4 e5 e6 e7 B0 B1 B2 B3 B4 NM
      generalize hW1 : W0.alloc (.cells #[.string m.name, .slice pa m.params.length pc, .int .i64 m.ret.k, .string m.ret.c, .int .i64 m.lo, .int .i64 m.st, .slice ca m.code.length cc, .slice ha3 m.hands.length hc] 53) = W at *
      clear hW0 hW1
      obtain ⟨D0, -, hbM⟩ := HB.out W (Fr.refl no _)
      obtain ⟨C0, C1, C2, C3, C4, C5, C6, C7⟩ := box8 hbM
      clear hbM
      go_wp2_with fail
      go_ret
      rw [HE.out]
      exact ⟨rfl, HW.out⟩
    · have h6' : ¬ 6 < (m.params.length : Int) := by omega
      rw [show eachE 6 ckTy m.params = firstE ckTy [] m.params by unfold eachE; rw [if_neg h6]] at HFA
      go_enter Tryz.func137, Tryz.ntmps137
      go_wp2_with fail
      refine NM.mono ?_
      rintro e w1 ⟨rfl, rfl⟩
      clear e0 e1 e2 e3 e4 e5 e6 e7 B0 B1 B2 B3 B4 NM
      generalize hW1 : W0.alloc (.cells #[.string m.name, .slice pa m.params.length pc, .int .i64 m.ret.k, .string m.ret.c, .int .i64 m.lo, .int .i64 m.st, .slice ca m.code.length cc, .slice ha3 m.hands.length hc] 53) = W at *
      clear hW0 hW1
      obtain ⟨D0, -, hbM⟩ := HB.out W (Fr.refl no _)
      obtain ⟨C0, C1, C2, C3, C4, C5, C6, C7⟩ := box8 hbM
      clear hbM
      go_wp2_with fail
      clear C0 C1 C2 C3 C4 C5 C6 C7 D0
      go_loopw [6] (fun i wr => ∃ (j : Nat), i = .int .i64 (j : Int) ∧ j ≤ m.params.length ∧ Fr no W wr ∧ firstE ckTy (m.params.take j) (m.params.drop j) = firstE ckTy [] m.params) (fun i _ => m.params.length - (intOf i).toNat)
      case atStart => exact ⟨0, rfl, Nat.zero_le _, Fr.refl no _, rfl⟩
      case round =>
        obtain ⟨j, rfl, hj, hw, hF⟩ := hrel
        obtain ⟨D0, -, hbM⟩ := HB.out wr hw
        obtain ⟨C0, C1, C2, C3, C4, C5, C6, C7⟩ := box8 hbM
        clear hbM
        by_cases hlt : j < m.params.length
        · obtain ⟨⟨tk, tc⟩, hx⟩ : ∃ x, m.params[j]? = some x := ⟨_, List.getElem?_eq_getElem hlt⟩
          obtain ⟨b, off, rfl, c0', c1'⟩ := HPI.out j _ hx
          have c0 := (HW.out.new hw (fun _ _ f => f)).cell c0' (fun f => f)
          have c1 := (HW.out.new hw (fun _ _ f => f)).cell c1' (fun f => f)
          simp only [] at c0 c1
          have HN : Hid (firstE ckTy [] m.params = if ckTy ⟨tk, tc⟩ (m.params.take j) ≠ 0 then ckTy ⟨tk, tc⟩ (m.params.take j) else firstE ckTy (m.params.take (j + 1)) (m.params.drop (j + 1))) := first_next ckTy m.params j _ hx hF
          have HV : Hid (ckTy ⟨tk, tc⟩ (m.params.take j) = if isType ⟨tk, tc⟩ false = true then 0 else 50) := rfl
          have TT := docType_any wr ⟨tk, tc⟩ false (hf.params _ (List.mem_of_getElem? hx))
          unfold tyV at TT
          simp only [] at TT
          clear c0' c1' hx hF
          rcases Bool.eq_false_or_eq_true (isType ⟨tk, tc⟩ false) with ht | ht
          · rw [ht] at TT
            have HST : Hid (firstE ckTy (m.params.take (j + 1)) (m.params.drop (j + 1)) = firstE ckTy [] m.params) := by
              show _ = _
              rw [HN.out, HV.out, if_pos ht, if_neg (by simp)]
            clear ht
            go_wp2_with fail
            refine TT.mono ?_
            rintro e w2 ⟨rfl, f2⟩
            go_wp2_with fail
            go_roundw
            case rel => exact ⟨j + 1, by go_num, by omega, hw.new f2 (fun _ _ f => f), HST.out⟩
            case measure => simp [intOf]; omega
          · have HE : Hid (ckMt pool m (l.take i) = 50) := HBAD.out 50 (by decide) (by
              have hv : ckTy ⟨tk, tc⟩ (m.params.take j) = 50 := by rw [HV.out, if_neg (by rw [ht]; simp)]
              have hz : firstE ckTy [] m.params = 50 := by rw [HN.out, hv, if_pos (by decide)]
              rw [HFA.out, hz, if_pos (by decide)])
            rw [ht] at TT
            clear ht
            go_wp2_with fail
            refine TT.mono ?_
            rintro e w2 ⟨rfl, f2⟩
            go_wp2_with fail
            go_ret
            rw [HE.out]
            exact ⟨rfl, (HW.out.new hw (fun _ _ f => f)).new f2 (fun _ _ f => f)⟩
        · obtain rfl : j = m.params.length := by omega
          rw [show firstE ckTy [] m.params = 0 by rw [← hF, List.drop_length]; rfl, if_neg (by simp)] at HFA
          have TT := docType_any wr m.ret true hf.ret
          unfold tyV at TT
          clear hF
          rcases Bool.eq_false_or_eq_true (isType m.ret true) with ht | ht
          · rw [ht] at TT
            rw [if_pos ht] at HFA
            clear ht
            go_wp2_with fail
            refine TT.mono ?_
            rintro e w2 ⟨rfl, f2⟩
            have hw2 := hw.new f2 (fun _ _ f => f)
            clear hw f2 TT C0 C1 C2 C3 C4 C5 C6 C7 D0
            go_wp2_with fail
            go_loopw [7] (fun x wr => ∃ (j : Nat), x = .int .i64 (j : Int) ∧ j ≤ i ∧ Fr no W wr ∧ ((ls.take j).any fun y => decide (y.name = m.name)) = false) (fun x _ => i - (intOf x).toNat)
            case atStart => exact ⟨0, rfl, Nat.zero_le _, hw2, rfl⟩
            case round =>
              clear hw2
              obtain ⟨j, rfl, hj, hw, hF⟩ := hrel
              obtain ⟨D0, hbK, hbM⟩ := HB.out wr hw
              obtain ⟨C0, C1, C2, C3, C4, C5, C6, C7⟩ := box8 hbM
              by_cases hlt : j < i
              · obtain ⟨y, hy⟩ : ∃ y, ls[j]? = some y := ⟨_, List.getElem?_eq_getElem (by omega)⟩
                have c0 := (HW.out.new hw (fun _ _ f => f)).cell (HLI.out j y hy) (fun f => f)
                have HY : Hid (ls[j]? = some y) := hy
                have hjt : (j : Int) < (ls.length : Int) := by omega
                clear hy hbK hbM
                by_cases he : y.name = m.name
                · have hq := text_eq he
                  have HE : Hid (ckMt pool m (l.take i) = 53) := HBAD.out 53 (by decide) (by
                    have : ((l.take i).any fun y => decide (y.name = m.name)) = true := by
                      rw [← HANY.out]
                      exact List.any_eq_true.2 ⟨y, List.mem_of_getElem? (by rw [List.getElem?_take_of_lt hlt]; exact HY.out), decide_eq_true he⟩
                    rw [HFA.out, if_pos this])
                  clear he hF
                  go_wp2_with fail
                  go_quiet (fail)
                  go_wp2_with fail
                  go_ret
                  rw [HE.out]
                  exact ⟨rfl, HW.out.new (hw.drewN _) (fun _ _ f => f)⟩
                · have hq := text_ne he
                  have HST : Hid (((ls.take (j + 1)).any fun y => decide (y.name = m.name)) = false) := by
                    show _ = _
                    rw [take_next ls j y HY.out, List.any_append, hF]
                    simp [he]
                  clear he hF
                  go_wp2_with fail
                  go_quiet (fail)
                  go_wp2_with fail
                  go_roundw
                  case rel => exact ⟨j + 1, by go_num, by omega, hw.drewN _, HST.out⟩
                  case measure => simp [intOf]; omega
              · obtain rfl : j = i := by omega
                have HZ : Hid (ckMt pool m (l.take j) = ckBody pool m) := by
                  show _ = _
                  have hface : ckFace m (l.take j) = 0 := by rw [HFA.out, ← HANY.out, hF]; rfl
                  rw [HFC.out, hface, if_neg (by simp)]
                have HBY : Hid (ckBody pool m = if 1 + (m.params.length : Int) ≤ m.lo ∧ m.lo ≤ 32 ∧ 0 ≤ m.st ∧ m.st ≤ 64 then ckCode pool m else 32) := ckBody_eq pool m
                have CO := docCode_any wr ⟨kn, ks, ⟨kpa, kpn, kpc⟩, ⟨kfa, kfn, kfc⟩, ⟨some ⟨lb, lo, none⟩, ls.length, kmc⟩⟩ pool (HP.out.kept (HW.out.new hw (fun _ _ f => f))) _ m (HM.out.kept (HW.out.new hw (fun _ _ f => f)))
                unfold ksV msV at CO
                simp only [] at CO
                obtain ⟨K0, K1, K2, K3, K4⟩ := box5 hbK
                clear hF hbK hbM HM HP
                by_cases t1 : m.lo < 1 + (m.params.length : Int)
                · have HE : Hid (ckMt pool m (l.take j) = 32) := by show _ = _; rw [HZ.out, HBY.out, if_neg (by omega)]
                  go_wp2_with fail
                  go_ret
                  rw [HE.out]
                  exact ⟨rfl, HW.out.new hw (fun _ _ f => f)⟩
                by_cases t2 : 32 < m.lo
                · have HE : Hid (ckMt pool m (l.take j) = 32) := by show _ = _; rw [HZ.out, HBY.out, if_neg (by omega)]
                  go_wp2_with fail
                  go_ret
                  rw [HE.out]
                  exact ⟨rfl, HW.out.new hw (fun _ _ f => f)⟩
                by_cases t3 : m.st < 0
                · have HE : Hid (ckMt pool m (l.take j) = 32) := by show _ = _; rw [HZ.out, HBY.out, if_neg (by omega)]
                  go_wp2_with fail
                  go_ret
                  rw [HE.out]
                  exact ⟨rfl, HW.out.new hw (fun _ _ f => f)⟩
                by_cases t4 : 64 < m.st
                · have HE : Hid (ckMt pool m (l.take j) = 32) := by show _ = _; rw [HZ.out, HBY.out, if_neg (by omega)]
                  go_wp2_with fail
                  go_ret
                  rw [HE.out]
                  exact ⟨rfl, HW.out.new hw (fun _ _ f => f)⟩
                rw [if_pos (by omega)] at HBY
                go_wp2_with fail
                refine CO.mono ?_
                rintro e w2 ⟨rfl, f2⟩
                go_wp2_with fail
                go_ret
                rw [HZ.out, HBY.out]
                exact ⟨rfl, (HW.out.new hw (fun _ _ f => f)).new f2 (fun _ _ f => f)⟩
          · have HE : Hid (ckMt pool m (l.take i) = 50) := HBAD.out 50 (by decide) (by rw [HFA.out, if_neg (by rw [ht]; simp)])
            rw [ht] at TT
            clear ht
            go_wp2_with fail
            refine TT.mono ?_
            rintro e w2 ⟨rfl, f2⟩
            go_wp2_with fail
            go_ret
            rw [HE.out]
            exact ⟨rfl, (HW.out.new hw (fun _ _ f => f)).new f2 (fun _ _ f => f)⟩
  · have HE : Hid (ckMt pool m (l.take i) = 50) := HBAD.out 50 (by decide) (by rw [HFA.out, if_neg (by rw [hn]; simp)])
    rw [hn] at NM
    clear hn
    go_enter Tryz.func137, Tryz.ntmps137
    go_wp2_with fail
    refine NM.mono ?_
    rintro e w1 ⟨rfl, rfl⟩
    go_wp2_with fail
    go_ret
    rw [HE.out]
    exact ⟨rfl, HW.out⟩
end Go.Proofs.YthncdbobjeeeaaaGreatDoor

/- What Check asks: the document's answers. -/
namespace Go.Proofs.YthncdbobjeeeaaaGreatDoor
open Go.ChangeShapes Go.WideShapes Go.ChangeAt Go.RowKit

set_option maxRecDepth 100000 in
set_option maxHeartbeats 8000000 in
theorem docCheck_any (w : World) (k : Ks) (c : Cl) (hk : ClAt w k c) (hf : FitC c) : Calls Tryz.prog 81 #[ksV k] w fun e w' => e = .returned (.int .i64 (chk c : Int)) ∧ Fr no w w' := by
  obtain ⟨kn, ks, ⟨pa, pn, pc⟩, ⟨fa, fn, fc⟩, ⟨ma, mn, mc⟩⟩ := k
  obtain ⟨h1, h2, hp, hfl, ls, hm, ham⟩ := hk
  simp only [] at h1 h2 hp hfl hm
  subst h1 h2
  have HP : Hid (SlG elCs w (.slice pa pn pc) c.pool) := hp
  have HM : Hid (SlG elMs w (.slice ma mn mc) ls) := hm
  have HAM : Hid (AtAll w ls c.methods) := ham
  have HLL : Hid (ls.length = c.methods.length) := ham.1
  obtain ⟨ad1, cp1, q1, hk1, hk2, hpI⟩ := hp
  simp only [Value.slice.injEq] at q1
  obtain ⟨rfl, rfl, rfl⟩ := q1
  obtain ⟨ad2, cp2, q2, hk3, hk4, hfI⟩ := hfl
  simp only [Value.slice.injEq] at q2
  obtain ⟨rfl, rfl, rfl⟩ := q2
  obtain ⟨ad3, cp3, q3, hk5, hk6, -⟩ := hm
  simp only [Value.slice.injEq] at q3
  obtain ⟨rfl, rfl, rfl⟩ := q3
  have HPI : Hid (∀ (i : Nat) (x : Cs), c.pool[i]? = some x → ∃ b off, pa = some ⟨b, off, none⟩ ∧ w.cell? ⟨b, off + i * 5, none⟩ = some (.int .i64 x.k) ∧ w.cell? ⟨b, off + i * 5 + 1, none⟩ = some (.int .i64 x.n) ∧ w.cell? ⟨b, off + i * 5 + 2, none⟩ = some (.complex .f64 x.re x.im) ∧ w.cell? ⟨b, off + i * 5 + 3, none⟩ = some (.string x.c) ∧ w.cell? ⟨b, off + i * 5 + 4, none⟩ = some (.string x.m)) := fun i x hx => by
    obtain ⟨b, off, e, hj⟩ := hpI i x hx
    exact ⟨b, off, e, hj 0 _ rfl, hj 1 _ rfl, hj 2 _ rfl, hj 3 _ rfl, hj 4 _ rfl⟩
  have HFI : Hid (∀ (i : Nat) (x : Fd), c.fields[i]? = some x → ∃ b off, fa = some ⟨b, off, none⟩ ∧ w.cell? ⟨b, off + i * 4, none⟩ = some (.string x.name) ∧ w.cell? ⟨b, off + i * 4 + 1, none⟩ = some (.int .i64 x.ty.k) ∧ w.cell? ⟨b, off + i * 4 + 2, none⟩ = some (.string x.ty.c)) := fun i x hx => by
    obtain ⟨b, off, e, hj⟩ := hfI i x hx
    exact ⟨b, off, e, hj 0 _ rfl, hj 1 _ rfl, hj 2 _ rfl⟩
  clear hpI hfI ham
  unfold maxLen at hk2 hk4 hk6
  unfold ksV
  simp only []
  have b0 := heap_alloc_new w (.cells #[.string c.name, .string c.super, .slice pa c.pool.length pc, .slice fa c.fields.length fc, .slice ma ls.length mc] 28)
  have HW : Hid (Fr no w (w.alloc (.cells #[.string c.name, .string c.super, .slice pa c.pool.length pc, .slice fa c.fields.length fc, .slice ma ls.length mc] 28))) := (Fr.refl no w).alloc _ _
  generalize hW0 : w.alloc (.cells #[.string c.name, .string c.super, .slice pa c.pool.length pc, .slice fa c.fields.length fc, .slice ma ls.length mc] 28) = W at *
  have HB : Hid (∀ w1, Fr no W w1 → w1.cell? ⟨w.heap.size, 0, none⟩ = some (.string c.name) ∧ w1.cell? ⟨w.heap.size, 1, none⟩ = some (.string c.super) ∧ w1.cell? ⟨w.heap.size, 2, none⟩ = some (.slice pa c.pool.length pc) ∧ w1.cell? ⟨w.heap.size, 3, none⟩ = some (.slice fa c.fields.length fc) ∧ w1.cell? ⟨w.heap.size, 4, none⟩ = some (.slice ma ls.length mc)) := fun w1 g => box5 (g.heap b0 (fun f => f))
  obtain ⟨B0, B1, B2, B3, B4⟩ := HB.out W (Fr.refl no _)
  clear b0
  have NN := docName_any W c.name hf.name
  have NS := docName_any W c.super hf.super
  have HC : Hid (chk c = if isName c.name = true ∧ (c.super = e0 ∨ isName c.super = true) then
    (if eachE 128 (fun x _ => ckCs x) c.pool ≠ 0 then eachE 128 (fun x _ => ckCs x) c.pool
     else if eachE 8 ckFd c.fields ≠ 0 then eachE 8 ckFd c.fields
     else eachE 12 (ckMt c.pool) c.methods)
  else 50) := rfl
  rcases Bool.eq_false_or_eq_true (isName c.name) with hn | hn
  case inr =>
    have HE : Hid (chk c = 50) := by show _ = _; rw [HC.out, if_neg (fun e => by rw [hn] at e; simp at e)]
    rw [hn] at NN
    clear hn
    go_enter Tryz.func81, Tryz.ntmps81
    go_wp2_with fail
    refine NN.mono ?_
    rintro e w1 ⟨rfl, h1⟩
    replace h1 := h1.symm
    subst h1
    go_wp2_with fail
    go_ret
    rw [HE.out]
    exact ⟨rfl, HW.out⟩
  have GO : Hid (isName c.super = true ∨ c.super = e0 → chk c = (if eachE 128 (fun x _ => ckCs x) c.pool ≠ 0 then eachE 128 (fun x _ => ckCs x) c.pool
     else if eachE 8 ckFd c.fields ≠ 0 then eachE 8 ckFd c.fields
     else eachE 12 (ckMt c.pool) c.methods)) := fun h => by rw [HC.out, if_pos ⟨hn, h.symm⟩]
  have hn0 := hn
  rw [hn] at NN
  clear hn
  by_cases hs0 : c.super = e0
  · have HC2 := GO.out (.inr hs0)
    have HC2 : Hid _ := HC2
    have q3 := emp_eq c.super hs0
    have q3b : c.super.toList.isEmpty = true := by rw [q3]; rfl
    clear hs0 HC GO NS hn0
    go_enter Tryz.func81, Tryz.ntmps81
    go_wp2_with fail
    refine NN.mono ?_
    rintro e w1 ⟨rfl, h1⟩
    replace h1 := h1.symm
    subst h1
    clear NN
    by_cases h128 : 128 < c.pool.length
    · have h128' : 128 < (c.pool.length : Int) := by omega
      have HE : Hid (chk c = 32) := by
        show _ = _
        rw [HC2.out, show eachE 128 (fun x _ => ckCs x) c.pool = 32 by unfold eachE; rw [if_pos h128], if_pos (by decide)]
      go_wp2_with fail
      go_ret
      rw [HE.out]
      exact ⟨rfl, HW.out⟩
    have h128' : ¬ 128 < (c.pool.length : Int) := by omega
    rw [show eachE 128 (fun x _ => ckCs x) c.pool = firstE (fun x _ => ckCs x) [] c.pool by unfold eachE; rw [if_neg h128]] at HC2
    go_wp2_with fail
    clear B0 B1 B2 B3 B4 hW0 q3 q3b
    go_loopw [3] (fun i wr => ∃ (j : Nat), i = .int .i64 (j : Int) ∧ j ≤ c.pool.length ∧ Fr no W wr ∧ firstE (fun x _ => ckCs x) (c.pool.take j) (c.pool.drop j) = firstE (fun x _ => ckCs x) [] c.pool) (fun i _ => c.pool.length - (intOf i).toNat)
    case atStart => exact ⟨0, rfl, Nat.zero_le _, Fr.refl no _, rfl⟩
    case round =>
      obtain ⟨j, rfl, hj, hw, hF⟩ := hrel
      obtain ⟨B0, B1, B2, B3, B4⟩ := HB.out wr hw
      by_cases hlt : j < c.pool.length
      · obtain ⟨x, hx⟩ : ∃ x, c.pool[j]? = some x := ⟨_, List.getElem?_eq_getElem hlt⟩
        obtain ⟨b, off, rfl, c0', c1', c2', c3', c4'⟩ := HPI.out j _ hx
        have f0 := HW.out.new hw (fun _ _ f => f)
        have c0 := f0.cell c0' (fun f => f)
        have c1 := f0.cell c1' (fun f => f)
        have c2 := f0.cell c2' (fun f => f)
        have c3 := f0.cell c3' (fun f => f)
        have c4 := f0.cell c4' (fun f => f)
        have HN : Hid (firstE (fun x _ => ckCs x) [] c.pool = if ckCs x ≠ 0 then ckCs x else firstE (fun x _ => ckCs x) (c.pool.take (j + 1)) (c.pool.drop (j + 1))) := first_next (fun x _ => ckCs x) c.pool j x hx hF
        have A := docConst_any wr x (hf.pool x (List.mem_of_getElem? hx)).1 (hf.pool x (List.mem_of_getElem? hx)).2
        unfold csV at A
        clear c0' c1' c2' c3' c4' f0 hx hF
        generalize ckCs x = err at *
        by_cases he : err = 0
        · subst he
          have HST : Hid (firstE (fun x _ => ckCs x) (c.pool.take (j + 1)) (c.pool.drop (j + 1)) = firstE (fun x _ => ckCs x) [] c.pool) := by show _ = _; rw [HN.out, if_neg (by simp)]
          go_wp2_with fail
          refine A.mono ?_
          rintro e w2 ⟨rfl, f2⟩
          go_wp2_with fail
          go_roundw
          case rel => exact ⟨j + 1, by go_num, by omega, hw.new f2 (fun _ _ f => f), HST.out⟩
          case measure => simp [intOf]; omega
        · have he1 : ((err : Int) == 0) = false := by simp; omega
          have he2 : ((err : Int) != 0) = true := by simp; omega
          have HE : Hid (chk c = err) := by
            have hz : firstE (fun x _ => ckCs x) [] c.pool = err := by rw [HN.out, if_pos he]
            show _ = _
            rw [HC2.out, hz, if_pos he]
          go_wp2_with fail
          refine A.mono ?_
          rintro e w2 ⟨rfl, f2⟩
          go_wp2_with fail
          go_ret
          rw [HE.out]
          exact ⟨rfl, (HW.out.new hw (fun _ _ f => f)).new f2 (fun _ _ f => f)⟩
      · obtain rfl : j = c.pool.length := by omega
        rw [show firstE (fun x _ => ckCs x) [] c.pool = 0 by rw [← hF, List.drop_length]; rfl, if_neg (by simp)] at HC2
        clear hF
        by_cases h8 : 8 < c.fields.length
        · have h8' : 8 < (c.fields.length : Int) := by omega
          have HE : Hid (chk c = 32) := by
            show _ = _
            rw [HC2.out, show eachE 8 ckFd c.fields = 32 by unfold eachE; rw [if_pos h8], if_pos (by decide)]
          go_wp2_with fail
          go_ret
          rw [HE.out]
          exact ⟨rfl, HW.out.new hw (fun _ _ f => f)⟩
        have h8' : ¬ 8 < (c.fields.length : Int) := by omega
        rw [show eachE 8 ckFd c.fields = firstE ckFd [] c.fields by unfold eachE; rw [if_neg h8]] at HC2
        go_wp2_with fail
        clear B0 B1 B2 B3 B4
        go_loopw [5] (fun i wr => ∃ (j : Nat), i = .int .i64 (j : Int) ∧ j ≤ c.fields.length ∧ Fr no W wr ∧ firstE ckFd (c.fields.take j) (c.fields.drop j) = firstE ckFd [] c.fields) (fun i _ => c.fields.length - (intOf i).toNat)
        case atStart => exact ⟨0, rfl, Nat.zero_le _, hw, rfl⟩
        case round =>
          clear hw
          obtain ⟨j, rfl, hj, hw, hF⟩ := hrel
          obtain ⟨B0, B1, B2, B3, B4⟩ := HB.out wr hw
          by_cases hlt : j < c.fields.length
          · obtain ⟨⟨fnm, ⟨tk, tc⟩, fv⟩, hx⟩ : ∃ x, c.fields[j]? = some x := ⟨_, List.getElem?_eq_getElem hlt⟩
            obtain ⟨b, off, rfl, c0', c1', c2'⟩ := HFI.out j _ hx
            have HFJ : Hid (∀ (i : Nat) (x : Fd), c.fields[i]? = some x → w.cell? ⟨b, off + i * 4, none⟩ = some (.string x.name)) := fun i x hxi => by
              obtain ⟨b', off', e, h0, _⟩ := HFI.out i x hxi
              simp only [Option.some.injEq, Addr.mk.injEq, and_true] at e
              obtain ⟨rfl, rfl⟩ := e
              exact h0
            have f0 := HW.out.new hw (fun _ _ f => f)
            have c0 := f0.cell c0' (fun f => f)
            have c1 := f0.cell c1' (fun f => f)
            have c2 := f0.cell c2' (fun f => f)
            simp only [] at c0 c1 c2
            have HN : Hid (firstE ckFd [] c.fields = if ckFd ⟨fnm, ⟨tk, tc⟩, fv⟩ (c.fields.take j) ≠ 0 then ckFd ⟨fnm, ⟨tk, tc⟩, fv⟩ (c.fields.take j) else firstE ckFd (c.fields.take (j + 1)) (c.fields.drop (j + 1))) := first_next ckFd c.fields j _ hx hF
            have HV : Hid (ckFd ⟨fnm, ⟨tk, tc⟩, fv⟩ (c.fields.take j) = if isName fnm = true ∧ isType ⟨tk, tc⟩ false = true then (if (c.fields.take j).any (fun y => decide (y.name = fnm)) = true then 53 else 0) else 50) := rfl
            have HBAD : Hid (∀ e, e ≠ 0 → ckFd ⟨fnm, ⟨tk, tc⟩, fv⟩ (c.fields.take j) = e → chk c = e) := fun e he e1 => by
              have hz : firstE ckFd [] c.fields = e := by rw [HN.out, e1, if_pos he]
              rw [HC2.out, hz, if_pos he]
            have HST : Hid (ckFd ⟨fnm, ⟨tk, tc⟩, fv⟩ (c.fields.take j) = 0 → firstE ckFd (c.fields.take (j + 1)) (c.fields.drop (j + 1)) = firstE ckFd [] c.fields) := fun e => by rw [HN.out, e, if_neg (by simp)]
            have A := docName_any wr fnm (hf.fields _ (List.mem_of_getElem? hx)).1
            have T := docType_any wr ⟨tk, tc⟩ false (hf.fields _ (List.mem_of_getElem? hx)).2
            unfold tyV at T
            simp only [] at T
            have HX : Hid (c.fields[j]? = some ⟨fnm, ⟨tk, tc⟩, fv⟩) := hx
            clear c0' c1' c2' f0 hx hF
            rcases Bool.eq_false_or_eq_true (isName fnm) with hna | hna
            case inr =>
              have HE : Hid (chk c = 50) := HBAD.out 50 (by decide) (by rw [HV.out, if_neg (fun e => by rw [hna] at e; simp at e)])
              rw [hna] at A
              clear hna
              go_wp2_with fail
              refine A.mono ?_
              rintro e w2 ⟨rfl, rfl⟩
              go_wp2_with fail
              go_ret
              rw [HE.out]
              exact ⟨rfl, HW.out.new hw (fun _ _ f => f)⟩
            rcases Bool.eq_false_or_eq_true (isType ⟨tk, tc⟩ false) with hty | hty
            case inr =>
              have HE : Hid (chk c = 50) := HBAD.out 50 (by decide) (by rw [HV.out, if_neg (fun e => by rw [hty] at e; simp at e)])
              rw [hna] at A
              rw [hty] at T
              clear hna hty
              go_wp2_with fail
              refine A.mono ?_
              rintro e w2 ⟨rfl, rfl⟩
              go_wp2_with fail
              refine T.mono ?_
              rintro e w2 ⟨rfl, f2⟩
              go_wp2_with fail
              go_ret
              rw [HE.out]
              exact ⟨rfl, (HW.out.new hw (fun _ _ f => f)).new f2 (fun _ _ f => f)⟩
            rw [if_pos ⟨hna, hty⟩] at HV
            rw [hna] at A
            rw [hty] at T
            clear hna hty
            go_wp2_with fail
            refine A.mono ?_
            rintro e w2 ⟨rfl, rfl⟩
            go_wp2_with fail
            refine T.mono ?_
            rintro e w2 ⟨rfl, f2⟩
            have hw2 := hw.new f2 (fun _ _ f => f)
            clear A T B0 B1 B2 B3 B4 c0 c1 c2 hw f2
            go_wp2_with fail
            go_loopw [6] (fun x wr => ∃ (i : Nat), x = .int .i64 (i : Int) ∧ i ≤ j ∧ Fr no W wr ∧ ((c.fields.take i).any fun y => decide (y.name = fnm)) = false) (fun x _ => j - (intOf x).toNat)
            case atStart => exact ⟨0, rfl, Nat.zero_le _, hw2, rfl⟩
            case round =>
              clear hw2
              obtain ⟨i, rfl, hi, hw, hF⟩ := hrel
              obtain ⟨B0, B1, B2, B3, B4⟩ := HB.out wr hw
              by_cases hij : i < j
              · obtain ⟨y, hy⟩ : ∃ y, c.fields[i]? = some y := ⟨_, List.getElem?_eq_getElem (by omega)⟩
                have c0 := (HW.out.new hw (fun _ _ f => f)).cell (HFJ.out i y hy) (fun f => f)
                have c1 := (HW.out.new hw (fun _ _ f => f)).cell (HFJ.out j _ HX.out) (fun f => f)
                simp only [] at c1
                have HY : Hid (c.fields[i]? = some y) := hy
                have hit : (i : Int) < (c.fields.length : Int) := by omega
                clear hy
                by_cases he : y.name = fnm
                · have hq := text_eq he
                  have HE : Hid (chk c = 53) := HBAD.out 53 (by decide) (by
                    rw [HV.out, if_pos (List.any_eq_true.2 ⟨y, List.mem_of_getElem? (by rw [List.getElem?_take_of_lt hij]; exact HY.out), decide_eq_true he⟩)])
                  clear he hF
                  go_wp2_with fail
                  go_quiet (fail)
                  go_wp2_with fail
                  go_ret
                  rw [HE.out]
                  exact ⟨rfl, HW.out.new (hw.drewN _) (fun _ _ f => f)⟩
                · have hq := text_ne he
                  have HS2 : Hid (((c.fields.take (i + 1)).any fun y => decide (y.name = fnm)) = false) := by
                    show _ = _
                    rw [take_next c.fields i y HY.out, List.any_append, hF]
                    simp [he]
                  clear he hF
                  go_wp2_with fail
                  go_quiet (fail)
                  go_wp2_with fail
                  go_roundw
                  case rel => exact ⟨i + 1, by go_num, by omega, hw.drewN _, HS2.out⟩
                  case measure => simp [intOf]; omega
              · obtain rfl : i = j := by omega
                have HS2 := HST.out (by rw [HV.out, hF]; simp)
                clear hF
                go_wp2_with fail
                go_roundw
                case rel => exact ⟨i + 1, by go_num, by omega, hw, HS2⟩
                case measure => simp [intOf]; omega
          · obtain rfl : j = c.fields.length := by omega
            rw [show firstE ckFd [] c.fields = 0 by rw [← hF, List.drop_length]; rfl, if_neg (by simp)] at HC2
            clear hF
            by_cases h12 : 12 < ls.length
            · have h12' : 12 < (ls.length : Int) := by omega
              have HE : Hid (chk c = 32) := by
                show _ = _
                rw [HC2.out]
                unfold eachE
                have hll := HLL.out
                rw [if_pos (by omega)]
              go_wp2_with fail
              go_ret
              rw [HE.out]
              exact ⟨rfl, HW.out.new hw (fun _ _ f => f)⟩
            have h12' : ¬ 12 < (ls.length : Int) := by omega
            rw [show eachE 12 (ckMt c.pool) c.methods = firstE (ckMt c.pool) [] c.methods by unfold eachE; have hll := HLL.out; rw [if_neg (by omega)]] at HC2
            go_wp2_with fail
            clear B0 B1 B2 B3 B4
            go_loopw [7] (fun i wr => ∃ (j : Nat), i = .int .i64 (j : Int) ∧ j ≤ ls.length ∧ Fr no W wr ∧ firstE (ckMt c.pool) (c.methods.take j) (c.methods.drop j) = firstE (ckMt c.pool) [] c.methods) (fun i _ => ls.length - (intOf i).toNat)
            case atStart => exact ⟨0, rfl, Nat.zero_le _, hw, rfl⟩
            case round =>
              clear hw
              obtain ⟨j, rfl, hj, hw, hF⟩ := hrel
              obtain ⟨B0, B1, B2, B3, B4⟩ := HB.out wr hw
              by_cases hlt : j < ls.length
              · obtain ⟨x, hx⟩ : ∃ x, c.methods[j]? = some x := ⟨_, List.getElem?_eq_getElem (by have hll := HLL.out; omega)⟩
                have f0 := HW.out.new hw (fun _ _ f => f)
                have HN : Hid (firstE (ckMt c.pool) [] c.methods = if ckMt c.pool x (c.methods.take j) ≠ 0 then ckMt c.pool x (c.methods.take j) else firstE (ckMt c.pool) (c.methods.take (j + 1)) (c.methods.drop (j + 1))) := first_next (ckMt c.pool) c.methods j x hx hF
                have A := docMethod_any wr ⟨c.name, c.super, ⟨pa, c.pool.length, pc⟩, ⟨fa, c.fields.length, fc⟩, ⟨ma, ls.length, mc⟩⟩ c.pool (HP.out.kept f0) ls c.methods (HM.out.kept f0) (HAM.out.kept f0) j x hx (hf.methods x (List.mem_of_getElem? hx))
                unfold ksV at A
                simp only [] at A
                clear f0 hx hF
                generalize ckMt c.pool x (c.methods.take j) = err at *
                by_cases he : err = 0
                · subst he
                  have HST : Hid (firstE (ckMt c.pool) (c.methods.take (j + 1)) (c.methods.drop (j + 1)) = firstE (ckMt c.pool) [] c.methods) := by show _ = _; rw [HN.out, if_neg (by simp)]
                  go_wp2_with fail
                  refine A.mono ?_
                  rintro e w2 ⟨rfl, f2⟩
                  go_wp2_with fail
                  go_roundw
                  case rel => exact ⟨j + 1, by go_num, by omega, hw.new f2 (fun _ _ f => f), HST.out⟩
                  case measure => simp [intOf]; omega
                · have he1 : ((err : Int) == 0) = false := by simp; omega
                  have he2 : ((err : Int) != 0) = true := by simp; omega
                  have HE : Hid (chk c = err) := by
                    have hz : firstE (ckMt c.pool) [] c.methods = err := by rw [HN.out, if_pos he]
                    show _ = _
                    rw [HC2.out, hz]
                  go_wp2_with fail
                  refine A.mono ?_
                  rintro e w2 ⟨rfl, f2⟩
                  go_wp2_with fail
                  go_ret
                  rw [HE.out]
                  exact ⟨rfl, (HW.out.new hw (fun _ _ f => f)).new f2 (fun _ _ f => f)⟩
              · have HE : Hid (chk c = 0) := by
                  show _ = _
                  rw [HC2.out, ← hF, List.drop_eq_nil_of_le (by have hll := HLL.out; omega)]
                  rfl
                go_wp2_with fail
                go_ret
                rw [HE.out]
                exact ⟨rfl, HW.out.new hw (fun _ _ f => f)⟩
  · have q3 := emp_ne c.super hs0
    have q3b := emp_false c.super hs0
    rcases Bool.eq_false_or_eq_true (isName c.super) with hns | hns
    · have HC2 := GO.out (.inl hns)
      have HC2 : Hid _ := HC2
      rw [hns] at NS
      clear hs0 HC GO hn0 hns
      go_enter Tryz.func81, Tryz.ntmps81
      go_wp2_with fail
      refine NN.mono ?_
      rintro e w1 ⟨rfl, h1⟩
      replace h1 := h1.symm
      subst h1
      go_wp2_with fail
      refine NS.mono ?_
      rintro e w1 ⟨rfl, h1⟩
      replace h1 := h1.symm
      subst h1
      clear NN NS
      by_cases h128 : 128 < c.pool.length
      · have h128' : 128 < (c.pool.length : Int) := by omega
        have HE : Hid (chk c = 32) := by
          show _ = _
          rw [HC2.out, show eachE 128 (fun x _ => ckCs x) c.pool = 32 by unfold eachE; rw [if_pos h128], if_pos (by decide)]
        go_wp2_with fail
        go_ret
        rw [HE.out]
        exact ⟨rfl, HW.out⟩
      have h128' : ¬ 128 < (c.pool.length : Int) := by omega
      rw [show eachE 128 (fun x _ => ckCs x) c.pool = firstE (fun x _ => ckCs x) [] c.pool by unfold eachE; rw [if_neg h128]] at HC2
      go_wp2_with fail
      clear B0 B1 B2 B3 B4 hW0 q3 q3b
      go_loopw [3] (fun i wr => ∃ (j : Nat), i = .int .i64 (j : Int) ∧ j ≤ c.pool.length ∧ Fr no W wr ∧ firstE (fun x _ => ckCs x) (c.pool.take j) (c.pool.drop j) = firstE (fun x _ => ckCs x) [] c.pool) (fun i _ => c.pool.length - (intOf i).toNat)
      case atStart => exact ⟨0, rfl, Nat.zero_le _, Fr.refl no _, rfl⟩
      case round =>
        obtain ⟨j, rfl, hj, hw, hF⟩ := hrel
        obtain ⟨B0, B1, B2, B3, B4⟩ := HB.out wr hw
        by_cases hlt : j < c.pool.length
        · obtain ⟨x, hx⟩ : ∃ x, c.pool[j]? = some x := ⟨_, List.getElem?_eq_getElem hlt⟩
          obtain ⟨b, off, rfl, c0', c1', c2', c3', c4'⟩ := HPI.out j _ hx
          have f0 := HW.out.new hw (fun _ _ f => f)
          have c0 := f0.cell c0' (fun f => f)
          have c1 := f0.cell c1' (fun f => f)
          have c2 := f0.cell c2' (fun f => f)
          have c3 := f0.cell c3' (fun f => f)
          have c4 := f0.cell c4' (fun f => f)
          have HN : Hid (firstE (fun x _ => ckCs x) [] c.pool = if ckCs x ≠ 0 then ckCs x else firstE (fun x _ => ckCs x) (c.pool.take (j + 1)) (c.pool.drop (j + 1))) := first_next (fun x _ => ckCs x) c.pool j x hx hF
          have A := docConst_any wr x (hf.pool x (List.mem_of_getElem? hx)).1 (hf.pool x (List.mem_of_getElem? hx)).2
          unfold csV at A
          clear c0' c1' c2' c3' c4' f0 hx hF
          generalize ckCs x = err at *
          by_cases he : err = 0
          · subst he
            have HST : Hid (firstE (fun x _ => ckCs x) (c.pool.take (j + 1)) (c.pool.drop (j + 1)) = firstE (fun x _ => ckCs x) [] c.pool) := by show _ = _; rw [HN.out, if_neg (by simp)]
            go_wp2_with fail
            refine A.mono ?_
            rintro e w2 ⟨rfl, f2⟩
            go_wp2_with fail
            go_roundw
            case rel => exact ⟨j + 1, by go_num, by omega, hw.new f2 (fun _ _ f => f), HST.out⟩
            case measure => simp [intOf]; omega
          · have he1 : ((err : Int) == 0) = false := by simp; omega
            have he2 : ((err : Int) != 0) = true := by simp; omega
            have HE : Hid (chk c = err) := by
              have hz : firstE (fun x _ => ckCs x) [] c.pool = err := by rw [HN.out, if_pos he]
              show _ = _
              rw [HC2.out, hz, if_pos he]
            go_wp2_with fail
            refine A.mono ?_
            rintro e w2 ⟨rfl, f2⟩
            go_wp2_with fail
            go_ret
            rw [HE.out]
            exact ⟨rfl, (HW.out.new hw (fun _ _ f => f)).new f2 (fun _ _ f => f)⟩
        · obtain rfl : j = c.pool.length := by omega
          rw [show firstE (fun x _ => ckCs x) [] c.pool = 0 by rw [← hF, List.drop_length]; rfl, if_neg (by simp)] at HC2
          clear hF
          by_cases h8 : 8 < c.fields.length
          · have h8' : 8 < (c.fields.length : Int) := by omega
            have HE : Hid (chk c = 32) := by
              show _ = _
              rw [HC2.out, show eachE 8 ckFd c.fields = 32 by unfold eachE; rw [if_pos h8], if_pos (by decide)]
            go_wp2_with fail
            go_ret
            rw [HE.out]
            exact ⟨rfl, HW.out.new hw (fun _ _ f => f)⟩
          have h8' : ¬ 8 < (c.fields.length : Int) := by omega
          rw [show eachE 8 ckFd c.fields = firstE ckFd [] c.fields by unfold eachE; rw [if_neg h8]] at HC2
          go_wp2_with fail
          clear B0 B1 B2 B3 B4
          go_loopw [5] (fun i wr => ∃ (j : Nat), i = .int .i64 (j : Int) ∧ j ≤ c.fields.length ∧ Fr no W wr ∧ firstE ckFd (c.fields.take j) (c.fields.drop j) = firstE ckFd [] c.fields) (fun i _ => c.fields.length - (intOf i).toNat)
          case atStart => exact ⟨0, rfl, Nat.zero_le _, hw, rfl⟩
          case round =>
            clear hw
            obtain ⟨j, rfl, hj, hw, hF⟩ := hrel
            obtain ⟨B0, B1, B2, B3, B4⟩ := HB.out wr hw
            by_cases hlt : j < c.fields.length
            · obtain ⟨⟨fnm, ⟨tk, tc⟩, fv⟩, hx⟩ : ∃ x, c.fields[j]? = some x := ⟨_, List.getElem?_eq_getElem hlt⟩
              obtain ⟨b, off, rfl, c0', c1', c2'⟩ := HFI.out j _ hx
              have HFJ : Hid (∀ (i : Nat) (x : Fd), c.fields[i]? = some x → w.cell? ⟨b, off + i * 4, none⟩ = some (.string x.name)) := fun i x hxi => by
                obtain ⟨b', off', e, h0, _⟩ := HFI.out i x hxi
                simp only [Option.some.injEq, Addr.mk.injEq, and_true] at e
                obtain ⟨rfl, rfl⟩ := e
                exact h0
              have f0 := HW.out.new hw (fun _ _ f => f)
              have c0 := f0.cell c0' (fun f => f)
              have c1 := f0.cell c1' (fun f => f)
              have c2 := f0.cell c2' (fun f => f)
              simp only [] at c0 c1 c2
              have HN : Hid (firstE ckFd [] c.fields = if ckFd ⟨fnm, ⟨tk, tc⟩, fv⟩ (c.fields.take j) ≠ 0 then ckFd ⟨fnm, ⟨tk, tc⟩, fv⟩ (c.fields.take j) else firstE ckFd (c.fields.take (j + 1)) (c.fields.drop (j + 1))) := first_next ckFd c.fields j _ hx hF
              have HV : Hid (ckFd ⟨fnm, ⟨tk, tc⟩, fv⟩ (c.fields.take j) = if isName fnm = true ∧ isType ⟨tk, tc⟩ false = true then (if (c.fields.take j).any (fun y => decide (y.name = fnm)) = true then 53 else 0) else 50) := rfl
              have HBAD : Hid (∀ e, e ≠ 0 → ckFd ⟨fnm, ⟨tk, tc⟩, fv⟩ (c.fields.take j) = e → chk c = e) := fun e he e1 => by
                have hz : firstE ckFd [] c.fields = e := by rw [HN.out, e1, if_pos he]
                rw [HC2.out, hz, if_pos he]
              have HST : Hid (ckFd ⟨fnm, ⟨tk, tc⟩, fv⟩ (c.fields.take j) = 0 → firstE ckFd (c.fields.take (j + 1)) (c.fields.drop (j + 1)) = firstE ckFd [] c.fields) := fun e => by rw [HN.out, e, if_neg (by simp)]
              have A := docName_any wr fnm (hf.fields _ (List.mem_of_getElem? hx)).1
              have T := docType_any wr ⟨tk, tc⟩ false (hf.fields _ (List.mem_of_getElem? hx)).2
              unfold tyV at T
              simp only [] at T
              have HX : Hid (c.fields[j]? = some ⟨fnm, ⟨tk, tc⟩, fv⟩) := hx
              clear c0' c1' c2' f0 hx hF
              rcases Bool.eq_false_or_eq_true (isName fnm) with hna | hna
              case inr =>
                have HE : Hid (chk c = 50) := HBAD.out 50 (by decide) (by rw [HV.out, if_neg (fun e => by rw [hna] at e; simp at e)])
                rw [hna] at A
                clear hna
                go_wp2_with fail
                refine A.mono ?_
                rintro e w2 ⟨rfl, rfl⟩
                go_wp2_with fail
                go_ret
                rw [HE.out]
                exact ⟨rfl, HW.out.new hw (fun _ _ f => f)⟩
              rcases Bool.eq_false_or_eq_true (isType ⟨tk, tc⟩ false) with hty | hty
              case inr =>
                have HE : Hid (chk c = 50) := HBAD.out 50 (by decide) (by rw [HV.out, if_neg (fun e => by rw [hty] at e; simp at e)])
                rw [hna] at A
                rw [hty] at T
                clear hna hty
                go_wp2_with fail
                refine A.mono ?_
                rintro e w2 ⟨rfl, rfl⟩
                go_wp2_with fail
                refine T.mono ?_
                rintro e w2 ⟨rfl, f2⟩
                go_wp2_with fail
                go_ret
                rw [HE.out]
                exact ⟨rfl, (HW.out.new hw (fun _ _ f => f)).new f2 (fun _ _ f => f)⟩
              rw [if_pos ⟨hna, hty⟩] at HV
              rw [hna] at A
              rw [hty] at T
              clear hna hty
              go_wp2_with fail
              refine A.mono ?_
              rintro e w2 ⟨rfl, rfl⟩
              go_wp2_with fail
              refine T.mono ?_
              rintro e w2 ⟨rfl, f2⟩
              have hw2 := hw.new f2 (fun _ _ f => f)
              clear A T B0 B1 B2 B3 B4 c0 c1 c2 hw f2
              go_wp2_with fail
              go_loopw [6] (fun x wr => ∃ (i : Nat), x = .int .i64 (i : Int) ∧ i ≤ j ∧ Fr no W wr ∧ ((c.fields.take i).any fun y => decide (y.name = fnm)) = false) (fun x _ => j - (intOf x).toNat)
              case atStart => exact ⟨0, rfl, Nat.zero_le _, hw2, rfl⟩
              case round =>
                clear hw2
                obtain ⟨i, rfl, hi, hw, hF⟩ := hrel
                obtain ⟨B0, B1, B2, B3, B4⟩ := HB.out wr hw
                by_cases hij : i < j
                · obtain ⟨y, hy⟩ : ∃ y, c.fields[i]? = some y := ⟨_, List.getElem?_eq_getElem (by omega)⟩
                  have c0 := (HW.out.new hw (fun _ _ f => f)).cell (HFJ.out i y hy) (fun f => f)
                  have c1 := (HW.out.new hw (fun _ _ f => f)).cell (HFJ.out j _ HX.out) (fun f => f)
                  simp only [] at c1
                  have HY : Hid (c.fields[i]? = some y) := hy
                  have hit : (i : Int) < (c.fields.length : Int) := by omega
                  clear hy
                  by_cases he : y.name = fnm
                  · have hq := text_eq he
                    have HE : Hid (chk c = 53) := HBAD.out 53 (by decide) (by
                      rw [HV.out, if_pos (List.any_eq_true.2 ⟨y, List.mem_of_getElem? (by rw [List.getElem?_take_of_lt hij]; exact HY.out), decide_eq_true he⟩)])
                    clear he hF
                    go_wp2_with fail
                    go_quiet (fail)
                    go_wp2_with fail
                    go_ret
                    rw [HE.out]
                    exact ⟨rfl, HW.out.new (hw.drewN _) (fun _ _ f => f)⟩
                  · have hq := text_ne he
                    have HS2 : Hid (((c.fields.take (i + 1)).any fun y => decide (y.name = fnm)) = false) := by
                      show _ = _
                      rw [take_next c.fields i y HY.out, List.any_append, hF]
                      simp [he]
                    clear he hF
                    go_wp2_with fail
                    go_quiet (fail)
                    go_wp2_with fail
                    go_roundw
                    case rel => exact ⟨i + 1, by go_num, by omega, hw.drewN _, HS2.out⟩
                    case measure => simp [intOf]; omega
                · obtain rfl : i = j := by omega
                  have HS2 := HST.out (by rw [HV.out, hF]; simp)
                  clear hF
                  go_wp2_with fail
                  go_roundw
                  case rel => exact ⟨i + 1, by go_num, by omega, hw, HS2⟩
                  case measure => simp [intOf]; omega
            · obtain rfl : j = c.fields.length := by omega
              rw [show firstE ckFd [] c.fields = 0 by rw [← hF, List.drop_length]; rfl, if_neg (by simp)] at HC2
              clear hF
              by_cases h12 : 12 < ls.length
              · have h12' : 12 < (ls.length : Int) := by omega
                have HE : Hid (chk c = 32) := by
                  show _ = _
                  rw [HC2.out]
                  unfold eachE
                  have hll := HLL.out
                  rw [if_pos (by omega)]
                go_wp2_with fail
                go_ret
                rw [HE.out]
                exact ⟨rfl, HW.out.new hw (fun _ _ f => f)⟩
              have h12' : ¬ 12 < (ls.length : Int) := by omega
              rw [show eachE 12 (ckMt c.pool) c.methods = firstE (ckMt c.pool) [] c.methods by unfold eachE; have hll := HLL.out; rw [if_neg (by omega)]] at HC2
              go_wp2_with fail
              clear B0 B1 B2 B3 B4
              go_loopw [7] (fun i wr => ∃ (j : Nat), i = .int .i64 (j : Int) ∧ j ≤ ls.length ∧ Fr no W wr ∧ firstE (ckMt c.pool) (c.methods.take j) (c.methods.drop j) = firstE (ckMt c.pool) [] c.methods) (fun i _ => ls.length - (intOf i).toNat)
              case atStart => exact ⟨0, rfl, Nat.zero_le _, hw, rfl⟩
              case round =>
                clear hw
                obtain ⟨j, rfl, hj, hw, hF⟩ := hrel
                obtain ⟨B0, B1, B2, B3, B4⟩ := HB.out wr hw
                by_cases hlt : j < ls.length
                · obtain ⟨x, hx⟩ : ∃ x, c.methods[j]? = some x := ⟨_, List.getElem?_eq_getElem (by have hll := HLL.out; omega)⟩
                  have f0 := HW.out.new hw (fun _ _ f => f)
                  have HN : Hid (firstE (ckMt c.pool) [] c.methods = if ckMt c.pool x (c.methods.take j) ≠ 0 then ckMt c.pool x (c.methods.take j) else firstE (ckMt c.pool) (c.methods.take (j + 1)) (c.methods.drop (j + 1))) := first_next (ckMt c.pool) c.methods j x hx hF
                  have A := docMethod_any wr ⟨c.name, c.super, ⟨pa, c.pool.length, pc⟩, ⟨fa, c.fields.length, fc⟩, ⟨ma, ls.length, mc⟩⟩ c.pool (HP.out.kept f0) ls c.methods (HM.out.kept f0) (HAM.out.kept f0) j x hx (hf.methods x (List.mem_of_getElem? hx))
                  unfold ksV at A
                  simp only [] at A
                  clear f0 hx hF
                  generalize ckMt c.pool x (c.methods.take j) = err at *
                  by_cases he : err = 0
                  · subst he
                    have HST : Hid (firstE (ckMt c.pool) (c.methods.take (j + 1)) (c.methods.drop (j + 1)) = firstE (ckMt c.pool) [] c.methods) := by show _ = _; rw [HN.out, if_neg (by simp)]
                    go_wp2_with fail
                    refine A.mono ?_
                    rintro e w2 ⟨rfl, f2⟩
                    go_wp2_with fail
                    go_roundw
                    case rel => exact ⟨j + 1, by go_num, by omega, hw.new f2 (fun _ _ f => f), HST.out⟩
                    case measure => simp [intOf]; omega
                  · have he1 : ((err : Int) == 0) = false := by simp; omega
                    have he2 : ((err : Int) != 0) = true := by simp; omega
                    have HE : Hid (chk c = err) := by
                      have hz : firstE (ckMt c.pool) [] c.methods = err := by rw [HN.out, if_pos he]
                      show _ = _
                      rw [HC2.out, hz]
                    go_wp2_with fail
                    refine A.mono ?_
                    rintro e w2 ⟨rfl, f2⟩
                    go_wp2_with fail
                    go_ret
                    rw [HE.out]
                    exact ⟨rfl, (HW.out.new hw (fun _ _ f => f)).new f2 (fun _ _ f => f)⟩
                · have HE : Hid (chk c = 0) := by
                    show _ = _
                    rw [HC2.out, ← hF, List.drop_eq_nil_of_le (by have hll := HLL.out; omega)]
                    rfl
                  go_wp2_with fail
                  go_ret
                  rw [HE.out]
                  exact ⟨rfl, HW.out.new hw (fun _ _ f => f)⟩
    · have HE : Hid (chk c = 50) := by show _ = _; rw [HC.out, if_neg (fun e => by rw [hns] at e; simp [hs0] at e)]
      rw [hns] at NS
      clear hs0 HC GO hn0 hns
      go_enter Tryz.func81, Tryz.ntmps81
      go_wp2_with fail
      refine NN.mono ?_
      rintro e w1 ⟨rfl, h1⟩
      replace h1 := h1.symm
      subst h1
      go_wp2_with fail
      refine NS.mono ?_
      rintro e w1 ⟨rfl, h1⟩
      replace h1 := h1.symm
      subst h1
      go_wp2_with fail
      go_ret
      rw [HE.out]
      exact ⟨rfl, HW.out⟩
end Go.Proofs.YthncdbobjeeeaaaGreatDoor

