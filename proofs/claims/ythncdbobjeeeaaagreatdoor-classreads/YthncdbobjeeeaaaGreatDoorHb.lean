/- What is asked of a method's code and handlers: the document's answers. -/
import Derived.Test.YthncdbobjeeeaaaGreatDoorHa
import Derived.Test.YthncdbobjeeeaaaGreatDoorGl
import Derived.Deep.QuietTactic
import Derived.BigQuiet
namespace Go.Proofs.YthncdbobjeeeaaaGreatDoor
open Go.ChangeShapes Go.WideShapes Go.ChangeAt Go.RowKit

theorem docAsked_any (w : World) (op : Int) (h : od op = 2) : Calls Tryz.prog 163 #[.int .i64 op] w fun e w' => e = .returned (.int .i64 (asked op)) ∧ w' = w := by
  have key : ∀ n : Fin 48, opd n.val = 2 → n.val = 1 ∨ n.val = 2 ∨ n.val = 25 ∨ n.val = 36 ∨ n.val = 37 ∨ n.val = 26 ∨ n.val = 27 ∨ n.val = 32 ∨ n.val = 43 := by decide
  have hr : 0 ≤ op ∧ op < 48 := Classical.byContradiction fun hr => by rw [od_out op hr] at h; omega
  obtain ⟨n, rfl⟩ : ∃ n : Nat, op = (n : Int) := ⟨op.toNat, by omega⟩
  have hn : n < 48 := by omega
  rw [od_in n hn] at h
  rcases key ⟨n, hn⟩ h with e | e | e | e | e | e | e | e | e
  · have e : n = 1 := e
    subst e
    have HE : Hid (asked 1 = 1) := by show _ = _; decide
    go_enter Tryz.func163, Tryz.ntmps163
    go_wp2_with fail
    go_ret
    rw [HE.out]
    exact ⟨rfl, rfl⟩
  · have e : n = 2 := e
    subst e
    have HE : Hid (asked 2 = 2) := by show _ = _; decide
    go_enter Tryz.func163, Tryz.ntmps163
    go_wp2_with fail
    go_ret
    rw [HE.out]
    exact ⟨rfl, rfl⟩
  · have e : n = 25 := e
    subst e
    have HE : Hid (asked 25 = 3) := by show _ = _; decide
    go_enter Tryz.func163, Tryz.ntmps163
    go_wp2_with fail
    go_ret
    rw [HE.out]
    exact ⟨rfl, rfl⟩
  · have e : n = 36 := e
    subst e
    have HE : Hid (asked 36 = 3) := by show _ = _; decide
    go_enter Tryz.func163, Tryz.ntmps163
    go_wp2_with fail
    go_ret
    rw [HE.out]
    exact ⟨rfl, rfl⟩
  · have e : n = 37 := e
    subst e
    have HE : Hid (asked 37 = 3) := by show _ = _; decide
    go_enter Tryz.func163, Tryz.ntmps163
    go_wp2_with fail
    go_ret
    rw [HE.out]
    exact ⟨rfl, rfl⟩
  · have e : n = 26 := e
    subst e
    have HE : Hid (asked 26 = 4) := by show _ = _; decide
    go_enter Tryz.func163, Tryz.ntmps163
    go_wp2_with fail
    go_ret
    rw [HE.out]
    exact ⟨rfl, rfl⟩
  · have e : n = 27 := e
    subst e
    have HE : Hid (asked 27 = 4) := by show _ = _; decide
    go_enter Tryz.func163, Tryz.ntmps163
    go_wp2_with fail
    go_ret
    rw [HE.out]
    exact ⟨rfl, rfl⟩
  · have e : n = 32 := e
    subst e
    have HE : Hid (asked 32 = 5) := by show _ = _; decide
    go_enter Tryz.func163, Tryz.ntmps163
    go_wp2_with fail
    go_ret
    rw [HE.out]
    exact ⟨rfl, rfl⟩
  · have e : n = 43 := e
    subst e
    have HE : Hid (asked 43 = 5) := by show _ = _; decide
    go_enter Tryz.func163, Tryz.ntmps163
    go_wp2_with fail
    go_ret
    rw [HE.out]
    exact ⟨rfl, rfl⟩

def gIns (pool : List Cs) (m : Mt) : Int × Int → List (Int × Int) → Nat := fun x _ => ckIns pool m.lo m.code.length x
def gHd (pool : List Cs) (m : Mt) : Hd → List Hd → Nat := fun h _ => ckHd pool m.code.length h
/-- What is wrong with a method's code and handlers. -/
def ckCode (pool : List Cs) (m : Mt) : Nat :=
  if m.code.length = 0 then 32 else if eachE 200 (gIns pool m) m.code ≠ 0 then eachE 200 (gIns pool m) m.code
  else if has (m.code.getD (m.code.length - 1) (0, 0)).1 1 = true then eachE 16 (gHd pool m) m.hands else 54
theorem ckBody_eq (pool : List Cs) (m : Mt) : ckBody pool m = if 1 + (m.params.length : Int) ≤ m.lo ∧ m.lo ≤ 32 ∧ 0 ≤ m.st ∧ m.st ≤ 64 then ckCode pool m else 32 := rfl

theorem isCst_some (pool : List Cs) (i : Nat) (k : Int) (x : Cs) (h : pool[i]? = some x) : isCst pool (i : Int) k = decide (x.k = k) := by
  unfold isCst
  rw [decide_eq_true (show (0 : Int) ≤ (i : Int) by omega)]
  simp [h]
theorem isCst_none (pool : List Cs) (i : Nat) (k : Int) (h : pool.length ≤ i) : isCst pool (i : Int) k = false := by
  unfold isCst
  have : pool[i]? = none := List.getElem?_eq_none h
  simp [this]

theorem first_next {α : Type} (ask : α → List α → Nat) (l : List α) (k : Nat) (x : α) (hx : l[k]? = some x) (h : firstE ask (l.take k) (l.drop k) = firstE ask [] l) :
    firstE ask [] l = if ask x (l.take k) ≠ 0 then ask x (l.take k) else firstE ask (l.take (k + 1)) (l.drop (k + 1)) := by
  have hlt : k < l.length := (List.getElem?_eq_some_iff.1 hx).1
  have hdrop : l.drop k = x :: l.drop (k + 1) := by
    rw [List.drop_eq_getElem_cons hlt]
    rw [List.getElem?_eq_getElem hlt] at hx
    rw [Option.some.inj hx]
  rw [← h, hdrop, firstE, take_next l k x hx]

theorem MtAt.open3 {w : World} {s : Ms} {m : Mt} (h : MtAt w s m) : ∃ pa pc ca cc ha hc, s = ⟨m.name, ⟨pa, m.params.length, pc⟩, m.ret, m.lo, m.st, ⟨ca, m.code.length, cc⟩, ⟨ha, m.hands.length, hc⟩⟩ ∧
    (m.params.length ≤ pc ∧ pc ≤ maxLen) ∧ (m.code.length ≤ cc ∧ cc ≤ maxLen) ∧ (m.hands.length ≤ hc ∧ hc ≤ maxLen) := by
  obtain ⟨sn, ⟨sp1, sp2, sp3⟩, sr, slo, sst, ⟨sc1, sc2, sc3⟩, ⟨sh1, sh2, sh3⟩⟩ := s
  obtain ⟨e1, e2, e3, e4, ⟨a1, c1, q1, p1, p2, _⟩, ⟨a2, c2, q2, p3, p4, _⟩, ⟨a3, c3, q3, p5, p6, _⟩⟩ := h
  simp only [Value.slice.injEq] at e1 e2 e3 e4 q1 q2 q3
  obtain ⟨rfl, rfl, rfl⟩ := q1
  obtain ⟨rfl, rfl, rfl⟩ := q2
  obtain ⟨rfl, rfl, rfl⟩ := q3
  subst e1 e2 e3 e4
  exact ⟨_, _, _, _, _, _, rfl, ⟨p1, p2⟩, ⟨p3, p4⟩, ⟨p5, p6⟩⟩

set_option maxRecDepth 100000 in
set_option maxHeartbeats 8000000 in
theorem docCode_any (w : World) (k : Ks) (pool : List Cs) (hp : SlG elCs w (.slice k.p.a k.p.n k.p.c) pool) (s : Ms) (m : Mt) (hm : MtAt w s m) :
    Calls Tryz.prog 160 #[ksV k, msV s] w fun e w' => e = .returned (.int .i64 (ckCode pool m : Int)) ∧ Fr no w w' := by
  obtain ⟨kn, ks, ⟨kpa, kpn, kpc⟩, ⟨kfa, kfn, kfc⟩, ⟨kma, kmn, kmc⟩⟩ := k
  simp only [] at hp
  have HM : Hid (MtAt w s m) := hm
  obtain ⟨pa, pc, ca, cc, ha, hc, rfl, ⟨-, -⟩, ⟨hc1, hc2⟩, ⟨hh1, hh2⟩⟩ := hm.open3
  clear hm
  have hcI := HM.out.c
  have hhI := HM.out.h
  simp only [] at hcI hhI
  obtain ⟨ad1, cp1, q1, hk1, hk2, hpI⟩ := hp
  simp only [Value.slice.injEq] at q1
  obtain ⟨rfl, rfl, rfl⟩ := q1
  obtain ⟨ad2, cp2, q2, -, -, hcI⟩ := hcI
  simp only [Value.slice.injEq, true_and] at q2
  obtain ⟨rfl, rfl⟩ := q2
  obtain ⟨ad3, cp3, q3, -, -, hhI⟩ := hhI
  simp only [Value.slice.injEq, true_and] at q3
  obtain ⟨rfl, rfl⟩ := q3
  have HPI : Hid (∀ (i : Nat) (x : Cs), pool[i]? = some x → ∃ b off, kpa = some ⟨b, off, none⟩ ∧ w.cell? ⟨b, off + i * 5, none⟩ = some (.int .i64 x.k)) := fun i x hx => by
    obtain ⟨b, off, e, hj⟩ := hpI i x hx
    exact ⟨b, off, e, hj 0 _ rfl⟩
  have HCI : Hid (∀ (i : Nat) (x : Int × Int), m.code[i]? = some x → ∃ b off, ca = some ⟨b, off, none⟩ ∧ w.cell? ⟨b, off + i * 2, none⟩ = some (.int .i64 x.1) ∧ w.cell? ⟨b, off + i * 2 + 1, none⟩ = some (.int .i64 x.2)) := hcI
  have HHI : Hid (∀ (i : Nat) (x : Hd), m.hands[i]? = some x → ∃ b off, ha = some ⟨b, off, none⟩ ∧ w.cell? ⟨b, off + i * 5, none⟩ = some (.int .i64 x.fr) ∧ w.cell? ⟨b, off + i * 5 + 1, none⟩ = some (.int .i64 x.to) ∧ w.cell? ⟨b, off + i * 5 + 2, none⟩ = some (.int .i64 x.tg) ∧ w.cell? ⟨b, off + i * 5 + 3, none⟩ = some (.int .i64 x.cl) ∧ w.cell? ⟨b, off + i * 5 + 4, none⟩ = some (.int .i64 x.dp)) := fun i x hx => by
    obtain ⟨b, off, e, hj⟩ := hhI i x hx
    exact ⟨b, off, e, hj 0 _ rfl, hj 1 _ rfl, hj 2 _ rfl, hj 3 _ rfl, hj 4 _ rfl⟩
  clear hpI hcI hhI HM
  unfold maxLen at hk2 hc2 hh2
  unfold ksV msV
  simp only []
  have s0 := size_alloc w (.cells #[.string kn, .string ks, .slice kpa pool.length kpc, .slice kfa kfn kfc, .slice kma kmn kmc] 28)
  have b0 := heap_alloc_new w (.cells #[.string kn, .string ks, .slice kpa pool.length kpc, .slice kfa kfn kfc, .slice kma kmn kmc] 28)
  have f0 : Fr no w (w.alloc (.cells #[.string kn, .string ks, .slice kpa pool.length kpc, .slice kfa kfn kfc, .slice kma kmn kmc] 28)) := (Fr.refl no w).alloc _ _
  generalize hW0 : w.alloc (.cells #[.string kn, .string ks, .slice kpa pool.length kpc, .slice kfa kfn kfc, .slice kma kmn kmc] 28) = W0 at *
  have b1 := heap_alloc_new W0 (.cells #[.string m.name, .slice pa m.params.length pc, .int .i64 m.ret.k, .string m.ret.c, .int .i64 m.lo, .int .i64 m.st, .slice ca m.code.length cc, .slice ha m.hands.length hc] 53)
  have f1 : Fr no W0 (W0.alloc (.cells #[.string m.name, .slice pa m.params.length pc, .int .i64 m.ret.k, .string m.ret.c, .int .i64 m.lo, .int .i64 m.st, .slice ca m.code.length cc, .slice ha m.hands.length hc] 53)) := (Fr.refl no W0).alloc _ _
  generalize hW1 : W0.alloc (.cells #[.string m.name, .slice pa m.params.length pc, .int .i64 m.ret.k, .string m.ret.c, .int .i64 m.lo, .int .i64 m.st, .slice ca m.code.length cc, .slice ha m.hands.length hc] 53) = W at *
  rw [s0] at b1
  have b0' := f1.heap b0 (fun f => f)
  have HW : Hid (Fr no w W) := f0.new f1 (fun _ _ f => f)
  have HB : Hid (∀ w1, Fr no W w1 → w1.cell? ⟨w.heap.size, 2, none⟩ = some (.slice kpa pool.length kpc) ∧ w1.cell? ⟨w.heap.size + 1, 4, none⟩ = some (.int .i64 m.lo) ∧ w1.cell? ⟨w.heap.size + 1, 6, none⟩ = some (.slice ca m.code.length cc) ∧ w1.cell? ⟨w.heap.size + 1, 7, none⟩ = some (.slice ha m.hands.length hc)) := fun w1 g => by
    have x := box5 (g.heap b0' (fun f => f))
    have y := box8 (g.heap b1 (fun f => f))
    exact ⟨x.2.2.1, y.2.2.2.2.1, y.2.2.2.2.2.2.1, y.2.2.2.2.2.2.2⟩
  obtain ⟨B0, B1, B2, B3⟩ := HB.out W (Fr.refl no _)
  clear b0 b0' b1 f0 f1
  have HK : Hid (ckCode pool m = if m.code.length = 0 then 32 else if eachE 200 (gIns pool m) m.code ≠ 0 then eachE 200 (gIns pool m) m.code
    else if has (m.code.getD (m.code.length - 1) (0, 0)).1 1 = true then eachE 16 (gHd pool m) m.hands else 54) := rfl
  by_cases hn0 : m.code.length = 0
  · have HE : Hid (ckCode pool m = 32) := by show _ = _; rw [HK.out, if_pos hn0]
    have hl1 : (m.code.length : Int) < 1 := by omega
    clear hn0 HK
    go_enter Tryz.func160, Tryz.ntmps160
    go_wp2_with fail
    go_ret
    rw [HE.out]
    exact ⟨rfl, HW.out⟩
  rw [if_neg hn0] at HK
  have hl1 : ¬ (m.code.length : Int) < 1 := by omega
  by_cases hn2 : 200 < m.code.length
  · have HE : Hid (ckCode pool m = 32) := by
      have e : eachE 200 (gIns pool m) m.code = 32 := by unfold eachE; rw [if_pos hn2]
      show _ = _
      rw [HK.out, e, if_pos (by decide)]
    have hl2 : 200 < (m.code.length : Int) := by omega
    go_enter Tryz.func160, Tryz.ntmps160
    go_wp2_with fail
    go_ret
    rw [HE.out]
    exact ⟨rfl, HW.out⟩
  have hl2 : ¬ 200 < (m.code.length : Int) := by omega
  rw [show eachE 200 (gIns pool m) m.code = firstE (gIns pool m) [] m.code by unfold eachE; rw [if_neg hn2]] at HK
  go_enter Tryz.func160, Tryz.ntmps160
  go_wp2_with fail
  clear B0 B1 B2 B3 hW0 hW1
  go_loopw [6] (fun i wr => ∃ (j : Nat), i = .int .i64 (j : Int) ∧ j ≤ m.code.length ∧ Fr no W wr ∧ firstE (gIns pool m) (m.code.take j) (m.code.drop j) = firstE (gIns pool m) [] m.code) (fun i _ => m.code.length - (intOf i).toNat)
  case atStart => exact ⟨0, rfl, Nat.zero_le _, Fr.refl no _, rfl⟩
  case round =>
    obtain ⟨j, rfl, hj, hw, hF⟩ := hrel
    obtain ⟨B0, B1, B2, B3⟩ := HB.out wr hw
    by_cases hlt : j < m.code.length
    · obtain ⟨⟨op, a⟩, hx⟩ : ∃ x, m.code[j]? = some x := ⟨_, List.getElem?_eq_getElem hlt⟩
      obtain ⟨b, off, rfl, c0', c1'⟩ := HCI.out j _ hx
      have c0 := (HW.out.new hw (fun _ _ f => f)).cell c0' (fun f => f)
      have c1 := (HW.out.new hw (fun _ _ f => f)).cell c1' (fun f => f)
      simp only [] at c0 c1
      have HN : Hid (firstE (gIns pool m) [] m.code = if ckIns pool m.lo m.code.length (op, a) ≠ 0 then ckIns pool m.lo m.code.length (op, a) else firstE (gIns pool m) (m.code.take (j + 1)) (m.code.drop (j + 1))) := first_next (gIns pool m) m.code j (op, a) hx hF
      have HKI : Hid (ckIns pool m.lo m.code.length (op, a) = if isb op a = true then (if od op = 1 then (if m.lo ≤ a then 52 else 0) else if od op = 2 then (if isCst pool a (asked op) = true then 0 else 51) else if od op = 3 then (if (m.code.length : Int) ≤ a then 52 else 0) else 0) else 40) := rfl
      have fX : Fr no wr (wr.alloc (.cells #[.int .i64 op, .int .i64 a] 57)) := (Fr.refl no wr).alloc _ _
      have hX := heap_alloc_new wr (.cells #[.int .i64 op, .int .i64 a] 57)
      have II := docIs_any (wr.alloc (.cells #[.int .i64 op, .int .i64 a] 57)) op a
      unfold ins at II
      have HX : Hid (∀ w2, Fr no (wr.alloc (.cells #[.int .i64 op, .int .i64 a] 57)) w2 → w2.cell? ⟨wr.heap.size, 0, none⟩ = some (.int .i64 op) ∧ w2.cell? ⟨wr.heap.size, 1, none⟩ = some (.int .i64 a) ∧ Fr no W w2) := fun w2 g => by
        have := box2 (g.heap hX (fun f => f))
        exact ⟨this.1, this.2, (hw.new fX (fun _ _ f => f)).new g (fun _ _ f => f)⟩
      have HST : Hid (ckIns pool m.lo m.code.length (op, a) = 0 → firstE (gIns pool m) (m.code.take (j + 1)) (m.code.drop (j + 1)) = firstE (gIns pool m) [] m.code) := fun e => by rw [HN.out, e, if_neg (by simp)]
      have HBAD : Hid (∀ e, e ≠ 0 → ckIns pool m.lo m.code.length (op, a) = e → ckCode pool m = e) := fun e he e1 => by rw [HK.out, HN.out, e1, if_pos he, if_pos he]
      clear c0' c1' fX hX hx hF HN hw
      rcases Bool.eq_false_or_eq_true (isb op a) with hi | hi
      · rw [hi] at II
        rw [if_pos hi] at HKI
        obtain ⟨n, i, hn, rfl, rfl, hi9⟩ := isb_in op a hi
        have O := fun w1 => docOperand_any w1 (n : Int)
        rcases od_cases (n : Int) with e | e | ⟨ep, ep3⟩
        · exact absurd hi (by rw [isb_none _ _ e]; simp)
        · rw [e] at O
          have HV : Hid (ckIns pool m.lo m.code.length ((n : Int), (i : Int)) = 0) := by show _ = _; rw [HKI.out, e]; rfl
          clear e hi
          go_wp2_with fail
          refine II.mono ?_
          rintro e w2 ⟨rfl, f2⟩
          obtain ⟨x0, x1, g2⟩ := HX.out w2 f2
          clear B0 B1 B2 B3 c0 c1
          obtain ⟨B0, B1, B2, B3⟩ := HB.out w2 g2
          go_wp2_with fail
          refine (O w2).mono ?_
          rintro e w3 ⟨rfl, rfl⟩
          go_wp2_with fail
          go_roundw
          case rel => exact ⟨j + 1, by go_num, by omega, g2, HST.out HV.out⟩
          case measure => simp [intOf]; omega
        · rcases (show od (n : Int) = 1 ∨ od (n : Int) = 2 ∨ od (n : Int) = 3 by omega) with e | e | e
          · rw [e] at O
            rw [if_pos e] at HKI
            clear e ep ep3 hi
            by_cases hl : m.lo ≤ (i : Int)
            · have HE : Hid (ckCode pool m = 52) := HBAD.out 52 (by decide) (by rw [HKI.out, if_pos hl])
              go_wp2_with fail
              refine II.mono ?_
              rintro e w2 ⟨rfl, f2⟩
              obtain ⟨x0, x1, g2⟩ := HX.out w2 f2
              clear B0 B1 B2 B3 c0 c1
              obtain ⟨B0, B1, B2, B3⟩ := HB.out w2 g2
              go_wp2_with fail
              refine (O w2).mono ?_
              rintro e w3 ⟨rfl, rfl⟩
              go_wp2_with fail
              go_ret
              rw [HE.out]
              exact ⟨rfl, HW.out.new (g2) (fun _ _ f => f)⟩
            · have HV : Hid (ckIns pool m.lo m.code.length ((n : Int), (i : Int)) = 0) := by show _ = _; rw [HKI.out, if_neg hl]
              go_wp2_with fail
              refine II.mono ?_
              rintro e w2 ⟨rfl, f2⟩
              obtain ⟨x0, x1, g2⟩ := HX.out w2 f2
              clear B0 B1 B2 B3 c0 c1
              obtain ⟨B0, B1, B2, B3⟩ := HB.out w2 g2
              go_wp2_with fail
              refine (O w2).mono ?_
              rintro e w3 ⟨rfl, rfl⟩
              go_wp2_with fail
              go_roundw
              case rel => exact ⟨j + 1, by go_num, by omega, g2, HST.out HV.out⟩
              case measure => simp [intOf]; omega
          · have AK := fun w1 => docAsked_any w1 (n : Int) e
            rw [e] at O
            rw [if_neg (by omega), if_pos e] at HKI
            clear e ep ep3 hi
            by_cases hl : pool.length ≤ i
            · have hd : decide ((pool.length : Int) ≤ (i : Int)) = true := decide_eq_true (by omega)
              have HE : Hid (ckCode pool m = 51) := HBAD.out 51 (by decide) (by rw [HKI.out, isCst_none _ _ _ hl, if_neg (by simp)])
              go_wp2_with fail
              refine II.mono ?_
              rintro e w2 ⟨rfl, f2⟩
              obtain ⟨x0, x1, g2⟩ := HX.out w2 f2
              clear B0 B1 B2 B3 c0 c1
              obtain ⟨B0, B1, B2, B3⟩ := HB.out w2 g2
              go_wp2_with fail
              refine (O w2).mono ?_
              rintro e w3 ⟨rfl, rfl⟩
              go_wp2_with fail
              go_quiet (first | (go_at_call 163; refine Calls.quiet_of_same (AK _)))
              go_wp2_with fail
              go_ret
              rw [HE.out]
              exact ⟨rfl, HW.out.new (g2.drewN _) (fun _ _ f => f)⟩
            · have hd : decide ((pool.length : Int) ≤ (i : Int)) = false := decide_eq_false (by omega)
              have hlt2 : (i : Int) < (pool.length : Int) := by omega
              obtain ⟨x, hxp⟩ : ∃ x, pool[i]? = some x := ⟨_, List.getElem?_eq_getElem (by omega)⟩
              rw [isCst_some pool i _ x hxp] at HKI
              obtain ⟨pb, po, rfl, pk⟩ := HPI.out i x hxp
              have HPK : Hid (∀ w2, Fr no W w2 → w2.cell? ⟨pb, po + i * 5, none⟩ = some (.int .i64 x.k)) := fun w2 g => (HW.out.new g (fun _ _ f => f)).cell pk (fun f => f)
              clear pk hxp
              generalize asked (n : Int) = ak at *
              generalize x.k = xk at *
              by_cases hak : xk = ak
              · subst hak
                have HV : Hid (ckIns pool m.lo m.code.length ((n : Int), (i : Int)) = 0) := by show _ = _; rw [HKI.out, decide_eq_true rfl, if_pos rfl]
                go_wp2_with fail
                refine II.mono ?_
                rintro e w2 ⟨rfl, f2⟩
                obtain ⟨x0, x1, g2⟩ := HX.out w2 f2
                clear B0 B1 B2 B3 c0 c1
                obtain ⟨B0, B1, B2, B3⟩ := HB.out w2 g2
                go_wp2_with fail
                refine (O w2).mono ?_
                rintro e w3 ⟨rfl, rfl⟩
                have pk := HPK.out _ g2
                go_wp2_with fail
                go_quiet (first | (go_at_call 163; refine Calls.quiet_of_same (AK _)))
                go_wp2_with fail
                go_roundw
                case rel => exact ⟨j + 1, by go_num, by omega, g2.drewN _, HST.out HV.out⟩
                case measure => simp [intOf]; omega
              · have hak1 : (xk == ak) = false := by simpa using hak
                have HE : Hid (ckCode pool m = 51) := HBAD.out 51 (by decide) (by rw [HKI.out, decide_eq_false hak, if_neg (by simp)])
                go_wp2_with fail
                refine II.mono ?_
                rintro e w2 ⟨rfl, f2⟩
                obtain ⟨x0, x1, g2⟩ := HX.out w2 f2
                clear B0 B1 B2 B3 c0 c1
                obtain ⟨B0, B1, B2, B3⟩ := HB.out w2 g2
                go_wp2_with fail
                refine (O w2).mono ?_
                rintro e w3 ⟨rfl, rfl⟩
                have pk := HPK.out _ g2
                go_wp2_with fail
                go_quiet (first | (go_at_call 163; refine Calls.quiet_of_same (AK _)))
                go_wp2_with fail
                go_ret
                rw [HE.out]
                exact ⟨rfl, HW.out.new (g2.drewN _) (fun _ _ f => f)⟩
          · rw [e] at O
            rw [if_neg (by omega), if_neg (by omega), if_pos e] at HKI
            clear e ep ep3 hi
            by_cases hl : (m.code.length : Int) ≤ (i : Int)
            · have HE : Hid (ckCode pool m = 52) := HBAD.out 52 (by decide) (by rw [HKI.out, if_pos hl])
              go_wp2_with fail
              refine II.mono ?_
              rintro e w2 ⟨rfl, f2⟩
              obtain ⟨x0, x1, g2⟩ := HX.out w2 f2
              clear B0 B1 B2 B3 c0 c1
              obtain ⟨B0, B1, B2, B3⟩ := HB.out w2 g2
              go_wp2_with fail
              refine (O w2).mono ?_
              rintro e w3 ⟨rfl, rfl⟩
              go_wp2_with fail
              go_ret
              rw [HE.out]
              exact ⟨rfl, HW.out.new (g2) (fun _ _ f => f)⟩
            · have HV : Hid (ckIns pool m.lo m.code.length ((n : Int), (i : Int)) = 0) := by show _ = _; rw [HKI.out, if_neg hl]
              go_wp2_with fail
              refine II.mono ?_
              rintro e w2 ⟨rfl, f2⟩
              obtain ⟨x0, x1, g2⟩ := HX.out w2 f2
              clear B0 B1 B2 B3 c0 c1
              obtain ⟨B0, B1, B2, B3⟩ := HB.out w2 g2
              go_wp2_with fail
              refine (O w2).mono ?_
              rintro e w3 ⟨rfl, rfl⟩
              go_wp2_with fail
              go_roundw
              case rel => exact ⟨j + 1, by go_num, by omega, g2, HST.out HV.out⟩
              case measure => simp [intOf]; omega
      · have HE : Hid (ckCode pool m = 40) := HBAD.out 40 (by decide) (by rw [HKI.out, if_neg (by rw [hi]; simp)])
        rw [hi] at II
        go_wp2_with fail
        refine II.mono ?_
        rintro e w2 ⟨rfl, f2⟩
        have G := HX.out w2 f2
        go_wp2_with fail
        go_ret
        rw [HE.out]
        exact ⟨rfl, HW.out.new G.2.2 (fun _ _ f => f)⟩
    · obtain rfl : j = m.code.length := by omega
      have hz : firstE (gIns pool m) [] m.code = 0 := by rw [← hF, List.drop_length]; rfl
      rw [hz, if_neg (by simp)] at HK
      clear hz hF
      obtain ⟨⟨lop, la⟩, hx⟩ : ∃ x, m.code[m.code.length - 1]? = some x := ⟨_, List.getElem?_eq_getElem (by omega)⟩
      have HK2 : Hid (ckCode pool m = if has lop 1 = true then eachE 16 (gHd pool m) m.hands else 54) := by
        show _ = _
        rw [HK.out, List.getD_eq_getElem?_getD, hx]
        rfl
      clear HK
      obtain ⟨b, off, rfl, c0', -⟩ := HCI.out _ _ hx
      have c0 := (HW.out.new hw (fun _ _ f => f)).cell c0' (fun f => f)
      simp only [] at c0
      clear hx c0'
      have ST := fun w1 => docStops_any w1 lop
      have hsub : (m.code.length : Int) - 1 = ((m.code.length - 1 : Nat) : Int) := by omega
      have hlt1 : ((m.code.length - 1 : Nat) : Int) < (m.code.length : Int) := by omega
      generalize hn1 : m.code.length - 1 = n1 at *
      rcases Bool.eq_false_or_eq_true (has lop 1) with hs | hs
      · have HK : Hid (ckCode pool m = eachE 16 (gHd pool m) m.hands) := by show _ = _; rw [HK2.out, if_pos hs]
        clear HK2
        rw [hs] at ST
        by_cases hh16 : 16 < m.hands.length
        · have HE : Hid (ckCode pool m = 32) := by show _ = _; rw [HK.out]; unfold eachE; rw [if_pos hh16]
          have hh16' : 16 < (m.hands.length : Int) := by omega
          go_wp2_with fail
          refine (ST _).mono ?_
          rintro e w2 ⟨rfl, rfl⟩
          go_wp2_with fail
          go_ret
          rw [HE.out]
          exact ⟨rfl, HW.out.new hw (fun _ _ f => f)⟩
        · have hh16' : ¬ 16 < (m.hands.length : Int) := by omega
          rw [show eachE 16 (gHd pool m) m.hands = firstE (gHd pool m) [] m.hands by unfold eachE; rw [if_neg hh16]] at HK
          go_wp2_with fail
          refine (ST _).mono ?_
          rintro e w2 ⟨rfl, rfl⟩
          go_wp2_with fail
          clear B0 B1 B2 B3 c0
          go_loopw [8] (fun i wv => ∃ (j : Nat), i = .int .i64 (j : Int) ∧ j ≤ m.hands.length ∧ Fr no W wv ∧ firstE (gHd pool m) (m.hands.take j) (m.hands.drop j) = firstE (gHd pool m) [] m.hands) (fun i _ => m.hands.length - (intOf i).toNat)
          case atStart => exact ⟨0, rfl, Nat.zero_le _, hw, rfl⟩
          case round =>
            clear hw
            obtain ⟨j, rfl, hj, hw, hF⟩ := hrel
            obtain ⟨B0, B1, B2, B3⟩ := HB.out _ hw
            by_cases hlt : j < m.hands.length
            · obtain ⟨⟨fr, to, tg, cl, dp⟩, hx⟩ : ∃ x, m.hands[j]? = some x := ⟨_, List.getElem?_eq_getElem hlt⟩
              obtain ⟨b2, off2, rfl, c0', c1', c2', c3', c4'⟩ := HHI.out j _ hx
              have f0 := HW.out.new hw (fun _ _ f => f)
              have c0 := f0.cell c0' (fun f => f)
              have c1 := f0.cell c1' (fun f => f)
              have c2 := f0.cell c2' (fun f => f)
              have c3 := f0.cell c3' (fun f => f)
              have c4 := f0.cell c4' (fun f => f)
              simp only [] at c0 c1 c2 c3 c4
              have HN : Hid (firstE (gHd pool m) [] m.hands = if ckHd pool m.code.length ⟨fr, to, tg, cl, dp⟩ ≠ 0 then ckHd pool m.code.length ⟨fr, to, tg, cl, dp⟩ else firstE (gHd pool m) (m.hands.take (j + 1)) (m.hands.drop (j + 1))) := first_next (gHd pool m) m.hands j _ hx hF
              have HKI : Hid (ckHd pool m.code.length ⟨fr, to, tg, cl, dp⟩ = if 0 ≤ fr ∧ fr < to ∧ to ≤ (m.code.length : Int) ∧ 0 ≤ tg ∧ tg < (m.code.length : Int) then (if cl = -1 ∨ isCst pool cl 3 = true then (if 0 ≤ dp ∧ dp ≤ 6 then 0 else 32) else 51) else 52) := rfl
              have HST : Hid (ckHd pool m.code.length ⟨fr, to, tg, cl, dp⟩ = 0 → firstE (gHd pool m) (m.hands.take (j + 1)) (m.hands.drop (j + 1)) = firstE (gHd pool m) [] m.hands) := fun e => by rw [HN.out, e, if_neg (by simp)]
              have HBAD : Hid (∀ e, e ≠ 0 → ckHd pool m.code.length ⟨fr, to, tg, cl, dp⟩ = e → ckCode pool m = e) := fun e he e1 => by rw [HK.out, HN.out, e1, if_pos he]
              have gX : Fr no W (wr.alloc (.cells #[.int .i64 fr, .int .i64 to, .int .i64 tg, .int .i64 cl, .int .i64 dp] 59)) := hw.alloc _ _
              have hX := heap_alloc_new wr (.cells #[.int .i64 fr, .int .i64 to, .int .i64 tg, .int .i64 cl, .int .i64 dp] 59)
              have HPK : Hid (∀ (i : Nat) (x : Cs), pool[i]? = some x → ∃ b off, kpa = some ⟨b, off, none⟩ ∧ (wr.alloc (.cells #[.int .i64 fr, .int .i64 to, .int .i64 tg, .int .i64 cl, .int .i64 dp] 59)).cell? ⟨b, off + i * 5, none⟩ = some (.int .i64 x.k)) := fun i x hxp => by
                obtain ⟨pb, po, e, pk⟩ := HPI.out i x hxp
                exact ⟨pb, po, e, (HW.out.new gX (fun _ _ f => f)).cell pk (fun f => f)⟩
              obtain ⟨D0, D1, D2, D3⟩ := HB.out _ gX
              obtain ⟨x0, x1, x2, x3, x4⟩ := box5 hX
              clear c0' c1' c2' c3' c4' hx hF HN f0 hX
              by_cases t0 : fr < 0
              · have HE : Hid (ckCode pool m = 52) := HBAD.out 52 (by decide) (by rw [HKI.out, if_neg (by omega)])
                go_wp2_with fail
                go_ret
                rw [HE.out]
                exact ⟨rfl, HW.out.new gX (fun _ _ f => f)⟩
              by_cases t1 : to ≤ fr
              · have HE : Hid (ckCode pool m = 52) := HBAD.out 52 (by decide) (by rw [HKI.out, if_neg (by omega)])
                go_wp2_with fail
                go_ret
                rw [HE.out]
                exact ⟨rfl, HW.out.new gX (fun _ _ f => f)⟩
              by_cases t2 : (m.code.length : Int) < to
              · have HE : Hid (ckCode pool m = 52) := HBAD.out 52 (by decide) (by rw [HKI.out, if_neg (by omega)])
                go_wp2_with fail
                go_ret
                rw [HE.out]
                exact ⟨rfl, HW.out.new gX (fun _ _ f => f)⟩
              by_cases t3 : tg < 0
              · have HE : Hid (ckCode pool m = 52) := HBAD.out 52 (by decide) (by rw [HKI.out, if_neg (by omega)])
                go_wp2_with fail
                go_ret
                rw [HE.out]
                exact ⟨rfl, HW.out.new gX (fun _ _ f => f)⟩
              by_cases t4 : (m.code.length : Int) ≤ tg
              · have HE : Hid (ckCode pool m = 52) := HBAD.out 52 (by decide) (by rw [HKI.out, if_neg (by omega)])
                go_wp2_with fail
                go_ret
                rw [HE.out]
                exact ⟨rfl, HW.out.new gX (fun _ _ f => f)⟩
              rw [if_pos (by omega)] at HKI
              by_cases t5 : cl < -1
              · have HE : Hid (ckCode pool m = 51) := HBAD.out 51 (by decide) (by rw [HKI.out, if_neg (fun e => e.elim (fun e => by omega) (fun e => by have := cst_lt pool cl 3 e; omega))])
                go_wp2_with fail
                go_ret
                rw [HE.out]
                exact ⟨rfl, HW.out.new gX (fun _ _ f => f)⟩
              by_cases t6 : (pool.length : Int) ≤ cl
              · have HE : Hid (ckCode pool m = 51) := HBAD.out 51 (by decide) (by rw [HKI.out, if_neg (fun e => e.elim (fun e => by omega) (fun e => by have := cst_lt pool cl 3 e; omega))])
                go_wp2_with fail
                go_ret
                rw [HE.out]
                exact ⟨rfl, HW.out.new gX (fun _ _ f => f)⟩
              by_cases t7 : 0 ≤ cl
              · obtain ⟨i, rfl⟩ : ∃ i : Nat, cl = (i : Int) := ⟨cl.toNat, by omega⟩
                obtain ⟨x, hxp⟩ : ∃ x, pool[i]? = some x := ⟨_, List.getElem?_eq_getElem (by omega)⟩
                rw [isCst_some pool i _ x hxp] at HKI
                obtain ⟨pb, po, rfl, pk⟩ := HPK.out i x hxp
                have tl : (i : Int) < (pool.length : Int) := by omega
                clear hxp HPK
                generalize x.k = xk at *
                by_cases hak : xk = 3
                · subst hak
                  rw [decide_eq_true rfl, if_pos (.inr rfl)] at HKI
                  by_cases t8 : dp < 0
                  · have HE : Hid (ckCode pool m = 32) := HBAD.out 32 (by decide) (by rw [HKI.out, if_neg (by omega)])
                    go_wp2_with fail
                    go_ret
                    rw [HE.out]
                    exact ⟨rfl, HW.out.new gX (fun _ _ f => f)⟩
                  by_cases t9 : 6 < dp
                  · have HE : Hid (ckCode pool m = 32) := HBAD.out 32 (by decide) (by rw [HKI.out, if_neg (by omega)])
                    go_wp2_with fail
                    go_ret
                    rw [HE.out]
                    exact ⟨rfl, HW.out.new gX (fun _ _ f => f)⟩
                  have HV : Hid (ckHd pool m.code.length ⟨fr, to, tg, (i : Int), dp⟩ = 0) := by show _ = _; rw [HKI.out, if_pos (by omega)]
                  go_wp2_with fail
                  go_roundw
                  case rel => exact ⟨j + 1, by go_num, by omega, gX, HST.out HV.out⟩
                  case measure => simp [intOf]; omega
                · have hak1 : (xk == 3) = false := by simpa using hak
                  have HE : Hid (ckCode pool m = 51) := HBAD.out 51 (by decide) (by rw [HKI.out, decide_eq_false hak, if_neg (fun e => e.elim (fun e => by omega) (fun e => by simp at e))])
                  go_wp2_with fail
                  go_ret
                  rw [HE.out]
                  exact ⟨rfl, HW.out.new gX (fun _ _ f => f)⟩
              · obtain rfl : cl = -1 := by omega
                rw [if_pos (.inl rfl)] at HKI
                by_cases t8 : dp < 0
                · have HE : Hid (ckCode pool m = 32) := HBAD.out 32 (by decide) (by rw [HKI.out, if_neg (by omega)])
                  go_wp2_with fail
                  go_ret
                  rw [HE.out]
                  exact ⟨rfl, HW.out.new gX (fun _ _ f => f)⟩
                by_cases t9 : 6 < dp
                · have HE : Hid (ckCode pool m = 32) := HBAD.out 32 (by decide) (by rw [HKI.out, if_neg (by omega)])
                  go_wp2_with fail
                  go_ret
                  rw [HE.out]
                  exact ⟨rfl, HW.out.new gX (fun _ _ f => f)⟩
                have HV : Hid (ckHd pool m.code.length ⟨fr, to, tg, -1, dp⟩ = 0) := by show _ = _; rw [HKI.out, if_pos (by omega)]
                go_wp2_with fail
                go_roundw
                case rel => exact ⟨j + 1, by go_num, by omega, gX, HST.out HV.out⟩
                case measure => simp [intOf]; omega
            · have HE : Hid (ckCode pool m = 0) := by
                obtain rfl : j = m.hands.length := by omega
                show _ = _
                rw [HK.out, ← hF, List.drop_length]
                rfl
              go_wp2_with fail
              go_ret
              rw [HE.out]
              exact ⟨rfl, HW.out.new hw (fun _ _ f => f)⟩
      · have HK : Hid (ckCode pool m = 54) := by show _ = _; rw [HK2.out, if_neg (by rw [hs]; simp)]
        clear HK2
        rw [hs] at ST
        go_wp2_with fail
        refine (ST _).mono ?_
        rintro e w2 ⟨rfl, rfl⟩
        go_wp2_with fail
        go_ret
        rw [HK.out]
        exact ⟨rfl, HW.out.new hw (fun _ _ f => f)⟩
end Go.Proofs.YthncdbobjeeeaaaGreatDoor

