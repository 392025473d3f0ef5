/- What the document's own Get reads of whatever bytes. -/
import Derived.Test.YthncdbobjeeeaaaGreatDoorGet
namespace Go.Proofs.YthncdbobjeeeaaaGreatDoor
open Go.ChangeShapes Go.WideShapes Go.ChangeAt Go.RowKit

/-- The document's reader at p, newer than w0, whose bytes left are l. -/
def RD (w0 w : World) (p : Nat) (l : List Nat) : Prop := Rd 78 w p l ∧ w0.heap.size ≤ p ∧ Fr no w0 w

theorem RD.step {w0 w w' : World} {p : Nat} {l l' : List Nat} (h : RD w0 w p l) (h1 : Rd 78 w' p l') (h2 : Fr (fun q => q = p) w w') : RD w0 w' p l' :=
  ⟨h1, h.2.1, h.2.2.new h2 (fun i hi e => by have := h.2.1; omega)⟩

theorem RD.kept {w0 w w' : World} {p : Nat} {l : List Nat} (h : RD w0 w p l) (hf : Fr no w w') : RD w0 w' p l :=
  ⟨h.1.kept hf (fun f => f) (fun _ _ _ f => f), h.2.1, h.2.2.new hf (fun _ _ f => f)⟩

theorem RD.lt {w0 w : World} {p : Nat} {l : List Nat} (h : RD w0 w p l) : p < w.heap.size := by obtain ⟨⟨u, h1, _⟩, _, _⟩ := h; exact lt_of_heap h1

theorem RD.beside {w0 w w' : World} {p : Nat} {l : List Nat} {v v' : Value} {acc : List (Int × Int)} (h : RD w0 w p l) (ho : OwnI w v acc) (hp : v.ownBlock ≠ some p) (h0 : ∀ k, v.ownBlock = some k → w0.heap.size ≤ k) (hs : Sp no v w v' w') :
    RD w0 w' p l ∧ v'.ownBlock ≠ some p ∧ (∀ k, v'.ownBlock = some k → w0.heap.size ≤ k) := by
  have hlt := h.lt
  refine ⟨⟨h.1.kept hs.1 (fun s => s.elim id hp) (fun k c hk s => s.elim id (ho.apart k c hk)), h.2.1, h.2.2.new hs.1 (fun i hi s => s.elim id (fun e => by have := h0 i e; omega))⟩, fun e => hp (hs.2 p hlt e), fun k hk => ?_⟩
  rcases Nat.lt_or_ge k w.heap.size with hh | hh
  · exact h0 k (hs.2 k hh hk)
  · exact Nat.le_trans h.2.2.size hh

theorem RD.set {w0 w : World} {p r : Nat} {l : List Nat} {x y : Int} {t : TypeId} (h : RD w0 w p l) (hr : w.heap[r]? = some (.cells #[.int .i64 x, .int .i64 y] t (0, 0))) (h0 : w0.heap.size ≤ r) (hp : r ≠ p) (v : Value) :
    RD w0 (w.setCell ⟨r, 1, none⟩ v) p l := by
  have hf : Fr (fun k => k = r) w (w.setCell ⟨r, 1, none⟩ v) := (Fr.refl (fun k => k = r) w).setCell (p := ⟨r, 1, none⟩) (fun _ => rfl) v
  refine ⟨h.1.kept hf (fun e => hp e.symm) (fun k c hk e => ?_), h.2.1, h.2.2.new hf (fun i hi e => by omega)⟩
  unfold World.cell? at hk
  rw [e, hr] at hk
  obtain ⟨kb, ko, ke⟩ := k
  match ko, hk with
  | 0, hk => simp at hk
  | 1, hk => simp at hk
  | n + 2, hk => simp at hk

theorem size_setCell (w : World) (a : Addr) (v : Value) : (w.setCell a v).heap.size = w.heap.size := by unfold World.setCell; simp

theorem src_ins2 (w : World) (a : Addr) (u : Value) (op b : Int) : Src Tryz.prog 2 50 (.slice (some ⟨w.heap.size, 0, none⟩) 1 1) ([(op, b)] : List (Int × Int)).length (ci [(op, b)]) ((w.setCell a u).alloc (.cells #[.int .i64 op, .int .i64 b] 57)) := by
  have := src_ins (w.setCell a u) op b
  rwa [size_setCell] at this

set_option maxRecDepth 100000 in
set_option maxHeartbeats 4000000 in
theorem docGet_any (w : World) (v : Value) (b : List Nat) (h : Sl w v b) (hl : ∀ c ∈ b, c < 256) (hb : b.length ≤ 1099511627776) :
    Calls Tryz.prog 80 #[v] w fun e w' => ∃ v', e = .returned (.tuple #[v', .int .i64 ((gt b).2 : Int)]) ∧ OwnI w' v' (gt b).1 ∧ Fr no w w' := by
  have hle := ct_le b 200
  have Hgt : Hid (gt b = if (ct b 200).2.1 ≠ 0 then ([], (ct b 200).2.1) else fin [] (ct b 200).1 (b.drop (ct b 200).2.2)) := rfl
  have hf1 : Fr no w (w.alloc (.cells #[v] 78)) := (Fr.refl no w).alloc _ _
  have h1 : RD w (w.alloc (.cells #[v] 78)) w.heap.size b := ⟨⟨v, heap_alloc_new w _, h.kept hf1 (fun _ _ _ f => f)⟩, Nat.le_refl _, hf1⟩
  have RC : Calls Tryz.prog 76 #[.pointer (some ⟨w.heap.size, 0, none⟩), .int .i64 200] (w.alloc (.cells #[v] 78)) fun e w' => e = .returned (.tuple #[.int .i64 ((ct b 200).1 : Int), .int .i64 ((ct b 200).2.1 : Int)]) ∧ RD w w' w.heap.size (b.drop (ct b 200).2.2) := by
    refine (docCount_any _ w.heap.size b h1.1 hl hb 200 (by omega) (by omega)).mono ?_
    rintro e w' ⟨rfl, g1, _, g2⟩
    exact ⟨rfl, h1.step g1 g2⟩
  have HD0 : Hid (∀ k : Nat, (∀ c ∈ b.drop k, c < 256) ∧ (b.drop k).length ≤ 1099511627776) :=
    fun k => ⟨fun c hc => hl c (List.mem_of_mem_drop hc), by rw [List.length_drop]; omega⟩
  obtain ⟨vo, vc, rfl, _⟩ := h.shape
  clear h h1 hf1 hl
  generalize b.length = bl at *
  generalize ct b 200 = t at *
  obtain ⟨n, x, k⟩ := t
  simp only [] at *
  by_cases hx : x = 0
  · subst hx
    have hn2 : n ≤ 200 := by have := hle rfl; omega
    clear hle
    go_enter Tryz.func80, Tryz.ntmps80
    go_wp2_with fail
    refine RC.mono ?_
    rintro e w1 ⟨rfl, g1⟩
    have hfin0 : Hid (fin [] n (b.drop k) = gt b) := by show _ = _; rw [Hgt.out, if_neg (by simp)]
    clear RC Hgt
    go_wp2_with fail
    go_loopw [7, 8] (fun s i wr => ∃ (acc : List (Int × Int)) (r : List Nat), i = .int .i64 (acc.length : Int) ∧ acc.length ≤ n ∧ OwnI wr s acc ∧ s.ownBlock ≠ some w.heap.size ∧ (∀ k, s.ownBlock = some k → w.heap.size ≤ k) ∧
      RD w wr w.heap.size r ∧ (∀ c ∈ r, c < 256) ∧ r.length ≤ 1099511627776 ∧ Hid (fin acc (n - acc.length) r = gt b)) (fun _ i _ => n - (intOf i).toNat)
    case atStart => exact ⟨[], b.drop k, rfl, Nat.zero_le _, OwnI.nil _, by simp [Value.ownBlock], fun _ hk => by simp [Value.ownBlock] at hk, g1, (HD0.out k).1, (HD0.out k).2, hfin0⟩
    case round =>
      obtain ⟨acc, r, rfl, hacc, ho, hop, ho0, hrd, hl', hb', HF⟩ := hrel
      clear g1 hfin0 HD0
      obtain ⟨o, cap, eo⟩ := ho.form
      by_cases hlt : acc.length < n
      · have hF := HF.out
        rw [show n - acc.length = (n - (acc.length + 1)) + 1 by omega] at hF
        have hstep : gt b = if (rone r).2.1 ≠ 0 then ([], (rone r).2.1) else fin (acc ++ [(rone r).1]) (n - (acc.length + 1)) (r.drop (rone r).2.2) := hF.symm
        clear hF HF
        have B := docByte_any wr w.heap.size r hrd.1
        subst eo
        cases r with
        | nil =>
          have E : Hid (gt b = ([], 30)) := by show _ = _; rw [hstep, if_pos (by simp [rone])]; rfl
          clear hstep
          go_wp2_with fail
          refine B.mono ?_
          rintro e w2 ⟨rfl, g1, g2⟩
          simp only [by1]
          have h2 := hrd.step g1 g2
          go_wp2_with fail
          go_ret2
          rw [E.out]
          exact ⟨_, rfl, OwnI.nil _, h2.2.2⟩
        | cons c rs =>
          have hlr : ∀ d ∈ rs, d < 256 := fun d hd => hl' d (by simp [hd])
          have hbr : rs.length ≤ 1099511627776 := by simp at hb'; omega
          have hc := hl' c (by simp)
          have ER : rone (c :: rs) = if od (c : Int) = -1 then ((0, 0), 40, 0) else if od (c : Int) = 0 then (((c : Int), 0), 0, 1)
            else if (rd rs 0 0).2.1 ≠ 0 then ((0, 0), (rd rs 0 0).2.1, 0) else if 999 < (rd rs 0 0).1 then ((0, 0), 40, 0) else (((c : Int), ((rd rs 0 0).1 : Int)), 0, 1 + (rd rs 0 0).2.2) := rfl
          have KB : Hid (∀ w2, Rd 78 w2 w.heap.size rs → Fr (fun q => q = w.heap.size) wr w2 → OwnI w2 (.slice o acc.length cap) acc ∧ RD w w2 w.heap.size rs) := fun w2 g1 g2 =>
            ⟨ho.kept g2 (fun k hk e => hop (e ▸ hk)), hrd.step g1 g2⟩
          have hbb : ∀ y : Int, acc.length + ([((c : Int), y)] : List (Int × Int)).length ≤ 1099511627776 := fun y => by simp; omega
          clear hl' hb' ho hrd
          rcases od_cases (c : Int) with e | e | ⟨e1, e2⟩
          · have E : Hid (gt b = ([], 40)) := by show _ = _; rw [hstep, ER, if_pos e]; rfl
            clear hstep ER
            go_wp2_with fail
            refine B.mono ?_
            rintro e' w2 ⟨rfl, g1, g2⟩
            simp only [by1] at g1 ⊢
            have KB2 := KB.out w2 g1 g2
            have O := docOperand_any (w2.alloc (.cells #[.int .i64 (c : Int), .int .i64 0] 57)) (c : Int)
            rw [e] at O
            clear g1 g2 e
            go_wp2_with fail
            refine O.mono ?_
            rintro e w3 ⟨rfl, rfl⟩
            go_wp2_with fail
            go_ret2
            rw [E.out]
            exact ⟨_, rfl, OwnI.nil _, KB2.2.2.2.alloc _ _⟩
          · have E : Hid (gt b = fin (acc ++ [((c : Int), 0)]) (n - (acc.length + 1)) rs) := by
              show _ = _
              have ER2 : rone (c :: rs) = (((c : Int), 0), 0, 1) := by rw [ER, if_neg (by omega), if_pos e]
              rw [hstep, ER2]
              rfl
            clear hstep ER
            go_wp2_with fail
            refine B.mono ?_
            rintro e' w2 ⟨rfl, g1, g2⟩
            simp only [by1] at g1 ⊢
            obtain ⟨o2, h2⟩ := KB.out w2 g1 g2
            have O := docOperand_any (w2.alloc (.cells #[.int .i64 (c : Int), .int .i64 0] 57)) (c : Int)
            rw [e] at O
            clear g1 g2 e
            go_wp2_with fail
            refine O.mono ?_
            rintro e w3 ⟨rfl, rfl⟩
            go_wp2_with fail
            refine O.mono ?_
            rintro e w3 ⟨rfl, rfl⟩
            have fA : Fr no w2 ((w2.alloc (.cells #[.int .i64 (c : Int), .int .i64 0] 57)).alloc (.cells #[.int .i64 (c : Int), .int .i64 0] 57)) := ((Fr.refl no w2).alloc _ _).alloc _ _
            have o3 := o2.kept fA (fun _ _ f => f)
            have h3 := h2.kept fA
            have hS := src_ins1 w2 #[.int .i64 (c : Int), .int .i64 0] 57 (c : Int) 0
            have BB : Hid (∀ v4 w4, Sp no (.slice o acc.length cap) ((w2.alloc (.cells #[.int .i64 (c : Int), .int .i64 0] 57)).alloc (.cells #[.int .i64 (c : Int), .int .i64 0] 57)) v4 w4 → _) := fun v4 w4 s4 => h3.beside o3 hop ho0 s4
            clear O o2 h2 fA h3
            go_wp2_with (at_builtin; refine wpList_apdI _ rfl rfl (.tmp 62) (.tmp 64) rfl _ acc rfl o3 _ rfl [((c : Int), 0)] hS (by simp) (hbb 0) ?_; intro v4 w4 o4 s4; have b4 := BB.out v4 w4 s4; obtain ⟨oo, cc, e4⟩ := o4.form; rw [List.length_append] at e4; subst e4)
            go_roundw
            case rel => exact ⟨acc ++ [((c : Int), 0)], rs, by simp, by simp; omega, o4, b4.2.1, b4.2.2, b4.1, hlr, hbr, by show _ = _; rw [List.length_append]; exact E.out.symm⟩
            case measure => simp [intOf]; omega
          · have E' : gt b = if (rd rs 0 0).2.1 ≠ 0 then ([], (rd rs 0 0).2.1) else if 999 < (rd rs 0 0).1 then ([], 40) else fin (acc ++ [((c : Int), ((rd rs 0 0).1 : Int))]) (n - (acc.length + 1)) (rs.drop (rd rs 0 0).2.2) := by
              have ER3 : rone (c :: rs) = if (rd rs 0 0).2.1 ≠ 0 then ((0, 0), (rd rs 0 0).2.1, 0) else if 999 < (rd rs 0 0).1 then ((0, 0), 40, 0) else (((c : Int), ((rd rs 0 0).1 : Int)), 0, 1 + (rd rs 0 0).2.2) := by
                rw [ER, if_neg (by omega), if_neg (by omega)]
              rw [hstep, ER3]
              by_cases q1 : (rd rs 0 0).2.1 = 0
              · by_cases q2 : 999 < (rd rs 0 0).1
                · simp [q1, q2]
                · simp [q1, q2, Nat.add_comm 1]
              · simp [q1]
            have hpos : 0 < od (c : Int) := e1
            have RU : Hid (∀ w3 : World, RD w w3 w.heap.size rs → Calls Tryz.prog 131 #[.pointer (some ⟨w.heap.size, 0, none⟩)] w3 fun e w' => e = .returned (.tuple #[.int .u64 ((rd rs 0 0).1 : Int), .int .i64 ((rd rs 0 0).2.1 : Int)]) ∧ RD w w' w.heap.size (rs.drop (rd rs 0 0).2.2) ∧ Fr (fun q => q = w.heap.size) w3 w') := by
              intro w3 h3
              refine (docUint_any w3 w.heap.size rs h3.1 hlr hbr).mono ?_
              rintro e w' ⟨rfl, g1, _, g2⟩
              exact ⟨rfl, h3.step g1 g2, g2⟩
            have hrl := rd_lt rs 0 0 hlr (by omega) (by omega)
            have HD : Hid (∀ k : Nat, (∀ c ∈ rs.drop k, c < 256) ∧ (rs.drop k).length ≤ 1099511627776) :=
              fun k => ⟨fun c hc => hlr c (List.mem_of_mem_drop hc), by rw [List.length_drop]; omega⟩
            clear hstep ER e1 e2
            generalize rd rs 0 0 = t at *
            obtain ⟨m, x, kk⟩ := t
            simp only [] at *
            by_cases hx : x = 0
            · subst hx
              by_cases hbig : 999 < m
              · have E : Hid (gt b = ([], 40)) := by show _ = _; rw [E', if_neg (by omega), if_pos hbig]
                clear E'
                go_wp2_with fail
                refine B.mono ?_
                rintro e' w2 ⟨rfl, g1, g2⟩
                simp only [by1] at g1 ⊢
                obtain ⟨o2, h2⟩ := KB.out w2 g1 g2
                have O := docOperand_any (w2.alloc (.cells #[.int .i64 (c : Int), .int .i64 0] 57)) (c : Int)
                generalize od (c : Int) = z at *
                clear g1 g2
                go_wp2_with fail
                refine O.mono ?_
                rintro e w3 ⟨rfl, rfl⟩
                go_wp2_with fail
                refine O.mono ?_
                rintro e w3 ⟨rfl, rfl⟩
                go_wp2_with fail
                refine (RU.out _ (h2.kept ((Fr.refl no w2).alloc _ _))).mono ?_
                rintro e w4 ⟨rfl, h4, f4⟩
                go_wp2_with fail
                go_ret2
                rw [E.out]
                exact ⟨_, rfl, OwnI.nil _, h4.2.2⟩
              · have E : Hid (gt b = fin (acc ++ [((c : Int), (m : Int))]) (n - (acc.length + 1)) (rs.drop kk)) := by show _ = _; rw [E', if_neg (by omega), if_neg hbig]
                clear E'
                go_wp2_with fail
                refine B.mono ?_
                rintro e' w2 ⟨rfl, g1, g2⟩
                simp only [by1] at g1 ⊢
                obtain ⟨o2, h2⟩ := KB.out w2 g1 g2
                have O := docOperand_any (w2.alloc (.cells #[.int .i64 (c : Int), .int .i64 0] 57)) (c : Int)
                generalize od (c : Int) = z at *
                clear g1 g2
                go_wp2_with fail
                refine O.mono ?_
                rintro e w3 ⟨rfl, rfl⟩
                go_wp2_with fail
                refine O.mono ?_
                rintro e w3 ⟨rfl, rfl⟩
                have fA : Fr no w2 (w2.alloc (.cells #[.int .i64 (c : Int), .int .i64 0] 57)) := (Fr.refl no w2).alloc _ _
                have hX : (w2.alloc (.cells #[.int .i64 (c : Int), .int .i64 0] 57)).heap[w2.heap.size]? = some (.cells #[.int .i64 (c : Int), .int .i64 0] 57 (0, 0)) := heap_alloc_new w2 _
                have hpX : w2.heap.size ≠ w.heap.size := by have := h2.lt; omega
                have hX0 : w.heap.size ≤ w2.heap.size := h2.2.2.size
                have hoX : ∀ k, Value.ownBlock (.slice o acc.length cap) = some k → k ≠ w2.heap.size := fun k hk e => by have := o2.lt hk; omega
                have KU : Hid (∀ w4, RD w w4 w.heap.size (rs.drop kk) → Fr (fun q => q = w.heap.size) (w2.alloc (.cells #[.int .i64 (c : Int), .int .i64 0] 57)) w4 →
                    w4.heap[w2.heap.size]? = some (.cells #[.int .i64 (c : Int), .int .i64 0] 57 (0, 0)) ∧
                    OwnI ((w4.setCell ⟨w2.heap.size, 1, none⟩ (.int .i64 (m : Int))).alloc (.cells #[.int .i64 (c : Int), .int .i64 (m : Int)] 57)) (.slice o acc.length cap) acc ∧
                    RD w ((w4.setCell ⟨w2.heap.size, 1, none⟩ (.int .i64 (m : Int))).alloc (.cells #[.int .i64 (c : Int), .int .i64 (m : Int)] 57)) w.heap.size (rs.drop kk)) := by
                  intro w4 h4 f4
                  have hX4 := f4.heap hX hpX
                  have o4 := (o2.kept fA (fun _ _ f => f)).kept f4 (fun k hk e => hop (e ▸ hk))
                  have hf : Fr (fun k => k = w2.heap.size) w4 (w4.setCell ⟨w2.heap.size, 1, none⟩ (.int .i64 (m : Int))) := (Fr.refl (fun k => k = w2.heap.size) w4).setCell (p := ⟨w2.heap.size, 1, none⟩) (fun _ => rfl) _
                  exact ⟨hX4, (o4.kept hf (fun k hk e => hoX k hk e)).kept ((Fr.refl no _).alloc _ _) (fun _ _ f => f), (h4.set hX4 hX0 hpX _).kept ((Fr.refl no _).alloc _ _)⟩
                have RU2 := RU.out _ (h2.kept fA)
                clear O o2 h2 fA hX hoX
                go_wp2_with fail
                refine RU2.mono ?_
                rintro e w4 ⟨rfl, h4, f4⟩
                obtain ⟨hX4, o5, h5⟩ := KU.out w4 h4 f4
                obtain ⟨c0, c1, z0, z1⟩ := two_cells hX4
                have hS := src_ins2 w4 ⟨w2.heap.size, 1, none⟩ (.int .i64 (m : Int)) (c : Int) (m : Int)
                have BB : Hid (∀ v6 w6, Sp no (.slice o acc.length cap) ((w4.setCell ⟨w2.heap.size, 1, none⟩ (.int .i64 (m : Int))).alloc (.cells #[.int .i64 (c : Int), .int .i64 (m : Int)] 57)) v6 w6 → _) := fun v6 w6 s6 => h5.beside o5 hop ho0 s6
                clear h4 f4 hX4 RU2 h5
                go_wp2_with (at_builtin; refine wpList_apdI _ rfl rfl (.tmp 62) (.tmp 64) rfl _ acc rfl o5 _ rfl [((c : Int), (m : Int))] hS (by simp) (hbb _) ?_; intro v6 w6 o6 s6; have b6 := BB.out v6 w6 s6; obtain ⟨oo, cc, e6⟩ := o6.form; rw [List.length_append] at e6; subst e6)
                go_roundw
                case rel => exact ⟨acc ++ [((c : Int), (m : Int))], rs.drop kk, by simp, by simp; omega, o6, b6.2.1, b6.2.2, b6.1, (HD.out kk).1, (HD.out kk).2, by show _ = _; rw [List.length_append]; exact E.out.symm⟩
                case measure => simp [intOf]; omega
            · have E : Hid (gt b = ([], x)) := by show _ = _; rw [E', if_pos hx]
              have hx' : ((x : Int) == 0) = false := by simp; omega
              clear E'
              go_wp2_with fail
              refine B.mono ?_
              rintro e' w2 ⟨rfl, g1, g2⟩
              simp only [by1] at g1 ⊢
              obtain ⟨o2, h2⟩ := KB.out w2 g1 g2
              have O := docOperand_any (w2.alloc (.cells #[.int .i64 (c : Int), .int .i64 0] 57)) (c : Int)
              generalize od (c : Int) = z at *
              clear g1 g2
              go_wp2_with fail
              refine O.mono ?_
              rintro e w3 ⟨rfl, rfl⟩
              go_wp2_with fail
              refine O.mono ?_
              rintro e w3 ⟨rfl, rfl⟩
              go_wp2_with fail
              refine (RU.out _ (h2.kept ((Fr.refl no w2).alloc _ _))).mono ?_
              rintro e w4 ⟨rfl, h4, f4⟩
              go_wp2_with fail
              go_ret2
              rw [E.out]
              exact ⟨_, rfl, OwnI.nil _, h4.2.2⟩
      · have hna : n - acc.length = 0 := by omega
        have hF := HF.out
        rw [hna] at hF
        obtain ⟨u, e1, e2⟩ := hrd.1
        obtain ⟨uo, uc, eu, _⟩ := e2.shape
        have c1 := cell_of_one e1
        subst eu eo
        clear e1 e2
        by_cases hr0 : r = []
        · subst hr0
          have E : Hid (gt b = (acc, 0)) := by show _ = _; rw [← hF]; rfl
          clear hF HF
          go_wp2_with fail
          go_ret2
          rw [E.out]
          exact ⟨_, rfl, ho, hrd.2.2⟩
        · have hpos : 0 < r.length := List.length_pos_iff.2 hr0
          have E : Hid (gt b = ([], 31)) := by show _ = _; rw [← hF]; unfold fin; rw [if_neg hr0]
          clear hF HF
          go_wp2_with fail
          go_ret2
          rw [E.out]
          exact ⟨_, rfl, OwnI.nil _, hrd.2.2⟩
  · have hx' : ((x : Int) == 0) = false := by simp; omega
    have E : Hid (gt b = ([], x)) := by show _ = _; rw [Hgt.out, if_pos hx]
    go_enter Tryz.func80, Tryz.ntmps80
    go_wp2_with fail
    refine RC.mono ?_
    rintro e w2 ⟨rfl, h2⟩
    go_wp2_with fail
    go_ret2
    rw [E.out]
    exact ⟨_, rfl, OwnI.nil _, h2.2.2⟩
end Go.Proofs.YthncdbobjeeeaaaGreatDoor
