/- What code.Get reads of whatever bytes. -/
import Derived.Test.YthncdbobjeeeaaaGreatDoorGets
namespace Go.Proofs.YthncdbobjeeeaaaGreatDoor
open Go.ChangeShapes Go.WideShapes Go.ChangeAt Go.RowKit

/-- So many more read, behind these: the instructions, the error. -/
def fin (acc : List (Int × Int)) : Nat → List Nat → List (Int × Int) × Nat
  | 0, r => if r = [] then (acc, 0) else ([], 31)
  | n + 1, r => if (rone r).2.1 ≠ 0 then ([], (rone r).2.1) else fin (acc ++ [(rone r).1]) n (r.drop (rone r).2.2)

/-- What Get makes of bytes. -/
def gt (b : List Nat) : List (Int × Int) × Nat :=
  if (ct b 200).2.1 ≠ 0 then ([], (ct b 200).2.1) else fin [] (ct b 200).1 (b.drop (ct b 200).2.2)

def slen : Value → Nat
  | .slice _ n _ => n
  | _ => 0

def GetAt (w0 : World) (v : Value) (bs : List Nat) (a : Act) (w : World) : Prop :=
  ∃ (p n : Nat) (acc : List (Int × Int)) (r : List Nat) (u1 u2 u3 u5 u6 u7 u8 u9 u10 u11 u12 u13 u14 u15 u16 u17 u18 u19 u20 u21 u22 u23 u24 u25 u26 u27 u28 u29 u30 u31 u32 u33 u34 u35 u36 u37 u38 u39 u40 u41 : Value),
    a = { tmps := #[v, u1, u2, u3, .pointer (some ⟨p, 0, none⟩), u5, u6, u7, u8, u9, u10, u11, u12, u13, u14, u15, u16, u17, u18, u19, u20, u21, u22, u23, u24, u25, u26, u27, u28, u29, u30, u31, u32, u33, u34, u35, u36, u37, u38, u39, u40, u41], defers := [] } ∧ u5 = .int .i64 (n : Int) ∧ n ≤ 200 ∧ acc.length ≤ n ∧ OwnI w u7 acc ∧ u7.ownBlock ≠ some p ∧ (∀ k, u7.ownBlock = some k → w0.heap.size ≤ k) ∧
    RB w0 w p r ∧ (∀ c ∈ r, c < 256) ∧ r.length ≤ 1099511627776 ∧ fin acc (n - acc.length) r = gt bs

theorem size_alloc (w : World) (o : Obj) : (w.alloc o).heap.size = w.heap.size + 1 := by
  show (w.heap.push o).size = _
  exact Array.size_push _

theorem src_ins1 (w : World) (c : Array Value) (t : TypeId) (op a : Int) : Src Tryz.prog 2 50 (.slice (some ⟨w.heap.size + 1, 0, none⟩) 1 1) ([(op, a)] : List (Int × Int)).length (ci [(op, a)]) ((w.alloc (.cells c t)).alloc (.cells #[.int .i64 op, .int .i64 a] 57)) := by
  have := src_ins (w.alloc (.cells c t)) op a
  rwa [size_alloc] at this

theorem RB.kept {w0 w w' : World} {p : Nat} {l : List Nat} (h : RB w0 w p l) (hf : Fr no w w') : RB w0 w' p l :=
  ⟨h.1.kept hf (fun f => f) (fun _ _ _ f => f), h.2.1, h.2.2.new hf (fun _ _ f => f)⟩

theorem RB.beside {w0 w w' : World} {p : Nat} {l : List Nat} {v v' : Value} {acc : List (Int × Int)} (h : RB w0 w p l) (ho : OwnI w v acc) (hp : v.ownBlock ≠ some p) (h0 : ∀ k, v.ownBlock = some k → w0.heap.size ≤ k) (hs : Sp no v w v' w') :
    RB w0 w' p l ∧ v'.ownBlock ≠ some p ∧ (∀ k, v'.ownBlock = some k → w0.heap.size ≤ k) := by
  have hlt : p < w.heap.size := by obtain ⟨⟨u, h1, _⟩, _, _⟩ := h; exact lt_of_heap h1
  refine ⟨⟨h.1.kept hs.1 (fun s => s.elim id hp) (fun k c hk s => s.elim id (ho.apart k c hk)), h.2.1, h.2.2.new hs.1 (fun i hi s => s.elim id (fun e => by have := h0 i e; omega))⟩, fun e => hp (hs.2 p hlt e), fun k hk => ?_⟩
  rcases Nat.lt_or_ge k w.heap.size with hh | hh
  · exact h0 k (hs.2 k hh hk)
  · exact Nat.le_trans h.2.2.size hh

set_option maxRecDepth 100000 in
set_option maxHeartbeats 2000000 in
theorem get_any (w : World) (T : Tb w) (v : Value) (b : List Nat) (h : Sl w v b) (hl : ∀ c ∈ b, c < 256) (hb : b.length ≤ 1099511627776) :
    Calls Tryz.prog 130 #[v] w fun e w' => ∃ v', e = .returned (.tuple #[v', .int .i64 ((gt b).2 : Int)]) ∧ OwnI w' v' (gt b).1 ∧ Fr no w w' := by
  have hle := ct_le b 200
  have Hgt : Hid (gt b = if (ct b 200).2.1 ≠ 0 then ([], (ct b 200).2.1) else fin [] (ct b 200).1 (b.drop (ct b 200).2.2)) := rfl
  have RC : Hid (∀ w1 p, RB w w1 p b → Calls Tryz.prog 125 #[.pointer (some ⟨p, 0, none⟩), .int .i64 200] w1 fun e w' => e = .returned (.tuple #[.int .i64 ((ct b 200).1 : Int), .int .i64 ((ct b 200).2.1 : Int)]) ∧ RB w w' p (b.drop (ct b 200).2.2)) :=
    fun w1 p h1 => rb_count w w1 p b h1 hl hb 200 (by omega) (by omega)
  have RO := rb_open w w (Fr.refl _ _) v b h hb
  have HD : Hid (∀ k : Nat, (∀ c ∈ b.drop k, c < 256) ∧ (b.drop k).length ≤ 1099511627776) :=
    fun k => ⟨fun c hc => hl c (List.mem_of_mem_drop hc), by rw [List.length_drop]; omega⟩
  generalize ct b 200 = t at *
  obtain ⟨n, x, k⟩ := t
  simp only [] at *
  go_enter Tryz.func130, Tryz.ntmps130
  go_wp2_with fail
  refine wp_label_one 0 (GetAt w v b) (fun a' _ => (intOf (a'.tmps.getD 5 undef)).toNat - slen (a'.tmps.getD 7 undef)) rfl ?_ ?_
  · intro K h0 hr hn'
    by_cases hx : x = 0
    · subst hx
      have hn2 : n ≤ 200 := by have := hle rfl; omega
      have hmk := fun w => run_make w n (by omega)
      go_wp2_with fail
      refine RO.mono ?_
      rintro e w1 ⟨p, rfl, h1⟩
      go_wp2_with fail
      refine (RC.out w1 p h1).mono ?_
      rintro e w2 ⟨rfl, h2⟩
      go_wp2_with fail
      go_step3
      rename_i hk
      have hm := own_made w2 n (by unfold maxLen; omega)
      have h3 := h2.kept ((Fr.refl no w2).alloc (madeCells #[.int .i64 0, .int .i64 0] (n * 2)) 57)
      have hp2 : p < w2.heap.size := by obtain ⟨⟨u, g1, _⟩, _, _⟩ := h2; exact lt_of_heap g1
      refine hk _ _ (h0 _ _ ⟨p, n, [], b.drop k, _, _, _, _, _, _, _, _, _, _, _, _, _, _, _, _, _, _, _, _, _, _, _, _, _, _, _, _, _, _, _, _, _, _, _, _, _, _, _, _, rfl, rfl, hn2, Nat.zero_le _, hm, ?_, ?_, h3, (HD.out k).1, (HD.out k).2, ?_⟩)
      · simp [Value.ownBlock]; omega
      · intro i hi; simp only [Value.ownBlock, Option.some.injEq] at hi; subst hi; exact h2.2.2.size
      · rw [Hgt.out, if_neg (by simp)]; rfl
    · have hx' : ((x : Int) == 0) = false := by simp; omega
      have E : Hid (gt b = ([], x)) := by show _ = _; rw [Hgt.out, if_pos hx]
      go_wp2_with fail
      refine RO.mono ?_
      rintro e w1 ⟨p, rfl, h1⟩
      go_wp2_with fail
      refine (RC.out w1 p h1).mono ?_
      rintro e w2 ⟨rfl, h2⟩
      go_wp2_with fail
      refine hr _ _ ?_
      go_ret2
      rw [E.out]
      exact ⟨_, rfl, OwnI.nil _, h2.2.2⟩
  · clear RO RC Hgt HD hle
    clear n x k
    rintro a' w' ⟨p, n, acc, r, u1, u2, u3, u5, u6, u7, u8, u9, u10, u11, u12, u13, u14, u15, u16, u17, u18, u19, u20, u21, u22, u23, u24, u25, u26, u27, u28, u29, u30, u31, u32, u33, u34, u35, u36, u37, u38, u39, u40, u41, rfl, rfl, hn, hacc, ho, hop, ho0, hrb, hl', hb', hfin⟩ K hj hr hn'
    have HF : Hid (fin acc (n - acc.length) r = gt b) := hfin
    clear hfin h hl hb
    obtain ⟨o, cap, eo⟩ := ho.form
    by_cases hlt : acc.length < n
    · have hstep : fin acc (n - acc.length) r = if (rone r).2.1 ≠ 0 then ([], (rone r).2.1) else fin (acc ++ [(rone r).1]) (n - (acc.length + 1)) (r.drop (rone r).2.2) := by
        rw [show n - acc.length = (n - (acc.length + 1)) + 1 by omega]
        rfl
      rw [HF.out] at hstep
      have HS : Hid (gt b = if (rone r).2.1 ≠ 0 then ([], (rone r).2.1) else fin (acc ++ [(rone r).1]) (n - (acc.length + 1)) (r.drop (rone r).2.2)) := hstep
      have R := read_any w w' T p r hrb hl' hb'
      have HD : Hid (∀ k : Nat, (∀ c ∈ r.drop k, c < 256) ∧ (r.drop k).length ≤ 1099511627776) :=
        fun k => ⟨fun c hc => hl' c (List.mem_of_mem_drop hc), by rw [List.length_drop]; omega⟩
      clear hstep HF
      generalize rone r = t at *
      obtain ⟨⟨x, y⟩, er, kk⟩ := t
      unfold ins at R
      simp only [] at *
      subst eo
      by_cases her : er = 0
      · subst her
        go_wp2_with fail
        refine R.mono ?_
        rintro e w2 ⟨rfl, f2, r', h2, hr'⟩
        have hr' := hr' trivial
        subst hr'
        have o2 := ho.kept f2 (fun k hk e => hop (e ▸ hk))
        have fA : Fr no w2 ((w2.alloc (.cells #[.int .i64 x, .int .i64 y] 57)).alloc (.cells #[.int .i64 x, .int .i64 y] 57)) := ((Fr.refl no w2).alloc _ _).alloc _ _
        have o3 := o2.kept fA (fun _ _ f => f)
        have h3 := h2.kept fA
        have hS := src_ins1 w2 #[.int .i64 x, .int .i64 y] 57 x y
        have B : Hid (∀ v4 w4, Sp no (.slice o acc.length cap) ((w2.alloc (.cells #[.int .i64 x, .int .i64 y] 57)).alloc (.cells #[.int .i64 x, .int .i64 y] 57)) v4 w4 → _) := fun v4 w4 s4 => h3.beside o3 hop ho0 s4
        have hbb : acc.length + ([(x, y)] : List (Int × Int)).length ≤ 1099511627776 := by simp; omega
        clear R ho o2 f2 h2 hrb fA h3
        go_wp2_with (at_builtin; refine wpList_apdI _ rfl rfl (.tmp 34) (.tmp 36) rfl _ acc rfl o3 _ rfl [(x, y)] hS (by simp) hbb ?_; intro v4 w4 o4 s4; have b4 := B.out v4 w4 s4; obtain ⟨oo, cc, e4⟩ := o4.form; rw [List.length_append] at e4; subst e4)
        go_step3
        refine hj _ _ ⟨p, n, acc ++ [(x, y)], r.drop kk, _, _, _, _, _, _, _, _, _, _, _, _, _, _, _, _, _, _, _, _, _, _, _, _, _, _, _, _, _, _, _, _, _, _, _, _, _, _, _, _, rfl, rfl, hn, by simp; omega, o4, b4.2.1, b4.2.2, b4.1, (HD.out kk).1, (HD.out kk).2, ?_⟩ ?_
        · rw [HS.out, if_neg (by simp), List.length_append]; rfl
        · simp [intOf, slen]; omega
      · have her' : ((er : Int) == 0) = false := by simp; omega
        have E : Hid (gt b = ([], er)) := by show _ = _; rw [HS.out, if_pos her]
        go_wp2_with fail
        refine R.mono ?_
        rintro e w2 ⟨rfl, f2, r', h2, _⟩
        go_wp2_with fail
        refine hr _ _ ?_
        go_ret2
        rw [E.out]
        exact ⟨_, rfl, OwnI.nil _, h2.2.2.alloc _ _⟩
    · have hna : n = acc.length := by omega
      have L := left_any w' p r hrb.1
      subst eo
      by_cases hr0 : r = []
      · subst hr0
        have E : Hid (gt b = (acc, 0)) := by show _ = _; rw [← HF.out, show n - acc.length = 0 by omega]; rfl
        go_wp2_with fail
        refine L.mono ?_
        rintro e w2 ⟨rfl, rfl⟩
        go_wp2_with fail
        refine hr _ _ ?_
        go_ret2
        rw [E.out]
        exact ⟨_, rfl, ho, hrb.2.2⟩
      · have hpos : 0 < r.length := List.length_pos_iff.2 hr0
        have E : Hid (gt b = ([], 31)) := by show _ = _; rw [← HF.out, show n - acc.length = 0 by omega]; unfold fin; rw [if_neg hr0]
        go_wp2_with fail
        refine L.mono ?_
        rintro e w2 ⟨rfl, rfl⟩
        go_wp2_with fail
        refine hr _ _ ?_
        go_ret2
        rw [E.out]
        exact ⟨_, rfl, OwnI.nil _, hrb.2.2⟩
end Go.Proofs.YthncdbobjeeeaaaGreatDoor
