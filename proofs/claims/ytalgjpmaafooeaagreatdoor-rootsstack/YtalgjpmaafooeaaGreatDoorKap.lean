/- The types of one list raised by those of another one. -/
import Derived.Test.YtalgjpmaafooeaaGreatDoorKao
namespace Go.Proofs.YtalgjpmaafooeaaGreatDoor
open Go.ChangeShapes Go.WideShapes Go.ChangeAt Go.RowKit
open H (ix NewV)
def mrg (a b : Ty) : Prop := a = b ∨ (a.k = 1 ∨ a.k = 2 ∨ a.k = 6) ∧ (b.k = 1 ∨ b.k = 2 ∨ b.k = 6) ∧ a.c = e0 ∧ b.c = e0
theorem mix_set {α : Type} (z l : List α) (k : Nat) (x : α) (hz : z[k]? = some x) (hl : z.length = l.length) : (z.take k ++ l.drop k).set k x = z.take (k + 1) ++ l.drop (k + 1) := by
 have hk : k < z.length := (List.getElem?_eq_some_iff.1 hz).1
 have h1 : (z.take k).length = k := by rw [List.length_take]; omega
 rw [List.set_append_right _ _ (by omega), h1, Nat.sub_self, take_next z k x hz, List.append_assoc]
 congr 1
 cases hd : l.drop k with
 | nil =>
  have := congrArg List.length hd
  rw [List.length_drop] at this
  simp at this
  omega
 | cons y r =>
  have : l.drop (k + 1) = r := by rw [← List.drop_drop, hd]; rfl
  rw [this]
  rfl
theorem tyEq (a b : Ty) : a = b ↔ a.k = b.k ∧ a.c = b.c := by
 obtain ⟨_, _⟩ := a
 obtain ⟨_, _⟩ := b
 simp
set_option maxRecDepth 100000 in
set_option maxHeartbeats 8000000 in
theorem raise_any (w : World) (f lb n lc : Nat) (q bv : Value) (hq : w.cell? ⟨f, 0, none⟩ = some q) (l m : List Ty) (ol : OwnG elTy w (.slice (some ⟨lb, 0, none⟩) n lc) l) (sb : SlG elTy w bv m) (hm : m.length = n)
 (hmrg : ∀ (i : Nat) (a b : Ty), l[i]? = some a → m[i]? = some b → mrg a b) (hfl : f ≠ lb) (hbl : ∀ ad k c, bv = .slice (some ad) k c → ad.block ≠ lb) (hfew : n ≤ 1000) :
 Calls Tryz.prog 142 #[.pointer (some ⟨f, 0, none⟩), .slice (some ⟨lb, 0, none⟩) n lc, bv] w fun e w' => e = .returned (.bool (!decide (List.zipWith mergeT l m = l))) ∧ OwnG elTy w' (.slice (some ⟨lb, 0, none⟩) n lc) (List.zipWith mergeT l m) ∧ Fr (fun k => k = lb) w w' := by
 have hln : l.length = n := by obtain ⟨_, _, e⟩ := ol.form; simp only [Value.slice.injEq] at e; exact e.2.1.symm
 obtain ⟨ba, bc, rfl, hb1, hb2, hit⟩ := sb
 have hzl : (List.zipWith mergeT l m).length = n := by rw [List.length_zipWith]; omega
 have HB : Hid (∀ w', Fr (fun k => k = lb) w w' → w'.cell? ⟨f, 0, none⟩ = some q ∧ ∀ (k : Nat) (b : Ty), m[k]? = some b → ∃ bb bo, ba = some ⟨bb, bo, none⟩ ∧ w'.cell? ⟨bb, bo + k * 2, none⟩ = some (.int .i64 b.k) ∧ w'.cell? ⟨bb, bo + k * 2 + 1, none⟩ = some (.string b.c)) := fun w' hf => by
  refine ⟨hf.cell hq hfl, fun k b hk => ?_⟩
  obtain ⟨bb, bo, rfl, hc⟩ := hit k b hk
  have hne := hbl _ _ _ rfl
  exact ⟨bb, bo, rfl, hf.cell (hc 0 _ rfl) hne, hf.cell (hc 1 _ rfl) hne⟩
 have HM : Hid _ := hmrg
 have HOL : Hid _ := ol
 clear hit hq hmrg ol hbl
 rw [hm] at hb1 ⊢
 go_enter Tryz.func142, Tryz.ntmps142
 go_wp2_with fail
 go_loopw [13, 7] (fun i cv wr => ∃ (k : Nat) (ck : Bool) (lk : List Ty), i = .int .i64 (k : Int) ∧ k ≤ n ∧ cv = .bool ck ∧ OwnG elTy wr (.slice (some ⟨lb, 0, none⟩) n lc) lk ∧ lk = (List.zipWith mergeT l m).take k ++ l.drop k ∧ (ck = true ↔ lk ≠ l) ∧ Fr (fun k => k = lb) w wr) (fun i _ _ => n - (intOf i).toNat)
 case atStart => exact ⟨0, false, l, rfl, Nat.zero_le _, rfl, HOL.out, by simp, by simp, Fr.refl _ _⟩
 case round =>
  obtain ⟨k, ck, lk, rfl, hkn, rfl, o1, hlk, hck, fr⟩ := hrel
  by_cases hlt : k < n
  · have hki : (k : Int) < (n : Int) := by omega
    obtain ⟨a, ha⟩ : ∃ a, l[k]? = some a := ⟨_, List.getElem?_eq_getElem (by omega)⟩
    obtain ⟨b, hb⟩ : ∃ b, m[k]? = some b := ⟨_, List.getElem?_eq_getElem (by omega)⟩
    have hka : lk[k]? = some a := by
     rw [hlk, List.getElem?_append_right (by rw [List.length_take]; omega), List.length_take, List.getElem?_drop]
     rw [show k + (k - min k (List.zipWith mergeT l m).length) = k by omega]
     exact ha
    obtain ⟨hq, hbb⟩ := HB.out wr fr
    obtain ⟨bb, bo, rfl, c0, c1⟩ := hbb k b hb
    obtain ⟨lb', lo2, lcap, e, q0, q1⟩ := ty_at (o1.sl okTy) hka
    simp only [Value.slice.injEq, Option.some.injEq, Addr.mk.injEq, and_true] at e
    obtain ⟨⟨rfl, rfl⟩, -, rfl⟩ := e
    simp only [Nat.zero_add] at q0 q1
    have HMG : Hid (∀ w', Calls Tryz.prog 150 #[q, .agg #[.int .i64 a.k, .string a.c], .agg #[.int .i64 b.k, .string b.c]] w' fun e w2 => e = .returned (tyV (mergeT a b)) ∧ Fr no w' w2) := fun w' => mergeR_any w' q a b (HM.out k a b ha hb)
    generalize hW1 : wr.alloc (.cells #[.int .i64 b.k, .string b.c] 44) = W1
    have G1 : Fr no wr W1 := by rw [← hW1]; exact (Fr.refl no wr).alloc _ _
    have E1 : W1.heap[wr.heap.size]? = some (.cells #[.int .i64 b.k, .string b.c] 44 (0, 0)) := by rw [← hW1]; exact heap_alloc_new wr _
    have HL : Hid (∀ w', Fr no W1 w' → w'.cell? ⟨f, 0, none⟩ = some q ∧ (∀ j u, ([.int .i64 a.k, .string a.c] : List Value)[j]? = some u → w'.cell? ⟨lb, k * 2 + j, none⟩ = some u) ∧ (∀ j u, ([.int .i64 b.k, .string b.c] : List Value)[j]? = some u → w'.cell? ⟨wr.heap.size, 0 + j, none⟩ = some u)) := fun w' hf => by
     refine ⟨hf.cell (G1.cell hq (fun f => f)) (fun f => f), fun j u hj => ?_, fun j u hj => ?_⟩
     · match j, hj with
       | 0, hj => simp at hj; subst hj; exact hf.cell (G1.cell q0 (fun f => f)) (fun f => f)
       | 1, hj => simp at hj; subst hj; exact hf.cell (G1.cell q1 (fun f => f)) (fun f => f)
       | j + 2, hj => simp at hj
     · match j, hj with
       | 0, hj => simp at hj; subst hj; exact hf.cell (cell_at E1) (fun f => f)
       | 1, hj => simp at hj; subst hj; exact hf.cell (cell_at E1) (fun f => f)
       | j + 2, hj => simp at hj
    have HIX : Hid (∀ w' : World, (Instr.indexAt 42 (.slice (some ⟨lb, 0, none⟩) n lc) (.int .i64 (k : Int))).run Tryz.prog w' = .ok (.pointer (some ⟨lb, k * 2, none⟩)) w') := fun w' => by simp [go_sem, hki]
    have HS0 : Hid (Fr no W1 W1.drew) := (Fr.refl no W1).drew
    have HR : Hid (_ ∧ _ ∧ _ ∧ _ ∧ _ ∧ _ ∧ _) := ⟨o1, hlk, hck, fr, ha, hb, hka⟩
    have HW : Hid (_ ∧ _) := ⟨G1, E1⟩
    clear o1 hlk hck fr ha hb hka G1 E1 hbb hq q0 q1
    go_wp2_with fail
    refine late_begin (S := fun w' => Fr no W1 w') (g := 11) (by kernel_rfl) ?_
    refine lateP 0 (ptr f 0) rfl (fun _ => ev_move 0 _ rfl (by kernel_rfl)) (fun _ => HS0.out) ?_
    refine lateP 1 (ptr f 0) rfl (fun _ => ev_nil 18 ⟨f, 0, none⟩ rfl (by kernel_rfl)) (fun _ => HS0.out) ?_
    refine lateP 2 (ptr f 0) rfl (fun _ => ev_field 176 19 0 (ptr f 0) _ rfl (by kernel_rfl) (by kernel_rfl)) (fun _ => HS0.out) ?_
    refine lateT 3 (q) rfl (fun w' hS => ev_load 72 20 (ptr f 0) _ rfl (by kernel_rfl) (by simp [go_sem, (HL.out w' hS).1])) (HS0.out) ?_
    refine lateP 4 (.slice (some ⟨lb, 0, none⟩) n lc) rfl (fun _ => ev_move 1 _ rfl (by kernel_rfl)) (fun _ => HS0.out) ?_
    refine lateP 5 (.int .i64 (k : Int)) rfl (fun _ => ev_move 8 _ rfl (by kernel_rfl)) (fun _ => HS0.out) ?_
    refine lateP 6 (.pointer (some ⟨lb, k * 2, none⟩)) rfl (fun _ => ev_index 42 22 23 (.slice (some ⟨lb, 0, none⟩) n lc) (.int .i64 (k : Int)) _ rfl (by kernel_rfl) (by kernel_rfl) (HIX.out _)) (fun _ => HS0.out) ?_
    refine lateT 7 (.agg #[.int .i64 a.k, .string a.c]) rfl (fun w' hS => ev_load 44 24 (.pointer (some ⟨lb, k * 2, none⟩)) _ rfl (by kernel_rfl) (run_loadAt_mid (P := Tryz.prog) w' lb (k * 2) 44 [.int .i64 a.k, .string a.c] _ (HL.out w' hS).2.1 Tryz.underlying44 rfl (by kernel_rfl))) (HS0.out) ?_
    refine lateT 8 (.agg #[.int .i64 b.k, .string b.c]) rfl (fun w' hS => ev_load 44 9 (ptr wr.heap.size 0) _ rfl (by kernel_rfl) (run_loadAt_mid (P := Tryz.prog) w' wr.heap.size 0 44 [.int .i64 b.k, .string b.c] _ (HL.out w' hS).2.2 Tryz.underlying44 rfl (by kernel_rfl))) (HS0.out) ?_
    refine with_cont (m := 1) Nat #[true, true, true, true, true, true, true, true, true, true, true, false] (fun p => { tmps := #[ptr f 0, .slice (some ⟨lb, 0, none⟩) n lc, .slice (some ⟨bb, bo, none⟩) n bc, undef, undef, undef, .bool false, .bool ck, .int .i64 (k : Int), ptr wr.heap.size 0, ptr p 0, .slice (some ⟨bb, bo, none⟩) n bc, .int .i64 (n : Int), .int .i64 (k : Int), .bool true, .int .i64 (k : Int), .pointer (some ⟨bb, bo + k * 2, none⟩), .agg #[.int .i64 b.k, .string b.c], ptr f 0, ptr f 0, ptr f 0, q, .slice (some ⟨lb, 0, none⟩) n lc, .int .i64 (k : Int), .pointer (some ⟨lb, k * 2, none⟩), .agg #[.int .i64 a.k, .string a.c], .agg #[.int .i64 b.k, .string b.c], .agg #[.int .i64 (mergeT a b).k, .string (mergeT a b).c], u28, u29, u30, u31, u32, u33, u34, u35, u36, u37, u38, undef], defers := [] }) (fun p w' => W1.heap.size ≤ p ∧ w'.heap[p]? = some (.cells #[.int .i64 0, .string ⟨#[]⟩] 44 (0, 0)) ∧ Fr no W1 w') ?_ (fun CONT => ?_)
    · rintro bx w2 ⟨lx, ex, g2⟩
      obtain ⟨w3, r3, h3, F3⟩ := store_mid w2 bx 0 44 44 #[.int .i64 0, .string ⟨#[]⟩] #[.int .i64 (mergeT a b).k, .string (mergeT a b).c] ex (Nat.le_refl 2) (by kernel_rfl) (by kernel_rfl)
      refine late_all [11] (by kernel_rfl) (by simp) (fun jj hjj => ?_)
      obtain rfl := one_of hjj
      refine late_skip rfl rfl (ev_store 44 10 27 (ptr bx 0) (.agg #[.int .i64 (mergeT a b).k, .string (mergeT a b).c]) w3 rfl (by kernel_rfl) (by kernel_rfl) r3) ?_
      refine ⟨(fun h => Bool.noConfusion (show true = false from h)), ?_⟩
      refine late_done (by kernel_rfl) ?_
      have h3' : w3.heap[bx]? = some (.cells #[.int .i64 (mergeT a b).k, .string (mergeT a b).c] 44 (0, 0)) := h3
      obtain ⟨o1, hlk, hck, fr, ha', hb', hka⟩ := HR.out
      have hmr := HM.out k a b ha' hb'
      have G3 : Fr no wr w3 := (HW.out.1.new g2 (fun _ _ f => f)).new F3 (fun i hi e => by have := HW.out.1.size; omega)
      have fr3 : Fr (fun k => k = lb) w w3 := fr.trans G3 (fun _ _ e => e) (fun _ _ f => f.elim)
      have o3 := o1.keep G3
      obtain ⟨m0, m1⟩ := bx2 h3'
      obtain ⟨lb', lo2, lcap, e, q0, q1⟩ := ty_at (o3.sl okTy) hka
      simp only [Value.slice.injEq, Option.some.injEq, Addr.mk.injEq, and_true] at e
      obtain ⟨⟨rfl, rfl⟩, -, rfl⟩ := e
      simp only [Nat.zero_add] at q0 q1
      obtain ⟨lcur, hlcur⟩ := o3.tag (k := lb) rfl
      have fq0 := frozen_at (o := k * 2) hlcur
      have fq1 := frozen_at (o := k * 2 + 1) hlcur
      have hzk : (List.zipWith mergeT l m)[k]? = some (mergeT a b) := by rw [List.getElem?_zipWith, ha', hb']
      have hms := mix_set (List.zipWith mergeT l m) l k (mergeT a b) hzk (by rw [hzl, hln])
      have HX : Hid (_ ∧ _ ∧ _ ∧ _ ∧ _ ∧ _ ∧ _) := ⟨o3, hlk, hck, fr3, ha', hka, hms⟩
      clear o1 hlk hck fr G3 fr3 o3 hlcur h3 h3' F3 r3 ex g2 lx hzk hms HL HIX HMG HS0 HW HR
      rename_i ha
      refine ha _ _ ?_
      refine wp_eq (a' := { tmps := #[.pointer (some ⟨f, 0, none⟩), .slice (some ⟨lb, 0, none⟩) n lc, .slice (some ⟨bb, bo, none⟩) n bc, undef, undef, undef, .bool false, .bool ck, .int .i64 (k : Int), .pointer (some ⟨wr.heap.size, 0, none⟩), .pointer (some ⟨bx, 0, none⟩), .slice (some ⟨bb, bo, none⟩) n bc, .int .i64 (n : Int), .int .i64 (k : Int), .bool true, .int .i64 (k : Int), .pointer (some ⟨bb, bo + k * 2, none⟩), .agg #[.int .i64 b.k, .string b.c], .pointer (some ⟨f, 0, none⟩), .pointer (some ⟨f, 0, none⟩), .pointer (some ⟨f, 0, none⟩), q, .slice (some ⟨lb, 0, none⟩) n lc, .int .i64 (k : Int), .pointer (some ⟨lb, k * 2, none⟩), .agg #[.int .i64 a.k, .string a.c], .agg #[.int .i64 b.k, .string b.c], .agg #[.int .i64 (mergeT a b).k, .string (mergeT a b).c], u28, u29, u30, u31, u32, u33, u34, u35, u36, u37, u38, undef], defers := [] }) (by kernel_rfl) ?_
      clear ha
      by_cases hab : mergeT a b = a
      · have HAB : Hid _ := hab
        rw [hab] at m0
        rw [hab] at m1
        rw [hab]
        clear hab
        go_wp2_with fail
        go_region
        go_wp2_with fail
        go_roundw
        case rel =>
         obtain ⟨o3, hlk, hck, fr3, ha', hka, hms⟩ := HX.out
         refine ⟨k + 1, ck, lk, by go_num, by omega, rfl, o3.keep ((Fr.refl no w3).drew), ?_, hck, fr3.drew⟩
         rw [← hms, ← hlk, HAB.out]
         apply List.ext_getElem?
         intro j
         rw [List.getElem?_set]
         split
         · rename_i hj
           subst hj
           rw [hka, if_pos (List.getElem?_eq_some_iff.1 hka).1]
         · rfl
        case measure => simp [intOf]; omega
      · obtain ⟨hk6, hc6, hkne⟩ : (mergeT a b).k = 6 ∧ (mergeT a b).c = e0 ∧ a.k ≠ 6 := by
         rcases hmr with rfl | ⟨h1, h2, h3, h4⟩
         · exact absurd (by unfold mergeT; rw [if_pos rfl]) hab
         · have hne : a ≠ b := fun e => hab (by unfold mergeT; rw [if_pos e])
           have hmt : mergeT a b = top := by unfold mergeT; rw [if_neg hne]
           rw [hmt] at hab ⊢
           exact ⟨rfl, rfl, fun e => hab ((tyEq _ _).2 ⟨e.symm, h3.symm⟩)⟩
        have HAB : Hid _ := hab
        have hne6 : ((6 : Int) == a.k) = false := by simpa using fun e => hkne e.symm
        have hmg : mergeT a b = ⟨6, e0⟩ := (tyEq _ _).2 ⟨hk6, hc6⟩
        have HMGT : Hid _ := hmg
        rw [hk6] at m0
        rw [hc6] at m1
        rw [hk6, hc6]
        clear hab hk6 hc6 hmg hmr
        go_wp2_with fail
        go_region
        go_wp2_with fail
        go_roundw
        case rel =>
         obtain ⟨o3, hlk, hck, fr3, ha', hka, hms⟩ := HX.out
         have hsl : k < lk.length := (List.getElem?_eq_some_iff.1 hka).1
         have o4 := (o3.keep ((Fr.refl no w3).drew)).cell1 okTy (k := k) (j := 0) hka ⟨6, a.c⟩ (.int .i64 6) (by decide) rfl
         have o5 := o4.cell1 okTy (k := k) (j := 1) (y := ⟨6, a.c⟩) (by rw [List.getElem?_set_self hsl]) ⟨6, e0⟩ (.string e0) (by decide) rfl
         rw [List.set_set] at o5
         have e2n : elTy.n = 2 := rfl
         rw [e2n, Nat.add_zero] at o5
         refine ⟨k + 1, true, lk.set k ⟨6, e0⟩, by go_num, by omega, rfl, o5, ?_, ?_, ?_⟩
         · rw [← hms, ← hlk, HMGT.out]
         · refine ⟨fun _ e => ?_, fun _ => rfl⟩
           have h1 : (lk.set k ⟨6, e0⟩)[k]? = some a := by rw [e]; exact ha'
           rw [List.getElem?_set_self hsl] at h1
           simp only [Option.some.injEq] at h1
           exact HAB.out (HMGT.out.trans h1)
         · exact (fr3.drew.setCell (p := ⟨lb, k * 2, none⟩) (fun _ => rfl) _).setCell (p := ⟨lb, k * 2 + 1, none⟩) (fun _ => rfl) _
        case measure => simp [intOf]; omega
    · refine late_all [9, 10] (by kernel_rfl) (by simp) (fun jj hjj => ?_)
      simp only [List.mem_cons, List.not_mem_nil, or_false] at hjj
      rcases hjj with rfl | rfl
      · refine late_call (f := 150) rfl rfl (by kernel_rfl) (R := fun v w' => v = tyV (mergeT a b) ∧ Fr no W1.drew w') ((HMG.out W1.drew).mono (fun e w' ⟨h1, h2⟩ => ⟨_, h1, rfl, h2⟩)) (fun v w1' hv => ?_)
        obtain ⟨rfl, f1⟩ := hv
        have g1 : Fr no W1 w1' := HS0.out.new f1 (fun _ _ f => f)
        refine ⟨fun _ => g1, ?_⟩
        unfold tyV
        refine late_all [10] (by kernel_rfl) (by simp) (fun jj hjj => ?_)
        obtain rfl := one_of hjj
        refine late_op rfl rfl (show _ = Result.ok (Next.value (.pointer (some ⟨w1'.heap.size, 0, none⟩))) (w1'.alloc (.cells #[.int .i64 0, .string ⟨#[]⟩] 44)) by kernel_rfl) ?_
        have g2 : Fr no W1 (w1'.alloc (.cells #[.int .i64 0, .string ⟨#[]⟩] 44)) := g1.alloc _ _
        refine ⟨fun _ => g2, ?_⟩
        have e2 : (w1'.alloc (.cells #[.int .i64 0, .string ⟨#[]⟩] 44)).heap[w1'.heap.size]? = some (.cells #[.int .i64 0, .string ⟨#[]⟩] 44 (0, 0)) := heap_alloc_new w1' _
        have l2 : W1.heap.size ≤ w1'.heap.size := g1.size
        generalize w1'.alloc (.cells #[.int .i64 0, .string ⟨#[]⟩] 44) = w2' at *
        generalize w1'.heap.size = b2' at *
        exact lateN _ _ (CONT b2' w2' ⟨l2, e2, g2⟩)
      · refine late_op rfl rfl (show _ = Result.ok (Next.value (ptr W1.drew.heap.size 0)) (W1.drew.alloc (.cells #[.int .i64 0, .string ⟨#[]⟩] 44)) by kernel_rfl) ?_
        have g3 : Fr no W1 (W1.drew.alloc (.cells #[.int .i64 0, .string ⟨#[]⟩] 44)) := HS0.out.alloc _ _
        refine ⟨fun _ => g3, ?_⟩
        have e3 : (W1.drew.alloc (.cells #[.int .i64 0, .string ⟨#[]⟩] 44)).heap[W1.drew.heap.size]? = some (.cells #[.int .i64 0, .string ⟨#[]⟩] 44 (0, 0)) := heap_alloc_new W1.drew _
        have l3 : W1.heap.size ≤ W1.drew.heap.size := HS0.out.size
        generalize W1.drew.alloc (.cells #[.int .i64 0, .string ⟨#[]⟩] 44) = w3' at *
        generalize W1.drew.heap.size = b3' at *
        refine late_all [9] (by kernel_rfl) (by simp) (fun jj hjj => ?_)
        obtain rfl := one_of hjj
        refine late_call (f := 150) rfl rfl (by kernel_rfl) (R := fun v w' => v = tyV (mergeT a b) ∧ Fr no w3' w') ((HMG.out w3').mono (fun e w' ⟨h1, h2⟩ => ⟨_, h1, rfl, h2⟩)) (fun v w4' hv => ?_)
        obtain ⟨rfl, f4⟩ := hv
        have g4 : Fr no W1 w4' := g3.new f4 (fun _ _ f => f)
        refine ⟨fun _ => g4, ?_⟩
        unfold tyV
        have e4 := f4.heap e3 (fun f => f)
        exact lateN _ _ (CONT b3' w4' ⟨l3, e4, g4⟩)
  · have hkn' : k = n := by omega
    have hki : ¬ (k : Int) < (n : Int) := by omega
    have hfin : lk = List.zipWith mergeT l m := by
     rw [hlk, hkn', List.take_of_length_le (by omega), List.drop_of_length_le (by omega), List.append_nil]
    have hcf : ck = !decide (List.zipWith mergeT l m = l) := by
     rw [Bool.eq_iff_iff, hck, hfin]
     simp
    have HZ : Hid (_ ∧ _ ∧ _) := ⟨hcf, hfin ▸ o1, fr⟩
    clear hcf hfin hlk hck o1 fr
    go_wp2_with fail
    go_ret
    rw [← HZ.out.1]
    exact ⟨rfl, HZ.out.2⟩
end Go.Proofs.YtalgjpmaafooeaaGreatDoor
/- States and marks that are turned one at a time. -/
namespace Go.Proofs.YtalgjpmaafooeaaGreatDoor
open Go.ChangeShapes Go.WideShapes Go.ChangeAt Go.RowKit
open H (ix NewV)
theorem wpList_store (w : World) {ops : Array Oper} {rest : List Oper} {o : Oper} {a : Act} {Q : Exit → Act → World → Prop} (hg : o.guard = none) (t : TypeId) (x y : Nat) (hop : o.op = .store t (.tmp x) (.tmp y)) (hd : o.dst = none)
 (p v : Value) (hp : a.eval (.tmp x) = p) (hv : a.eval (.tmp y) = v) {w' : World} (hr : (Instr.storeAt t p v).run Tryz.prog w = .ok () w') (hK : wpList Tryz.prog ops Q rest a w') : wpList Tryz.prog ops Q (o :: rest) a w := by
 refine wpList_plain hg fun K2 hK2 => ?_
 unfold Oper.wp
 rw [ev_store t x y p v w' hop hp hv hr]
 show K2 (a.put o.dst undef) w'
 rw [hd]
 exact hK2 a w' hK
theorem H.OwnG.set1 {α : Type} {K : H.El α} {w : World} {g n cap : Nat} {l : List α} (h : H.OwnG K w (.slice (some ⟨g, 0, none⟩) n cap) l) {i : Nat} (hi : i < l.length) (x : α) : H.OwnG K (w.setCell ⟨g, i, none⟩ (K.f x)) (.slice (some ⟨g, 0, none⟩) n cap) (l.set i x) := by
 rcases h.2 with ⟨e, _⟩ | ⟨g', cap', cur, e, hb, hg, hn, hm, hs, ht⟩
 · simp at e
 · simp only [Value.slice.injEq, Option.some.injEq, Addr.mk.injEq, and_true] at e
   obtain ⟨rfl, rfl, rfl⟩ := e
   refine ⟨by rw [H.cg_length]; simp, .inr ⟨g, cap, cur.setIfInBounds i (K.f x), by rw [List.length_set], hb, set_at hg, by rw [List.length_set]; exact hn, hm, by simpa using hs, ?_⟩⟩
   rw [List.length_set]
   apply List.ext_getElem?
   intro j
   have hj : (cur.toList.take (l.length * 1))[j]? = (H.cg K l)[j]? := by rw [ht]
   rw [List.getElem?_take] at hj ⊢
   unfold H.cg at hj ⊢
   rw [List.getElem?_map] at hj ⊢
   rw [Array.getElem?_toList] at hj ⊢
   rw [Array.getElem?_setIfInBounds, List.getElem?_set]
   by_cases hjl : j < l.length * 1
   · rw [if_pos hjl] at hj ⊢
     by_cases e : i = j
     · subst e
       rw [if_pos rfl, if_pos rfl, if_pos (by rw [hs]; omega), if_pos hi]
       rfl
     · rw [if_neg e, if_neg e]
       exact hj
   · rw [if_neg hjl]
     by_cases e : i = j
     · omega
     · rw [if_neg e, List.getElem?_eq_none (by omega)]
       rfl
theorem StAt.lts {c : Nat} {w : World} {s : Sa} {x : Stt} (h : StAt c w s x) (hr : x.r = true) : (∀ g, (Value.slice s.lo.a s.lo.n s.lo.c).ownBlock = some g → g < w.heap.size) ∧ (∀ g, (Value.slice s.st.a s.st.n s.st.c).ownBlock = some g → g < w.heap.size) :=
 ⟨fun _ hg => (h.lo hr).1.lt hg, fun _ hg => (h.st hr).1.lt hg⟩
theorem Fl.new {w w1 w2 w3 : World} {S C c n : Nat} {xs : List Stt} {ch : List Bool} (FL : Fl w S C c n xs ch) (hcw : c ≤ w.heap.size) {at' : Nat} (hat : at' < n) {s s' : Sa} {y : Stt} (hsr : s'.r = true) (hyr : y.r = true) (hfew : y.lo.length ≤ 1000 ∧ y.st.length ≤ 1000) (cp : Copied w w1 s s' y.lo y.st)
 {cur : Array Value} (hcur : w1.heap[S]? = some (.cells cur 67 (0, 0))) (h2 : w2.heap[S]? = some (.cells (sets cur (at' * 4) (saC s')) 67 (0, 0))) (F2 : Fr (fun k => k = S) w1 w2) (F3 : Fr (fun k => k = C) w2 w3) (hm : H.OwnG elB w3 (.slice (some ⟨C, 0, none⟩) n n) (ch.set at' true)) :
 Fl w3 S C c n (xs.set at' y) (ch.set at' true) := by
 obtain ⟨⟨ss, o1, hl, hst, hsep⟩, hmk, hx, hc, hS, hC, hne⟩ := FL
 have f2S : ∀ {v : Value} {l : List Ty}, OwnG elTy w1 v l → OwnG elTy w3 v l := fun {v l} o => by
  refine (o.kept F2 (fun k hk e => ?_)).kept F3 (fun k hk e => ?_)
  · obtain ⟨cu, hcu⟩ := o.tag hk
    rw [e, hcur] at hcu
    simp only [Option.some.injEq, Obj.cells.injEq] at hcu
    exact absurd hcu.2.1 (by decide)
  · obtain ⟨cu, hcu⟩ := o.tag hk
    rw [e] at hcu
    rcases hmk.2 with ⟨e', _⟩ | ⟨g', cap', mc, e', _, hg, _⟩
    · simp at e'
    · simp only [Value.slice.injEq, Option.some.injEq, Addr.mk.injEq, and_true] at e'
      obtain ⟨rfl, -, -⟩ := e'
      rw [cp.fr.heap hg (fun f => f)] at hcu
      simp only [Option.some.injEq, Obj.cells.injEq] at hcu
      exact absurd hcu.2.1 (by decide)
 have o2 : OwnG elSa w2 (.slice (some ⟨S, 0, none⟩) n n) (ss.set at' s') := (o1.keep cp.fr).puts okSa hcur (by omega) s' h2
 have o3 : OwnG elSa w3 (.slice (some ⟨S, 0, none⟩) n n) (ss.set at' s') := o2.kept F3 (fun k hk e => by simp [Value.ownBlock] at hk; omega)
 have nS : StAt c w3 s' y := ⟨hsr.trans hyr.symm, fun _ => ⟨f2S cp.lo, fun g hg => Nat.le_trans hcw (cp.nlo g hg)⟩, fun _ => ⟨f2S cp.st, fun g hg => Nat.le_trans hcw (cp.nst g hg)⟩, fun _ => cp.ne, hfew⟩
 have old : ∀ i s x, ss[i]? = some s → xs[i]? = some x → StAt c w3 s x := fun i s x hs hx => by
  obtain ⟨a1, a2, a3, a4, a5⟩ := hst i s x hs hx
  exact ⟨a1, fun e => ⟨f2S ((a2 e).1.keep cp.fr), (a2 e).2⟩, fun e => ⟨f2S ((a3 e).1.keep cp.fr), (a3 e).2⟩, a4, a5⟩
 refine ⟨⟨ss.set at' s', o3, by rw [List.length_set]; exact hl, fun i s x hs hx' => ?_, fun i j s t x z hij hs ht hx' hz hxr hzr => ?_⟩, hm, by rw [List.length_set]; exact hx, by rw [List.length_set]; exact hc, hS, hC, hne⟩
 · by_cases e : at' = i
   · subst e
     rw [List.getElem?_set_self (by omega)] at hs hx'
     simp only [Option.some.injEq] at hs hx'
     subst hs hx'
     exact nS
   · rw [List.getElem?_set_ne e] at hs hx'
     exact old i s x hs hx'
 · by_cases ei : at' = i
   · subst ei
     rw [List.getElem?_set_self (by omega)] at hs hx'
     simp only [Option.some.injEq] at hs hx'
     subst hs hx'
     rw [List.getElem?_set_ne hij] at ht hz
     have hlt := (hst j t z ht hz).lts hzr
     intro g hg
     have hge := cp.nlo g hg
     refine ⟨fun e => ?_, fun e => ?_⟩
     · have := hlt.1 g e; omega
     · have := hlt.2 g e; omega
   · rw [List.getElem?_set_ne ei] at hs hx'
     by_cases ej : at' = j
     · subst ej
       rw [List.getElem?_set_self (by omega)] at ht hz
       simp only [Option.some.injEq] at ht hz
       subst ht hz
       have hlt := (hst i s x hs hx').lts hxr
       intro g hg
       have hlg := hlt.1 g hg
       refine ⟨fun e => ?_, fun e => ?_⟩
       · have := cp.nlo g e; omega
       · have := cp.nst g e; omega
     · rw [List.getElem?_set_ne ej] at ht hz
       exact hsep i j s t x z hij hs ht hx' hz hxr hzr
theorem Fl.raised {w w1 w2 : World} {S C c n : Nat} {xs : List Stt} {ch : List Bool} (FL : Fl w S C c n xs ch) {at' : Nat} (hat : at' < n) {ss : List Sa} {s : Sa} {x : Stt} {lb lc : Nat} {l' : List Ty} (o1 : OwnG elSa w (.slice (some ⟨S, 0, none⟩) n n) ss) (hl : ss.length = n) (hst : ∀ (i : Nat) (s : Sa) (x : Stt), ss[i]? = some s → xs[i]? = some x → StAt c w s x)
 (hsep : ∀ (i j : Nat) (s t : Sa) (x y : Stt), i ≠ j → ss[i]? = some s → ss[j]? = some t → xs[i]? = some x → xs[j]? = some y → x.r = true → y.r = true → ∀ g, (Value.slice s.lo.a s.lo.n s.lo.c).ownBlock = some g → (Value.slice t.lo.a t.lo.n t.lo.c).ownBlock ≠ some g ∧ (Value.slice t.st.a t.st.n t.st.c).ownBlock ≠ some g)
 (hs : ss[at']? = some s) (hx : xs[at']? = some x) (hr : x.r = true) (hsl : s.lo = ⟨some ⟨lb, 0, none⟩, x.lo.length, lc⟩) (hl' : l'.length = x.lo.length) (F1 : Fr (fun k => k = lb) w w1) (ol : OwnG elTy w1 (.slice (some ⟨lb, 0, none⟩) x.lo.length lc) l') (F2 : Fr (fun k => k = C) w1 w2) (b : Bool) (hm : H.OwnG elB w2 (.slice (some ⟨C, 0, none⟩) n n) (ch.set at' b)) :
 Fl w2 S C c n (xs.set at' ⟨true, l', x.st⟩) (ch.set at' b) := by
 obtain ⟨-, hmk, hxl, hc, hS, hC, hne⟩ := FL
 have hcb : c ≤ lb := ((hst at' s x hs hx).lo hr).2 lb (by rw [hsl]; rfl)
 have lbC : lb ≠ C := by omega
 have lbS : lb ≠ S := by omega
 have kC : ∀ {v : Value} {l : List Ty}, OwnG elTy w1 v l → (∀ g, v.ownBlock = some g → c ≤ g) → OwnG elTy w2 v l := fun o hg => o.kept F2 (fun k hk e => by have := hg k hk; omega)
 have o3 : OwnG elSa w2 (.slice (some ⟨S, 0, none⟩) n n) ss := (o1.kept F1 (fun k hk e => by simp [Value.ownBlock] at hk; omega)).kept F2 (fun k hk e => by simp [Value.ownBlock] at hk; omega)
 refine ⟨⟨ss, o3, hl, fun i t y ht hy => ?_, fun i j t u y z hij ht hu hy hz hyr hzr => ?_⟩, hm, by rw [List.length_set]; exact hxl, by rw [List.length_set]; exact hc, hS, hC, hne⟩
 · by_cases e : at' = i
   · subst e
     rw [hs] at ht
     rw [List.getElem?_set_self (by omega)] at hy
     simp only [Option.some.injEq] at ht hy
     subst ht hy
     obtain ⟨a1, a2, a3, a4, a5⟩ := hst at' s x hs hx
     refine ⟨a1.trans hr, fun _ => ⟨?_, (a2 hr).2⟩, fun _ => ⟨kC ((a3 hr).1.kept F1 (fun k hk e => a4 hr lb (by rw [hsl]; rfl) (e ▸ hk))) (a3 hr).2, (a3 hr).2⟩, fun _ => a4 hr, ⟨by rw [hl']; exact a5.1, a5.2⟩⟩
     rw [hsl]
     exact kC ol (fun g hg => by simp [Value.ownBlock] at hg; omega)
   · rw [List.getElem?_set_ne e] at hy
     obtain ⟨a1, a2, a3, a4, a5⟩ := hst i t y ht hy
     have hsp := fun (hyr : y.r = true) => hsep at' i s t x y e hs ht hx hy hr hyr lb (by rw [hsl]; rfl)
     exact ⟨a1, fun h => ⟨kC ((a2 h).1.kept F1 (fun k hk e => (hsp h).1 (e ▸ hk))) (a2 h).2, (a2 h).2⟩, fun h => ⟨kC ((a3 h).1.kept F1 (fun k hk e => (hsp h).2 (e ▸ hk))) (a3 h).2, (a3 h).2⟩, a4, a5⟩
 · have back : ∀ (i : Nat) (y : Stt), (xs.set at' ⟨true, l', x.st⟩)[i]? = some y → y.r = true → ∃ y', xs[i]? = some y' ∧ y'.r = true := fun i y hy hyr => by
    by_cases e : at' = i
    · subst e
      exact ⟨x, hx, hr⟩
    · rw [List.getElem?_set_ne e] at hy
      exact ⟨y, hy, hyr⟩
   obtain ⟨y', hy', hyr'⟩ := back i y hy hyr
   obtain ⟨z', hz', hzr'⟩ := back j z hz hzr
   exact hsep i j t u y' z' hij ht hu hy' hz' hyr' hzr'
end Go.Proofs.YtalgjpmaafooeaaGreatDoor
/- What comes to an instruction. -/
namespace Go.Proofs.YtalgjpmaafooeaaGreatDoor
open Go.ChangeShapes Go.WideShapes Go.ChangeAt Go.RowKit
open H (ix NewV)
set_option maxRecDepth 100000 in
theorem indexNone (w : World) (q : Option Addr) (cc : Nat) (fv : Value) : Calls Tryz.prog 125 #[.slice q 0 cc, fv] w fun e w' => e = .returned (.int .i64 (-1)) ∧ w' = w := by
 go_enter Tryz.func125, Tryz.ntmps125
 go_wp2_with fail
 go_loopw [8] (fun i wr => i = .int .i64 0 ∧ wr = w) (fun _ _ => 0)
 case atStart => exact ⟨rfl, rfl⟩
 case round =>
  obtain ⟨rfl, rfl⟩ := hrel
  go_wp2_with fail
  go_ret
  exact ⟨rfl, rfl⟩
set_option maxRecDepth 100000 in
theorem containsNone (w : World) (q : Option Addr) (cc : Nat) (fv : Value) : Calls Tryz.prog 109 #[.slice q 0 cc, fv] w fun e w' => e = .returned (.bool false) ∧ w' = w := by
 go_enter Tryz.func109, Tryz.ntmps109
 go_wp2_with fail
 refine (indexNone w q cc fv).mono ?_
 rintro e w1 ⟨rfl, rfl⟩
 go_wp2_with fail
 go_ret
 exact ⟨rfl, rfl⟩
set_option maxRecDepth 100000 in
theorem raiseNone (w : World) (f lv : Value) (q : Option Addr) (cc : Nat) : Calls Tryz.prog 142 #[f, lv, .slice q 0 cc] w fun e w' => e = .returned (.bool false) ∧ w' = w := by
 go_enter Tryz.func142, Tryz.ntmps142
 go_wp2_with fail
 go_loopw [13, 7] (fun i b wr => i = .int .i64 0 ∧ b = .bool false ∧ wr = w) (fun _ _ _ => 0)
 case atStart => exact ⟨rfl, rfl, rfl⟩
 case round =>
  obtain ⟨rfl, rfl, rfl⟩ := hrel
  go_wp2_with fail
  go_ret
  exact ⟨rfl, rfl⟩
def Tn2 (S C c d : Nat) : Nat → Prop := fun b => b = S ∨ b = C ∨ (c ≤ b ∧ b < d)
theorem StAt.keep {c : Nat} {w w' : World} {s : Sa} {x : Stt} (h : StAt c w s x) (hf : Fr no w w') : StAt c w' s x := by
 obtain ⟨a1, a2, a3, a4, a5⟩ := h
 exact ⟨a1, fun e => ⟨(a2 e).1.keep hf, (a2 e).2⟩, fun e => ⟨(a3 e).1.keep hf, (a3 e).2⟩, a4, a5⟩
def reachErr (K : Int) (x y : Stt) : Int := if K < y.st.length then 81 else if x.r = false then 0 else if x.st.length = y.st.length then 0 else 81
def reachX (x y : Stt) : Stt := if x.r = false then ⟨true, y.lo, y.st⟩ else ⟨true, List.zipWith mergeT x.lo y.lo, x.st⟩
def reachC (x y : Stt) (b : Bool) : Bool := if x.r = false then true else b || !decide (List.zipWith mergeT x.lo y.lo = x.lo)
set_option maxRecDepth 100000 in
set_option maxHeartbeats 8000000 in
theorem reach_any (w : World) (f S C c : Nat) (K : Int) (cd : List (Int × Int)) (rl : List Rl) (xs : List Stt) (ch : List Bool) (EV : ∀ w', Fr (Tn S C c) w w' → Con w' f S C K cd rl) (w0 : World) (FL0 : Fl w0 S C c cd.length xs ch) (f0 : Fr no w0 w) (hc0 : c ≤ w0.heap.size) (hf : f < c ∧ f ≠ S ∧ f ≠ C)
 (at' : Nat) (hat : at' < cd.length) (x : Stt) (hx : xs[at']? = some x) (s : Sa) (y : Stt) (hsr : s.r = true) (hyr : y.r = true) (slo : SlG elTy w (.slice s.lo.a s.lo.n s.lo.c) y.lo) (sst : SlG elTy w (.slice s.st.a s.st.n s.st.c) y.st) (hfew : y.lo.length ≤ 1000 ∧ y.st.length ≤ 1000)
 (nlo : x.r = true → ∀ ad, s.lo.a = some ad → w0.heap.size ≤ ad.block) (hmr : x.r = true → x.st.length = y.st.length → x.st = [] ∧ y.st = [] ∧ x.lo.length = y.lo.length ∧ 0 < x.lo.length ∧ ∀ (i : Nat) (a b : Ty), x.lo[i]? = some a → y.lo[i]? = some b → mrg a b) (b : Bool) (hb : ch[at']? = some b) :
 Calls Tryz.prog 135 #[.pointer (some ⟨f, 0, none⟩), .int .i64 (at' : Int), saV s] w fun e w' => e = .returned (.int .i64 (reachErr K x y)) ∧ (reachErr K x y = 0 → Fl w' S C c cd.length (xs.set at' (reachX x y)) (ch.set at' (reachC x y b))) ∧ Fr (Tn2 S C c w0.heap.size) w w' := by
 have FL := FL0.keep f0
 obtain ⟨ss, t1, s2, t3, s4⟩ := FL0.ex
 have s1 := t1.keep f0
 have s3 : ∀ (i : Nat) (s : Sa) (x : Stt), ss[i]? = some s → xs[i]? = some x → StAt c w s x := fun i s x hs hx => (t3 i s x hs hx).keep f0
 obtain ⟨sx, hsx⟩ : ∃ sx, ss[at']? = some sx := ⟨_, List.getElem?_eq_getElem (by omega)⟩
 have SA := s3 at' sx x hsx hx
 have hlt := FL.lt
 have CN := EV w (Fr.refl _ w)
 have hcs : ∀ j u, (saC sx)[j]? = some u → w.cell? ⟨S, at' * 4 + j, none⟩ = some u := fun j u hj => by
  obtain ⟨ad, cap, e, -, -, hit⟩ := s1.sl okSa
  simp only [Value.slice.injEq] at e
  obtain ⟨rfl, -, -⟩ := e
  obtain ⟨b, off, e, hcs⟩ := hit at' sx hsx
  simp only [Option.some.injEq, Addr.mk.injEq, and_true] at e
  obtain ⟨rfl, rfl⟩ := e
  have := hcs j u hj
  rw [Nat.zero_add] at this
  exact this
 have hcm : w.cell? ⟨C, at', none⟩ = some (.bool b) := by
  obtain ⟨ad, cap, e, -, -, -, hit⟩ := FL.marks.sl
  simp only [Value.slice.injEq] at e
  obtain ⟨rfl, -, -⟩ := e
  obtain ⟨bb, off, e, hc⟩ := hit at' b hb
  simp only [Option.some.injEq, Addr.mk.injEq, and_true] at e
  obtain ⟨rfl, rfl⟩ := e
  rw [Nat.zero_add] at hc
  exact hc
 obtain ⟨cur, hcur, -, -, -, hcsz, -⟩ := s1.cur
 have htag : ∃ mc, w.heap[C]? = some (.cells mc 4 (0, 0)) := by
  rcases FL.marks.2 with ⟨e, _⟩ | ⟨g', cap', mc, e, _, hg, _⟩
  · simp at e
  · simp only [Value.slice.injEq, Option.some.injEq, Addr.mk.injEq, and_true] at e
    obtain ⟨rfl, -, -⟩ := e
    exact ⟨mc, hg⟩
 obtain ⟨mc, hmc⟩ := htag
 have hai : (at' : Int) < (cd.length : Int) := by omega
 obtain ⟨sr, ⟨la, ln, lc⟩, ⟨ta, tn, tc⟩, ⟨ka, kn, kc⟩⟩ := s
 simp only at hsr slo sst nlo
 subst hsr
 obtain rfl : ln = y.lo.length := by obtain ⟨_, _, e, _⟩ := slo; simp only [Value.slice.injEq] at e; exact e.2.1
 obtain rfl : tn = y.st.length := by obtain ⟨_, _, e, _⟩ := sst; simp only [Value.slice.injEq] at e; exact e.2.1
 unfold saV
 simp only
 generalize hW : w.alloc (.cells #[.bool true, .slice la y.lo.length lc, .slice ta y.st.length tc, .slice ka kn kc] 67) = W
 have G0 : Fr no w W := by rw [← hW]; exact (Fr.refl no w).alloc _ _
 have E0 : W.heap[w.heap.size]? = some (.cells #[.bool true, .slice la y.lo.length lc, .slice ta y.st.length tc, .slice ka kn kc] 67 (0, 0)) := by rw [← hW]; exact heap_alloc_new w _
 have a6 := G0.cell CN.st (fun f => f)
 have a11 := G0.cell CN.states (fun f => f)
 have a12 := G0.cell CN.marks (fun f => f)
 obtain ⟨z0, z1, z2, z3⟩ := box4 E0
 have d0 := G0.cell (hcs 0 _ rfl) (fun f => f)
 have d1 := G0.cell (hcs 1 _ rfl) (fun f => f)
 have d2 := G0.cell (hcs 2 _ rfl) (fun f => f)
 simp only [Nat.add_zero] at d0
 rw [SA.r] at d0
 generalize hcl : cd.length = n at *
 have G0T : Fr (Tn2 S C c w0.heap.size) w W := G0.mono (fun _ _ f => f.elim)
 by_cases hK : K < (y.st.length : Int)
 · have HE : Hid (reachErr K x y = 81) := by show _ = _; unfold reachErr; rw [if_pos hK]
   have HG : Hid _ := G0T
   clear CN EV FL0 FL s3 s4 SA hcs s1 t1 t3
   go_enter Tryz.func135, Tryz.ntmps135
   go_wp2_with fail
   go_region
   go_wp2_with fail
   go_ret
   rw [HE.out]
   exact ⟨rfl, fun e => absurd e (by decide), HG.out.drew⟩
 · have hK' : ¬ K < (y.st.length : Int) := hK
   cases hxr : x.r with
   | false =>
    rw [hxr] at d0
    have HE : Hid (reachErr K x y = 0) := by show _ = _; unfold reachErr; rw [if_neg hK, if_pos hxr]
    have HX : Hid (reachX x y = y ∧ reachC x y b = true) := by
     refine ⟨?_, ?_⟩
     · unfold reachX
       rw [if_pos hxr]
       obtain ⟨yr, yl, ys⟩ := y
       simp only at hyr
       rw [hyr]
     · unfold reachC
       rw [if_pos hxr]
    have CP := copyState_any W.drew ⟨true, ⟨la, y.lo.length, lc⟩, ⟨ta, y.st.length, tc⟩, ⟨ka, kn, kc⟩⟩ y.lo y.st (slo.kept G0.drew) (sst.kept G0.drew) hfew.1 hfew.2
    unfold saV at CP
    simp only at CP
    have HQ : Hid (Fl w S C c n xs ch ∧ Fr no w W.drew ∧ w.heap[S]? = some (.cells cur 67 (0, 0)) ∧ c ≤ w.heap.size ∧ cur.size = n * 4 ∧ w.heap[C]? = some (.cells mc 4 (0, 0)) ∧ w.cell? ⟨C, at', none⟩ = some (.bool b) ∧ w.cell? ⟨f, 12, none⟩ = some (.slice (some ⟨C, 0, none⟩) n n) ∧ ch.length = n) := ⟨FL, G0.drew, hcur, Nat.le_trans hc0 f0.size, hcsz, hmc, hcm, hcl ▸ CN.marks, FL.lc⟩
    have HLT : Hid (_ ∧ _) := ⟨hlt, hf⟩
    clear CN EV FL0 FL s3 s4 SA hcs s1 t1 t3 slo sst hcur hcsz hmc hcm G0T hlt hf hmr nlo E0 G0
    go_enter Tryz.func135, Tryz.ntmps135
    go_wp2_with fail
    go_region
    go_wp2_with fail
    refine CP.mono ?_
    rintro e w1 ⟨⟨sr', ⟨la', ln', lc'⟩, ⟨ta', tn', tc'⟩, ⟨ka', kn', kc'⟩⟩, rfl, cp⟩
    obtain rfl : sr' = true := cp.r
    obtain ⟨FL, FW, hcur, hcw, hcsz, hmc, hcm, a12', hlc⟩ := HQ.out
    obtain ⟨hlt, hf⟩ := HLT.out
    have F1 : Fr no w w1 := FW.new cp.fr (fun _ _ f => f)
    have hcur1 := F1.heap hcur (fun f => f)
    obtain ⟨w2, r2, h2, F2⟩ := store_mid w1 S (at' * 4) 67 67 cur #[.bool true, .slice la' ln' lc', .slice ta' tn' tc', .slice ka' kn' kc'] hcur1 (by show at' * 4 + 4 ≤ cur.size; omega) (by kernel_rfl) (by kernel_rfl)
    have m2 := F2.cell (F1.cell a12' (fun f => f)) hf.2.1
    have k2 := F2.cell (F1.cell hcm (fun f => f)) (fun e => hlt.2.2 e.symm)
    have hmc2 := F2.heap (F1.heap hmc (fun f => f)) (fun e => hlt.2.2 e.symm)
    have fz := frozen_at (o := at') hmc2
    have F3 : Fr (fun k => k = C) w2 (w2.setCell ⟨C, at', none⟩ (.bool true)) := (Fr.refl (fun k => k = C) w2).setCell (p := ⟨C, at', none⟩) (fun _ => rfl) _
    have om : H.OwnG elB (w2.setCell ⟨C, at', none⟩ (.bool true)) (.slice (some ⟨C, 0, none⟩) n n) (ch.set at' true) := ((FL.marks.keep F1).kept F2 (fun k hk e => by simp [Value.ownBlock] at hk; omega)).set1 (by omega) true
    have NF := Fl.new FL hcw hat (y := y) rfl hyr hfew (cp.base FW) hcur1 h2 F2 F3 om
    have FT : Fr (Tn2 S C c w0.heap.size) w (w2.setCell ⟨C, at', none⟩ (.bool true)) := (F1.trans F2 (U := Tn2 S C c w0.heap.size) (fun _ _ f => f.elim) (fun _ _ e => .inl e)).trans F3 (fun _ _ e => e) (fun _ _ e => .inr (.inl e))
    have HZ : Hid (_ ∧ _) := ⟨NF, FT⟩
    clear NF FT om F3 F2 F1 FL FW hcur hcur1 h2 hmc hmc2 hcm a12' cp CP hcsz
    go_wp2_with (first | (refine wpList_store _ rfl 67 33 32 rfl rfl (.pointer (some ⟨S, at' * 4, none⟩)) (.agg #[.bool true, .slice la' ln' lc', .slice ta' tn' tc', .slice ka' kn' kc']) rfl rfl r2 ?_) | go_in)
    go_ret
    rw [HE.out]
    refine ⟨rfl, fun _ => ?_, HZ.out.2⟩
    rw [HX.out.1, HX.out.2]
    exact HZ.out.1
   | true =>
    rw [hxr] at d0
    obtain ⟨sxr, ⟨xa, xn, xc⟩, ⟨xta, xtn, xtc⟩, ⟨xka, xkn, xkc⟩⟩ := sx
    have SLO := SA.lo hxr
    have SST := SA.st hxr
    simp only at SLO SST
    obtain rfl : xn = x.lo.length := by obtain ⟨_, _, e⟩ := SLO.1.form; simp only [Value.slice.injEq] at e; exact e.2.1
    obtain rfl : xtn = x.st.length := by obtain ⟨_, _, e⟩ := SST.1.form; simp only [Value.slice.injEq] at e; exact e.2.1
    by_cases hlen : x.st.length = y.st.length
    · obtain ⟨hx0, hy0, hxy, hpos, hmg⟩ := hmr hxr hlen
      have HE : Hid (reachErr K x y = 0) := by show _ = _; unfold reachErr; rw [if_neg hK, if_neg (by rw [hxr]; simp), if_pos hlen]
      have HX : Hid (reachX x y = ⟨true, List.zipWith mergeT x.lo y.lo, x.st⟩ ∧ reachC x y b = (b || !decide (List.zipWith mergeT x.lo y.lo = x.lo))) := by
       unfold reachX reachC
       rw [if_neg (by rw [hxr]; simp), if_neg (by rw [hxr]; simp)]
       exact ⟨rfl, rfl⟩
      have hlo0 : ∃ lb, xa = some ⟨lb, 0, none⟩ := by
       rcases SLO.1.1.2 with ⟨e, h0⟩ | ⟨g, cap', cu, e, _⟩
       · simp only [Value.slice.injEq] at e
         omega
       · simp only [Value.slice.injEq] at e
         exact ⟨g, e.1⟩
      obtain ⟨lb, rfl⟩ := hlo0
      have hcb := SLO.2 lb rfl
      have hlbw := SLO.1.lt (k := lb) rfl
      have hlb0 : lb < w0.heap.size := ((t3 at' _ x hsx hx).lo hxr).1.lt (k := lb) rfl
      have hlaB : ∀ ad k c', (Value.slice la y.lo.length lc) = .slice (some ad) k c' → ad.block ≠ lb := fun ad k c' e => by
       simp only [Value.slice.injEq] at e
       have := nlo hxr ad e.1
       omega
      obtain ⟨q, hq, -⟩ := CN.hq
      have lbS : S ≠ lb := by omega
      have lbC : C ≠ lb := by omega
      have lbf : f ≠ lb := by omega
      have HL : Hid (∀ w', Fr (fun k => k = lb) W w' → w'.cell? ⟨S, at' * 4 + 1, none⟩ = some (.slice (some ⟨lb, 0, none⟩) x.lo.length xc) ∧ w'.cell? ⟨S, at' * 4 + 2, none⟩ = some (.slice xta x.st.length xtc) ∧ w'.cell? ⟨w.heap.size, 1, none⟩ = some (.slice la y.lo.length lc) ∧ w'.cell? ⟨w.heap.size, 2, none⟩ = some (.slice ta y.st.length tc) ∧ w'.cell? ⟨f, 12, none⟩ = some (.slice (some ⟨C, 0, none⟩) n n) ∧ w'.cell? ⟨C, at', none⟩ = some (.bool b) ∧ w'.heap[C]? = some (.cells mc 4 (0, 0))) := fun w' hf => by
       have hbs : w.heap.size ≠ lb := by omega
       exact ⟨hf.cell d1 lbS, hf.cell d2 lbS, hf.cell z1 hbs, hf.cell z2 hbs, hf.cell a12 lbf, hf.cell (G0.cell hcm (fun f => f)) lbC, hf.heap (G0.heap hmc (fun f => f)) lbC⟩
      have RA := raise_any W.drew.drew.drew f lb x.lo.length xc q (.slice la y.lo.length lc) (G0.cell hq (fun f => f)) x.lo y.lo (SLO.1.keep G0.drew.drew.drew) (slo.kept G0.drew.drew.drew) hxy.symm hmg lbf hlaB SA.few.1
      have HZ : Hid (Fl w S C c n xs ch ∧ Fr no w W ∧ ch.length = n ∧ OwnG elSa w (.slice (some ⟨S, 0, none⟩) n n) ss ∧ ss.length = n ∧ (∀ (i : Nat) (s : Sa) (x : Stt), ss[i]? = some s → xs[i]? = some x → StAt c w s x) ∧ c ≤ lb ∧ lb < w0.heap.size) := ⟨hcl ▸ FL, G0, by have := FL.lc; omega, hcl ▸ s1, by omega, s3, hcb, hlb0⟩
      have HSEP : Hid _ := s4
      have HSX : Hid (ss[at']? = some _ ∧ xs[at']? = some x) := ⟨hsx, hx⟩
      have HLT : Hid (_ ∧ _) := ⟨hlt, hf⟩
      have HXR : Hid _ := hxr
      have HLX : Hid (x.st.length = 0 ∧ y.st.length = 0 ∧ (List.zipWith mergeT x.lo y.lo).length = x.lo.length) := ⟨by rw [hx0]; rfl, by rw [hy0]; rfl, by rw [List.length_zipWith]; omega⟩
      clear CN EV FL0 FL s3 s4 SA hcs s1 t1 t3 SLO SST slo sst hcur hmc hcm hlt hf hmr nlo hsx hx hmg hlaB G0T hlbw hlb0 hcb hq hxr hx0 hy0 hxy hlen
      obtain ⟨hl0, hl1, hlz⟩ := HLX.out
      rw [hl0] at d2 HL
      rw [hl1] at z2 hK' hK HL hW
      simp only [Int.cast_ofNat_Int] at hK hK'
      generalize hzz : List.zipWith mergeT x.lo y.lo = zz at *
      generalize hcf : (!decide (zz = x.lo)) = cf at *
      rw [hl1]
      clear hl0 hl1
      go_enter Tryz.func135, Tryz.ntmps135
      go_wp2_with fail
      go_region
      go_wp2_with fail
      go_region
      go_wp2_with fail
      have HS0 : Hid (Fr (fun k => k = lb) W W.drew.drew.drew) := (Fr.refl _ W).drew.drew.drew
      refine late_begin (S := fun w' => Fr (fun k => k = lb) W w') (g := 17) (by kernel_rfl) ?_
      refine lateP 0 (ptr f 0) rfl (fun _ => ev_move 0 _ rfl (by kernel_rfl)) (fun _ => HS0.out) ?_
      refine lateP 1 (.pointer (some ⟨S, at' * 4, none⟩)) rfl (fun _ => ev_move 7 _ rfl (by kernel_rfl)) (fun _ => HS0.out) ?_
      refine lateP 2 (.pointer (some ⟨S, at' * 4, none⟩)) rfl (fun _ => ev_nil 50 ⟨S, at' * 4, none⟩ rfl (by kernel_rfl)) (fun _ => HS0.out) ?_
      refine lateP 3 (.pointer (some ⟨S, at' * 4 + 1, none⟩)) rfl (fun _ => ev_field 67 51 1 (.pointer (some ⟨S, at' * 4, none⟩)) _ rfl (by kernel_rfl) (by kernel_rfl)) (fun _ => HS0.out) ?_
      refine lateT 4 (.slice (some ⟨lb, 0, none⟩) x.lo.length xc) rfl (fun w' hS => ev_load 42 52 (.pointer (some ⟨S, at' * 4 + 1, none⟩)) _ rfl (by kernel_rfl) (by simp [go_sem, (HL.out w' hS).1])) (HS0.out) ?_
      refine lateP 5 (ptr w.heap.size 1) rfl (fun _ => ev_field 67 5 1 (ptr w.heap.size 0) _ rfl (by kernel_rfl) (by kernel_rfl)) (fun _ => HS0.out) ?_
      refine lateT 6 (.slice la y.lo.length lc) rfl (fun w' hS => ev_load 42 54 (ptr w.heap.size 1) _ rfl (by kernel_rfl) (by simp [go_sem, (HL.out w' hS).2.2.1])) (HS0.out) ?_
      refine lateP 8 (ptr f 0) rfl (fun _ => ev_move 0 _ rfl (by kernel_rfl)) (fun _ => HS0.out) ?_
      refine lateP 9 (.pointer (some ⟨S, at' * 4, none⟩)) rfl (fun _ => ev_move 7 _ rfl (by kernel_rfl)) (fun _ => HS0.out) ?_
      refine lateP 10 (.pointer (some ⟨S, at' * 4, none⟩)) rfl (fun _ => ev_nil 58 ⟨S, at' * 4, none⟩ rfl (by kernel_rfl)) (fun _ => HS0.out) ?_
      refine lateP 11 (.pointer (some ⟨S, at' * 4 + 2, none⟩)) rfl (fun _ => ev_field 67 59 2 (.pointer (some ⟨S, at' * 4, none⟩)) _ rfl (by kernel_rfl) (by kernel_rfl)) (fun _ => HS0.out) ?_
      refine lateT 12 (.slice xta 0 xtc) rfl (fun w' hS => ev_load 42 60 (.pointer (some ⟨S, at' * 4 + 2, none⟩)) _ rfl (by kernel_rfl) (by simp [go_sem, (HL.out w' hS).2.1])) (HS0.out) ?_
      refine lateP 13 (ptr w.heap.size 2) rfl (fun _ => ev_field 67 5 2 (ptr w.heap.size 0) _ rfl (by kernel_rfl) (by kernel_rfl)) (fun _ => HS0.out) ?_
      refine lateT 14 (.slice ta 0 tc) rfl (fun w' hS => ev_load 42 62 (ptr w.heap.size 2) _ rfl (by kernel_rfl) (by simp [go_sem, (HL.out w' hS).2.2.2.1])) (HS0.out) ?_
      refine late_all [7] (by kernel_rfl) (by simp) (fun jj hjj => ?_)
      obtain rfl := one_of hjj
      refine late_call (f := 142) rfl rfl (by kernel_rfl) (R := fun v w' => v = .bool cf ∧ OwnG elTy w' (.slice (some ⟨lb, 0, none⟩) x.lo.length xc) zz ∧ Fr (fun k => k = lb) W.drew.drew.drew w') (RA.mono (fun e w' ⟨h1, h2, h3⟩ => ⟨_, h1, rfl, h2, h3⟩)) (fun v w1 hv => ?_)
      obtain ⟨rfl, ol, f1⟩ := hv
      have g1 : Fr (fun k => k = lb) W w1 := HS0.out.trans f1 (fun _ _ e => e) (fun _ _ e => e)
      refine ⟨fun _ => g1, ?_⟩
      refine late_all [15] (by kernel_rfl) (by simp) (fun jj hjj => ?_)
      obtain rfl := one_of hjj
      refine late_call (f := 142) rfl rfl (by kernel_rfl) (R := fun v w' => v = .bool false ∧ w1 = w') ((raiseNone w1 (ptr f 0) (.slice xta 0 xtc) ta tc).mono (fun e w' ⟨h1, h2⟩ => ⟨_, h1, rfl, h2.symm⟩)) (fun v w2 hv => ?_)
      obtain ⟨rfl, rfl⟩ := hv
      refine ⟨fun _ => g1, ?_⟩
      refine lateP 16 (.bool cf) rfl (fun _ => ev_assign 56 _ rfl (by kernel_rfl)) (fun _ => g1) ?_
      refine late_all [17] (by kernel_rfl) (by simp) (fun jj hjj => ?_)
      obtain rfl := one_of hjj
      refine late_op rfl rfl (ev_assign 64 (.bool false) rfl (by kernel_rfl)) ?_
      refine ⟨(fun h => Bool.noConfusion (show true = false from h)), ?_⟩
      refine late_done (by kernel_rfl) ?_
      obtain ⟨y1, y2, y3, y4, y5, y6, y7⟩ := HL.out w1 g1
      have fz := frozen_at (o := at') y7
      have HW : Hid (OwnG elTy w1 (.slice (some ⟨lb, 0, none⟩) x.lo.length xc) zz ∧ Fr (fun k => k = lb) W w1) := ⟨ol, g1⟩
      clear ol g1 f1 y7 RA HS0 HL y1 y3 y4
      rename_i ha _ _
      refine ha _ _ ?_
      refine wp_eq (a' := { tmps := #[.pointer (some ⟨f, 0, none⟩), .int .i64 (at' : Int), .agg #[.bool true, .slice la y.lo.length lc, .slice ta 0 tc, .slice ka kn kc], undef, undef, .pointer (some ⟨w.heap.size, 0, none⟩), .int .i64 0, .pointer (some ⟨S, at' * 4, none⟩), .bool cf, .bool false, .pointer (some ⟨w.heap.size, 2, none⟩), .slice ta 0 tc, .int .i64 0, .pointer (some ⟨f, 0, none⟩), .pointer (some ⟨f, 0, none⟩), .pointer (some ⟨f, 1, none⟩), .pointer (some ⟨f, 6, none⟩), .int .i64 K, .bool (decide (K < 0)), .pointer (some ⟨f, 0, none⟩), .pointer (some ⟨f, 0, none⟩), .pointer (some ⟨f, 11, none⟩), .slice (some ⟨S, 0, none⟩) n n, .int .i64 (at' : Int), .pointer (some ⟨S, at' * 4, none⟩), .pointer (some ⟨S, at' * 4, none⟩), .pointer (some ⟨S, at' * 4, none⟩), .pointer (some ⟨S, at' * 4, none⟩), .bool true, .bool false, undef, undef, undef, undef, undef, undef, undef, undef, undef, undef, .pointer (some ⟨S, at' * 4, none⟩), .pointer (some ⟨S, at' * 4, none⟩), .pointer (some ⟨S, at' * 4 + 2, none⟩), .slice xta 0 xtc, .int .i64 0, .pointer (some ⟨w.heap.size, 2, none⟩), .slice ta 0 tc, .int .i64 0, .bool false, .pointer (some ⟨f, 0, none⟩), .pointer (some ⟨S, at' * 4, none⟩), .pointer (some ⟨S, at' * 4, none⟩), .pointer (some ⟨S, at' * 4 + 1, none⟩), .slice (some ⟨lb, 0, none⟩) x.lo.length xc, .pointer (some ⟨w.heap.size, 1, none⟩), .slice la y.lo.length lc, .bool cf, .pointer (some ⟨f, 0, none⟩), .pointer (some ⟨S, at' * 4, none⟩), .pointer (some ⟨S, at' * 4, none⟩), .pointer (some ⟨S, at' * 4 + 2, none⟩), .slice xta 0 xtc, .pointer (some ⟨w.heap.size, 2, none⟩), .slice ta 0 tc, .bool false, undef, undef, undef, undef, undef, undef, undef, undef, undef, undef, undef, undef, undef, undef, undef, undef, undef, undef, undef, undef, undef, undef, undef, undef], defers := [] }) (by kernel_rfl) ?_
      clear ha
      have CT := containsNone w1 xta xtc (.func (.func 143) #[] #[])
      have HFIN : Hid (∀ (v : Bool) (w3 : World), v = (b || cf) → w3 = w1.drew.setCell ⟨C, at', none⟩ (.bool v) → Fl w3 S C c n (xs.set at' ⟨true, zz, x.st⟩) (ch.set at' (b || cf)) ∧ Fr (Tn2 S C c w0.heap.size) w w3) := fun v w3 hv hw3 => by
       subst hv hw3
       obtain ⟨FL, GW, hlc, s1, s2, s3, hcb, hlb0⟩ := HZ.out
       obtain ⟨hlt, hf⟩ := HLT.out
       have F1 : Fr (fun k => k = lb) w w1.drew := (GW.trans HW.out.2 (U := fun k => k = lb) (fun _ _ f => f.elim) (fun _ _ e => e)).drew
       have F2 : Fr (fun k => k = C) w1.drew (w1.drew.setCell ⟨C, at', none⟩ (.bool (b || cf))) := (Fr.refl (fun k => k = C) w1.drew).setCell (p := ⟨C, at', none⟩) (fun _ => rfl) _
       have om : H.OwnG elB (w1.drew.setCell ⟨C, at', none⟩ (.bool (b || cf))) (.slice (some ⟨C, 0, none⟩) n n) (ch.set at' (b || cf)) := (FL.marks.kept F1 (fun k hk e => by simp [Value.ownBlock] at hk; omega)).set1 (by omega) (b || cf)
       refine ⟨Fl.raised FL hat s1 s2 s3 HSEP.out HSX.out.1 HSX.out.2 HXR.out rfl HLX.out.2.2 F1 (HW.out.1.keep ((Fr.refl no w1).drew)) F2 (b || cf) om, ?_⟩
       exact (F1.mono (U := Tn2 S C c w0.heap.size) (fun _ _ e => .inr (.inr ⟨by omega, by omega⟩))).trans F2 (fun _ _ e => e) (fun _ _ e => .inr (.inl e))
      cases b with
      | true =>
       go_wp2_with fail
       refine CT.mono ?_
       rintro e w3 ⟨rfl, rfl⟩
       go_wp2_with fail
       go_region
       go_wp2_with fail
       go_ret
       rw [HE.out]
       obtain ⟨r1, r2⟩ := HFIN.out true _ (by simp) rfl
       refine ⟨rfl, fun _ => ?_, r2⟩
       rw [HX.out.1, HX.out.2]
       exact r1
      | false =>
       cases cf with
       | true =>
        go_wp2_with fail
        refine CT.mono ?_
        rintro e w3 ⟨rfl, rfl⟩
        go_wp2_with fail
        go_region
        go_wp2_with fail
        go_ret
        rw [HE.out]
        obtain ⟨r1, r2⟩ := HFIN.out true _ (by simp) rfl
        refine ⟨rfl, fun _ => ?_, r2⟩
        rw [HX.out.1, HX.out.2]
        exact r1
       | false =>
        go_wp2_with fail
        refine CT.mono ?_
        rintro e w3 ⟨rfl, rfl⟩
        go_wp2_with fail
        go_region
        go_wp2_with fail
        go_ret
        rw [HE.out]
        obtain ⟨r1, r2⟩ := HFIN.out false _ (by simp) rfl
        refine ⟨rfl, fun _ => ?_, r2⟩
        rw [HX.out.1, HX.out.2]
        exact r1
    · have HE : Hid (reachErr K x y = 81) := by show _ = _; unfold reachErr; rw [if_neg hK, if_neg (by rw [hxr]; simp), if_neg hlen]
      have HG : Hid _ := G0T
      have hle : ((x.st.length : Int) == (y.st.length : Int)) = false := by simp; omega
      generalize hX : x.st.length = xl at *
      generalize hY : y.st.length = yl at *
      clear CN EV FL0 FL s3 s4 SA hcs s1 t1 t3 SLO SST
      go_enter Tryz.func135, Tryz.ntmps135
      go_wp2_with fail
      go_region
      go_wp2_with fail
      go_region
      go_wp2_with fail
      go_ret
      rw [HE.out]
      exact ⟨rfl, fun e => absurd e (by decide), HG.out.drew.drew⟩
end Go.Proofs.YtalgjpmaafooeaaGreatDoor
/- An instruction run, and all that may come next reached. -/
namespace Go.Proofs.YtalgjpmaafooeaaGreatDoor
open Go.ChangeShapes Go.WideShapes Go.ChangeAt Go.RowKit
open H (ix NewV)
set_option maxRecDepth 100000 in
theorem handleNone (w : World) (f : Nat) (q : Option Addr) (cc : Nat) (h : w.cell? ⟨f, 8, none⟩ = some (.slice q 0 cc)) (i : Int) : Calls Tryz.prog 136 #[.pointer (some ⟨f, 0, none⟩), .int .i64 i] w fun e w' => e = .returned (.int .i64 0) ∧ w' = w := by
 go_enter Tryz.func136, Tryz.ntmps136
 go_wp2_with fail
 go_loopw [15] (fun i wr => i = .int .i64 0 ∧ wr = w) (fun _ _ => 0)
 case atStart => exact ⟨rfl, rfl⟩
 case round =>
  obtain ⟨rfl, rfl⟩ := hrel
  go_wp2_with fail
  go_ret
  exact ⟨rfl, rfl⟩
def zS : Stt := ⟨false, [], []⟩
abbrev Ps := List Stt × List Bool
def rch (y : Stt) (j : Nat) (p : Ps) : Ps := (p.1.set j (reachX (p.1.getD j zS) y), p.2.set j (reachC (p.1.getD j zS) y (p.2.getD j false)))
def rchE (K : Int) (y : Stt) (j : Nat) (p : Ps) : Int := reachErr K (p.1.getD j zS) y
def okR (x y : Stt) : Prop := x.r = true → x.st.length = y.st.length → x.st = [] ∧ y.st = [] ∧ x.lo.length = y.lo.length ∧ 0 < x.lo.length ∧ ∀ (i : Nat) (a b : Ty), x.lo[i]? = some a → y.lo[i]? = some b → mrg a b
def after1 (K : Int) (ins : Int × Int) (y : Stt) (at' : Nat) (p : Ps) : Int × Ps := if has ins.1 1 = false then (rchE K y (at' + 1) p, rch y (at' + 1) p) else (0, p)
def after2 (K : Int) (ins : Int × Int) (y : Stt) (p : Ps) : Int × Ps := if has ins.1 2 = true then (rchE K y ins.2.toNat p, rch y ins.2.toNat p) else (0, p)
def stepP (K : Int) (r : Rl) (ins : Int × Int) (at' : Nat) (p : Ps) : Int × Ps :=
 if runErr r ins (p.1.getD at' zS) ≠ 0 then (runErr r ins (p.1.getD at' zS), p)
 else if (after1 K ins (runS r ins (p.1.getD at' zS)) at' p).1 ≠ 0 then after1 K ins (runS r ins (p.1.getD at' zS)) at' p
 else after2 K ins (runS r ins (p.1.getD at' zS)) (after1 K ins (runS r ins (p.1.getD at' zS)) at' p).2
theorem getD_of {α : Type} {l : List α} {i : Nat} {x : α} (h : l[i]? = some x) (z : α) : l.getD i z = x := by rw [List.getD_eq_getElem?_getD, h]; rfl
set_option maxRecDepth 100000 in
set_option maxHeartbeats 8000000 in
theorem step_any (w : World) (f S C c : Nat) (K : Int) (cd : List (Int × Int)) (rl : List Rl) (p : Ps) (EV : ∀ w', Fr (Tn S C c) w w' → Con w' f S C K cd rl) (FL : Fl w S C c cd.length p.1 p.2) (hcw : c ≤ w.heap.size) (hf : f < c ∧ f ≠ S ∧ f ≠ C)
 (i : Nat) (x : Stt) (hx : p.1[i]? = some x) (hr : x.r = true) (r : Rl) (hrl : rl[i]? = some r) (hfit : ∀ t ∈ r.tk, t.k = 1 ∨ t.k = 2 ∨ t.k = 6) (ins : Int × Int) (hins : cd[i]? = some ins)
 (h38 : rd38 ins x.lo) (h7 : ins.1 ≠ 7) (h4 : ins.1 = 4 → 0 ≤ ins.2 ∧ ins.2 < x.lo.length) (h5 : ins.1 = 5 → 0 ≤ ins.2 ∧ ins.2 < x.lo.length ∧ r.tk.length = 1) (hfew : r.tk.length ≤ 1000) (hfew2 : r.pt.length ≤ 1000)
 (hy : (runS r ins x).lo.length ≤ 1000 ∧ (runS r ins x).st.length ≤ 1000) (h1 : has ins.1 1 = false → i + 1 < cd.length ∧ okR (p.1.getD (i + 1) zS) (runS r ins x)) (h2 : has ins.1 2 = true → 0 ≤ ins.2 ∧ ins.2 < cd.length ∧ okR ((after1 K ins (runS r ins x) i p).2.1.getD ins.2.toNat zS) (runS r ins x) ∧ (has ins.1 1 = false → ((after1 K ins (runS r ins x) i p).2.1.getD ins.2.toNat zS).r = false)) :
 Calls Tryz.prog 118 #[.pointer (some ⟨f, 0, none⟩), .int .i64 (i : Int)] w fun e w' => e = .returned (.int .i64 (stepP K r ins i p).1) ∧ ((stepP K r ins i p).1 = 0 → Fl w' S C c cd.length (stepP K r ins i p).2.1 (stepP K r ins i p).2.2) ∧ Fr (Tn S C c) w w' := by
 have hil : i < cd.length := (List.getElem?_eq_some_iff.1 hins).1
 have hgx : p.1.getD i zS = x := getD_of hx zS
 have hSP : stepP K r ins i p = if runErr r ins x ≠ 0 then (runErr r ins x, p) else if (after1 K ins (runS r ins x) i p).1 ≠ 0 then after1 K ins (runS r ins x) i p else after2 K ins (runS r ins x) (after1 K ins (runS r ins x) i p).2 := by unfold stepP; rw [hgx]
 have nm : ∀ {w w' : World}, Fr no w w' → Fr (Tn S C c) w w' := fun h => h.mono (fun _ _ f => f.elim)
 have tm : ∀ {w w' : World} {d : Nat}, Fr (Tn2 S C c d) w w' → Fr (Tn S C c) w w' := fun h => h.mono (fun _ _ e => e.elim .inl (fun e => e.elim (fun e => .inr (.inl e)) (fun e => .inr (.inr e.1))))
 have tt : ∀ {a b c' : World}, Fr (Tn S C c) a b → Fr (Tn S C c) b c' → Fr (Tn S C c) a c' := fun h k => h.trans k (fun _ _ e => e) (fun _ _ e => e)
 have CN := EV w (Fr.refl _ w)
 obtain ⟨cb, co, cc, a7, cc1, hcode⟩ := CN.code
 obtain ⟨c0, c1⟩ := hcode i ins hins
 have hii : (i : Int) < (cd.length : Int) := by omega
 generalize hW : w.alloc (.cells #[.int .i64 ins.1, .int .i64 ins.2] 27) = W
 have G0 : Fr no w W := by rw [← hW]; exact (Fr.refl no w).alloc _ _
 have E0 : W.heap[w.heap.size]? = some (.cells #[.int .i64 ins.1, .int .i64 ins.2] 27 (0, 0)) := by rw [← hW]; exact heap_alloc_new w _
 have RN := run_any W f S C c K cd rl p.1 p.2 (EV W (nm G0)) (FL.keep G0) i x hx hr r hrl hfit ins hins h38 h7 h4 h5 hfew hfew2
 have HST : Hid (∀ w', Fr (Tn S C c) w w' → Calls Tryz.prog 75 #[.int .i64 ins.1] w' fun e w2 => e = .returned (.bool (has ins.1 1)) ∧ w2 = w') := fun w' hf => stops_any w' (EV w' hf).tr ins.1
 have HJP : Hid (∀ w', Fr (Tn S C c) w w' → Calls Tryz.prog 98 #[.int .i64 ins.1] w' fun e w2 => e = .returned (.bool (has ins.1 2)) ∧ w2 = w') := fun w' hf => jumps_any w' (EV w' hf).tr ins.1
 have HHD : Hid (∀ w', Fr (Tn S C c) w w' → Calls Tryz.prog 136 #[.pointer (some ⟨f, 0, none⟩), .int .i64 (i : Int)] w' fun e w2 => e = .returned (.int .i64 0) ∧ w2 = w') := fun w' hf => by
  obtain ⟨q, hcc, hh⟩ := (EV w' hf).hands
  exact handleNone w' f q hcc hh _
 generalize hY : runS r ins x = y at *
 generalize hEE : runErr r ins x = ee at *
 by_cases he : ee = 0
 · subst he
   have HSP : Hid (stepP K r ins i p = if (after1 K ins y i p).1 ≠ 0 then after1 K ins y i p else after2 K ins y (after1 K ins y i p).2) := by show _ = _; rw [hSP, if_neg (by simp)]
   have HEV : Hid _ := EV
   have HFW : Hid (cd.length ≤ 200) := CN.few.2
   have HFL : Hid (Fl w S C c cd.length p.1 p.2 ∧ (f < c ∧ f ≠ S ∧ f ≠ C) ∧ c ≤ w.heap.size ∧ Fr no w W ∧ W.heap[w.heap.size]? = some (.cells #[.int .i64 ins.1, .int .i64 ins.2] 27 (0, 0))) := ⟨FL, hf, hcw, G0, E0⟩
   have hyr : y.r = true := by rw [← hY]; rfl
   have H1 : Hid _ := h1
   have H2 : Hid _ := h2
   clear EV FL CN hcode hSP h1 h2 hgx hrl hx hr hfit h4 h5 hf
   generalize hcl : cd.length = n at *
   go_enter Tryz.func118, Tryz.ntmps118
   go_wp2_with fail
   refine RN.mono ?_
   rintro e w2 ⟨⟨sr, ⟨sla, sln, slc⟩, ⟨sta, stn, stc⟩, ⟨ska, skn, skc⟩⟩, rfl, hs, F2⟩
   obtain ⟨rfl, olo, ost, nlo, nst⟩ := hs trivial
   unfold saV
   simp only at olo ost nlo nst ⊢
   generalize hW3 : w2.alloc (.cells #[.bool true, .slice sla sln slc, .slice sta stn stc, .slice ska skn skc] 67) = W3
   have G3 : Fr no w2 W3 := by rw [← hW3]; exact (Fr.refl no w2).alloc _ _
   have E3 : W3.heap[w2.heap.size]? = some (.cells #[.bool true, .slice sla sln slc, .slice sta stn stc, .slice ska skn skc] 67 (0, 0)) := by rw [← hW3]; exact heap_alloc_new w2 _
   obtain ⟨FL, hf, hcw, G0, E0⟩ := HFL.out
   have FW2 : Fr no W W3 := F2.new G3 (fun _ _ f => f)
   have FW : Fr no w W3 := G0.new FW2 (fun _ _ f => f)
   have hWs : w.heap.size < W.heap.size := lt_of_heap E0
   have hWs2 := F2.size
   have ST := HST.out W3 (nm FW)
   have b0 := (bx2 (FW2.heap E0 (fun f => f))).1
   obtain ⟨z0, z1, z2, z3⟩ := box4 E3
   have HB : Hid (OwnG elTy W3 (.slice sla sln slc) y.lo ∧ OwnG elTy W3 (.slice sta stn stc) y.st ∧ NewV W (.slice sla sln slc) ∧ NewV W (.slice sta stn stc) ∧ W3.heap[w.heap.size]? = some (.cells #[.int .i64 ins.1, .int .i64 ins.2] 27 (0, 0)) ∧ W3.heap[w2.heap.size]? = some (.cells #[.bool true, .slice sla sln slc, .slice sta stn stc, .slice ska skn skc] 67 (0, 0)) ∧ Fr no w W3 ∧ w.heap.size < W.heap.size ∧ W.heap.size ≤ w2.heap.size) := ⟨olo.keep G3, ost.keep G3, nlo, nst, FW2.heap E0 (fun f => f), E3, FW, hWs, hWs2⟩
   clear RN olo ost nlo nst F2 G3 E3 FW2 hWs hWs2 E0
   cases hstp : has ins.1 1 with
   | true =>
    have HA1 : Hid (after1 K ins y i p = (0, p)) := by show _ = _; unfold after1; rw [if_neg (by rw [hstp]; simp)]
    rw [hstp] at ST
    have JP := HJP.out W3 (nm FW)
    have HD := HHD.out W3 (nm FW)
    clear FL G0
    cases hjp : has ins.1 2 with
    | false =>
     have HA2 : Hid (stepP K r ins i p = (0, p)) := by show _ = _; rw [HSP.out, HA1.out, if_neg (by simp)]; unfold after2; rw [if_neg (by rw [hjp]; simp)]
     rw [hjp] at JP
     clear FW
     go_wp2_with fail
     refine ST.mono ?_
     rintro e w4 ⟨rfl, rfl⟩
     go_wp2_with fail
     refine JP.mono ?_
     rintro e w4 ⟨rfl, rfl⟩
     go_wp2_with fail
     refine HD.mono ?_
     rintro e w4 ⟨rfl, rfl⟩
     go_wp2_with fail
     go_ret
     rw [HA2.out]
     exact ⟨rfl, fun _ => HFL.out.1.keep HB.out.2.2.2.2.2.2.1, nm HB.out.2.2.2.2.2.2.1⟩
    | true =>
     rw [hjp] at JP
     obtain ⟨j0, j1, j2, -⟩ := H2.out hjp
     obtain ⟨m, hm⟩ : ∃ m : Nat, ins.2 = (m : Int) := ⟨ins.2.toNat, by omega⟩
     have hmn : m < n := by omega
     rw [HA1.out, hm, Int.toNat_natCast] at j2
     simp only at j2
     have hfl := HFL.out.1
     obtain ⟨xm, hxm⟩ : ∃ xm, p.1[m]? = some xm := ⟨_, List.getElem?_eq_getElem (by have := hfl.lx; omega)⟩
     obtain ⟨bm, hbm⟩ : ∃ bm, p.2[m]? = some bm := ⟨_, List.getElem?_eq_getElem (by have := hfl.lc; omega)⟩
     rw [getD_of hxm zS] at j2
     have RC := reach_any W3 f S C c K cd rl p.1 p.2 (fun w' h => HEV.out w' (tt (nm HB.out.2.2.2.2.2.2.1) h)) w (hcl ▸ hfl) HB.out.2.2.2.2.2.2.1 HFL.out.2.2.1 HFL.out.2.1 m (by omega) xm hxm ⟨true, ⟨sla, sln, slc⟩, ⟨sta, stn, stc⟩, ⟨ska, skn, skc⟩⟩ y rfl hyr (HB.out.1.sl okTy) (HB.out.2.1.sl okTy) hy (fun _ ad e => by
      have e' : sla = some ad := e
      have := HB.out.2.2.1 ad.block (by rw [e']; rfl)
      have := HB.out.2.2.2.2.2.2.2.1
      omega) j2 bm hbm
     unfold saV at RC
     simp only at RC
     have HA2 : Hid (stepP K r ins i p = (reachErr K xm y, (p.1.set m (reachX xm y), p.2.set m (reachC xm y bm)))) := by
      show _ = _
      rw [HSP.out, HA1.out, if_neg (by simp)]
      unfold after2 rchE rch
      rw [if_pos hjp, hm, Int.toNat_natCast]
      simp only [getD_of hxm zS, getD_of hbm false]
     have HXM : Hid _ := hxm
     clear FW
     have b1 := (bx2 HB.out.2.2.2.2.1).2
     rw [hm] at b1
     go_wp2_with fail
     refine ST.mono ?_
     rintro e w4 ⟨rfl, rfl⟩
     go_wp2_with fail
     refine JP.mono ?_
     rintro e w4 ⟨rfl, rfl⟩
     go_wp2_with fail
     refine RC.mono ?_
     rintro e w5 ⟨rfl, hfl, f5⟩
     rw [hcl] at hfl
     have ff : Fr (Tn S C c) w w5 := tt (nm HB.out.2.2.2.2.2.2.1) (tm f5)
     have HD5 := HHD.out w5 ff
     have HQ : Hid _ := And.intro hfl ff
     clear hfl f5 ff RC
     generalize hre : reachErr K xm y = re at *
     by_cases hr0 : re = 0
     · subst hr0
       go_wp2_with fail
       refine HD5.mono ?_
       rintro e w6 ⟨rfl, rfl⟩
       go_wp2_with fail
       go_ret
       rw [HA2.out]
       exact ⟨rfl, fun _ => HQ.out.1 trivial, HQ.out.2⟩
     · have hr0' : (re == 0) = false := by simpa using hr0
       go_wp2_with fail
       go_ret
       rw [HA2.out]
       exact ⟨rfl, fun e => absurd e hr0, HQ.out.2⟩
   | false =>
    obtain ⟨k0, k1⟩ := H1.out hstp
    have hfl0 := HFL.out.1
    obtain ⟨x1, hx1⟩ : ∃ x1, p.1[i + 1]? = some x1 := ⟨_, List.getElem?_eq_getElem (by have := hfl0.lx; omega)⟩
    obtain ⟨bi, hbi⟩ : ∃ bi, p.2[i + 1]? = some bi := ⟨_, List.getElem?_eq_getElem (by have := hfl0.lc; omega)⟩
    rw [getD_of hx1 zS] at k1
    have RC := reach_any W3 f S C c K cd rl p.1 p.2 (fun w' h => HEV.out w' (tt (nm HB.out.2.2.2.2.2.2.1) h)) w (hcl ▸ hfl0) HB.out.2.2.2.2.2.2.1 HFL.out.2.2.1 HFL.out.2.1 (i + 1) (by omega) x1 hx1 ⟨true, ⟨sla, sln, slc⟩, ⟨sta, stn, stc⟩, ⟨ska, skn, skc⟩⟩ y rfl hyr (HB.out.1.sl okTy) (HB.out.2.1.sl okTy) hy (fun _ ad e => by
     have e' : sla = some ad := e
     have := HB.out.2.2.1 ad.block (by rw [e']; rfl)
     have := HB.out.2.2.2.2.2.2.2.1
     omega) k1 bi hbi
    unfold saV at RC
    simp only at RC
    rw [show ((i + 1 : Nat) : Int) = (i : Int) + 1 by omega] at RC
    have HA1 : Hid (after1 K ins y i p = (reachErr K x1 y, (p.1.set (i + 1) (reachX x1 y), p.2.set (i + 1) (reachC x1 y bi)))) := by
     show _ = _
     unfold after1 rchE rch
     rw [if_pos hstp]
     simp only [getD_of hx1 zS, getD_of hbi false]
    rw [hstp] at ST
    have hi1 : (i : Int) + 1 ≤ 1000 := by have := HFW.out; omega
    clear FL G0 FW hfl0 k1
    generalize hre : reachErr K x1 y = re at *
    by_cases hr0 : re = 0
    · subst hr0
      go_wp2_with fail
      refine ST.mono ?_
      rintro e w4 ⟨rfl, rfl⟩
      go_wp2_with fail
      refine RC.mono ?_
      rintro e w5 ⟨rfl, hfl, f5⟩
      rw [hcl] at hfl
      have hfl5 := hfl trivial
      have ff : Fr (Tn S C c) w w5 := tt (nm HB.out.2.2.2.2.2.2.1) (tm f5)
      have HD5 := HHD.out w5 ff
      have JP := HJP.out w5 ff
      have nwb : ∀ {b : Nat}, w.heap.size ≤ b → c ≤ b → ¬ Tn2 S C c w.heap.size b := fun {b} h1 h2 e => by
       have hlt := HFL.out.1.lt
       rcases e with e | e | e <;> omega
      have hcw' := HFL.out.2.2.1
      obtain ⟨B1, B2, B3, B4, B5, B6, -, B8, B9⟩ := HB.out
      have c5 := f5.heap B5 (nwb (Nat.le_refl _) hcw')
      have d5 := f5.heap B6 (nwb (by omega) (by omega))
      have o5 : OwnG elTy w5 (.slice sla sln slc) y.lo := B1.kept f5 (fun k hk => nwb (by have := B3 k hk; omega) (by have := B3 k hk; omega))
      have p5 : OwnG elTy w5 (.slice sta stn stc) y.st := B2.kept f5 (fun k hk => nwb (by have := B4 k hk; omega) (by have := B4 k hk; omega))
      have y0 := (bx2 c5).1
      have y1 := (bx2 c5).2
      obtain ⟨u0, u1, u2, u3⟩ := box4 d5
      cases hjp : has ins.1 2 with
      | false =>
       have HA2 : Hid (stepP K r ins i p = (0, (p.1.set (i + 1) (reachX x1 y), p.2.set (i + 1) (reachC x1 y bi)))) := by show _ = _; rw [HSP.out, HA1.out, if_neg (by simp)]; unfold after2; rw [if_neg (by rw [hjp]; simp)]
       rw [hjp] at JP
       have HQ : Hid _ := And.intro hfl5 ff
       clear hfl hfl5 f5 ff RC c5 d5 o5 p5 B1 B2 B3 B4 B5 B6
       go_wp2_with fail
       refine JP.mono ?_
       rintro e w6 ⟨rfl, rfl⟩
       go_wp2_with fail
       refine HD5.mono ?_
       rintro e w6 ⟨rfl, rfl⟩
       go_wp2_with fail
       go_ret
       rw [HA2.out]
       exact ⟨rfl, fun _ => HQ.out.1, HQ.out.2⟩
      | true =>
       rw [hjp] at JP
       obtain ⟨j0, j1, j2, j3⟩ := H2.out hjp
       obtain ⟨m, hm⟩ : ∃ m : Nat, ins.2 = (m : Int) := ⟨ins.2.toNat, by omega⟩
       have hmn : m < n := by omega
       rw [HA1.out, hm, Int.toNat_natCast] at j2 j3
       simp only at j2 j3
       obtain ⟨xm, hxm⟩ : ∃ xm, (p.1.set (i + 1) (reachX x1 y))[m]? = some xm := ⟨_, List.getElem?_eq_getElem (by have := hfl5.lx; omega)⟩
       obtain ⟨bm, hbm⟩ : ∃ bm, (p.2.set (i + 1) (reachC x1 y bi))[m]? = some bm := ⟨_, List.getElem?_eq_getElem (by have := hfl5.lc; omega)⟩
       rw [getD_of hxm zS] at j2 j3
       have hcw5 : c ≤ w5.heap.size := Nat.le_trans hcw' ff.size
       have RC2 := reach_any w5 f S C c K cd rl _ _ (fun w' h => HEV.out w' (tt ff h)) w5 (hcl ▸ hfl5) (Fr.refl no w5) hcw5 HFL.out.2.1 m (by omega) xm hxm ⟨true, ⟨sla, sln, slc⟩, ⟨sta, stn, stc⟩, ⟨ska, skn, skc⟩⟩ y rfl hyr (o5.sl okTy) (p5.sl okTy) hy (fun e => absurd e (by rw [j3 hstp]; simp)) j2 bm hbm
       unfold saV at RC2
       simp only at RC2
       have HA2 : Hid (stepP K r ins i p = (reachErr K xm y, ((p.1.set (i + 1) (reachX x1 y)).set m (reachX xm y), (p.2.set (i + 1) (reachC x1 y bi)).set m (reachC xm y bm)))) := by
        show _ = _
        rw [HSP.out, HA1.out, if_neg (by simp)]
        unfold after2 rchE rch
        rw [if_pos hjp, hm, Int.toNat_natCast]
        simp only [getD_of hxm zS, getD_of hbm false]
       rw [hm] at y1
       have HFF : Hid _ := ff
       clear hfl hfl5 f5 ff RC c5 d5 o5 p5 B1 B2 B3 B4 B5 B6 hre HD5
       generalize hre : reachErr K xm y = re at *
       by_cases hr1 : re = 0
       · subst hr1
         go_wp2_with fail
         refine JP.mono ?_
         rintro e w6 ⟨rfl, rfl⟩
         go_wp2_with fail
         refine RC2.mono ?_
         rintro e w7 ⟨rfl, hf7, f7⟩
         rw [hcl] at hf7
         have ff7 : Fr (Tn S C c) w w7 := tt HFF.out (tm f7)
         have HD7 := HHD.out w7 ff7
         have HQ : Hid _ := And.intro (hf7 trivial) ff7
         clear hf7 f7 ff7 RC2
         go_wp2_with fail
         refine HD7.mono ?_
         rintro e w8 ⟨rfl, rfl⟩
         go_wp2_with fail
         go_ret
         rw [HA2.out]
         exact ⟨rfl, fun _ => HQ.out.1, HQ.out.2⟩
       · have hr1' : (re == 0) = false := by simpa using hr1
         go_wp2_with fail
         refine JP.mono ?_
         rintro e w6 ⟨rfl, rfl⟩
         go_wp2_with fail
         refine RC2.mono ?_
         rintro e w7 ⟨rfl, -, f7⟩
         have HQ : Hid (Fr (Tn S C c) w w7) := tt HFF.out (tm f7)
         clear f7 RC2
         go_wp2_with fail
         go_ret
         rw [HA2.out]
         exact ⟨rfl, fun e => absurd e hr1, HQ.out⟩
    · have hr0' : (re == 0) = false := by simpa using hr0
      have HA2 : Hid (stepP K r ins i p = (re, (p.1.set (i + 1) (reachX x1 y), p.2.set (i + 1) (reachC x1 y bi)))) := by show _ = _; rw [HSP.out, HA1.out, if_pos hr0]
      go_wp2_with fail
      refine ST.mono ?_
      rintro e w4 ⟨rfl, rfl⟩
      go_wp2_with fail
      refine RC.mono ?_
      rintro e w5 ⟨rfl, -, f5⟩
      have HQ : Hid (Fr (Tn S C c) w w5) := tt (nm HB.out.2.2.2.2.2.2.1) (tm f5)
      clear f5 RC
      go_wp2_with fail
      go_ret
      rw [HA2.out]
      exact ⟨rfl, fun e => absurd e hr0, HQ.out⟩
 · have HSP : Hid (stepP K r ins i p = (ee, p)) := by show _ = _; rw [hSP, if_pos he]
   have hee : (ee == 0) = false := by simpa using he
   have HNE : Hid (ee ≠ 0) := he
   have HG : Hid (Fr no w W) := G0
   clear EV FL CN hcode hSP h1 h2 hgx hrl hx hr hfit h4 h5 hf
   generalize hcl : cd.length = n at *
   go_enter Tryz.func118, Tryz.ntmps118
   go_wp2_with fail
   refine RN.mono ?_
   rintro e w2 ⟨⟨sr, ⟨sla, sln, slc⟩, ⟨sta, stn, stc⟩, ⟨ska, skn, skc⟩⟩, rfl, -, F2⟩
   have HZ : Hid (Fr no w w2) := HG.out.new F2 (fun _ _ f => f)
   unfold saV
   clear RN F2
   go_wp2_with fail
   go_ret
   rw [HSP.out]
   exact ⟨rfl, fun e => absurd e HNE.out, nm (HZ.out.alloc _ _)⟩
end Go.Proofs.YtalgjpmaafooeaaGreatDoor
