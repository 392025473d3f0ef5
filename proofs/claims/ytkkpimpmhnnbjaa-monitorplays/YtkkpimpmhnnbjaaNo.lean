/- Notify. -/
import Derived.Test.YtkkpimpmhnnbjaaWa
namespace Go.Proofs.Ytkkpimpmhnnbjaa
open Go.ChangeShapes Go.WideShapes Go.ChangeAt Go.RowKit

def noteL (x : Lk) (k : Nat) : Lk := { x with entry := x.entry ++ x.wait.take k, wait := x.wait.drop k }

def noteK (x : Lk) (all : Bool) : Nat := if all = true then x.wait.length else min 1 x.wait.length

def notifyP (a t : Int) (all : Bool) (S : Int → Option Lk) (N : Int → Int) : Ans Int :=
  match ownP S a t with
  | none => ⟨0, 130, S, N⟩
  | some x => ⟨(noteK x all : Int), 0, upd S a (some (noteL x (noteK x all))), N⟩

/-- The first of those who wait is out of their list. -/
theorem TP.cut4 {c : Nat} {w : World} {p n m1 m2 : Nat} {F : Int → Option Lay} {S : Int → Option Lk} {N : Int → Int} (h : TP c w p n m1 m2 F S N) {a : Int} {q : Nat} {ve vv : Value} (hy : F a = some ⟨q, ve, vv⟩) {x : Lk} (hx : S a = some x) {e1 e2 : Int} {r : List (Int × Int)} (hn : x.wait = (e1, e2) :: r) :
    ∃ g o cap so sc, vv = .slice (some ⟨g, o, none⟩) ((e1, e2) :: r).length cap ∧ w.cell? ⟨g, o, none⟩ = some (.int .i64 e1) ∧ w.cell? ⟨g, o + 1, none⟩ = some (.int .i64 e2) ∧ (∀ w', (Instr.slice 64 vv (some (.int .i64 1)) none none).run Try.prog w' = .ok (.slice so r.length sc) w') ∧
      TP c (w.setCell ⟨q, 4, none⟩ (.slice so r.length sc)) p n m1 m2 (upd F a (some ⟨q, ve, .slice so r.length sc⟩)) (upd S a (some { x with wait := r })) N ∧ Fr (Tm c w) w (w.setCell ⟨q, 4, none⟩ (.slice so r.length sc)) := by
  obtain ⟨x2, hx2, h1, h2, h3, h4, h5, h6⟩ := h.lay hy
  rw [hx] at hx2
  obtain rfl := Option.some.inj hx2
  simp only [] at h1 h2 h3 h4 h5 h6
  rw [hn] at h4
  obtain ⟨g, o, cap, hv⟩ : ∃ g o cap, vv = .slice (some ⟨g, o, none⟩) ((e1, e2) :: r).length cap := by
    rcases h4 with ⟨_, hl⟩ | ⟨g, o, cap, cur, hv, _⟩
    · simp at hl
    · exact ⟨g, o, cap, hv⟩
  have h4' := h4
  rw [hv] at h4
  have k0 := h4.cells 0 (.int .i64 e1) rfl
  have k1 := h4.cells 1 (.int .i64 e2) rfl
  rw [Nat.add_zero] at k0
  obtain ⟨sv, hs1, -, -, hso0, hsb⟩ := cut_high elW_ok elem64 h4 1 (by simp)
  have hso : OwnG elW w sv r := hso0
  obtain ⟨so, sc, hsv⟩ := hso.form
  subst hsv
  have haw := h.away hy
  have fs := fr_set w q 4 (.slice so r.length sc)
  refine ⟨g, o, cap, so, sc, hv, k0, k1, by rw [hv]; exact hs1, h.put hy { x with wait := r } ve (.slice so r.length sc) (fs.mono (fun _ _ e => .inl e)) (setV h2) (h3.kept fs (fun b hb e => haw.2.2.2.2 a _ b hy (.inl hb) e)) (hso.kept fs (fun b hb e => ?_)) (fun _ _ hb => hb) (fun b _ hb => ?_) (fun b hb hb' => ?_)⟩
  · rw [hsb] at hb
    exact haw.2.2.2.2 a _ b hy (.inr (by simp only []; rw [hv, ← hb]; rfl)) e
  · rw [hsb] at hb
    simp only []
    rw [hv, ← hb]
    rfl
  · rw [hsb] at hb'
    exact (h.apart a a _ _ hy hy).2.1 b hb (by simp only []; rw [hv, ← hb']; rfl)

def NotAt (c : Nat) (w0 : World) (p n q : Nat) (a t : Int) (all : Bool) (x : Lk) (S : Int → Option Lk) (N : Int → Int) (act : Act) (w : World) : Prop :=
  ∃ (k m1 m2 : Nat) (ve vv : Value) (F : Int → Option Lay) (u4 u5 u6 u7 u8 u9 u12 u13 u14 u15 u16 u17 u18 u19 u20 u21 u22 u23 u24 u25 u26 u27 u28 u29 u30 u31 u32 u33 u34 u35 u36 u37 u38 u39 u40 u41 u42 u43 u44 u45 u46 u47 u48 u49 u50 u51 u52 u53 u54 u55 u56 u57 : Value), act = { tmps := (.pointer (some ⟨p, 0, none⟩) :: .int .i64 a :: .int .i64 t :: .bool all :: u4 :: u5 :: u6 :: u7 :: u8 :: u9 :: .pointer (some ⟨q, 0, none⟩) :: .int .i64 (k : Int) :: u12 :: u13 :: u14 :: u15 :: u16 :: u17 :: u18 :: u19 :: u20 :: u21 :: u22 :: u23 :: u24 :: u25 :: u26 :: u27 :: u28 :: u29 :: u30 :: u31 :: u32 :: u33 :: u34 :: u35 :: u36 :: u37 :: u38 :: u39 :: u40 :: u41 :: u42 :: u43 :: u44 :: u45 :: u46 :: u47 :: u48 :: u49 :: u50 :: u51 :: u52 :: u53 :: u54 :: u55 :: u56 :: u57 :: []).toArray, defers := [] } ∧ k ≤ x.wait.length ∧ (all = false → k ≤ 1) ∧
    TP c w p n m1 m2 F (upd S a (some (noteL x k))) N ∧ F a = some ⟨q, ve, vv⟩ ∧ Fr (Tm c w0) w0 w

set_option maxRecDepth 100000 in
set_option maxHeartbeats 1000000 in
theorem notify_any {c : Nat} {w : World} {p n : Nat} {S : Int → Option Lk} {N : Int → Int} (h : TB c w p n S N) (hB : Bd n S N) (hn : n ≤ 700000) (a t : Int) (all : Bool) (ha : In a) :
    Calls Try.prog 16 #[.pointer (some ⟨p, 0, none⟩), .int .i64 a, .int .i64 t, .bool all] w fun e w' => e = .returned (.tuple #[.int .i64 (notifyP a t all S N).r, .int .i64 (notifyP a t all S N).err]) ∧ TB c w' p (n + 2) (notifyP a t all S N).S (notifyP a t all S N).N ∧ Fr (Tm c w) w w' := by
  have e1 := eq_nil
  have e2 := eq_ptr
  unfold notifyP
  cases ho : ownP S a t with
  | none =>
    have OW := owned_no h a t ha ho
    have HT : Hid (TB c w p (n + 2) S N) := h.mono (by omega)
    clear h ho hB
    go_enter Try.func16, Try.ntmps16
    go_wp2_with fail
    refine wp_label_fwd 0 (fun _ _ => False) rfl ?_ (fun _ _ f => f.elim)
    intro K hg h0 hr
    go_wp2_with fail
    refine OW.mono ?_
    rintro _ w1 ⟨rfl, rfl⟩
    go_wp2_with fail
    go_ret2
    exact ⟨rfl, HT.out, Fr.refl _ _⟩
  | some x =>
    obtain ⟨m1, m2, F, ⟨q, ve, vv⟩, t1, hy, OW⟩ := owned_yes h a t ha x ho
    obtain ⟨hx, -, -⟩ := ownP_some ho
    have hok := hB.lk a x hx
    have hln := hok.len
    have HNA : Hid (TP c w p n m1 m2 F (upd S a (some (noteL x 0))) N ∧ F a = some ⟨q, ve, vv⟩) := by
      have e : noteL x 0 = x := by simp [noteL]
      rw [e, ← hx, upd_self]
      exact ⟨t1, hy⟩
    simp only [] at OW ⊢
    clear h hB t1 hx ho hok hy
    go_enter Try.func16, Try.ntmps16
    go_wp2_with fail
    refine wp_label_one 0 (NotAt c w p n q a t all x S N) (fun a' _ => x.wait.length - (intOf (a'.tmps.getD 11 undef)).toNat) rfl ?_ ?_
    · intro K h0 hr hnn
      go_wp2_with fail
      refine OW.mono ?_
      rintro _ w1 ⟨rfl, rfl⟩
      go_wp2_with fail
      go_step3
      rename_i hk
      exact hk _ _ (h0 _ _ ⟨0, m1, m2, ve, vv, F, _, _, _, _, _, _, _, _, _, _, _, _, _, _, _, _, _, _, _, _, _, _, _, _, _, _, _, _, _, _, _, _, _, _, _, _, _, _, _, _, _, _, _, _, _, _, _, _, _, _, _, _, rfl, Nat.zero_le _, fun _ => by omega, HNA.out.1, HNA.out.2, Fr.refl _ _⟩)
    · rintro a' w1 ⟨k, n1, n2, we, wv, G, u4, u5, u6, u7, u8, u9, u12, u13, u14, u15, u16, u17, u18, u19, u20, u21, u22, u23, u24, u25, u26, u27, u28, u29, u30, u31, u32, u33, u34, u35, u36, u37, u38, u39, u40, u41, u42, u43, u44, u45, u46, u47, u48, u49, u50, u51, u52, u53, u54, u55, u56, u57, rfl, hk, hk1, t1, hy, f1⟩ K hj hr hnn
      clear HNA OW
      obtain ⟨x2, hx2, _, hq1, o1, o2, _⟩ := t1.lay hy
      rw [upd_same] at hx2
      obtain rfl := Option.some.inj hx2
      simp only [] at hq1 o1 o2
      obtain ⟨ow, cw, hwv⟩ := o2.form
      obtain ⟨oe, ce, hwe⟩ := o1.form
      obtain ⟨-, -, -, d3, d4⟩ := cells5 hq1
      have HLW : Hid ((noteL x k).wait.length = x.wait.length - k) := by simp [Hid, noteL]
      have HLE : Hid ((noteL x k).entry.length = x.entry.length + k) := by simp [Hid, noteL]; omega
      have HEND : Hid (noteK x all = k → TB c w1 p (n + 2) (upd S a (some (noteL x (noteK x all)))) N ∧ Fr (Tm c w) w w1) := fun e => by
        rw [e]
        exact ⟨.inr ⟨n1, n2, G, t1.mono (by omega)⟩, f1⟩
      by_cases hfin : k = x.wait.length ∨ (0 < k ∧ all = false)
      · have hK : noteK x all = k := by
          unfold noteK
          rcases hfin with e | ⟨e1, e2⟩
          · cases all
            · have := hk1 rfl
              simp; omega
            · simp; omega
          · subst e2
            have := hk1 rfl
            simp; omega
        have HE2 := HEND.out hK
        rw [hwv] at d4
        have HKK : Hid (noteK x all = k) := hK
        have HE3 : Hid _ := HE2
        clear HEND HE2 hK t1 f1 hq1 o1 o2 hx2 hwv hwe d3 hy
        by_cases hz : k = x.wait.length
        · have hz0 : (noteL x k).wait.length = 0 := by rw [HLW.out]; omega
          rw [hz0] at d4
          clear hz0 hfin hz
          go_wp2_with fail
          refine hr _ _ ?_
          go_ret2
          exact ⟨by rw [HKK.out]; rfl, HE3.out⟩
        · obtain ⟨e1, rfl⟩ := hfin.resolve_left hz
          have hne : (((noteL x k).wait.length : Int) == 0) = false := by rw [HLW.out]; simp; omega
          have hpos : (0 : Int) < (k : Int) := by omega
          generalize (noteL x k).wait.length = lw at *
          clear hz hfin
          go_wp2_with fail
          refine hr _ _ ?_
          go_ret2
          exact ⟨by rw [HKK.out]; rfl, HE3.out⟩
      · have hlt : k < x.wait.length := by
          rcases Nat.lt_or_ge k x.wait.length with e | e
          · exact e
          · exact absurd (.inl (by omega)) hfin
        have hza : k = 0 ∨ all = true := by
          cases all
          · exact .inl (Classical.byContradiction fun e => hfin (.inr ⟨by omega, rfl⟩))
          · exact .inr rfl
        obtain ⟨⟨z1, z2⟩, hz⟩ : ∃ z, x.wait[k]? = some z := ⟨_, List.getElem?_eq_getElem hlt⟩
        have hwz : (noteL x k).wait = (z1, z2) :: x.wait.drop (k + 1) := by
          show x.wait.drop k = _
          rw [List.drop_eq_getElem_cons hlt]
          rw [List.getElem?_eq_getElem hlt] at hz
          rw [Option.some.inj hz]
        obtain ⟨g, o, cap, _, _, hvv, k0, k1, -, -, -⟩ := t1.cut4 hy (upd_same _ _ _) hwz
        have HSTEP : Hid (noteL x (k + 1) = { noteL x k with entry := (noteL x k).entry ++ [(z1, z2)], wait := x.wait.drop (k + 1) }) := by
          show _ = _
          unfold noteL
          simp only [List.append_assoc]
          rw [take_next _ _ _ hz]
        have hnz : ((((z1, z2) :: x.wait.drop (k + 1)).length : Int) == 0) = false := by simp only [List.length_cons, beq_eq_false_iff_ne]; omega
        have hpz : (0 : Int) < (((z1, z2) :: x.wait.drop (k + 1)).length : Int) := by simp only [List.length_cons]; omega
        rw [hvv] at d4
        have fa : Fr no w1 (w1.alloc (.cells #[.int .i64 z1, .int .i64 z2] 68)).drew := ((Fr.refl no _).alloc _ _).drew
        have HSR : Hid (Src Try.prog elW.n elW.t (.slice (some ⟨w1.heap.size, 0, none⟩) 1 1) [(z1, z2)].length (cg elW [(z1, z2)]) (w1.alloc (.cells #[.int .i64 z1, .int .i64 z2] 68)).drew) := ((own_lit elW_ok w1 [(z1, z2)] _ rfl (by unfold maxLen; simp)).keep ((Fr.refl no _).drew)).sl.src elW_ok
        have HT3 : Hid (TP c (w1.alloc (.cells #[.int .i64 z1, .int .i64 z2] 68)).drew p n n1 n2 G (upd S a (some (noteL x k))) N ∧ Fr (Tm c w) w (w1.alloc (.cells #[.int .i64 z1, .int .i64 z2] 68)).drew) := ⟨t1.keep fa, f1.tm fa.ofNo⟩
        have HO3 : Hid (OwnG elW (w1.alloc (.cells #[.int .i64 z1, .int .i64 z2] 68)).drew we (noteL x k).entry) := o1.keep fa
        have d3a : (w1.alloc (.cells #[.int .i64 z1, .int .i64 z2] 68)).cell? ⟨q, 3, none⟩ = some we := by
          obtain ⟨x4, hx4, _, hq4, _⟩ := HT3.out.1.lay hy
          exact (cells5 hq4).2.2.2.1
        have LEM : Hid (∀ v' w3, OwnG elW w3 v' ((noteL x k).entry ++ [(z1, z2)]) → Sp we (w1.alloc (.cells #[.int .i64 z1, .int .i64 z2] 68)).drew v' w3 → ∃ ov lf cv, v' = .slice ov lf cv ∧ w3.cell? ⟨q, 3, none⟩ = some we ∧ w3.frozen? ⟨q, 3, none⟩ = false ∧
            ∃ so sl sc, (w3.setCell ⟨q, 3, none⟩ (.slice ov lf cv)).cell? ⟨q, 4, none⟩ = some (.slice (some ⟨g, o, none⟩) ((z1, z2) :: x.wait.drop (k + 1)).length cap) ∧ (w3.setCell ⟨q, 3, none⟩ (.slice ov lf cv)).frozen? ⟨q, 4, none⟩ = false ∧ (∀ w', (Instr.slice 64 (.slice (some ⟨g, o, none⟩) ((z1, z2) :: x.wait.drop (k + 1)).length cap) (some (.int .i64 1)) none none).run Try.prog w' = .ok (.slice so sl sc) w') ∧
            Hid (TP c ((w3.setCell ⟨q, 3, none⟩ (.slice ov lf cv)).setCell ⟨q, 4, none⟩ (.slice so sl sc)) p n n1 n2 (upd G a (some ⟨q, .slice ov lf cv, .slice so sl sc⟩)) (upd S a (some (noteL x (k + 1)))) N ∧ Fr (Tm c w) w ((w3.setCell ⟨q, 3, none⟩ (.slice ov lf cv)).setCell ⟨q, 4, none⟩ (.slice so sl sc)))) := by
          intro v' w3 o3 s3
          obtain ⟨c3, z3, t4, f4⟩ := HT3.out.1.app3 hy (upd_same _ _ _) o3 s3
          simp only [] at c3 z3 t4 f4
          rw [upd_upd] at t4
          obtain ⟨ov, cv, rfl⟩ := o3.form
          obtain ⟨x4, hx4, _, hq4, _⟩ := t4.lay (upd_same _ _ _)
          simp only [] at hq4
          obtain ⟨g', o', cap', so, sc, hv', _, _, hsl, t5, f5⟩ := t4.cut4 (upd_same _ _ _) (upd_same _ _ _) hwz
          rw [hvv] at hv' hsl
          rw [upd_upd, upd_upd, ← HSTEP.out] at t5
          have c4 := (cells5 hq4).2.2.2.2
          rw [hvv] at c4
          exact ⟨ov, _, cv, rfl, c3, z3, so, _, sc, c4, thaw hq4 4, hsl, t5, (HT3.out.2.tm f4).tm f5⟩
        clear HT3 hy t1 f1 hq1 o1 o2 hx2 hwv HEND hz hwz
        subst hwe
        have hbl : (noteL x k).entry.length ≤ 900000 := by rw [HLE.out]; omega
        clear HLE HLW
        generalize ((z1, z2) :: x.wait.drop (k + 1)).length = lw at *
        have HLX : Hid ((noteL x k).entry.length + [(z1, z2)].length ≤ 1000000) := by show _ + 1 ≤ _; omega
        generalize hle : (noteL x k).entry.length = le at d3 d3a HO3 LEM
        clear hle
        have hkk : k ≤ 700000 := by omega
        have HKL : Hid (k + 1 ≤ x.wait.length ∧ (all = false → k + 1 ≤ 1)) := ⟨hlt, fun e => by rcases hza with h | h; omega; rw [e] at h; simp at h⟩
        have hone : ([(z1, z2)] : List (Int × Int)).length = 1 := rfl
        clear hfin hlt hk hk1 hln hbl hvv
        have hpn : 0 < lw := by omega
        have hpn : 0 < lw := by omega
        by_cases hk0 : k = 0
        · subst hk0
          go_upto_region 7 with (fail)
          rename_i K2 hK2
          refine Code.wp_mono (Q := Exit.then K2 (fun _ _ _ => False)) (fun e a w h => by cases e <;> first | exact h | exact False.elim h) ?_
          go_region_law (refine step_apdG elW_ok (w1.alloc (.cells #[.int .i64 z1, .int .i64 z2] 68)).drew rfl rfl (.tmp 37) (.tmp 44) rfl (.slice oe le ce) (noteL x 0).entry (by simp [Act.eval]) HO3.out (.slice (some ⟨w1.heap.size, 0, none⟩) 1 1) (by simp [Act.eval]) [(z1, z2)] HSR.out HLX.out ?_; intro v' w3 o3 s3; obtain ⟨ov, lf, cv, rfl, c3, z3, so, sl, sc, c4, z4, hsl, T5⟩ := LEM.out v' w3 o3 s3; clear o3 s3)
          all_goals
            go_wp2_with fail
            go_step3
            refine hj _ _ ⟨0 + 1, n1, n2, _, _, _, _, _, _, _, _, _, _, _, _, _, _, _, _, _, _, _, _, _, _, _, _, _, _, _, _, _, _, _, _, _, _, _, _, _, _, _, _, _, _, _, _, _, _, _, _, _, _, _, _, _, _, _, rfl, HKL.out.1, HKL.out.2, T5.out.1, upd_same _ _ _, T5.out.2⟩ ?_
            have h1 := HKL.out.1
            show x.wait.length - (1 : Int).toNat < x.wait.length - ((0 : Nat) : Int).toNat
            omega
        · have hal : all = true := hza.resolve_left hk0
          subst hal
          have hpk : (0 : Int) < (k : Int) := by omega
          clear hza hk0
          go_upto_region 7 with (fail)
          rename_i K2 hK2
          refine Code.wp_mono (Q := Exit.then K2 (fun _ _ _ => False)) (fun e a w h => by cases e <;> first | exact h | exact False.elim h) ?_
          go_region_law (refine step_apdG elW_ok (w1.alloc (.cells #[.int .i64 z1, .int .i64 z2] 68)).drew rfl rfl (.tmp 37) (.tmp 44) rfl (.slice oe le ce) (noteL x k).entry (by simp [Act.eval]) HO3.out (.slice (some ⟨w1.heap.size, 0, none⟩) 1 1) (by simp [Act.eval]) [(z1, z2)] HSR.out HLX.out ?_; intro v' w3 o3 s3; obtain ⟨ov, lf, cv, rfl, c3, z3, so, sl, sc, c4, z4, hsl, T5⟩ := LEM.out v' w3 o3 s3; clear o3 s3)
          all_goals
            go_wp2_with fail
            go_step3
            refine hj _ _ ⟨k + 1, n1, n2, _, _, _, _, _, _, _, _, _, _, _, _, _, _, _, _, _, _, _, _, _, _, _, _, _, _, _, _, _, _, _, _, _, _, _, _, _, _, _, _, _, _, _, _, _, _, _, _, _, _, _, _, _, _, _, rfl, HKL.out.1, HKL.out.2, T5.out.1, upd_same _ _ _, T5.out.2⟩ ?_
            have h1 := HKL.out.1
            show x.wait.length - ((k : Int) + 1 : Int).toNat < x.wait.length - ((k : Nat) : Int).toNat
            omega

theorem notify_bd {n : Nat} {S : Int → Option Lk} {N : Int → Int} (hB : Bd n S N) (a t : Int) (all : Bool) : Bd (n + 2) (notifyP a t all S N).S (notifyP a t all S N).N := by
  unfold notifyP
  cases ho : ownP S a t with
  | none => exact hB.mono (by omega)
  | some x =>
    have hx := (hB.lk a x (ownP_some ho).1).mono (n' := n + 2) (by omega)
    refine (hB.mono (by omega)).put a (fun x' hx' => ?_)
    obtain rfl := Option.some.inj hx'
    have hl := hx.len
    refine ⟨hx.own, hx.cnt, ?_, fun e he => ?_, fun e he => hx.wai e (List.mem_of_mem_drop he)⟩
    · simp only [noteL, List.length_append, List.length_take, List.length_drop]
      omega
    · simp only [noteL, List.mem_append] at he
      rcases he with he | he
      · exact hx.ent e he
      · exact hx.wai e (List.mem_of_mem_take he)
end Go.Proofs.Ytkkpimpmhnnbjaa
