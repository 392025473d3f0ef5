/- The program's watch: a clock is kept. -/
import Derived.Test.YtnineggppoipiaaPn
namespace Go.Proofs.Ytnineggppoipiaa
open Go.ChangeShapes Go.WideShapes Go.ChangeAt Go.RowKit

theorem mk56 (w : World) : (Instr.makeMap 56 none).run Try.prog w = .ok (.map (some w.heap.size)) (w.alloc (.map #[] 0)) := by kernel_rfl
theorem eqN (w : World) : (binOp BinOp.eql 56 (.map none) (.map none)).run Try.prog w = .ok (.bool true) w := by kernel_rfl
theorem eqS (m : Nat) (w : World) : (binOp BinOp.eql 56 (.map (some m)) (.map none)).run Try.prog w = .ok (.bool false) w := by kernel_rfl
theorem Fr.allocMap {S : Nat → Prop} {a w : World} (h : Fr S a w) : Fr S a (w.alloc (.map #[] 0)) :=
  ⟨h.os, h.output, Nat.le_trans h.size (by show w.heap.size ≤ (w.heap.push _).size; simp), fun k hk hs => (Below.heap_alloc w _ k (Nat.lt_of_lt_of_le hk h.size)).trans (h.block k hk hs),
    fun x hx => (by
      have hx' := Nat.lt_of_lt_of_le hx h.size
      have e := Below.heap_alloc w (.map #[] 0) x.block hx'
      have : (w.alloc (.map #[] 0)).frozen? x = w.frozen? x := by unfold World.frozen?; rw [e]
      exact this.trans (h.frozen x hx))⟩

section
variable {o : Oper} {a : Act} {w : World}
theorem ev_update (t : TypeId) (x y z : Nat) (m k v : Value) (w' : World) (ho : o.op = .mapUpdate t (.tmp x) (.tmp y) (.tmp z)) (hx : a.eval (.tmp x) = m) (hy : a.eval (.tmp y) = k) (hz : a.eval (.tmp z) = v) (hr : (Instr.mapUpdate t m k v).run Try.prog w = .ok () w') : (execOp a.eval o).run Try.prog w = .ok .skip w' := by
  unfold execOp; simp [ho, hx, hy, hz, hr, Result.andThen]
theorem ev_lookup (t : TypeId) (x y : Nat) (b : Bool) (m k v : Value) (ho : o.op = .lookup t (.tmp x) (.tmp y) b) (hx : a.eval (.tmp x) = m) (hy : a.eval (.tmp y) = k) (hr : (Instr.lookup t m k b).run Try.prog w = .ok v w) : (execOp a.eval o).run Try.prog w = .ok (.value v) w := by
  unfold execOp; simp [ho, hx, hy, hr, Result.andThen]
theorem ld56 {q i : Nat} {v : Value} (h : w.cell? ⟨q, i, none⟩ = some v) : (Instr.loadAt 56 (.pointer (some ⟨q, i, none⟩))).run Try.prog w = .ok v w := by simp [go_sem, h]
theorem ld66 {b : Nat} {q : Pk} (h : w.heap[b]? = some (.cells (pkL q).toArray 66 (0, 0))) : (Instr.loadAt 66 (.pointer (some ⟨b, 0, none⟩))).run Try.prog w = .ok (pkV q) w := by
  refine run_loadAt_mid (P := Try.prog) w b 0 66 (pkL q) _ (fun j v hv => ?_) Try.underlying66 rfl (by kernel_rfl)
  unfold World.cell?
  rw [h]
  simpa using hv
end
/-- What the store of a clock leaves. -/
theorem keep_store {c : Nat} {w : World} {p m : Nat} {F : Cm} {n : Int} {k : Nat} (hc : c ≤ p) (hcm : c ≤ m) (hp : w.heap[p]? = some (.cells #[.map (some m), .int .i64 n] 58 (0, 0))) (hM : CM w m k F) (hk : k ≤ 1000) {q : Pk} (hq : q.Ok) (c1 : Nat → Int) :
    ∃ w', (Instr.mapUpdate 56 (.map (some m)) (pkV q) (ckV c1)).run Try.prog w = .ok () w' ∧ PW c w' p (putP F q c1) n (k + 1) ∧ Fr (TW c w) w w' := by
  obtain ⟨w', h1, h2, h3⟩ := hM.store (by omega) hq c1
  have hpm : p ≠ m := fun e => by
    obtain ⟨es, cl, h4⟩ := hM.isMap
    rw [← e, hp] at h4
    simp at h4
  refine ⟨w', h1, ⟨hc, _, h3.heap hp hpm, .inr ⟨m, hcm, rfl, h2⟩⟩, h3.mono fun i _ e => ?_⟩
  subst e
  obtain ⟨es, cl, h4⟩ := hM.isMap
  exact ⟨hcm, .inl ⟨es, cl, h4⟩⟩

set_option maxRecDepth 100000 in
set_option maxHeartbeats 1000000 in
theorem keep_any {c : Nat} (w : World) (p : Nat) (F : Cm) (n : Int) (k : Nat) (h : PW c w p F n k) (hk : k ≤ 1000) (q : Pk) (hq : q.Ok) (c1 : Nat → Int) :
    Calls Try.prog 38 #[.pointer (some ⟨p, 0, none⟩), pkV q, ckV c1] w fun e w' => e = .returned (.tuple #[]) ∧ PW c w' p (putP F q c1) n (k + 1) ∧ Fr (TW c w) w w' := by
  obtain ⟨W, b4, b5, eW, e5, e4, H4, H5, F0⟩ := boxes2n w (pkL q).toArray (ckL c1).toArray 66 61
  have HP : Hid (PW c W p F n k) := h.keep F0
  have lp : p < w.heap.size := h.lt
  clear h
  have H0 : Hid (_ ∧ _ ∧ _) := ⟨eW, e5, e4⟩
  have hB : p ≠ b4 ∧ p ≠ b5 ∧ w.heap.size ≤ b4 ∧ w.heap.size ≤ b5 := by omega
  clear eW e5 e4
  have FIN : Hid (∀ W2 m, Fr (TW c W) W W2 → W2.heap[p]? = some (.cells #[.map (some m), .int .i64 n] 58 (0, 0)) → CM W2 m k F → c ≤ m → ∃ w', (Instr.mapUpdate 56 (.map (some m)) (pkV q) (ckV c1)).run Try.prog W2.drew = .ok () w' ∧ PW c w' p (putP F q c1) n (k + 1) ∧ Fr (TW c w) w w') := fun W2 m f2 h2 hM hcm => by
    obtain ⟨w', a1, a2, a3⟩ := keep_store (w := W2.drew) HP.out.low hcm h2 (hM.kept (Fr.refl no W2).drew (fun x => x)) hk hq c1
    exact ⟨w', a1, a2, (F0.up (S := TW c w)).tw ((f2.tw ((Fr.refl (TW c W2) W2).drew)).tw a3)⟩
  have HH : Hid (_ ∧ _ ∧ _) := ⟨H4, H5, F0⟩
  clear H4 H5 F0
  have MK := mk56
  unfold pkV ckV
  go_enter Try.func38, Try.ntmps38
  go_upto_region 1 with fail
  unfold pkL at H0
  rw [H0.out.1, H0.out.2.1, H0.out.2.2]
  clear H0
  obtain ⟨v, hv, hMV⟩ := HP.out.row
  have c0 : W.cell? ⟨p, 0, none⟩ = some v := by
    unfold World.cell?
    rw [hv]
    rfl
  have fz := row_froz hv
  rcases hMV with ⟨rfl, hN⟩ | ⟨m, hcm, rfl, hM⟩
  · have HV : Hid _ := hv
    have HN : Hid _ := hN
    clear hv hN
    have mk := MK W
    have eq := eqN W
    clear MK
    have fza : ∀ o, (W.alloc (.map #[] 0)).frozen? ⟨p, o, none⟩ = false := fun o => row_froz ((Fr.refl no W).allocMap.heap HV.out (fun x => x)) o
    have ca : (W.alloc (.map #[] 0)).cell? ⟨p, 0, none⟩ = some (.map none) := (Fr.refl no W).allocMap.cell c0 (fun x => x)
    have hcm : c ≤ W.heap.size := by have := HP.out.low; have := HP.out.lt; omega
    have hF : ∀ m, m = W.heap.size → ∃ W2, (W.alloc (.map #[] 0)).setCell ⟨p, 0, none⟩ (.map (some m)) = W2 ∧ Fr (TW c W) W W2 ∧ W2.heap[p]? = some (.cells #[.map (some m), .int .i64 n] 58 (0, 0)) ∧ CM W2 m k F ∧ Fr (Bk p) W W2 := fun m hm => by
      subst hm
      have f1 := (Fr.refl no W).allocMap
      have f2 : Fr (Bk p) W _ := (f1.tob (p := p)).bk (fr_set (W.alloc (.map #[] 0)) p 0 (.map (some W.heap.size)))
      have hFe : F = fun _ => none := funext HN.out
      refine ⟨_, rfl, f2.mono fun i _ e => ?_, heap_set (f1.heap HV.out (fun x => x)), ?_, f2⟩
      · unfold Bk at e
        subst e
        exact ⟨HP.out.low, .inr ⟨_, HV.out⟩⟩
      · rw [hFe]
        refine ((CM.made W).mono (Nat.zero_le k)).kept (fr_set _ p 0 _) (fun e => ?_)
        unfold Bk at e
        have := HP.out.lt
        omega
    have HFF : Hid _ := hF
    clear hF HN HV
    generalize hm : W.heap.size = m at *
    go_upto_region 3 with fail
    obtain ⟨W2, e2, f2, h2, hM, fb⟩ := HFF.out m rfl
    rw [e2]
    obtain ⟨w', hup, hR, hFr⟩ := FIN.out W2 m f2 h2 hM hcm
    have h4 := fb.heap HH.out.1 (fun e => by unfold Bk at e; omega)
    have h5 := fb.heap HH.out.2.1 (fun e => by unfold Bk at e; omega)
    have c0 : W2.cell? ⟨p, 0, none⟩ = some (.map (some m)) := by
      unfold World.cell?
      rw [h2]
      rfl
    have HX : Hid (_ ∧ _ ∧ _) := ⟨hup, hR, hFr⟩
    clear hR hFr FIN HFF hup fb f2 h2 hM e2
    refine late_begin (S := fun w' => w' = W2.drew) (g := 6) (by kernel_rfl) ?_
    refine lateP 0 (.pointer (some ⟨p, 0, none⟩)) rfl (fun _ => ev_move 0 _ rfl (by kernel_rfl)) (fun _ => rfl) ?_
    refine lateP 1 (.pointer (some ⟨p, 0, none⟩)) rfl (fun _ => ev_nil 15 ⟨p, 0, none⟩ rfl (by kernel_rfl)) (fun _ => rfl) ?_
    refine lateP 2 (.pointer (some ⟨p, 0, none⟩)) rfl (fun _ => ev_field 58 16 0 (.pointer (some ⟨p, 0, none⟩)) _ rfl (by kernel_rfl) (by kernel_rfl)) (fun _ => rfl) ?_
    refine lateT 3 (.map (some m)) rfl (fun wz hz => ev_load 56 17 (.pointer (some ⟨p, 0, none⟩)) (.map (some m)) rfl (by kernel_rfl) (hz ▸ ld56 c0)) rfl ?_
    refine lateT 4 (pkV q) rfl (fun wz hz => ev_load 66 4 (.pointer (some ⟨b4, 0, none⟩)) (pkV q) rfl (by kernel_rfl) (hz ▸ ld66 h4)) rfl ?_
    refine lateT 5 (ckV c1) rfl (fun wz hz => ev_load 61 5 (.pointer (some ⟨b5, 0, none⟩)) (ckV c1) rfl (by kernel_rfl) (hz ▸ ld_nk (range_row h5))) rfl ?_
    refine lateN #[true, true, true, true, true, true, false] ⟨#[.pointer (some ⟨p, 0, none⟩), .agg #[.int .i64 q.k, .int .i64 q.t, .int .i64 q.a, .int .i64 q.i], .agg (ckL c1).toArray, undef, .pointer (some ⟨b4, 0, none⟩), .pointer (some ⟨b5, 0, none⟩), .pointer (some ⟨p, 0, none⟩), .pointer (some ⟨p, 0, none⟩), .pointer (some ⟨p, 0, none⟩), .map none, .bool true, .pointer (some ⟨p, 0, none⟩), .map (some m), .pointer (some ⟨p, 0, none⟩), .pointer (some ⟨p, 0, none⟩), .pointer (some ⟨p, 0, none⟩), .pointer (some ⟨p, 0, none⟩), .pointer (some ⟨p, 0, none⟩), .map (some m), pkV q, ckV c1], []⟩ ?_
    refine late_all [6] (by kernel_rfl) (by simp) (fun jj hjj => ?_)
    simp only [List.mem_singleton] at hjj
    subst hjj
    refine late_skip rfl (by kernel_rfl) (ev_update 56 18 19 20 (.map (some m)) (pkV q) (ckV c1) _ rfl (by kernel_rfl) (by kernel_rfl) (by kernel_rfl) HX.out.1) ?_
    refine ⟨fun h => by simp at h, ?_⟩
    refine lateN #[true, true, true, true, true, true, true] ⟨#[.pointer (some ⟨p, 0, none⟩), .agg #[.int .i64 q.k, .int .i64 q.t, .int .i64 q.a, .int .i64 q.i], .agg (ckL c1).toArray, undef, .pointer (some ⟨b4, 0, none⟩), .pointer (some ⟨b5, 0, none⟩), .pointer (some ⟨p, 0, none⟩), .pointer (some ⟨p, 0, none⟩), .pointer (some ⟨p, 0, none⟩), .map none, .bool true, .pointer (some ⟨p, 0, none⟩), .map (some m), .pointer (some ⟨p, 0, none⟩), .pointer (some ⟨p, 0, none⟩), .pointer (some ⟨p, 0, none⟩), .pointer (some ⟨p, 0, none⟩), .pointer (some ⟨p, 0, none⟩), .map (some m), pkV q, ckV c1], []⟩ ?_
    refine late_done (by kernel_rfl) ?_
    exact bodyPost_end (v := .tuple #[]) (by kernel_rfl) rfl ⟨rfl, HX.out.2.1, HX.out.2.2⟩
  · have HV : Hid _ := hv
    have HM : Hid (CM W m k F) := hM
    clear hv hM MK
    have eq := eqS m W
    go_upto_region 3 with fail
    obtain ⟨w', hup, hR, hF⟩ := FIN.out W m (Fr.refl _ _) HV.out HM.out hcm
    have h4 := HH.out.1
    have h5 := HH.out.2.1
    have HX : Hid (_ ∧ _ ∧ _) := ⟨hup, hR, hF⟩
    clear hR hF FIN HV HM hup
    refine late_begin (S := fun w' => w' = W.drew) (g := 6) (by kernel_rfl) ?_
    refine lateP 0 (.pointer (some ⟨p, 0, none⟩)) rfl (fun _ => ev_move 0 _ rfl (by kernel_rfl)) (fun _ => rfl) ?_
    refine lateP 1 (.pointer (some ⟨p, 0, none⟩)) rfl (fun _ => ev_nil 15 ⟨p, 0, none⟩ rfl (by kernel_rfl)) (fun _ => rfl) ?_
    refine lateP 2 (.pointer (some ⟨p, 0, none⟩)) rfl (fun _ => ev_field 58 16 0 (.pointer (some ⟨p, 0, none⟩)) _ rfl (by kernel_rfl) (by kernel_rfl)) (fun _ => rfl) ?_
    refine lateT 3 (.map (some m)) rfl (fun wz hz => ev_load 56 17 (.pointer (some ⟨p, 0, none⟩)) (.map (some m)) rfl (by kernel_rfl) (hz ▸ ld56 c0)) rfl ?_
    refine lateT 4 (pkV q) rfl (fun wz hz => ev_load 66 4 (.pointer (some ⟨b4, 0, none⟩)) (pkV q) rfl (by kernel_rfl) (hz ▸ ld66 h4)) rfl ?_
    refine lateT 5 (ckV c1) rfl (fun wz hz => ev_load 61 5 (.pointer (some ⟨b5, 0, none⟩)) (ckV c1) rfl (by kernel_rfl) (hz ▸ ld_nk (range_row h5))) rfl ?_
    refine lateN #[true, true, true, true, true, true, false] ⟨#[.pointer (some ⟨p, 0, none⟩), .agg #[.int .i64 q.k, .int .i64 q.t, .int .i64 q.a, .int .i64 q.i], .agg (ckL c1).toArray, undef, .pointer (some ⟨b4, 0, none⟩), .pointer (some ⟨b5, 0, none⟩), .pointer (some ⟨p, 0, none⟩), .pointer (some ⟨p, 0, none⟩), .pointer (some ⟨p, 0, none⟩), .map (some m), .bool false, undef, undef, undef, undef, .pointer (some ⟨p, 0, none⟩), .pointer (some ⟨p, 0, none⟩), .pointer (some ⟨p, 0, none⟩), .map (some m), pkV q, ckV c1], []⟩ ?_
    refine late_all [6] (by kernel_rfl) (by simp) (fun jj hjj => ?_)
    simp only [List.mem_singleton] at hjj
    subst hjj
    refine late_skip rfl (by kernel_rfl) (ev_update 56 18 19 20 (.map (some m)) (pkV q) (ckV c1) _ rfl (by kernel_rfl) (by kernel_rfl) (by kernel_rfl) HX.out.1) ?_
    refine ⟨fun h => by simp at h, ?_⟩
    refine lateN #[true, true, true, true, true, true, true] ⟨#[.pointer (some ⟨p, 0, none⟩), .agg #[.int .i64 q.k, .int .i64 q.t, .int .i64 q.a, .int .i64 q.i], .agg (ckL c1).toArray, undef, .pointer (some ⟨b4, 0, none⟩), .pointer (some ⟨b5, 0, none⟩), .pointer (some ⟨p, 0, none⟩), .pointer (some ⟨p, 0, none⟩), .pointer (some ⟨p, 0, none⟩), .map (some m), .bool false, undef, undef, undef, undef, .pointer (some ⟨p, 0, none⟩), .pointer (some ⟨p, 0, none⟩), .pointer (some ⟨p, 0, none⟩), .map (some m), pkV q, ckV c1], []⟩ ?_
    refine late_done (by kernel_rfl) ?_
    exact bodyPost_end (v := .tuple #[]) (by kernel_rfl) rfl ⟨rfl, HX.out.2.1, HX.out.2.2⟩
end Go.Proofs.Ytnineggppoipiaa
