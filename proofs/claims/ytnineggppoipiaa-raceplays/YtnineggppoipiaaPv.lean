/- The program's watch: its calls. -/
import Derived.Test.YtnineggppoipiaaPu
namespace Go.Proofs.Ytnineggppoipiaa
open Go.ChangeShapes Go.WideShapes Go.ChangeAt Go.RowKit

/-! ### Bounds -/
def BP (F : Cm) (M : Int) : Prop := ∀ q c, F q = some c → ∀ j, 0 ≤ c j ∧ c j ≤ M
theorem BP.mono {F : Cm} {M M2 : Int} (h : BP F M) (hm : M ≤ M2) : BP F M2 := fun q c hc j => ⟨(h q c hc j).1, Int.le_trans (h q c hc j).2 hm⟩
theorem BP.get {F : Cm} {M : Int} (h : BP F M) (hM : 0 ≤ M) (q : Pk) (j : Nat) : 0 ≤ getP F q j ∧ getP F q j ≤ M := by
  unfold getP
  cases hq : F q with
  | none => exact ⟨Int.le_refl 0, hM⟩
  | some c => exact h q c hq j
theorem unit_le (t j : Nat) : 0 ≤ unitC t j ∧ unitC t j ≤ 1 := by
  unfold unitC setT zeroC
  split <;> omega
theorem BP.now {F : Cm} {M : Int} (h : BP F M) (hM : 1 ≤ M) (t j : Nat) : 0 ≤ nowP F t j ∧ nowP F t j ≤ M := by
  unfold nowP
  cases hq : F (th t) with
  | none => have := unit_le t j; exact ⟨this.1, Int.le_trans this.2 hM⟩
  | some c => exact h _ c hq j
theorem BP.put {F : Cm} {M : Int} (h : BP F M) (q : Pk) {c : Nat → Int} (hc : ∀ j, 0 ≤ c j ∧ c j ≤ M) : BP (putP F q c) M := fun p d hd j => by
  unfold putP at hd
  split at hd
  · cases hd
    exact hc j
  · exact h p d hd j
theorem join_le {M : Int} {a b : Nat → Int} (ha : ∀ j, 0 ≤ a j ∧ a j ≤ M) (hb : ∀ j, 0 ≤ b j ∧ b j ≤ M) (j : Nat) : 0 ≤ joinC a b j ∧ joinC a b j ≤ M := by
  have h1 := ha j
  have h2 := hb j
  unfold joinC
  omega
theorem tick_le {M : Int} {a : Nat → Int} (ha : ∀ j, 0 ≤ a j ∧ a j ≤ M) (t j : Nat) : 0 ≤ tickC a t j ∧ tickC a t j ≤ M + 1 := by
  have h1 := ha j
  have h2 := ha t
  unfold tickC setT
  split <;> omega
theorem bd_of {c : Nat → Int} {k : Nat} (hk : k ≤ 499) (h : ∀ j, 0 ≤ c j ∧ c j ≤ (k : Int)) : Bd c := fun j => by have := h j; omega

/-! ### What the calls do -/
def beginP (F : Cm) (t b : Int) : Cm :=
  if isB t && isB b then putP (putP F (th t) (joinC (nowP F t.toNat) (nowP F b.toNat))) (th b) (tickC (nowP (putP F (th t) (joinC (nowP F t.toNat) (nowP F b.toNat))) b.toNat) b.toNat) else F
def endP (F : Cm) (t : Int) : Cm := if isB t then putP F ⟨1, t, 0, 0⟩ (nowP F t.toNat) else F
def clockP (F : Cm) (t : Int) : Nat → Int := if isB t then nowP F t.toNat else zeroC
theorem BP.begin {F : Cm} {M : Int} (h : BP F M) (hM : 1 ≤ M) (t b : Int) : BP (beginP F t b) (M + 1) := by
  unfold beginP
  split
  · have h1 := h.put (th t) (join_le (h.now hM t.toNat) (h.now hM b.toNat))
    exact (h1.mono (by omega)).put _ (tick_le (h1.now hM b.toNat) b.toNat)
  · exact h.mono (by omega)
theorem BP.end_ {F : Cm} {M : Int} (h : BP F M) (hM : 1 ≤ M) (t : Int) : BP (endP F t) M := by
  unfold endP
  split
  · exact h.put _ (h.now hM t.toNat)
  · exact h
theorem BP.acq {F : Cm} {M : Int} (h : BP F M) (hM : 1 ≤ M) (t : Int) (q : Pk) : BP (acqP F t q) M := by
  unfold acqP
  split
  · exact h.put _ (join_le (h.now hM t.toNat) (h.get (by omega) q))
  · exact h
theorem BP.rel {F : Cm} {M : Int} (h : BP F M) (hM : 1 ≤ M) (t : Int) (q : Pk) : BP (relP F t q) (M + 1) := by
  unfold relP
  split
  · have h1 := h.put q (join_le (h.get (by omega) q) (h.now hM t.toNat))
    exact (h1.mono (by omega)).put _ (tick_le (h1.now hM t.toNat) t.toNat)
  · exact h.mono (by omega)
theorem BP.tou {F : Cm} {M : Int} (h : BP F M) (hM : 1 ≤ M) (q : Pk) : BP (touF F q) M := by
  unfold touF
  split
  · exact h.put _ (h.now hM q.t.toNat)
  · exact h
theorem bumpP_le {n : Int} {k : Nat} (h : 0 ≤ n ∧ n ≤ (k : Int)) (b : Bool) : 0 ≤ bumpR n b ∧ bumpR n b ≤ ((k + 1 : Nat) : Int) := by
  cases b
  · show 0 ≤ n ∧ n ≤ _
    omega
  · show 0 ≤ n + 1 ∧ n + 1 ≤ _
    omega

/-- The program's watch, by a count of calls. -/
structure PS (c : Nat) (w : World) (p : Nat) (F : Cm) (n : Int) (k : Nat) : Prop where
  pw : PW c w p F n (2 * k)
  b : BP F k
  k1 : 1 ≤ k
  n0 : 0 ≤ n ∧ n ≤ (k : Int)
section
variable {c : Nat} {w w' : World} {p : Nat} {F : Cm} {n : Int} {k : Nat}
theorem PS.keep (h : PS c w p F n k) (f : Fr no w w') : PS c w' p F n k := ⟨h.pw.keep f, h.b, h.k1, h.n0⟩
theorem PS.up {m : Nat} (h : PS c w p F n k) (hm : k ≤ m) : PS c w p F n m := ⟨h.pw.up (by omega), h.b.mono (by omega), by have := h.k1; omega, by have := h.n0; omega⟩
theorem PS.n1 (h : PS c w p F n k) : 0 ≤ n ∧ n ≤ ((k + 1 : Nat) : Int) := by have := h.n0; omega
theorem PS.m1 (h : PS c w p F n k) : (1 : Int) ≤ (k : Int) := by have := h.k1; omega
theorem ps_new (w : World) (c : Nat) (hc : c ≤ w.heap.size) : Calls Try.prog 10 #[] w fun e w' => e = .returned (.pointer (some ⟨w.heap.size, 0, none⟩)) ∧ PS c w' w.heap.size (fun _ => none) 0 1 ∧ Fr no w w' :=
  (pnew_any w c hc).mono fun e w' g => ⟨g.1, ⟨g.2.1.up (by omega), fun q c h => by simp at h, Nat.le_refl 1, by omega⟩, g.2.2⟩

set_option maxRecDepth 100000 in
theorem PS.begin (h : PS c w p F n k) (hk : k ≤ 400) (t b : Int) : Calls Try.prog 12 #[.pointer (some ⟨p, 0, none⟩), .int .i64 t, .int .i64 b] w fun e w' => e = .returned (.tuple #[]) ∧ PS c w' p (beginP F t b) n (k + 1) ∧ Fr (TW c w) w w' := by
  have IS1 := isT_any w t
  have IS2 := isT_any w b
  have HP : Hid (PS c w p F n k) := h
  cases h1 : isB t
  · have hF : beginP F t b = F := by unfold beginP; rw [h1]; rfl
    rw [hF]
    rw [h1] at IS1
    clear IS2 h hF
    go_enter Try.func12, Try.ntmps12
    go_wp2_with fail
    refine IS1.mono ?_
    rintro _ w1 ⟨rfl, hw1⟩
    subst hw1
    clear IS1
    go_wp2_with fail
    exact bodyPost_end (v := .tuple #[]) (by kernel_rfl) rfl ⟨rfl, HP.out.up (by omega), Fr.refl _ _⟩
  · cases h2 : isB b
    · have hF : beginP F t b = F := by unfold beginP; rw [h1, h2]; rfl
      rw [hF]
      rw [h1] at IS1
      rw [h2] at IS2
      clear h hF
      go_enter Try.func12, Try.ntmps12
      go_wp2_with fail
      refine IS1.mono ?_
      rintro _ w1 ⟨rfl, hw1⟩
      subst hw1
      clear IS1
      go_wp2_with fail
      refine IS2.mono ?_
      rintro _ w1 ⟨rfl, hw1⟩
      subst hw1
      clear IS2
      go_wp2_with fail
      exact bodyPost_end (v := .tuple #[]) (by kernel_rfl) rfl ⟨rfl, HP.out.up (by omega), Fr.refl _ _⟩
    · obtain ⟨tn, rfl, ht, ht0⟩ := isB_nat h1
      obtain ⟨bn, rfl, hb, hb0⟩ := isB_nat h2
      have hF : beginP F tn bn = putP (putP F (th tn) (joinC (nowP F tn) (nowP F bn))) (th bn) (tickC (nowP (putP F (th tn) (joinC (nowP F tn) (nowP F bn))) bn) bn) := by unfold beginP; rw [h1, h2]; rfl
      have HB : Hid (BP (beginP F tn bn) ((k : Int) + 1)) := h.b.begin h.m1 tn bn
      rw [hF] at HB ⊢
      rw [h1] at IS1
      rw [h2] at IS2
      have hBt := bd_of (by omega) (h.b.now h.m1 tn)
      have hBb := bd_of (by omega) (h.b.now h.m1 bn)
      have hB1 : Bd (nowP (putP F (th tn) (joinC (nowP F tn) (nowP F bn))) bn) := bd_of (k := k) (by omega) ((h.b.put (th tn) (join_le (h.b.now h.m1 tn) (h.b.now h.m1 bn))).now h.m1 bn)
      have N1 := now_any w p F n (2 * k) h.pw bn hb0 hb
      have L1 := fun w1 (f : Fr no w w1) => learn_any w1 p F n (2 * k) (h.pw.keep f) (by omega) tn ht0 ht (nowP F bn) hBb hBt
      have T1 := fun w2 (r : PW c w2 p (putP F (th tn) (joinC (nowP F tn) (nowP F bn))) n (2 * k + 1)) => tick_any w2 p _ n (2 * k + 1) r (by omega) bn hb0 hb hB1
      have HT1 : Hid _ := T1
      have HL1 : Hid _ := L1
      clear h hF hBt hBb hB1 L1 T1
      generalize tickC (nowP (putP F (th tn) (joinC (nowP F tn) (nowP F bn))) bn) bn = c9 at *
      generalize putP F (th tn) (joinC (nowP F tn) (nowP F bn)) = F9 at *
      generalize nowP F bn = c8 at *
      go_enter Try.func12, Try.ntmps12
      go_wp2_with fail
      refine IS1.mono ?_
      rintro _ w1 ⟨rfl, hw1⟩
      subst hw1
      clear IS1
      go_wp2_with fail
      refine IS2.mono ?_
      rintro _ w1 ⟨rfl, hw1⟩
      subst hw1
      clear IS2
      go_wp2_with fail
      refine N1.mono ?_
      rintro _ w2 ⟨rfl, f2⟩
      have LL := HL1.out w2 f2
      have HF2 : Hid _ := f2
      clear N1 f2
      go_wp2_with fail
      refine LL.mono ?_
      rintro _ w3 ⟨rfl, r3, f3⟩
      have TT := HT1.out w3 r3
      have HF3 : Hid _ := (HF2.out.up (S := TW c w1)).tw f3
      clear LL r3 f3
      go_wp2_with fail
      refine TT.mono ?_
      rintro _ w4 ⟨rfl, r4, f4⟩
      have HX : Hid (_ ∧ _) := ⟨r4, HF3.out.tw f4⟩
      clear TT r4 f4
      go_wp2_with fail
      exact bodyPost_end (v := .tuple #[]) (by kernel_rfl) rfl ⟨rfl, ⟨HX.out.1, by exact_mod_cast HB.out, by omega, HP.out.n1⟩, HX.out.2⟩

set_option maxRecDepth 100000 in
theorem PS.end_ (h : PS c w p F n k) (hk : k ≤ 400) (t : Int) : Calls Try.prog 14 #[.pointer (some ⟨p, 0, none⟩), .int .i64 t] w fun e w' => e = .returned (.tuple #[]) ∧ PS c w' p (endP F t) n (k + 1) ∧ Fr (TW c w) w w' := by
  have IS1 := isT_any w t
  have HP : Hid (PS c w p F n k) := h
  cases h1 : isB t
  · have hF : endP F t = F := by unfold endP; rw [h1]; rfl
    rw [hF]
    rw [h1] at IS1
    clear h hF
    go_enter Try.func14, Try.ntmps14
    go_wp2_with fail
    refine IS1.mono ?_
    rintro _ w1 ⟨rfl, hw1⟩
    subst hw1
    clear IS1
    go_wp2_with fail
    exact bodyPost_end (v := .tuple #[]) (by kernel_rfl) rfl ⟨rfl, HP.out.up (by omega), Fr.refl _ _⟩
  · obtain ⟨tn, rfl, ht, ht0⟩ := isB_nat h1
    have hF : endP F tn = putP F ⟨1, tn, 0, 0⟩ (nowP F tn) := by unfold endP; rw [h1]; rfl
    have HB : Hid (BP (endP F tn) k) := h.b.end_ h.m1 tn
    rw [hF] at HB ⊢
    rw [h1] at IS1
    have N1 := now_any w p F n (2 * k) h.pw tn ht0 ht
    have K1 := fun w1 (f : Fr no w w1) => keep_any w1 p F n (2 * k) (h.pw.keep f) (by omega) ⟨1, tn, 0, 0⟩ ⟨in_nat (t := 1) (by omega), in_nat ht, in_0, in_0⟩ (nowP F tn)
    have HK1 : Hid _ := K1
    clear h hF K1
    generalize nowP F tn = c8 at *
    go_enter Try.func14, Try.ntmps14
    go_wp2_with fail
    refine IS1.mono ?_
    rintro _ w1 ⟨rfl, hw1⟩
    subst hw1
    clear IS1
    go_wp2_with fail
    refine N1.mono ?_
    rintro _ w2 ⟨rfl, f2⟩
    have KK := HK1.out w2 f2
    have HF2 : Hid _ := f2
    unfold pkV at KK
    clear N1 f2
    go_wp2_with fail
    refine KK.mono ?_
    rintro _ w3 ⟨rfl, r3, f3⟩
    have HX : Hid (_ ∧ _) := ⟨r3, (HF2.out.up (S := TW c w1)).tw f3⟩
    clear KK r3 f3
    go_wp2_with fail
    exact bodyPost_end (v := .tuple #[]) (by kernel_rfl) rfl ⟨rfl, ⟨HX.out.1.up (by omega), HB.out.mono (by omega), by omega, HP.out.n1⟩, HX.out.2⟩

theorem PS.acqOf (h : PS c w p F n k) (hk : k ≤ 400) (t : Int) (q : Pk) (hq : q.Ok) : Calls Try.prog 39 #[.pointer (some ⟨p, 0, none⟩), .int .i64 t, pkV q] w fun e w' => e = .returned (.tuple #[]) ∧ PS c w' p (acqP F t q) n (k + 1) ∧ Fr (TW c w) w w' :=
  (pacq_any w p F n (2 * k) h.pw (by omega) t q hq (bd_of (by omega) (h.b.get (by have := h.m1; omega) q)) (fun t => bd_of (by omega) (h.b.now h.m1 t))).mono fun e w' g =>
    ⟨g.1, ⟨g.2.1.up (by omega), (h.b.acq h.m1 t q).mono (by omega), by omega, h.n1⟩, g.2.2⟩
theorem PS.relOf (h : PS c w p F n k) (hk : k ≤ 400) (t : Int) (q : Pk) (hq : q.Ok) : Calls Try.prog 41 #[.pointer (some ⟨p, 0, none⟩), .int .i64 t, pkV q] w fun e w' => e = .returned (.tuple #[]) ∧ PS c w' p (relP F t q) n (k + 1) ∧ Fr (TW c w) w w' :=
  (prel_any w p F n (2 * k) h.pw (by omega) t q hq (bd_of (by omega) (h.b.get (by have := h.m1; omega) q)) (fun t => bd_of (by omega) (h.b.now h.m1 t)) (fun t => bd_of (k := k) (by omega) ((h.b.put q (join_le (h.b.get (by have := h.m1; omega) q) (h.b.now h.m1 t))).now h.m1 t))).mono fun e w' g =>
    ⟨g.1, ⟨g.2.1.up (by omega), by have := h.b.rel h.m1 t q; exact_mod_cast this, by omega, h.n1⟩, g.2.2⟩
theorem PS.touOf (h : PS c w p F n k) (hk : k ≤ 400) (q : Pk) (hq : q.Ok) : Calls Try.prog 42 #[.pointer (some ⟨p, 0, none⟩), pkV q] w fun e w' => e = .returned (.bool (touB F q)) ∧ PS c w' p (touF F q) (bumpR n (touB F q)) (k + 1) ∧ Fr (TW c w) w w' :=
  (touch_any w p F n (by have := h.n0; omega) (2 * k) h.pw (by omega) q hq).mono fun e w' g =>
    ⟨g.1, ⟨g.2.1.up (by omega), (h.b.tou h.m1 q).mono (by omega), by omega, bumpP_le h.n0 _⟩, g.2.2⟩

set_option maxRecDepth 100000 in
theorem PS.joined (h : PS c w p F n k) (hk : k ≤ 400) (t o : Int) (ho : In o) : Calls Try.prog 16 #[.pointer (some ⟨p, 0, none⟩), .int .i64 t, .int .i64 o] w fun e w' => e = .returned (.tuple #[]) ∧ PS c w' p (acqP F t ⟨1, o, 0, 0⟩) n (k + 1) ∧ Fr (TW c w) w w' := by
  have C1 := h.acqOf hk t ⟨1, o, 0, 0⟩ ⟨(in_nat (t := 1) (by omega)), ho, in_0, in_0⟩
  unfold pkV at C1
  clear h
  generalize acqP F t ⟨1, o, 0, 0⟩ = F9 at *
  go_enter Try.func16, Try.ntmps16
  go_wp2_with fail
  refine C1.mono ?_
  rintro _ w1 ⟨rfl, r1, f1⟩
  have HX : Hid (_ ∧ _) := ⟨r1, f1⟩
  clear C1 r1 f1
  go_wp2_with fail
  exact bodyPost_end (v := .tuple #[]) (by kernel_rfl) rfl ⟨rfl, HX.out.1, HX.out.2⟩

set_option maxRecDepth 100000 in
theorem PS.acquire (h : PS c w p F n k) (hk : k ≤ 400) (t a : Int) (ha : In a) : Calls Try.prog 18 #[.pointer (some ⟨p, 0, none⟩), .int .i64 t, .int .i64 a] w fun e w' => e = .returned (.tuple #[]) ∧ PS c w' p (acqP F t ⟨2, 0, a, 0⟩) n (k + 1) ∧ Fr (TW c w) w w' := by
  have C1 := h.acqOf hk t ⟨2, 0, a, 0⟩ ⟨(in_nat (t := 2) (by omega)), in_0, ha, in_0⟩
  unfold pkV at C1
  clear h
  generalize acqP F t ⟨2, 0, a, 0⟩ = F9 at *
  go_enter Try.func18, Try.ntmps18
  go_wp2_with fail
  refine C1.mono ?_
  rintro _ w1 ⟨rfl, r1, f1⟩
  have HX : Hid (_ ∧ _) := ⟨r1, f1⟩
  clear C1 r1 f1
  go_wp2_with fail
  exact bodyPost_end (v := .tuple #[]) (by kernel_rfl) rfl ⟨rfl, HX.out.1, HX.out.2⟩

set_option maxRecDepth 100000 in
theorem PS.release (h : PS c w p F n k) (hk : k ≤ 400) (t a : Int) (ha : In a) : Calls Try.prog 20 #[.pointer (some ⟨p, 0, none⟩), .int .i64 t, .int .i64 a] w fun e w' => e = .returned (.tuple #[]) ∧ PS c w' p (relP F t ⟨2, 0, a, 0⟩) n (k + 1) ∧ Fr (TW c w) w w' := by
  have C1 := h.relOf hk t ⟨2, 0, a, 0⟩ ⟨(in_nat (t := 2) (by omega)), in_0, ha, in_0⟩
  unfold pkV at C1
  clear h
  generalize relP F t ⟨2, 0, a, 0⟩ = F9 at *
  go_enter Try.func20, Try.ntmps20
  go_wp2_with fail
  refine C1.mono ?_
  rintro _ w1 ⟨rfl, r1, f1⟩
  have HX : Hid (_ ∧ _) := ⟨r1, f1⟩
  clear C1 r1 f1
  go_wp2_with fail
  exact bodyPost_end (v := .tuple #[]) (by kernel_rfl) rfl ⟨rfl, HX.out.1, HX.out.2⟩

set_option maxRecDepth 100000 in
theorem PS.vread (h : PS c w p F n k) (hk : k ≤ 400) (t a i : Int) (ha : In a) (hi : In i) : Calls Try.prog 22 #[.pointer (some ⟨p, 0, none⟩), .int .i64 t, .int .i64 a, .int .i64 i, .bool true] w fun e w' => e = .returned (.bool false) ∧ PS c w' p (acqP F t ⟨3, 0, a, i⟩) n (k + 1) ∧ Fr (TW c w) w w' := by
  have C1 := h.acqOf hk t ⟨3, 0, a, i⟩ ⟨in_nat (t := 3) (by omega), in_0, ha, hi⟩
  unfold pkV at C1
  clear h
  generalize acqP F t ⟨3, 0, a, i⟩ = F9 at *
  go_enter Try.func22, Try.ntmps22
  go_wp2_with fail
  refine C1.mono ?_
  rintro _ w1 ⟨rfl, r1, f1⟩
  have HX : Hid (_ ∧ _) := ⟨r1, f1⟩
  clear C1 r1 f1
  go_wp2_with fail
  go_ret
  exact ⟨rfl, HX.out.1, HX.out.2⟩
set_option maxRecDepth 100000 in
theorem PS.read (h : PS c w p F n k) (hk : k ≤ 400) (t a i : Int) (ht : In t) (ha : In a) (hi : In i) : Calls Try.prog 22 #[.pointer (some ⟨p, 0, none⟩), .int .i64 t, .int .i64 a, .int .i64 i, .bool false] w fun e w' => e = .returned (.bool (touB F ⟨4, t, a, i⟩)) ∧ PS c w' p (touF F ⟨4, t, a, i⟩) (bumpR n (touB F ⟨4, t, a, i⟩)) (k + 1) ∧ Fr (TW c w) w w' := by
  have C1 := h.touOf hk ⟨4, t, a, i⟩ ⟨in_nat (t := 4) (by omega), ht, ha, hi⟩
  unfold pkV at C1
  clear h
  generalize touF F ⟨4, t, a, i⟩ = F9 at *
  generalize touB F ⟨4, t, a, i⟩ = b9 at *
  go_enter Try.func22, Try.ntmps22
  go_wp2_with fail
  refine C1.mono ?_
  rintro _ w1 ⟨rfl, r1, f1⟩
  have HX : Hid (_ ∧ _) := ⟨r1, f1⟩
  clear C1 r1 f1
  go_wp2_with fail
  go_ret
  exact ⟨rfl, HX.out.1, HX.out.2⟩

set_option maxRecDepth 100000 in
theorem PS.vwrite (h : PS c w p F n k) (hk : k ≤ 400) (t a i : Int) (ha : In a) (hi : In i) : Calls Try.prog 24 #[.pointer (some ⟨p, 0, none⟩), .int .i64 t, .int .i64 a, .int .i64 i, .bool true] w fun e w' => e = .returned (.bool false) ∧ PS c w' p (relP F t ⟨3, 0, a, i⟩) n (k + 1) ∧ Fr (TW c w) w w' := by
  have C1 := h.relOf hk t ⟨3, 0, a, i⟩ ⟨in_nat (t := 3) (by omega), in_0, ha, hi⟩
  unfold pkV at C1
  clear h
  generalize relP F t ⟨3, 0, a, i⟩ = F9 at *
  go_enter Try.func24, Try.ntmps24
  go_wp2_with fail
  refine C1.mono ?_
  rintro _ w1 ⟨rfl, r1, f1⟩
  have HX : Hid (_ ∧ _) := ⟨r1, f1⟩
  clear C1 r1 f1
  go_wp2_with fail
  go_ret
  exact ⟨rfl, HX.out.1, HX.out.2⟩
set_option maxRecDepth 100000 in
theorem PS.write (h : PS c w p F n k) (hk : k ≤ 400) (t a i : Int) (ht : In t) (ha : In a) (hi : In i) : Calls Try.prog 24 #[.pointer (some ⟨p, 0, none⟩), .int .i64 t, .int .i64 a, .int .i64 i, .bool false] w fun e w' => e = .returned (.bool (touB F ⟨5, t, a, i⟩)) ∧ PS c w' p (touF F ⟨5, t, a, i⟩) (bumpR n (touB F ⟨5, t, a, i⟩)) (k + 1) ∧ Fr (TW c w) w w' := by
  have C1 := h.touOf hk ⟨5, t, a, i⟩ ⟨in_nat (t := 5) (by omega), ht, ha, hi⟩
  unfold pkV at C1
  clear h
  generalize touF F ⟨5, t, a, i⟩ = F9 at *
  generalize touB F ⟨5, t, a, i⟩ = b9 at *
  go_enter Try.func24, Try.ntmps24
  go_wp2_with fail
  refine C1.mono ?_
  rintro _ w1 ⟨rfl, r1, f1⟩
  have HX : Hid (_ ∧ _) := ⟨r1, f1⟩
  clear C1 r1 f1
  go_wp2_with fail
  go_ret
  exact ⟨rfl, HX.out.1, HX.out.2⟩

set_option maxRecDepth 100000 in
theorem PS.races (h : PS c w p F n k) : Calls Try.prog 25 #[.pointer (some ⟨p, 0, none⟩)] w fun e w' => e = .returned (.int .i64 n) ∧ w' = w := by
  obtain ⟨v, -, c1, -, fz⟩ := h.pw.cells
  clear h fz
  go_enter Try.func25, Try.ntmps25
  go_wp2_with fail
  go_ret
  exact ⟨rfl, rfl⟩

set_option maxRecDepth 100000 in
theorem PS.clock (h : PS c w p F n k) (t : Int) : Calls Try.prog 27 #[.pointer (some ⟨p, 0, none⟩), .int .i64 t] w fun e w' => ∃ v, e = .returned v ∧ LsC w' v (clockP F t) ∧ Fr no w w' := by
  have IS1 := isT_any w t
  cases h1 : isB t
  · have hF : clockP F t = zeroC := by unfold clockP; rw [h1]; rfl
    rw [hF]
    rw [h1] at IS1
    have L1 := list_any w zeroC
    rw [show ckV zeroC = .agg #[.int .i64 0, .int .i64 0, .int .i64 0, .int .i64 0, .int .i64 0, .int .i64 0, .int .i64 0, .int .i64 0, .int .i64 0, .int .i64 0, .int .i64 0, .int .i64 0, .int .i64 0] from rfl] at L1
    clear h hF
    go_enter Try.func27, Try.ntmps27
    go_wp2_with fail
    refine IS1.mono ?_
    rintro _ w1 ⟨rfl, hw1⟩
    subst hw1
    clear IS1
    go_wp2_with fail
    refine L1.mono ?_
    rintro _ w2 ⟨v, rfl, hv, f2⟩
    have HX : Hid (_ ∧ _) := ⟨hv, f2⟩
    clear L1 hv f2
    go_wp2_with fail
    go_ret
    exact ⟨_, rfl, HX.out⟩
  · obtain ⟨tn, rfl, ht, ht0⟩ := isB_nat h1
    have hF : clockP F tn = nowP F tn := by unfold clockP; rw [h1]; rfl
    rw [hF]
    rw [h1] at IS1
    have N1 := now_any w p F n (2 * k) h.pw tn ht0 ht
    have L1 := fun w1 => list_any w1 (nowP F tn)
    clear h hF
    generalize nowP F tn = c8 at *
    go_enter Try.func27, Try.ntmps27
    go_wp2_with fail
    refine IS1.mono ?_
    rintro _ w1 ⟨rfl, hw1⟩
    subst hw1
    clear IS1
    go_wp2_with fail
    refine N1.mono ?_
    rintro _ w2 ⟨rfl, f2⟩
    have LL := L1 w2
    have HF2 : Hid _ := f2
    clear N1 f2 L1
    go_wp2_with fail
    refine LL.mono ?_
    rintro _ w3 ⟨v, rfl, hv, f3⟩
    have HX : Hid (_ ∧ _) := ⟨hv, HF2.out.and f3⟩
    clear LL hv f3
    go_wp2_with fail
    go_ret
    exact ⟨_, rfl, HX.out⟩
end
end Go.Proofs.Ytnineggppoipiaa
