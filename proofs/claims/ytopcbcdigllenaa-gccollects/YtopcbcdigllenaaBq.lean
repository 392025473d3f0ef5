/- Two rows of blocks are held against one another. -/
import Derived.Test.YtopcbcdigllenaaMem
namespace Go.Proofs.Ytopcbcdigllenaa
open Go.ChangeShapes Go.WideShapes Go.ChangeAt Go.RowKit

theorem SlG.two {w : World} {v : Value} {l : List (Int × Int)} (h : SlG elB w v l) : ∃ ad cap, v = .slice ad l.length cap ∧ cap ≤ maxLen ∧ l.length ≤ cap ∧ ∀ (i : Nat) (x : Int × Int), l[i]? = some x → ∃ b off, ad = some ⟨b, off, none⟩ ∧ w.cell? ⟨b, off + i * 2, none⟩ = some (.int .i64 x.1) ∧ w.cell? ⟨b, off + i * 2 + 1, none⟩ = some (.int .i64 x.2) := by
  obtain ⟨ad, cap, rfl, h1, h2, h0, h3⟩ := h
  refine ⟨ad, cap, rfl, h2, h1, fun i x hx => ?_⟩
  cases ad with
  | none =>
    have := (h0 rfl).1
    rw [this] at hx
    simp at hx
  | some a =>
    obtain ⟨b, off, sp⟩ := a
    obtain ⟨h4, h5⟩ := h3 _ rfl
    simp only [] at h4
    subst h4
    refine ⟨b, off, rfl, ?_, ?_⟩
    · exact h5 _ _ (cg_get elB_ok l i x hx 0 _ rfl)
    · have := h5 _ _ (cg_get elB_ok l i x hx 1 (.int .i64 x.2) rfl)
      rw [← Nat.add_assoc] at this
      exact this

theorem neq_blk (w : World) (a b c d : Int) : (binOp .neq 85 (.agg #[.int .i64 a, .int .i64 b]) (.agg #[.int .i64 c, .int .i64 d])).run Try.prog w = .ok (.bool (!(a == c && b == d))) w := by
  by_cases h1 : a = c <;> by_cases h2 : b = d <;> simp [h1, h2]
  all_goals go_simp

def sameB (a b : List (Int × Int)) : Bool := decide (a = b)

set_option maxRecDepth 100000 in
set_option maxHeartbeats 1000000 in
theorem blocks_any (w : World) (v u : Value) (a b : List (Int × Int)) (hv : SlG elB w v a) (hu : SlG elB w u b) :
    Calls Try.prog 31 #[v, u] w fun e w' => e = .returned (.bool (sameB a b)) ∧ ∃ m, w' = w.drewN m := by
  obtain ⟨ad, ac, rfl, am, al, ha⟩ := hv.two
  obtain ⟨bd, bc, rfl, bm, bl, hb⟩ := hu.two
  have HA : Hid (∀ (i : Nat) (x : Int × Int), a[i]? = some x → ∃ b off, ad = some ⟨b, off, none⟩ ∧ w.cell? ⟨b, off + i * 2, none⟩ = some (.int .i64 x.1) ∧ w.cell? ⟨b, off + i * 2 + 1, none⟩ = some (.int .i64 x.2)) := ha
  have HB : Hid (∀ (i : Nat) (x : Int × Int), b[i]? = some x → ∃ b off, bd = some ⟨b, off, none⟩ ∧ w.cell? ⟨b, off + i * 2, none⟩ = some (.int .i64 x.1) ∧ w.cell? ⟨b, off + i * 2 + 1, none⟩ = some (.int .i64 x.2)) := hb
  clear ha hb hv hu
  unfold maxLen at am bm
  by_cases hlen : a.length = b.length
  · have hne : ((a.length : Int) == (b.length : Int)) = true := by simp; omega
    go_enter Try.func31, Try.ntmps31
    generalize hla : a.length = la at *
    generalize hlb : b.length = lb at *
    subst hlen
    go_wp2_with fail
    go_loopw [5] (fun i wr => ∃ (k m : Nat), i = .int .i64 (k : Int) ∧ k ≤ la ∧ a.take k = b.take k ∧ wr = w.drewN m) (fun i _ => la - (intOf i).toNat)
    case atStart => exact ⟨0, 0, rfl, Nat.zero_le _, rfl, rfl⟩
    case round =>
      obtain ⟨k, m, rfl, hk, hE, hwr⟩ := hrel
      have HE : Hid (a.take k = b.take k) := hE
      have HR : Hid (wr = w.drewN m) := hwr
      clear hE
      by_cases hlt : k < la
      · obtain ⟨x, hx⟩ : ∃ x, a[k]? = some x := ⟨_, List.getElem?_eq_getElem (by omega)⟩
        obtain ⟨y, hy⟩ : ∃ y, b[k]? = some y := ⟨_, List.getElem?_eq_getElem (by omega)⟩
        obtain ⟨p, o, rfl, c1, c2⟩ := HA.out k x hx
        obtain ⟨p2, o2, rfl, d1, d2⟩ := HB.out k y hy
        have c1' : wr.cell? ⟨p, o + k * 2, none⟩ = some (.int .i64 x.1) := by rw [hwr]; exact c1
        have c2' : wr.cell? ⟨p, o + k * 2 + 1, none⟩ = some (.int .i64 x.2) := by rw [hwr]; exact c2
        have d1' : wr.cell? ⟨p2, o2 + k * 2, none⟩ = some (.int .i64 y.1) := by rw [hwr]; exact d1
        have d2' : wr.cell? ⟨p2, o2 + k * 2 + 1, none⟩ = some (.int .i64 y.2) := by rw [hwr]; exact d2
        have HX : Hid (a[k]? = some x ∧ b[k]? = some y) := ⟨hx, hy⟩
        have hki : (k : Int) < (la : Int) := by omega
        clear hwr c1 c2 d1 d2 hx hy
        obtain ⟨x1, x2⟩ := x
        obtain ⟨y1, y2⟩ := y
        have NQ := fun w' => neq_blk w' x1 x2 y1 y2
        by_cases hxy : x1 = y1 ∧ x2 = y2
        · have hbb : (!(x1 == y1 && x2 == y2)) = false := by simp [hxy.1, hxy.2]
          rw [hbb] at NQ
          have HT : Hid (a.take (k + 1) = b.take (k + 1)) := by
            rw [Hid, take_next a k _ HX.out.1, take_next b k _ HX.out.2, HE.out, hxy.1, hxy.2]
          clear hxy hbb
          go_wp2_with fail
          go_quiet (fail)
          generalize hwq : World.drewN wr nq = wq
          have HQ : Hid (wq = w.drewN (m + nq)) := by rw [Hid, ← hwq, HR.out]; simp
          clear hwq
          go_wp2_with fail
          go_roundw
          case rel => exact ⟨k + 1, m + nq, by go_num, by omega, HT.out, HQ.out⟩
          case measure => simp [intOf]; omega
        · have hbb : (!(x1 == y1 && x2 == y2)) = true := by simp; omega
          rw [hbb] at NQ
          have HT : Hid (sameB a b = false) := by
            refine decide_eq_false fun e => ?_
            rw [e] at HX
            have := HX.out.1.symm.trans HX.out.2
            simp only [Option.some.injEq, Prod.mk.injEq] at this
            exact hxy this
          clear hxy hbb
          go_wp2_with fail
          go_quiet (fail)
          generalize hwq : World.drewN wr nq = wq
          have HQ : Hid (wq = w.drewN (m + nq)) := by rw [Hid, ← hwq, HR.out]; simp
          clear hwq
          go_wp2_with fail
          go_ret
          exact ⟨by rw [HT.out]; rfl, m + nq, HQ.out⟩
      · have hkl : k = la := by omega
        subst hkl
        have HT : Hid (sameB a b = true) := by
          refine decide_eq_true ?_
          have := HE.out
          rw [List.take_of_length_le (by omega), List.take_of_length_le (by omega)] at this
          exact this
        clear hwr
        go_wp2_with fail
        go_ret
        exact ⟨by rw [HT.out]; rfl, m, HR.out⟩
  · have hne : ((a.length : Int) == (b.length : Int)) = false := by simp; omega
    have HT : Hid (sameB a b = false) := decide_eq_false fun e => hlen (by rw [e])
    go_enter Try.func31, Try.ntmps31
    go_wp2_with fail
    go_ret
    exact ⟨by rw [HT.out]; rfl, 0, rfl⟩
end Go.Proofs.Ytopcbcdigllenaa
