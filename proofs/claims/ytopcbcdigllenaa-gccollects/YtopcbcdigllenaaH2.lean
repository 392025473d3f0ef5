/- Rows of numbers compared; the statement's own example. -/
import Derived.Test.YtopcbcdigllenaaH1
import Derived.Deep.QuietTactic
import Derived.BigQuiet
namespace Go.Proofs.Ytopcbcdigllenaa
open Go.ChangeShapes Go.WideShapes Go.ChangeAt Go.RowKit

def sameI (a b : List Int) : Bool := decide (a = b)

set_option maxRecDepth 100000 in
theorem ints_any (w : World) (v u : Value) (a b : List Int) (hv : RdG elI w v a) (hu : RdG elI w u b) :
    Calls Try.prog 25 #[v, u] w fun e w' => e = .returned (.bool (sameI a b)) ∧ ∃ m, w' = w.drewN m := by
  have HA : Hid (RdG elI w v a) := hv
  have HB : Hid (RdG elI w u b) := hu
  obtain ⟨ad, ac, rfl, al, am, -⟩ := hv
  obtain ⟨bd, bc, rfl, bl, bm, -⟩ := hu
  unfold maxLen at am bm
  by_cases hlen : a.length = b.length
  · have hne : ((a.length : Int) == (b.length : Int)) = true := by simp; omega
    have hne' : ((a.length : Int) != (b.length : Int)) = false := by simp; omega
    go_enter Try.func25, Try.ntmps25
    generalize hla : a.length = la at *
    generalize hlb : b.length = lb at *
    subst hlen
    go_wp2_with fail
    go_loopw [5] (fun i wr => ∃ (k m : Nat), i = .int .i64 (k : Int) ∧ k ≤ la ∧ a.take k = b.take k ∧ wr = w.drewN m) (fun i _ => la - (intOf i).toNat)
    case atStart => exact ⟨0, 0, rfl, Nat.zero_le _, rfl, rfl⟩
    case round =>
      obtain ⟨k, m, rfl, hk, hE, hwr⟩ := hrel
      have HE : Hid (a.take k = b.take k) := hE
      have HR : Hid (wr = w.drewN m) := hwr
      clear hE
      by_cases hlt : k < la
      · obtain ⟨x, hx⟩ : ∃ x, a[k]? = some x := ⟨_, List.getElem?_eq_getElem (by omega)⟩
        obtain ⟨y, hy⟩ : ∃ y, b[k]? = some y := ⟨_, List.getElem?_eq_getElem (by omega)⟩
        obtain ⟨p, o, hp, c1⟩ := HA.out.at1 (u := .int .i64 x) rfl rfl hx
        obtain ⟨p2, o2, hp2, d1⟩ := HB.out.at1 (u := .int .i64 y) rfl rfl hy
        subst hp hp2
        have c1' : wr.cell? ⟨p, o + k, none⟩ = some (.int .i64 x) := by rw [hwr]; exact c1
        have d1' : wr.cell? ⟨p2, o2 + k, none⟩ = some (.int .i64 y) := by rw [hwr]; exact d1
        have HX : Hid (a[k]? = some x ∧ b[k]? = some y) := ⟨hx, hy⟩
        have hki : (k : Int) < (la : Int) := by omega
        clear hwr c1 d1 hx hy
        by_cases hxy : x = y
        · have hbb : (x != y) = false := by simp [hxy]
          have HT : Hid (a.take (k + 1) = b.take (k + 1)) := by
            rw [Hid, take_next a k _ HX.out.1, take_next b k _ HX.out.2, HE.out, hxy]
          clear hxy
          go_wp2_with fail
          go_quiet (fail)
          generalize hwq : World.drewN wr nq = wq
          have HQ : Hid (wq = w.drewN (m + nq)) := by rw [Hid, ← hwq, HR.out]; simp
          clear hwq
          go_wp2_with fail
          go_roundw
          case rel => exact ⟨k + 1, m + nq, by go_num, by omega, HT.out, HQ.out⟩
          case measure => simp [intOf]; omega
        · have hbb : (x != y) = true := by simp [hxy]
          have HT : Hid (sameI a b = false) := by
            refine decide_eq_false fun e => ?_
            rw [e] at HX
            have := HX.out.1.symm.trans HX.out.2
            simp only [Option.some.injEq] at this
            exact hxy this
          clear hxy
          go_wp2_with fail
          go_quiet (fail)
          generalize hwq : World.drewN wr nq = wq
          have HQ : Hid (wq = w.drewN (m + nq)) := by rw [Hid, ← hwq, HR.out]; simp
          clear hwq
          go_wp2_with fail
          go_ret
          exact ⟨by rw [HT.out]; rfl, m + nq, HQ.out⟩
      · have hkl : k = la := by omega
        subst hkl
        have HT : Hid (sameI a b = true) := by
          refine decide_eq_true ?_
          have := HE.out
          rw [List.take_of_length_le (by omega), List.take_of_length_le (by omega)] at this
          exact this
        clear hwr
        go_wp2_with fail
        go_ret
        exact ⟨by rw [HT.out]; rfl, m, HR.out⟩
  · have hne : ((a.length : Int) == (b.length : Int)) = false := by simp; omega
    have hne' : ((a.length : Int) != (b.length : Int)) = true := by simp; omega
    have HT : Hid (sameI a b = false) := decide_eq_false fun e => hlen (by rw [e])
    go_enter Try.func25, Try.ntmps25
    go_wp2_with fail
    go_ret
    exact ⟨by rw [HT.out]; rfl, 0, rfl⟩

/-- A function that reads and writes nothing of the caller's. -/
def J0 (_ : List Int) (B : Nat → Prop) (_ : World) : Prop := ∀ k, ¬ B k

def kE (a : Int) : List Int := if a = 1 then [7, 99] else []

theorem lit_own (w : World) (l : List Int) (cs : Array Value) (hc : cs = (cg elI l).toArray) (n : Nat) (hn : n = l.length) (h : l.length ≤ 1000) : OwnG elI (w.alloc (.cells cs 3)) (.slice (some ⟨w.heap.size, 0, none⟩) n n) l ∧ NewV w (.slice (some ⟨w.heap.size, 0, none⟩) n n) ∧ Fr no w (w.alloc (.cells cs 3)) := by
  subst hn
  exact ⟨own_lit elI_ok w l cs hc (by unfold maxLen; omega), fun k hk => by simp [Value.ownBlock] at hk; omega, (Fr.refl no w).alloc _ _⟩

theorem kRefs : Refs 48 #[] kE J0 1000000 where
  en := fun a w => rfl
  call := fun w js B a hj _ _ _ => by
    show Calls Try.prog 48 #[.int .i64 a] w _
    by_cases h : a = 1
    · subst h
      have L := lit_own w [7, 99] #[.int .i64 7, .int .i64 99] rfl 2 rfl (by simp)
      have HL : Hid _ := L
      clear L
      go_enter Try.func48, Try.ntmps48
      go_wp2_with fail
      go_ret
      exact ⟨_, B, rfl, HL.out.1, HL.out.2.1, hj, HL.out.2.2.up, fun _ _ h => h⟩
    · have hd : (a == 1) = false := by simp [h]
      have e : kE a = [] := if_neg h
      go_enter Try.func48, Try.ntmps48
      go_wp2_with fail
      go_ret
      exact ⟨_, B, rfl, by rw [e]; exact OwnG.nil _ _, NewV.nil _, hj, Fr.refl _ _, fun _ _ h => h⟩
  keep := fun _ _ _ _ _ h _ _ => h
  lt := fun _ _ _ h k hb => absurd hb (h k)
  len := fun a => by unfold kE; split <;> simp
end Go.Proofs.Ytopcbcdigllenaa
