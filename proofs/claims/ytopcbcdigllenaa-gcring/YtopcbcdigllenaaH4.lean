/- Objects in a ring. -/
import Derived.Test.YtopcbcdigllenaaH3
namespace Go.Proofs.Ytopcbcdigllenaa
open Go.ChangeShapes Go.WideShapes Go.ChangeAt Go.RowKit

def rgN (k i : Nat) : Nat := (i / 3 + 1) % k * 3 + 1

set_option maxRecDepth 100000 in
theorem ring_any (w : World) (i k : Nat) (hi : i ≤ 4000) (hk : 1 ≤ k) (hk2 : k ≤ 20) :
    Calls Try.prog 33 #[.int .i64 ((i : Int) + 1), .int .i64 (k : Int)] w fun e w' => e = .returned (.int .i64 ((rgN k i : Nat) : Int)) ∧ w' = w := by
  obtain ⟨a, ha⟩ : ∃ a : Nat, a = i / 3 := ⟨_, rfl⟩
  obtain ⟨c, hc⟩ : ∃ c : Nat, c = i / 3 + 1 := ⟨_, rfl⟩
  obtain ⟨b, hb⟩ : ∃ b : Nat, b = (i / 3 + 1) % k := ⟨_, rfl⟩
  have e1 : (i : Int).tdiv 3 = (a : Int) := by rw [ha]; rfl
  have e2 : (a : Int) + 1 = (c : Int) := by omega
  have e3 : (c : Int).tmod (k : Int) = (b : Int) := by rw [hc, hb]; rfl
  have hm : b < k := by rw [hb]; exact Nat.mod_lt _ (by omega)
  have HZ : Hid (((rgN k i : Nat) : Int) = (b : Int) * 3 + 1) := by rw [Hid]; unfold rgN; rw [← hb]; omega
  have hk0 : ¬ ((k : Int) = 0) := by omega
  have hq : a ≤ 4000 := by omega
  clear ha hc hb
  generalize rgN k i = r at *
  go_enter Try.func33, Try.ntmps33
  go_wp2_with fail
  go_ret
  exact ⟨by rw [HZ.out]; rfl, rfl⟩

def rE (k : Nat) (a : Int) : List Int := [((rgN k (a.toNat - 1) : Nat) : Int)]

/-- The function reads one cell of the caller's. -/
def Jr (k c : Nat) (_ : List Int) (B : Nat → Prop) (w : World) : Prop := (∀ x, B x ↔ x = c) ∧ w.heap[c]? = some (.cells #[.int .i64 (k : Int)] 3 (0, 0))

theorem rRefs (k c : Nat) (hk : 1 ≤ k) (hk2 : k ≤ 20) : Refs 32 #[.pointer (some ⟨c, 0, none⟩)] (rE k) (Jr k c) 1000000 where
  en := fun a w => rfl
  call := fun w js B a hj _ h1 h2 => by
    show Calls Try.prog 32 #[.int .i64 a, .pointer (some ⟨c, 0, none⟩)] w _
    obtain ⟨i, rfl⟩ : ∃ i : Nat, a = (i : Int) + 1 := ⟨a.toNat - 1, by omega⟩
    have RG := ring_any w i k (by omega) hk hk2
    have he : rE k ((i : Int) + 1) = [((rgN k i : Nat) : Int)] := by
      unfold rE
      rw [show ((i : Int) + 1).toNat - 1 = i by omega]
    rw [he]
    have hc : w.cell? ⟨c, 0, none⟩ = some (.int .i64 (k : Int)) := by simp [World.cell?, hj.2]
    generalize rgN k i = r at *
    have L := lit_own w [(r : Int)] #[.int .i64 (r : Int)] rfl 1 rfl (by simp)
    have HL : Hid _ := L
    have HJ : Hid (Jr k c js B w) := hj
    clear L hj he
    go_enter Try.func32, Try.ntmps32
    go_wp2_with fail
    refine RG.mono ?_
    rintro e w1 ⟨rfl, rfl⟩
    clear RG
    go_wp2_with fail
    go_ret
    exact ⟨_, B, rfl, HL.out.1, HL.out.2.1, ⟨HJ.out.1, HL.out.2.2.heap HJ.out.2 (fun f => f)⟩, HL.out.2.2.up, fun _ _ h => h⟩
  keep := fun w w' js B T h f hB => ⟨h.1, f.heap h.2 (hB c ((h.1 c).2 rfl))⟩
  lt := fun w js B h k hb => by
    rw [(h.1 k).1 hb]
    exact lt_of_heap h.2
  len := fun a => by simp [rE]

/-- So many objects of one word each in an arena of four hundred. -/
def rb : Nat → List Blk
  | 0 => newB 400
  | i + 1 => allocB 1 1 (rb i)

def rO (k : Nat) : List Int := (List.range k).map (fun j : Nat => 3 * (j : Int) + 1)

theorem rb_all : ∀ i : Fin 21, objsA 0 (rb i.val) = rO i.val ∧ tight false (rb i.val) = true ∧ siz (rb i.val) = 400 ∧ roomAt 1 (rb i.val) = some (3 * i.val) := by decide +kernel

theorem rO_mem (k : Nat) (a : Int) : a ∈ rO k ↔ ∃ j : Nat, j < k ∧ a = 3 * (j : Int) + 1 := by
  unfold rO
  rw [List.mem_map]
  constructor
  · rintro ⟨j, h1, h2⟩
    exact ⟨j, List.mem_range.1 h1, h2.symm⟩
  · rintro ⟨j, h1, h2⟩
    exact ⟨j, List.mem_range.2 h1, h2.symm⟩

theorem rReach (k r : Nat) (hk : 1 ≤ k) (hr : r < k) : ∀ a ∈ rO k, Reach (rE k) (rO k) [3 * (r : Int) + 1] a := by
  have st : ∀ j : Nat, Reach (rE k) (rO k) [3 * (r : Int) + 1] (3 * (((r + j) % k : Nat) : Int) + 1) := fun j => by
    induction j with
    | zero =>
      rw [Nat.add_zero, Nat.mod_eq_of_lt hr]
      exact .root (by simp) ((rO_mem k _).2 ⟨r, hr, rfl⟩)
    | succ j ih =>
      refine .step ih ?_ ((rO_mem k _).2 ⟨_, Nat.mod_lt _ (by omega), rfl⟩)
      unfold rE rgN
      have e1 : (3 * (((r + j) % k : Nat) : Int) + 1).toNat - 1 = 3 * ((r + j) % k) := by omega
      rw [e1, Nat.mul_div_cancel_left _ (by omega : 0 < 3)]
      simp only [List.mem_singleton]
      have e2 : ((r + j) % k + 1) % k = (r + (j + 1)) % k := by
        rw [← Nat.add_assoc, Nat.add_mod (r + j) 1, Nat.add_mod ((r + j) % k) 1, Nat.mod_mod]
      rw [e2]
      omega
  intro a ha
  obtain ⟨j, hj, rfl⟩ := (rO_mem k a).1 ha
  have := st (j + k - r)
  rw [show r + (j + k - r) = j + k by omega, Nat.add_mod_right, Nat.mod_eq_of_lt hj] at this
  exact this

theorem no_reach (E : Int → List Int) (O : List Int) (a : Int) : ¬ Reach E O [] a := fun h => by
  induction h with
  | root h _ => simp at h
  | step _ _ _ ih => exact ih

theorem seen_all (M : List Nat) (O : List Int) (h : ∀ a ∈ O, M[a.toNat]? = some 2) : seenL M O = O := by
  rw [seenL_eq]
  refine List.filter_eq_self.2 (fun a ha => ?_)
  unfold seenB
  rw [h a ha]
  rfl

theorem seen_none (M : List Nat) (O : List Int) (h : ∀ a ∈ O, M[a.toNat]? ≠ some 2) : seenL M O = [] := by
  rw [seenL_eq]
  refine List.filter_eq_nil_iff.2 (fun a ha => ?_)
  unfold seenB
  simpa using h a ha
end Go.Proofs.Ytopcbcdigllenaa
