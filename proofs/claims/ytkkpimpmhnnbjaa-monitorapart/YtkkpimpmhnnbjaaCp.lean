/- MonitorCounts, MonitorApart, without memory. -/
import Derived.Test.YtkkpimpmhnnbjaaHe
import Derived.Test.YtkkpimpmhnnbjaaOl
namespace Go.Proofs.Ytkkpimpmhnnbjaa

/-- The lock a is b's, c times (nobody's: 0), and there is no other one. -/
structure CI (s : St) (a b c : Int) (f : Bool) : Prop where
  lk : s.lk a = ⟨if c = 0 then 0 else b, c, f, [], []⟩
  oth : ∀ k, k ≠ a → s.S k = none
  num : ∀ t, s.N t = 0

theorem ci0 (a b : Int) : CI st0 a b 0 false := ⟨rfl, fun _ _ => rfl, fun _ => rfl⟩

section
variable {s : St} {a b c : Int} {f : Bool}

theorem CI.enter (h : CI s a b c f) (ha : 1 ≤ a) (hb : 1 ≤ b) (hc : 0 ≤ c) : enR a b s = true ∧ enE a b s = 0 ∧ CI (enS a b s) a b (c + 1) (f || decide (3 < c + 1)) := by
  have hf : ¬ (a < 1 ∨ b < 1 ∨ 0 < s.N b) := by rw [h.num]; omega
  have hl : (s.S a).getD lk0 = ⟨if c = 0 then 0 else b, c, f, [], []⟩ := h.lk
  have hoth : ∀ x, ∀ k, k ≠ a → upd s.S a x k = none := fun x k hk => by rw [upd_other _ _ hk]; exact h.oth k hk
  unfold enR enE enS enterP
  rw [if_neg hf, hl]
  by_cases hc0 : c = 0
  · subst hc0
    simp only [if_true]
    rw [if_neg (by omega)]
    refine ⟨rfl, rfl, ⟨?_, hoth _, h.num⟩⟩
    rw [lk_upd]
    rfl
  · simp only [if_neg hc0]
    rw [if_pos trivial]
    refine ⟨rfl, rfl, ⟨?_, hoth _, h.num⟩⟩
    rw [lk_upd, if_neg (by omega)]
    rfl

theorem CI.exit (h : CI s a b c f) (hb : 1 ≤ b) (hc : 1 ≤ c) : exR a b s = 0 ∧ exE a b s = 0 ∧ CI (exS a b s) a b (c - 1) f := by
  have hl := h.lk
  rw [if_neg (by omega)] at hl
  have hoth : ∀ x, ∀ k, k ≠ a → upd s.S a x k = none := fun x k hk => by rw [upd_other _ _ hk]; exact h.oth k hk
  unfold exR exE exS exitP
  rw [own_at (t := b) (by rw [hl]) (by omega), hl]
  simp only []
  by_cases hc1 : 1 < c
  · rw [if_pos hc1]
    refine ⟨rfl, rfl, ⟨?_, hoth _, h.num⟩⟩
    rw [lk_upd, if_neg (by omega)]
  · rw [if_neg hc1]
    obtain rfl : c = 1 := by omega
    refine ⟨rfl, rfl, ⟨?_, ?_, h.num⟩⟩
    · rw [handS_nil rfl]
      unfold St.lk
      simp only [upd_same]
      cases f <;> rfl
    · intro k hk
      show handS s.S a ⟨b, 1, f, [], []⟩ k = none
      rw [handS_nil rfl]
      exact hoth _ k hk

theorem CI.held (h : CI s a b c f) (hb : 1 ≤ b) (hc : 1 ≤ c) : HeldL s.S b [a] := by
  have hl := h.lk
  rw [if_neg (by omega)] at hl
  refine ⟨by simp, fun k => ?_⟩
  by_cases e : k = a
  · subst e
    rw [own_at (t := b) (by rw [hl]) (by omega)]
    simp
  · unfold ownP
    rw [h.oth k e]
    simp [e]

theorem CI.nobody (h : CI s a b 0 f) : HeldL s.S b [] ∧ exE a b s = 130 ∧ exS a b s = s ∨ b = 0 := by
  by_cases hb : b = 0
  · exact .inr hb
  · left
    have hl := h.lk
    rw [if_pos rfl] at hl
    have hn : ownP s.S a b = none := own_not (by rw [hl]; simp only []; omega)
    refine ⟨⟨by simp, fun k => ?_⟩, ?_, ?_⟩
    · by_cases e : k = a
      · subst e; rw [hn]; simp
      · unfold ownP; rw [h.oth k e]; simp
    · unfold exE exitP; rw [hn]
    · unfold exS exitP; rw [hn]

theorem CI.forget (h : CI s a b 0 f) : foE a s = 0 ∧ ((foS a s).lk a).fat = false := by
  unfold foE foS forgetP
  cases hx : s.S a with
  | none => exact ⟨rfl, by unfold St.lk; simp only [hx]; rfl⟩
  | some x =>
    have hl := h.lk
    unfold St.lk at hl
    rw [hx] at hl
    simp only [Option.getD_some, if_true] at hl
    subst hl
    simp only []
    rw [if_pos ⟨trivial, trivial⟩]
    refine ⟨rfl, ?_⟩
    unfold St.lk
    simp only [upd_same]
    rfl
end
end Go.Proofs.Ytkkpimpmhnnbjaa
