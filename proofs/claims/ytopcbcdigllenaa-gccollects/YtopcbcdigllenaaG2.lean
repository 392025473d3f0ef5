/- The marks' stack: whether it is empty; what lies on top is taken off. -/
import Derived.Test.YtopcbcdigllenaaG1
namespace Go.Proofs.Ytopcbcdigllenaa
open Go.ChangeShapes Go.WideShapes Go.ChangeAt Go.RowKit

theorem done_any (w : World) (m : Nat) (vO vM vS : Value) (O : List Int) (M : List Nat) (S : List Int) (h : Mk w m vO vM vS O M S) :
    Calls Try.prog 51 #[.pointer (some ⟨m, 0, none⟩)] w fun e w' => e = .returned (.bool S.isEmpty) ∧ w' = w := by
  obtain ⟨c0, c1, c2⟩ := h.cells
  obtain ⟨o, c, hv⟩ := h.s.form
  subst hv
  have HE : Hid (S.isEmpty = decide (S.length = 0)) := by rw [Hid]; cases S <;> simp
  clear h
  cases hl : S.length with
  | zero =>
    rw [hl] at c2 HE
    go_enter Try.func51, Try.ntmps51
    go_wp2_with fail
    go_ret
    exact ⟨by rw [HE.out]; rfl, rfl⟩
  | succ n =>
    rw [hl] at c2 HE
    have hd : (((n + 1 : Nat) : Int) == 0) = false := by simp; omega
    go_enter Try.func51, Try.ntmps51
    go_wp2_with fail
    go_ret
    refine ⟨?_, rfl⟩
    rw [HE.out]
    simp
    try omega

theorem pop_any (w : World) (m : Nat) (vO vM vS : Value) (O : List Int) (M : List Nat) (S : List Int) (x : Int) (h : Mk w m vO vM vS O M (S ++ [x])) (hb : S.length ≤ 1000000) :
    Calls Try.prog 53 #[.pointer (some ⟨m, 0, none⟩)] w fun e w' => e = .returned (.int .i64 x) ∧ ∃ vS', Mk w' m vO vM vS' O M S ∧ vS'.ownBlock = vS.ownBlock ∧ Fr (fun k => k = m) w w' := by
  obtain ⟨c0, c1, c2⟩ := h.cells
  have tw := h.thaw 2
  have HH : Hid (Mk w m vO vM vS O M (S ++ [x])) := h
  obtain ⟨o, c, hv⟩ := h.s.form
  subst hv
  have hx : (S ++ [x])[S.length]? = some x := by simp
  obtain ⟨b, off, hov, hcx⟩ := (h.s.rd elI_ok).at1 (u := .int .i64 x) rfl rfl hx
  subst hov
  obtain ⟨r1, r2⟩ := cut_own elI_ok elem52 h.s S.length (by simp)
  have HO := h.s.take elI_ok S.length (by simp)
  rw [List.take_left] at HO
  have hl : (S ++ [x]).length = S.length + 1 := by simp
  have HO' : Hid (OwnG elI w (.slice (some ⟨b, off, none⟩) S.length c) S) := HO
  simp only [elI] at r1 r2
  rw [hl] at c2 r1 r2
  clear h hx HO
  rw [hl] at HH
  clear hl
  have HF : Hid (Mk (w.setCell ⟨m, 2, none⟩ (.slice (some ⟨b, off, none⟩) S.length c)) m vO vM (.slice (some ⟨b, off, none⟩) S.length c) O M S ∧ Fr (fun k => k = m) w (w.setCell ⟨m, 2, none⟩ (.slice (some ⟨b, off, none⟩) S.length c))) := by
    have f : Fr (fun k => k = m) w (w.setCell ⟨m, 2, none⟩ (.slice (some ⟨b, off, none⟩) S.length c)) := Fr.one ⟨m, 2, none⟩ _
    have h := HH.out
    refine ⟨⟨setCell_heap h.hd _, h.o.kept f (fun k hk e => own_not h.o h.hd (by decide) (by rw [hk, e])), h.mm.kept f (fun k hk e => own_not h.mm h.hd (by decide) (by rw [hk, e])), HO'.out.kept f (fun k hk e => own_not HO'.out h.hd (by decide) (by rw [hk, e])), fun k hk => ?_⟩, f⟩
    have := h.ap k hk
    simpa [Value.ownBlock] using this
  clear HO' HH
  generalize S.length = n at *
  have i1 : (n : Int) < (n : Int) + 1 := by omega
  go_enter Try.func53, Try.ntmps53
  go_wp2_with fail
  go_ret
  exact ⟨rfl, _, HF.out.1, rfl, HF.out.2⟩
end Go.Proofs.Ytopcbcdigllenaa
