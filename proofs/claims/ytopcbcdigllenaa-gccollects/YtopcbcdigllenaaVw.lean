/- Rows of one's own, read one by one. -/
import Derived.Test.YtopcbcdigllenaaLift
import Derived.Test.YtopcbcdigllenaaBlk
namespace Go.Proofs.Ytopcbcdigllenaa

theorem OwnG.rd {α : Type} {K : El α} (hK : K.Ok) {w : World} {v : Value} {l : List α} (h : OwnG K w v l) : RdG K w v l := by
  have h' := h
  rcases h with ⟨rfl, rfl⟩ | ⟨g, o, cap, cur, rfl, hgg, hn, hm, hs, ht⟩
  · exact ⟨none, 0, rfl, Nat.zero_le _, Nat.zero_le _, fun i x hx => by simp at hx⟩
  · refine ⟨some ⟨g, o, none⟩, cap, rfl, hn, hm, fun i x hx => ⟨g, o, rfl, fun j u hj => ?_⟩⟩
    have := h'.cells _ u (cg_get hK l i x hx j u hj)
    rw [← Nat.add_assoc] at this
    exact this

theorem RdG.at1 {α : Type} {K : El α} {w : World} {o : Option Addr} {n c : Nat} {l : List α} (h : RdG K w (.slice o n c) l) {i : Nat} {x : α} {u : Value} (hn : K.n = 1) (hu : K.f x = [u]) (hx : l[i]? = some x) :
    ∃ b off, o = some ⟨b, off, none⟩ ∧ w.cell? ⟨b, off + i, none⟩ = some u := by
  obtain ⟨ad, cap, he, -, -, hit⟩ := h
  obtain ⟨b, off, hb, hc⟩ := hit i x hx
  simp only [Value.slice.injEq] at he
  have := hc 0 u (by rw [hu]; rfl)
  rw [hn, Nat.mul_one, Nat.add_zero] at this
  exact ⟨b, off, by rw [he.1, hb], this⟩

theorem RdG.at2 {w : World} {o : Option Addr} {n c : Nat} {l : List (Int × Int)} (h : RdG elB w (.slice o n c) l) {i : Nat} {x : Int × Int} (hx : l[i]? = some x) :
    ∃ b off, o = some ⟨b, off, none⟩ ∧ w.cell? ⟨b, off + i * 2, none⟩ = some (.int .i64 x.1) ∧ w.cell? ⟨b, off + i * 2 + 1, none⟩ = some (.int .i64 x.2) := by
  obtain ⟨ad, cap, he, -, -, hit⟩ := h
  obtain ⟨b, off, hb, hc⟩ := hit i x hx
  simp only [Value.slice.injEq] at he
  exact ⟨b, off, by rw [he.1, hb], hc 0 _ rfl, hc 1 _ rfl⟩

/-- Two readings of one slice lie in one place. -/
theorem same_at {o : Option Addr} {b off b' off' : Nat} (h : o = some ⟨b, off, none⟩) (h' : o = some ⟨b', off', none⟩) : b' = b ∧ off' = off := by
  rw [h] at h'
  simp only [Option.some.injEq, Addr.mk.injEq] at h'
  exact ⟨h'.1.symm, h'.2.1.symm⟩
end Go.Proofs.Ytopcbcdigllenaa
