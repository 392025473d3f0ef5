/- The arena beside a row of numbers that is new. -/
import Derived.Test.YtopcbcdigllenaaAl
import Derived.Test.YtopcbcdigllenaaCut
namespace Go.Proofs.Ytopcbcdigllenaa
open Go.ChangeShapes Go.WideShapes Go.ChangeAt Go.RowKit

def lenOf : Value → Nat
  | .slice _ k _ => k
  | _ => 0

/-- A row of another kind lies apart from the arena. -/
theorem HW.apart {α : Type} {K : El α} {w : World} {p g : Nat} {W : List Nat} (h : HW w p g W) {v : Value} {l : List α} (ho : OwnG K w v l) (h1 : K.e ≠ 75) (h2 : K.e ≠ 28) : v.ownBlock ≠ some p ∧ v.ownBlock ≠ some g := by
  constructor
  · intro e
    obtain ⟨cur, hc⟩ := ho.tag e
    rw [h.hd] at hc
    simp at hc
    exact h1 hc.2.symm
  · intro e
    obtain ⟨cur, hc⟩ := ho.tag e
    rw [h.row] at hc
    simp at hc
    exact h2 hc.2.symm

/-- The arena beside a row of numbers that is new. -/
structure AB (w wr : World) (p g : Nat) (bs : List Blk) (v : Value) (l : List Int) : Prop where
  hp : HP wr p g bs
  own : OwnG elI wr v l
  new : NewV w v
  fr : Fr no w wr

/-- The arena turns. -/
theorem AB.turn {w wr w' : World} {p g : Nat} {bs bs' : List Blk} {v : Value} {l : List Int} (h : AB w wr p g bs v l) (hg : w.heap.size ≤ g) (h' : HP w' p g bs') (f : Fr (fun k => k = g) wr w') : AB w w' p g bs' v l :=
  ⟨h', h.own.kept f (fun k hk e => (h.hp.apart h.own (by decide) (by decide)).2 (by rw [hk, e])), h.new, h.fr.new f (fun i hi e => by omega)⟩

/-- New memory. -/
theorem AB.more {w wr w' : World} {p g : Nat} {bs : List Blk} {v : Value} {l : List Int} (h : AB w wr p g bs v l) (f : Fr no wr w') : AB w w' p g bs v l :=
  ⟨h.hp.keep f, h.own.keep f, h.new, h.fr.and f⟩

/-- The row grows. -/
theorem AB.grow {w wr w' : World} {p g : Nat} {bs : List Blk} {v v' : Value} {l l' : List Int} (h : AB w wr p g bs v l) (o : OwnG elI w' v' l') (s : Sp v wr v' w') : AB w w' p g bs v' l' := by
  obtain ⟨a1, a2⟩ := h.hp.apart h.own (by decide) (by decide)
  obtain ⟨n1, n2⟩ := h.new.step h.fr s
  exact ⟨h.hp.kept s.1 a1 a2, o, n1, n2⟩

theorem elem52 : Try.prog.elem elI.t = elI.e := by kernel_rfl

/-- One of a row is left out. -/
theorem drop_one {w wr : World} {p g : Nat} {bs : List Blk} {v : Value} {l : List Int} (h : AB w wr p g bs v l) (k : Nat) (hk : k < l.length) (hl : l.length ≤ 1000) :
    ∃ a n c sv1 sv2, v = .slice (some a) n c ∧
      (∀ w', (Instr.slice 52 v none (some (.int .i64 (k : Int))) none).run Try.prog w' = .ok sv1 w') ∧ (∀ w', (Instr.sliceAt 52 v none (some (.int .i64 (k : Int))) none).run Try.prog w' = .ok sv1 w') ∧
      (∀ w', (Instr.slice 52 v (some (.int .i64 ((k : Int) + 1))) none none).run Try.prog w' = .ok sv2 w') ∧ (∀ w', (Instr.sliceAt 52 v (some (.int .i64 ((k : Int) + 1))) none none).run Try.prog w' = .ok sv2 w') ∧
      Src Try.prog 1 52 sv1 (l.take k).length (cg elI (l.take k)) wr.drew ∧
      ∀ v1 w1, OwnG elI w1 v1 ([] ++ l.take k) → Sp (.slice none 0 0) wr.drew v1 w1 → Src Try.prog 1 52 sv2 (l.drop (k + 1)).length (cg elI (l.drop (k + 1))) w1 ∧
        ∀ v2 w2, OwnG elI w2 v2 (([] ++ l.take k) ++ l.drop (k + 1)) → Sp v1 w1 v2 w2 → AB w w2 p g bs v2 (l.take k ++ l.drop (k + 1)) := by
  obtain ⟨gg, o, cap, cur, hv⟩ : ∃ gg o cap cur, v = .slice (some ⟨gg, o, none⟩) l.length cap ∧ wr.heap[gg]? = some (.cells cur 3 (0, 0)) := by
    rcases h.own with ⟨_, rfl⟩ | ⟨gg, o, cap, cur, hv, hc, _⟩
    · simp at hk
    · exact ⟨gg, o, cap, cur, hv, hc⟩
  obtain ⟨hv, hcur⟩ := hv
  have ho := h.own
  rw [hv] at ho
  obtain ⟨sv1, r1, r2, s1⟩ := cut_low elI_ok elem52 ho k (by omega)
  obtain ⟨sv2, q1, q2, s2, -⟩ := cut_high elI_ok elem52 ho (k + 1) (by omega)
  have e1 : ((k + 1 : Nat) : Int) = (k : Int) + 1 := by omega
  rw [e1] at q1 q2
  refine ⟨_, _, _, sv1, sv2, hv, by rw [hv]; exact r1, by rw [hv]; exact r2, by rw [hv]; exact q1, by rw [hv]; exact q2, s1 wr.drew rfl, fun v1 w1 o1 p1 => ?_⟩
  have f1 : Fr no wr w1 := (Fr.refl no wr).drew.new p1.1 (fun i hi e => by simp [Value.ownBlock] at e)
  refine ⟨s2 w1 ((f1.heap hcur (fun f => f)).trans hcur.symm), fun v2 w2 o2 p2 => ?_⟩
  have h1 : AB w w1 p g bs v1 ([] ++ l.take k) := ⟨h.hp.keep f1, o1, fun b hb => by
    by_cases hlt : b < wr.drew.heap.size
    · have := p1.2 b hlt hb
      simp [Value.ownBlock] at this
    · have := h.fr.size
      have e : wr.drew.heap.size = wr.heap.size := rfl
      omega, h.fr.and f1⟩
  have := h1.grow o2 p2
  rw [List.nil_append] at this
  exact this

/-- All but the first of a row. -/
theorem drop_first {w wr : World} {p g : Nat} {bs : List Blk} {v : Value} {x : Int} {l : List Int} (h : AB w wr p g bs v (x :: l)) :
    ∃ b o c sv, v = .slice (some ⟨b, o, none⟩) (l.length + 1) c ∧ wr.cell? ⟨b, o, none⟩ = some (.int .i64 x) ∧
      (∀ w', (Instr.slice 52 v (some (.int .i64 1)) none none).run Try.prog w' = .ok sv w') ∧ (∀ w', (Instr.sliceAt 52 v (some (.int .i64 1)) none none).run Try.prog w' = .ok sv w') ∧ AB w wr p g bs sv l := by
  obtain ⟨gg, o, cap, hv⟩ : ∃ gg o cap, v = .slice (some ⟨gg, o, none⟩) (l.length + 1) cap := by
    rcases h.own with ⟨_, h0⟩ | ⟨gg, o, cap, cur, hv, hc, _⟩
    · simp at h0
    · exact ⟨gg, o, cap, hv⟩
  subst hv
  obtain ⟨sv, q1, q2, -, ow, ob⟩ := cut_high elI_ok elem52 h.own 1 (by simp)
  exact ⟨gg, o, cap, sv, rfl, h.own.cells 0 (.int .i64 x) rfl, q1, q2, h.hp, ow, fun k hk => h.new k (by rw [ob] at hk; exact hk), h.fr⟩
end Go.Proofs.Ytopcbcdigllenaa
