/- Held of the document. -/
import Derived.Test.YtkkpimpmhnnbjaaDj
import Derived.Test.YtkkpimpmhnnbjaaRj
import Derived.Deep.CutBlock
import Derived.Deep.DeepCutAuto
namespace Go.Proofs.Ytkkpimpmhnnbjaa
open Go.ChangeShapes Go.WideShapes Go.ChangeAt Go.RowKit

def kI (a : Int) : List Int → Nat
  | [] => 0
  | x :: l => if x < a then kI a l + 1 else 0

def insI (a : Int) (l : List Int) : List Int := l.take (kI a l) ++ a :: l.drop (kI a l)

theorem kI_le (a : Int) (l : List Int) : kI a l ≤ l.length := by
  induction l with
  | nil => simp [kI]
  | cons x l ih => unfold kI; split <;> simp <;> omega

theorem kI_lt (a : Int) (l : List Int) (j : Nat) (h : j < kI a l) : ∃ x, l[j]? = some x ∧ x < a := by
  induction l generalizing j with
  | nil => simp [kI] at h
  | cons x l ih =>
    unfold kI at h
    split at h
    · rename_i hx
      cases j with
      | zero => exact ⟨x, rfl, hx⟩
      | succ j => exact ih j (by omega)
    · omega

theorem kI_at (a : Int) (l : List Int) (h : kI a l < l.length) : ∃ x, l[kI a l]? = some x ∧ ¬ x < a := by
  induction l with
  | nil => simp [kI] at h
  | cons x l ih =>
    by_cases hx : x < a
    · have e : kI a (x :: l) = kI a l + 1 := by simp [kI, hx]
      rw [e] at h ⊢
      exact ih (by simpa using h)
    · have e : kI a (x :: l) = 0 := by simp [kI, hx]
      rw [e]
      exact ⟨x, rfl, hx⟩

theorem insI_length (a : Int) (l : List Int) : (insI a l).length = l.length + 1 := by
  have := kI_le a l
  unfold insI
  simp
  omega

def heldF (t : Int) (T : List (Int × Lk)) : List Int := T.foldl (fun l p => if t < 1 ∨ p.2.owner ≠ t then l else insI p.1 l) []

theorem heldF_skip {t : Int} {T : List (Int × Lk)} {k : Nat} {p : Int × Lk} (h : T[k]? = some p) (hs : t < 1 ∨ p.2.owner ≠ t) : heldF t (T.take (k + 1)) = heldF t (T.take k) := by
  unfold heldF
  rw [take_next T k p h, List.foldl_append]
  simp only [List.foldl_cons, List.foldl_nil, if_pos hs]

theorem heldF_take {t : Int} {T : List (Int × Lk)} {k : Nat} {p : Int × Lk} (h : T[k]? = some p) (hs : ¬ (t < 1 ∨ p.2.owner ≠ t)) : heldF t (T.take (k + 1)) = insI p.1 (heldF t (T.take k)) := by
  unfold heldF
  rw [take_next T k p h, List.foldl_append]
  simp only [List.foldl_cons, List.foldl_nil, if_neg hs]

theorem heldF_len (t : Int) (T : List (Int × Lk)) : ∀ l : List Int, (T.foldl (fun l p => if t < 1 ∨ p.2.owner ≠ t then l else insI p.1 l) l).length ≤ l.length + T.length := by
  induction T with
  | nil => intro l; simp
  | cons p T ih =>
    intro l
    rw [List.foldl_cons]
    refine Nat.le_trans (ih _) ?_
    split
    · simp only [List.length_cons]; omega
    · rw [insI_length]; simp only [List.length_cons]; omega

/-- A lock's object is put in at its place. -/
theorem held_ins {w w3 : World} {v' : Value} {l : List Int} {a : Int} (o3 : OwnG elI w3 v' (l ++ [0])) (n3 : NewV w v') (f3 : Fr no w w3) :
    ∃ g o cap dv sv w5, v' = .slice (some ⟨g, o, none⟩) (l.length + 1) cap ∧ (∀ w1, (Instr.slice 42 v' (some (.int .i64 ((kI a l : Int) + 1))) none none).run Try.prog w1 = .ok dv w1) ∧ (∀ w1, (Instr.sliceAt 42 v' (some (.int .i64 ((kI a l : Int) + 1))) none none).run Try.prog w1 = .ok dv w1) ∧ (∀ w1, (Instr.slice 42 v' (some (.int .i64 (kI a l : Int))) none none).run Try.prog w1 = .ok sv w1) ∧ (∀ w1, (Instr.sliceAt 42 v' (some (.int .i64 (kI a l : Int))) none none).run Try.prog w1 = .ok sv w1) ∧
      (∃ m : Int, ∀ ty, (Builtin.copy_ #[42, 42] ty #[dv, sv]).run Try.prog w3.drew = .ok (.int .i64 m) w5) ∧ (∃ y, w5.cell? ⟨g, o + kI a l, none⟩ = some (.int .i64 y)) ∧ w5.frozen? ⟨g, o + kI a l, none⟩ = false ∧ Fr no w w5 ∧
      Hid (OwnG elI (w5.setCell ⟨g, o + kI a l, none⟩ (.int .i64 a)) v' (insI a l) ∧ Fr no w (w5.setCell ⟨g, o + kI a l, none⟩ (.int .i64 a))) := by
  have hk := kI_le a l
  obtain ⟨g, o, cap, hv⟩ : ∃ g o cap, v' = .slice (some ⟨g, o, none⟩) (l.length + 1) cap := by
    rcases o3 with ⟨_, hl⟩ | ⟨g, o, cap, cur, hv, _⟩
    · simp at hl
    · exact ⟨g, o, cap, by rw [hv]; simp⟩
  subst hv
  have hel : Try.prog.elem elI.t = elI.e := by kernel_rfl
  obtain ⟨dv, sv, w5, y, s1, s2, s3, s4, s5, o5, f5⟩ := shift_any elI_ok hel (o3.keep ((Fr.refl no w3).drew)) (kI a l) hk
  have hgn := n3 g rfl
  have fw5 : Fr no w w5 := f3.drew.new f5 (fun i hi e => by omega)
  have hlen : (l.take (kI a l)).length = kI a l := by simp; omega
  have hy : (l.take (kI a l) ++ y :: l.drop (kI a l))[kI a l]? = some y := by
    rw [List.getElem?_append_right (by omega), hlen, Nat.sub_self]
    rfl
  have hc := o5.cells (kI a l) (.int .i64 y) (by
    have := cg_get elI_ok (l.take (kI a l) ++ y :: l.drop (kI a l)) (kI a l) y hy 0 (.int .i64 y) rfl
    simpa [elI] using this)
  obtain ⟨cur, htag⟩ := o5.tag (k := g) rfl
  have os := o5.set elI_ok (kI a l) 0 y a (.int .i64 a) hy (by decide) rfl
  have e1 : o + kI a l * elI.n + 0 = o + kI a l := by simp [elI]
  rw [e1] at os
  have e2 : (l.take (kI a l) ++ y :: l.drop (kI a l)).set (kI a l) a = insI a l := by
    rw [List.set_append_right _ _ (by omega), hlen, Nat.sub_self]
    rfl
  rw [e2] at os
  exact ⟨g, o, cap, dv, sv, w5, rfl, s1, s2, s3, s4, s5, ⟨y, hc⟩, by simp [World.frozen?, htag], fw5, os, fw5.new (fr_set w5 g (o + kI a l) (.int .i64 a)) (fun i hi e => by omega)⟩
end Go.Proofs.Ytkkpimpmhnnbjaa
