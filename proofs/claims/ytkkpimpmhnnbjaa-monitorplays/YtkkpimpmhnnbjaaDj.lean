/- Same of the document. -/
import Derived.Test.YtkkpimpmhnnbjaaDi
namespace Go.Proofs.Ytkkpimpmhnnbjaa
open Go.ChangeShapes Go.WideShapes Go.ChangeAt Go.RowKit

theorem sameI_self (l : List Int) : sameI l l = true := by simp [sameI]

theorem Fr.drewM {S : Nat → Prop} {a w : World} (h : Fr S a w) (m : Nat) : Fr S a (w.drewN m) := h.drewN m

set_option maxRecDepth 100000 in
theorem dSame_any (w : World) (ow ct : Int) (ft : Bool) (s1 s2 t1 t2 : Option Addr) (c1 c2 e1 e2 : Nat) (l1 l2 : List Int) (h1 : OwnG elI w (.slice s1 l1.length c1) l1) (h2 : OwnG elI w (.slice s2 l2.length c2) l2) (g1 : OwnG elI w (.slice t1 l1.length e1) l1) (g2 : OwnG elI w (.slice t2 l2.length e2) l2) :
    Calls Try.prog 20 #[.agg #[.int .i64 ow, .int .i64 ct, .bool ft, .slice s1 l1.length c1, .slice s2 l2.length c2], .agg #[.int .i64 ow, .int .i64 ct, .bool ft, .slice t1 l1.length e1, .slice t2 l2.length e2]] w fun e w' => e = .returned (.bool true) ∧ Fr no w w' := by
  have fa : Fr no w ((w.alloc (.cells #[.int .i64 ow, .int .i64 ct, .bool ft, .slice s1 l1.length c1, .slice s2 l2.length c2] 49)).alloc (.cells #[.int .i64 ow, .int .i64 ct, .bool ft, .slice t1 l1.length e1, .slice t2 l2.length e2] 49)) := ((Fr.refl no w).alloc _ _).alloc _ _
  have C1 := dints_any _ _ _ l1 l1 ((h1.keep fa).rd elI_ok) ((g1.keep fa).rd elI_ok)
  have HC2 : Hid (∀ m, Calls Try.prog 34 #[.slice s2 l2.length c2, .slice t2 l2.length e2] (((w.alloc (.cells #[.int .i64 ow, .int .i64 ct, .bool ft, .slice s1 l1.length c1, .slice s2 l2.length c2] 49)).alloc (.cells #[.int .i64 ow, .int .i64 ct, .bool ft, .slice t1 l1.length e1, .slice t2 l2.length e2] 49)).drewN m) fun e w' => e = .returned (.bool true) ∧ ∃ m', w' = (((w.alloc (.cells #[.int .i64 ow, .int .i64 ct, .bool ft, .slice s1 l1.length c1, .slice s2 l2.length c2] 49)).alloc (.cells #[.int .i64 ow, .int .i64 ct, .bool ft, .slice t1 l1.length e1, .slice t2 l2.length e2] 49)).drewN m).drewN m') := fun m => by
    have := dints_any _ _ _ l2 l2 (((h2.keep fa).keep ((Fr.refl no _).drewN m)).rd elI_ok) (((g2.keep fa).keep ((Fr.refl no _).drewN m)).rd elI_ok)
    rw [sameI_self] at this
    exact this
  rw [sameI_self] at C1
  have HF : Hid _ := fa
  have q1 : (ow == ow) = true := by simp
  have q2 : (ct == ct) = true := by simp
  have q3 : (ft == ft) = true := by simp
  clear fa h1 h2 g1 g2
  generalize l1.length = n1 at *
  generalize l2.length = n2 at *
  go_enter Try.func20, Try.ntmps20
  go_wp2_with fail
  refine C1.mono ?_
  rintro _ _ ⟨rfl, m, rfl⟩
  have C2 := HC2.out m
  clear C1
  go_wp2_with fail
  refine C2.mono ?_
  rintro _ _ ⟨rfl, m2, rfl⟩
  clear C2 HC2
  go_wp2_with fail
  go_ret
  exact ⟨rfl, HF.out.drewN _⟩
end Go.Proofs.Ytkkpimpmhnnbjaa
