/- What stands behind the switch. -/
import Derived.Test.YtopcbcdigllenaaP0
namespace Go.Proofs.Ytopcbcdigllenaa
open Go.ChangeShapes Go.WideShapes Go.ChangeAt Go.RowKit

/-- What follows the block of that number. -/
def behindOf (n : Nat) : Code → Option Code
  | .seq (.block m c) b => if m = n then some b else match behindOf n c with
    | some c => some c
    | none => behindOf n b
  | .seq a b => match behindOf n a with
    | some c => some c
    | none => behindOf n b
  | .block _ c => behindOf n c
  | .cond _ a b => match behindOf n a with
    | some c => some c
    | none => behindOf n b
  | .loop c => behindOf n c
  | .scope c => behindOf n c
  | _ => none

noncomputable def pTail : Code := ((Try.f3.body.bind (behindOf 2)).getD .skip)

theorem Pl.keep {w wr w1 : World} {p g q n : Nat} {bs : List Blk} {T : List Ob} (h : Pl w wr p g q n bs T) (f : Fr no wr w1) : Pl w w1 p g q n bs T := ⟨h.hf.keep f, h.lk, h.cl⟩

theorem Pl.cls {w wr : World} {p g q n : Nat} {bs : List Blk} {T : List Ob} (h : Pl w wr p g q n bs T) (a : Int) : ∀ c ws, objAt bs a = some (c, ws) → c < 9223372036854775808 := fun c ws ho => by
  have := objAt_mem (k := 0) (bs := bs) (x := a) (c := c) (ws := ws)
  simp only [Int.natCast_zero, Int.sub_zero] at this
  have hm := this.1 ho
  rw [← h.lk.told] at hm
  obtain ⟨o, h1, h2⟩ := List.mem_map.1 hm
  have := h.cl o h1
  simp only [Ob.told, Prod.mk.injEq] at h2
  omega
end Go.Proofs.Ytopcbcdigllenaa
