/- Pieces of HeapPlays. -/
import Derived.Test.YtopcbcdigllenaaRp
import Derived.Test.YtopcbcdigllenaaW0
namespace Go.Proofs.Ytopcbcdigllenaa
open Go.ChangeShapes Go.WideShapes Go.ChangeAt Go.RowKit

noncomputable def pAlloc : Code := ((Try.f3.body.bind (branchOf 146)).getD .skip)
noncomputable def pRel : Code := ((Try.f3.body.bind (branchOf 176)).getD .skip)

theorem Bx.cells {w : World} {s : Nat} {x y z : Int} {v : Nat} (h : Bx w s (x, y, z, v)) : w.cell? ⟨s, 0, none⟩ = some (.int .i64 x) ∧ w.cell? ⟨s, 1, none⟩ = some (.int .i64 y) ∧ w.cell? ⟨s, 2, none⟩ = some (.int .i64 z) ∧ w.cell? ⟨s, 3, none⟩ = some (.int .u64 (v : Int)) := by
  unfold Bx at h
  simp [World.cell?, h]
end Go.Proofs.Ytopcbcdigllenaa
