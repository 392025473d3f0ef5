/- What the two halves of the walk share. -/
import Derived.Test.YtabiagheflkiaaaLeast
import Derived.Test.YtabiagheflkiaaaDNew
import Derived.Test.YtabiagheflkiaaaDocM3
import Derived.Test.YtabiagheflkiaaaDocM4
import Derived.Test.YtabiagheflkiaaaDocM5
import Derived.Test.YtabiagheflkiaaaDocM0
namespace Go.Proofs.Ytabiagheflkiaaa
open Go.ChangeShapes Go.WideShapes Go.ChangeAt Go.RowKit

theorem docMerge_any (w : World) (p : Nat) (N S : List ByteArray) (A : List Nat) (h : RC w p N S A) (ka kb : Int) (ca cb : ByteArray) :
    Calls Try.prog 26 #[.pointer (some ⟨p, 0, none⟩), .agg #[.int .i64 ka, .string ca], .agg #[.int .i64 kb, .string cb]] w fun e w' => e = .returned (tyV (merge N A ⟨ka, ca⟩ ⟨kb, cb⟩)) ∧ Fr no w w' := by
  by_cases h3 : ka = 3
  · exact docMerge_3 w p N S A h ka kb ca cb h3
  by_cases h4 : ka = 4
  · exact docMerge_4 w p N S A h ka kb ca cb h4
  by_cases h5 : ka = 5
  · exact docMerge_5 w p N S A h ka kb ca cb h5
  exact docMerge_o w p N S A h ka kb ca cb ⟨h3, h4, h5⟩

theorem ty_same (k : Int) (c : ByteArray) (w : World) : (binOp .eql 24 (.agg #[.int .i64 k, .string c]) (.agg #[.int .i64 k, .string c])).run Try.prog w = .ok (.bool true) w := by
  simp [go_sem]

end Go.Proofs.Ytabiagheflkiaaa
