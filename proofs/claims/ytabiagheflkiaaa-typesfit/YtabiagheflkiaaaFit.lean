/- The statement on what fits: it returns true. -/
import Derived.Test.YtabiagheflkiaaaFitA
import Derived.Test.YtabiagheflkiaaaFitB
import Derived.Test.YtabiagheflkiaaaFitC
import Derived.Test.YtabiagheflkiaaaFitD
namespace Go.Proofs.Ytabiagheflkiaaa

theorem fit_any (w : World) (n0 : Nat) (h0 : n0 < 256) (n1 : Nat) (h1 : n1 < 256) (cls : Bool) : Calls Try.prog 8 #[.int .u8 (n0 : Int), .int .u8 (n1 : Int), .bool cls] w fun e w' => e = .returned (.bool true) ∧ Fr no w w' := by
  by_cases hA : n0 % 6 = n1 % 6
  · exact fit_eq w n0 h0 n1 h1 cls hA
  by_cases hB : n1 % 6 = 5
  · exact fit_top w n0 h0 n1 h1 cls hA hB
  by_cases hC : n0 % 6 = 3
  · exact fit_null w n0 h0 n1 h1 cls hA hB hC
  exact fit_two w n0 h0 n1 h1 cls hA hB hC
end Go.Proofs.Ytabiagheflkiaaa
