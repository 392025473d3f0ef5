/- The statement that holds the program against the document's own words: it returns true. -/
import Derived.Test.YtabiagheflkiaaaTellA
import Derived.Test.YtabiagheflkiaaaTellB
namespace Go.Proofs.Ytabiagheflkiaaa
open Go.ChangeShapes Go.WideShapes Go.ChangeAt Go.RowKit

theorem tell_any (w : World) (v0 : Value) (l0 : List ByteArray) (s0 : SlG elS w v0 l0) (v1 : Value) (l1 : List ByteArray) (s1 : SlG elS w v1 l1) (a b : ByteArray) (s t : Ty) :
    Calls Try.prog 3 #[v0, v1, .string a, .string b, tyV s, tyV t] w fun e w' => e = .returned (.bool true) ∧ Fr no w w' := by
  cases h : (ix a (newH l0 l1).2.1).isSome with
  | true => exact tell_true w v0 l0 s0 v1 l1 s1 a b s t h
  | false => exact tell_false w v0 l0 s0 v1 l1 s1 a b s t h
end Go.Proofs.Ytabiagheflkiaaa
