/- The statement on chains of classes: it returns true. -/
import Derived.Test.YtabiagheflkiaaaChainA
import Derived.Test.YtabiagheflkiaaaChainB
import Derived.Test.YtabiagheflkiaaaChainC
namespace Go.Proofs.Ytabiagheflkiaaa

theorem chain_any (w : World) (n : Nat) (hn : n < 256) (a : Nat) (ha : a < 256) (b : Nat) (hb : b < 256) : Calls Try.prog 5 #[.int .u8 (n : Int), .int .u8 (a : Int), .int .u8 (b : Int)] w fun e w' => e = .returned (.bool true) ∧ Fr no w w' := by
  rcases Nat.lt_trichotomy (b % (n % 15 + 1)) (a % (n % 15 + 1)) with h | h | h
  · exact chain_lt w n hn a ha b hb h
  · exact chain_eq w n hn a ha b hb h
  · exact chain_gt w n hn a ha b hb h
end Go.Proofs.Ytabiagheflkiaaa
