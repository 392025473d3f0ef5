/- The document's lexer without memory: its functions. -/
import Derived.Test.YtmpahllkbpofnaaMem
import Derived.Laws.Cover2
import Derived.Laws.Strings
namespace Go.Proofs.Ytmpahllkbpofnaa
open Go
def nl (s : ByteArray) : List Nat := s.data.toList.map UInt8.toNat
def letterB (c : Nat) (first : Bool) : Bool := decide (97 ≤ c ∧ c ≤ 122 ∨ 65 ≤ c ∧ c ≤ 90 ∨ c = 95 ∨ c = 36) || (decide (48 ≤ c ∧ c ≤ 57) && !first)
def digitB (c : Nat) : Bool := decide (48 ≤ c ∧ c ≤ 57)
def blankB (c : Nat) : Bool := decide (c = 32 ∨ c = 9 ∨ c = 10 ∨ c = 13)
def wordL : List ByteArray := [⟨#[99, 108, 97, 115, 115]⟩, ⟨#[101, 120, 116, 101, 110, 100, 115]⟩, ⟨#[118, 111, 108, 97, 116, 105, 108, 101]⟩, ⟨#[105, 110, 116]⟩, ⟨#[99, 112, 120]⟩, ⟨#[105, 110, 116, 115]⟩, ⟨#[118, 111, 105, 100]⟩, ⟨#[105, 102]⟩, ⟨#[101, 108, 115, 101]⟩, ⟨#[119, 104, 105, 108, 101]⟩, ⟨#[114, 101, 116, 117, 114, 110]⟩, ⟨#[116, 104, 114, 111, 119]⟩, ⟨#[116, 114, 121]⟩, ⟨#[99, 97, 116, 99, 104]⟩, ⟨#[115, 121, 110, 99]⟩, ⟨#[119, 97, 105, 116]⟩, ⟨#[110, 111, 116, 105, 102, 121]⟩, ⟨#[110, 111, 116, 105, 102, 121, 97, 108, 108]⟩, ⟨#[121, 105, 101, 108, 100]⟩, ⟨#[106, 111, 105, 110]⟩, ⟨#[111, 117, 116]⟩, ⟨#[110, 117, 108, 108]⟩, ⟨#[116, 104, 105, 115]⟩, ⟨#[110, 101, 119]⟩, ⟨#[115, 112, 97, 119, 110]⟩, ⟨#[97, 115]⟩, ⟨#[105, 115]⟩]
def isWord (s : ByteArray) : Bool := wordL.any fun t => t.toList == s.toList
theorem nl_length (s : ByteArray) : (nl s).length = s.size := by simp [nl]
theorem nl_get (s : ByteArray) (k : Nat) (h : k < s.size) : (nl s)[k]? = some s[k].toNat := by
  unfold nl
  have h' : k < s.data.toList.length := by simpa using h
  rw [List.getElem?_map, List.getElem?_eq_getElem h']
  rfl
def signL : List Nat := [123, 125, 40, 41, 91, 93, 59, 44, 46, 61, 60, 43, 45, 42, 47, 37, 126]
def twoB (s : ByteArray) : Bool := decide (2 ≤ s.size) && ((s.extract 0 2).toList == [61, 61] || (s.extract 0 2).toList == [33, 61])
def signT (s : ByteArray) : ByteArray := if twoB s then s.extract 0 2 else if signL.contains ((nl s).getD 0 0) then s.extract 0 1 else ⟨#[]⟩
def runTo (p : Nat → Bool) (l : List Nat) : Nat → Nat → Nat
  | 0, i => i
  | k + 1, i => if decide (i < l.length) && p (l.getD i 0) then runTo p l k (i + 1) else i
theorem runTo_ge (p : Nat → Bool) (l : List Nat) : ∀ k i, i ≤ runTo p l k i
  | 0, i => Nat.le_refl _
  | k + 1, i => by
    unfold runTo
    split
    · exact Nat.le_trans (Nat.le_succ i) (runTo_ge p l k (i + 1))
    · exact Nat.le_refl _
theorem runTo_le (p : Nat → Bool) (l : List Nat) : ∀ k i, i ≤ l.length → runTo p l k i ≤ l.length
  | 0, i, h => h
  | k + 1, i, h => by
    unfold runTo
    split
    · rename_i hc
      simp only [Bool.and_eq_true, decide_eq_true_eq] at hc
      exact runTo_le p l k (i + 1) hc.1
    · exact h
def decN (l : List Nat) (at' : Nat) : Nat → Nat
  | 0 => 0
  | j + 1 => 10 * decN l at' j + (l.getD (at' + j) 0 - 48)
theorem decN_lt (l : List Nat) (at' : Nat) : ∀ j, (∀ i, i < j → l.getD (at' + i) 0 ≤ 57) → decN l at' j < 10 ^ j
  | 0, _ => by simp [decN]
  | j + 1, h => by
    have h1 := decN_lt l at' j (fun i hi => h i (by omega))
    have h2 := h j (by omega)
    unfold decN
    rw [Nat.pow_succ]
    omega
def digE (s : ByteArray) (at' : Nat) : Nat := runTo digitB (nl s) (nl s).length at'
def at0 (s : ByteArray) (i : Nat) : Nat := (nl s).getD i 0
def letAt (s : ByteArray) (i : Nat) : Bool := decide (i < s.size) && letterB (at0 s i) false
def sufC (s : ByteArray) (i : Nat) : Bool := decide (i < s.size) && decide (at0 s i = 99)
def sufI (s : ByteArray) (i : Nat) : Bool := decide (i < s.size) && decide (at0 s i = 105)
def suf (s : ByteArray) (i : Nat) : Bool := sufC s i || sufI s i
def numEnd (s : ByteArray) (E : Nat) : Nat := if suf s E then E + 1 else E
def numErr (s : ByteArray) (at' E : Nat) : Nat := if 18 < E - at' then 32 else if suf s E && decide (15 < E - at') then 32 else if letAt s (numEnd s E) then 180 else 0
def numTok (s : ByteArray) (a E : Nat) : Tk :=
  if sufC s E then ⟨4, a, s.extract a (E + 1), 0, floatOfInt .f64 (decN (nl s) a (E - a) : Int), 0⟩
  else if sufI s E then ⟨4, a, s.extract a (E + 1), 0, 0, floatOfInt .f64 (decN (nl s) a (E - a) : Int)⟩
  else ⟨3, a, s.extract a E, (decN (nl s) a (E - a) : Int), 0, 0⟩
def comE (s : ByteArray) (a : Nat) : Nat := runTo (fun c => !decide (c = 10)) (nl s) (nl s).length a
def wordE (s : ByteArray) (a : Nat) : Nat := runTo (fun c => letterB c false) (nl s) (nl s).length a
def isCom (s : ByteArray) (a : Nat) : Bool := decide (at0 s a = 47) && (decide (a + 1 < s.size) && decide (at0 s (a + 1) = 47))
def wordTok (s : ByteArray) (a : Nat) : Tk := ⟨if isWord (s.extract a (wordE s a)) then 2 else 1, a, s.extract a (wordE s a), 0, 0, 0⟩
def signTok (s : ByteArray) (a : Nat) : Tk := ⟨5, a, signT (s.extract a s.size), 0, 0, 0⟩
def one (s : ByteArray) (a : Nat) : Nat × List Tk × Nat :=
  if blankB (at0 s a) then (a + 1, [], 0)
  else if isCom s a then (comE s a, [], 0)
  else if letterB (at0 s a) true then (if 20 < wordE s a - a then (a, [], 32) else (wordE s a, [wordTok s a], 0))
  else if digitB (at0 s a) then (numEnd s (digE s a), [numTok s a (digE s a)], numErr s a (digE s a))
  else if (signT (s.extract a s.size)).size = 0 then (a, [], 180) else (a + (signT (s.extract a s.size)).size, [signTok s a], 0)
def lexF (s : ByteArray) : Nat → Nat → List Tk → Nat × List Tk × Nat
  | 0, a, l => (a, l, 0)
  | k + 1, a, l => if a < s.size then (if (one s a).2.2 = 0 then lexF s k (one s a).1 (l ++ (one s a).2.1) else (a, [], (one s a).2.2)) else (0, l ++ [⟨6, s.size, ⟨#[]⟩, 0, 0, 0⟩], 0)
theorem lexF_go {s : ByteArray} {k a b : Nat} {l m : List Tk} {R : Nat × List Tk × Nat} (h : lexF s (k + 1) a l = R) (ha : a < s.size) (ho : one s a = (b, m, 0)) : lexF s k b (l ++ m) = R := by
  rw [← h, lexF, if_pos ha, ho]
  rfl
theorem lexF_bad {s : ByteArray} {k a b e : Nat} {l m : List Tk} {R : Nat × List Tk × Nat} (h : lexF s (k + 1) a l = R) (ha : a < s.size) (ho : one s a = (b, m, e)) (he : e ≠ 0) : R = (a, [], e) := by
  rw [← h, lexF, if_pos ha, ho, if_neg he]
theorem lexF_end {s : ByteArray} {k a : Nat} {l : List Tk} {R : Nat × List Tk × Nat} (h : lexF s (k + 1) a l = R) (ha : ¬ a < s.size) : R = (0, l ++ [⟨6, s.size, ⟨#[]⟩, 0, 0, 0⟩], 0) := by
  rw [← h, lexF, if_neg ha]
def lexR (s : ByteArray) : Nat × List Tk × Nat := if 8000 < s.size then (0, [], 32) else lexF s (s.size + 1) 0 []
def prT : ByteArray → List Tk → ByteArray
  | a, [] => a
  | a, t :: l => if t.kind = 6 then prT a l else prT ((if a.toList.isEmpty then a else a ++ ⟨#[32]⟩) ++ t.text) l
end Go.Proofs.Ytmpahllkbpofnaa
