/- Two rows of texts that grow beside each other; a letter out of a text. -/
import Derived.Test.YtabiagheflkiaaaKnown
namespace Go.Proofs.Ytabiagheflkiaaa
open Go.ChangeShapes Go.WideShapes Go.ChangeAt Go.RowKit

theorem slice_one (s : ByteArray) (j : Nat) (h : j + 1 ≤ s.size) (w : World) : (Instr.slice 9 (.string s) (some (.int .i64 (j : Int))) (some (.int .i64 ((j : Int) + 1))) none).run Try.prog w = .ok (.string (s.extract j (j + 1))) w := by
  rw [run_slice_string w 9 _ .i64 .i64 (j : Int) ((j : Int) + 1) Try.underlying9 (by omega) (by omega) (by omega)]
  rw [show ((j : Int) + 1).toNat = j + 1 by omega, Int.toNat_natCast]

/-- Two rows of one's own, new since w0, that share no memory. -/
structure Pair (w0 wr : World) (v u : Value) (l m : List ByteArray) : Prop where
  one : OwnG elS wr v l
  two : OwnG elS wr u m
  new1 : NewV w0 v
  new2 : NewV w0 u
  apart : ∀ k, v.ownBlock = some k → u.ownBlock ≠ some k
  fr : Fr no w0 wr

theorem Pair.nil (w : World) : Pair w w (.slice none 0 0) (.slice none 0 0) [] [] := ⟨OwnG.nil _ _, OwnG.nil _ _, NewV.nil _, NewV.nil _, fun k h => by simp [Value.ownBlock] at h, Fr.refl _ _⟩

section
variable {w0 wr w2 : World} {v u v' : Value} {l m l' : List ByteArray}

theorem Pair.own1 (h : Pair w0 wr v u l m) (c : Array Value) (t : TypeId) : OwnG elS (wr.alloc (.cells c t)) v l := h.one.keep ((Fr.refl no wr).alloc _ _)
theorem Pair.own2 (h : Pair w0 wr v u l m) (c : Array Value) (t : TypeId) : OwnG elS (wr.alloc (.cells c t)) u m := h.two.keep ((Fr.refl no wr).alloc _ _)

theorem Pair.fst (h : Pair w0 wr v u l m) {c : Array Value} {t : TypeId} (s : Sp v (wr.alloc (.cells c t)) v' w2) (o : OwnG elS w2 v' l') : Pair w0 w2 v' u l' m := by
  obtain ⟨n1, f1⟩ := h.new1.step (h.fr.alloc c t) s
  refine ⟨o, (h.own2 c t).kept s.1 (fun k hk e => h.apart k e hk), n1, h.new2, fun k hk e => ?_, f1⟩
  have hlt : k < (wr.alloc (.cells c t)).heap.size := (h.own2 c t).lt e
  exact h.apart k (s.2 k hlt hk) e

theorem Pair.swap (h : Pair w0 wr v u l m) : Pair w0 wr u v m l := ⟨h.two, h.one, h.new2, h.new1, fun k a b => h.apart k b a, h.fr⟩

theorem Pair.snd (h : Pair w0 wr v u l m) {c : Array Value} {t : TypeId} (s : Sp u (wr.alloc (.cells c t)) v' w2) (o : OwnG elS w2 v' l') : Pair w0 w2 v v' l l' := (h.swap.fst s o).swap
end
end Go.Proofs.Ytabiagheflkiaaa
