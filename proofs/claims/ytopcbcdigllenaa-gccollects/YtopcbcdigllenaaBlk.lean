/- The arena as a row of blocks, pure; the arena in memory. -/
import Derived.Test.YtopcbcdigllenaaMem
namespace Go.Proofs.Ytopcbcdigllenaa
open Go.ChangeShapes Go.WideShapes Go.ChangeAt Go.RowKit

/-- A block: free, with the words behind its first one; or an object, with its class and its words. -/
inductive Blk where
  | free (j : List Nat)
  | obj (c : Nat) (ws : List Nat)

def Blk.len : Blk → Nat
  | .free j => j.length + 1
  | .obj _ ws => ws.length + 2

def Blk.isObj : Blk → Bool
  | .free _ => false
  | .obj _ _ => true

/-- What a block is, in its first word. -/
def Blk.bit : Blk → Nat
  | .free _ => 0
  | .obj _ _ => 1

def Blk.words : Blk → List Nat
  | .free j => (2 * (j.length + 1)) :: j
  | .obj c ws => (2 * (ws.length + 2) + 1) :: c :: ws

def flat (bs : List Blk) : List Nat := bs.flatMap Blk.words

/-- How many words. -/
def siz (bs : List Blk) : Nat := (flat bs).length

theorem Blk.words_length (b : Blk) : b.words.length = b.len := by cases b <;> rfl

theorem Blk.len_pos (b : Blk) : 0 < b.len := by cases b <;> simp [Blk.len]

theorem flat_cons (b : Blk) (r : List Blk) : flat (b :: r) = b.words ++ flat r := rfl
theorem flat_append (a b : List Blk) : flat (a ++ b) = flat a ++ flat b := by simp [flat]
theorem siz_nil : siz [] = 0 := rfl
theorem siz_cons (b : Blk) (r : List Blk) : siz (b :: r) = b.len + siz r := by simp [siz, flat_cons, Blk.words_length]
theorem siz_append (a b : List Blk) : siz (a ++ b) = siz a + siz b := by simp [siz, flat_append]

theorem words_head (b : Blk) : b.words[0]? = some (2 * b.len + b.bit) := by cases b <;> rfl

theorem flat_head (a : List Blk) (b : Blk) (r : List Blk) : (flat (a ++ b :: r))[siz a]? = some (2 * b.len + b.bit) := by
  rw [flat_append, List.getElem?_append_right (by unfold siz; omega), flat_cons]
  unfold siz
  rw [Nat.sub_self, List.getElem?_append_left (by rw [Blk.words_length]; exact b.len_pos)]
  exact words_head b

/-- In block p lies the arena, its words in block g. -/
structure HW (w : World) (p g : Nat) (W : List Nat) : Prop where
  hd : w.heap[p]? = some (.cells #[.slice (some ⟨g, 0, none⟩) W.length W.length] 75 (0, 0))
  row : w.heap[g]? = some (.cells (cg elU W).toArray 28 (0, 0))
  len : W.length ≤ 2048

/-- The arena whose blocks these are. -/
abbrev HP (w : World) (p g : Nat) (bs : List Blk) : Prop := HW w p g (flat bs)

theorem HW.kept {S : Nat → Prop} {w w' : World} {p g : Nat} {W : List Nat} (h : HW w p g W) (hf : Fr S w w') (hp : ¬ S p) (hg : ¬ S g) : HW w' p g W :=
  ⟨hf.heap h.hd hp, hf.heap h.row hg, h.len⟩

theorem HW.keep {w w' : World} {p g : Nat} {W : List Nat} (h : HW w p g W) (hf : Fr no w w') : HW w' p g W := h.kept hf (fun f => f) (fun f => f)

theorem HW.drewN {w : World} {p g : Nat} {W : List Nat} (h : HW w p g W) (n : Nat) : HW (w.drewN n) p g W := ⟨h.hd, h.row, h.len⟩

theorem HW.ne {w : World} {p g : Nat} {W : List Nat} (h : HW w p g W) : p ≠ g := by
  intro e
  have := h.row
  rw [← e, h.hd] at this
  simp at this

theorem HW.cell {w : World} {p g : Nat} {W : List Nat} (h : HW w p g W) : w.cell? ⟨p, 0, none⟩ = some (.slice (some ⟨g, 0, none⟩) W.length W.length) := by
  simp [World.cell?, h.hd]

theorem HW.word {w : World} {p g : Nat} {W : List Nat} (h : HW w p g W) {i x : Nat} (hx : W[i]? = some x) : w.cell? ⟨g, i, none⟩ = some (.int .u64 (x : Int)) := by
  have := cg_get elU_ok W i x hx 0 (.int .u64 (x : Int)) rfl
  simp only [elU, Nat.mul_one, Nat.add_zero] at this
  simp [World.cell?, h.row]
  exact this

theorem HW.thaw {w : World} {p g : Nat} {W : List Nat} (h : HW w p g W) (i : Nat) : w.frozen? ⟨g, i, none⟩ = false := by
  simp [World.frozen?, h.row]

theorem cg_set (W : List Nat) (i x : Nat) : cg elU (W.set i x) = (cg elU W).set i (.int .u64 (x : Int)) := by
  have e : ∀ l : List Nat, cg elU l = l.map (fun n : Nat => Value.int .u64 (n : Int)) := by
    intro l
    induction l with
    | nil => rfl
    | cons y l ih =>
      have : cg elU (y :: l) = elU.f y ++ cg elU l := rfl
      rw [this, ih]
      rfl
  rw [e, e, List.map_set]

theorem HW.set {w : World} {p g : Nat} {W : List Nat} (h : HW w p g W) (i x : Nat) : HW (w.setCell ⟨g, i, none⟩ (.int .u64 (x : Int))) p g (W.set i x) ∧ Fr (fun k => k = g) w (w.setCell ⟨g, i, none⟩ (.int .u64 (x : Int))) := by
  refine ⟨⟨?_, ?_, by simpa using h.len⟩, (Fr.refl (fun k => k = g) w).setCell (p := ⟨g, i, none⟩) (fun _ => rfl) _⟩
  · rw [Below.heap_setCell w _ _ p (fun e => h.ne e), h.hd]
    simp
  · unfold World.setCell
    simp only [Array.getElem?_modify, if_true, h.row]
    simp [cg_set]

theorem ptr_p {w : World} {p g : Nat} {W : List Nat} (h : HW w p g W) : w.frozen? ⟨p, 0, none⟩ = false := by
  simp [World.frozen?, h.hd]

/-- lengthOf. -/
theorem lengthOf_any (w : World) (k : Nat) (hk : k < 4000) : Calls Try.prog 55 #[.int .i64 ((k : Int) + 1)] w fun e w' => e = .returned (.int .i64 (k : Int)) ∧ w' = w := by
  go_enter Try.func55, Try.ntmps55
  go_wp2_with fail
  go_ret
  refine ⟨?_, rfl⟩
  congr 2

theorem classOf_any (w : World) (k : Int) : Calls Try.prog 47 #[.int .i64 k] w fun e w' => e = .returned (.int .i64 k) ∧ w' = w := by
  go_enter Try.func47, Try.ntmps47
  go_wp2_with fail
  go_ret
  exact ⟨rfl, rfl⟩

theorem wordOf_any (w : World) (k i : Nat) (hk : k < 4000) (hi : i < 4000) : Calls Try.prog 44 #[.int .i64 ((k : Int) + 1), .int .i64 (i : Int)] w fun e w' => e = .returned (.int .i64 ((k + 2 + i : Nat) : Int)) ∧ w' = w := by
  go_enter Try.func44, Try.ntmps44
  go_wp2_with fail
  go_ret
  refine ⟨?_, rfl⟩
  congr 2

theorem size_any (w : World) (p g : Nat) (W : List Nat) (h : HW w p g W) : Calls Try.prog 45 #[.pointer (some ⟨p, 0, none⟩)] w fun e w' => e = .returned (.int .i64 (W.length : Int)) ∧ w' = w := by
  have hc := h.cell
  have hl := h.len
  clear h
  generalize W.length = n at *
  go_enter Try.func45, Try.ntmps45
  go_wp2_with fail
  go_ret
  exact ⟨rfl, rfl⟩
end Go.Proofs.Ytopcbcdigllenaa
