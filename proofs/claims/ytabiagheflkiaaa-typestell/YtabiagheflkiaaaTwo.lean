/- Two rows of texts that grow beside each other; a letter out of a text. -/
import Derived.Test.YtabiagheflkiaaaKnown
namespace Go.Proofs.Ytabiagheflkiaaa
open Go.ChangeShapes Go.WideShapes Go.ChangeAt Go.RowKit

theorem slice_one (s : ByteArray) (j : Nat) (h : j + 1 ≤ s.size) (w : World) : (Instr.slice 9 (.string s) (some (.int .i64 (j : Int))) (some (.int .i64 ((j : Int) + 1))) none).run Try.prog w = .ok (.string (s.extract j (j + 1))) w := by
  rw [run_slice_string w 9 _ .i64 .i64 (j : Int) ((j : Int) + 1) Try.underlying9 (by omega) (by omega) (by omega)]
  rw [show ((j : Int) + 1).toNat = j + 1 by omega, Int.toNat_natCast]

/-- Two rows of one's own, new since w0, that share no memory. -/
structure Pair (w0 wr : World) (v u : Value) (l m : List ByteArray) : Prop where
  one : OwnG elS wr v l
  two : OwnG elS wr u m
  new1 : NewV w0 v
  new2 : NewV w0 u
  apart : ∀ k, v.ownBlock = some k → u.ownBlock ≠ some k
  fr : Fr no w0 wr

theorem Pair.nil (w : World) : Pair w w (.slice none 0 0) (.slice none 0 0) [] [] := ⟨OwnG.nil _ _, OwnG.nil _ _, NewV.nil _, NewV.nil _, fun k h => by simp [Value.ownBlock] at h, Fr.refl _ _⟩

section
variable {w0 wr w2 : World} {v u v' : Value} {l m l' : List ByteArray}

theorem Pair.own1 (h : Pair w0 wr v u l m) (c : Array Value) (t : TypeId) : OwnG elS (wr.alloc (.cells c t)) v l := h.one.keep ((Fr.refl no wr).alloc _ _)
theorem Pair.own2 (h : Pair w0 wr v u l m) (c : Array Value) (t : TypeId) : OwnG elS (wr.alloc (.cells c t)) u m := h.two.keep ((Fr.refl no wr).alloc _ _)

theorem Pair.fst (h : Pair w0 wr v u l m) {c : Array Value} {t : TypeId} (s : Sp v (wr.alloc (.cells c t)) v' w2) (o : OwnG elS w2 v' l') : Pair w0 w2 v' u l' m := by
  obtain ⟨n1, f1⟩ := h.new1.step (h.fr.alloc c t) s
  refine ⟨o, (h.own2 c t).kept s.1 (fun k hk e => h.apart k e hk), n1, h.new2, fun k hk e => ?_, f1⟩
  have hlt : k < (wr.alloc (.cells c t)).heap.size := (h.own2 c t).lt e
  exact h.apart k (s.2 k hlt hk) e

theorem Pair.swap (h : Pair w0 wr v u l m) : Pair w0 wr u v m l := ⟨h.two, h.one, h.new2, h.new1, fun k a b => h.apart k b a, h.fr⟩

theorem Pair.snd (h : Pair w0 wr v u l m) {c : Array Value} {t : TypeId} (s : Sp u (wr.alloc (.cells c t)) v' w2) (o : OwnG elS w2 v' l') : Pair w0 w2 v v' l l' := (h.swap.fst s o).swap
end

/-- An append in a region that draws its order. -/
theorem step_apdG {α : Type} {K : El α} (hK : K.Ok) (w : World) {ops : Array Oper} {o : Oper} {a : Act} {K2 : Act → World → Prop} {Q : Exit → Act → World → Prop} {E : Prop}
    (hg : o.guard = none) (ht : o.type = K.t) (s x : Operand) (hop : o.op = Op.call { callee := Callee.builtin Builtin.append, args := #[s, x], argTypes := #[K.t, K.t] })
    (v : Value) (l : List α) (hs : a.eval s = v) (hown : OwnG K w v l) (xv : Value) (hx : a.eval x = xv) (m : List α) (hsrc : Src Try.prog 1 K.t xv m.length (cg K m) w)
    (hb : l.length + m.length ≤ 1000000)
    (hK' : ∀ v' w', OwnG K w' v' (l ++ m) → Sp v w v' w' → K2 (a.put o.dst v') w') :
    if Region.wanted o (yielded ops a.tmps) = true then Oper.wp Try.prog o a w K2 Q else E := by
  have hw : Region.wanted o (yielded ops a.tmps) = true := by simp [Region.wanted, hg]
  rw [if_pos hw]
  obtain ⟨v', w', hrun, r1, r2⟩ := run_apdG hK w v l hown xv m hsrc hb
  unfold Oper.wp
  simp [execOp, hop, ht, resolve, invoke, builtin, hs, hx, hrun, Result.andThen]
  exact hK' v' w' r1 r2

theorem Pair.drew {w0 wr : World} {v u : Value} {l m : List ByteArray} (h : Pair w0 wr v u l m) : Pair w0 wr.drew v u l m :=
  ⟨h.one.keep (Fr.refl no wr).drew, h.two.keep (Fr.refl no wr).drew, h.new1, h.new2, h.apart, h.fr.drew⟩

/-- A text laid into a row of one's own. -/
theorem own_store {w : World} {v : Value} {l : List ByteArray} (h : OwnG elS w v l) {i : Nat} (hi : i < l.length) (x : ByteArray) :
    ∃ g cap, v = .slice (some ⟨g, 0, none⟩) l.length cap ∧ w.frozen? ⟨g, i, none⟩ = false ∧ (∃ u, w.cell? ⟨g, i, none⟩ = some u) ∧
      SlG elS (w.setCell ⟨g, i, none⟩ (.string x)) v (l.set i x) ∧ Fr (fun k => v.ownBlock = some k) w (w.setCell ⟨g, i, none⟩ (.string x)) := by
  have h' := h
  rcases h.2 with ⟨rfl, h0⟩ | ⟨g, cap, cur, rfl, hb, hgg, hn, hm, hs, ht⟩
  · omega
  have hcell : ∀ (j : Nat) (y : ByteArray), l[j]? = some y → w.cell? ⟨g, j, none⟩ = some (.string y) := fun j y hj => by
    have := World.ownsRow.cells h' (g := g) rfl j _ (cg_get l j y hj)
    rw [Addr.add_lit] at this
    have e : (0 : Nat) + j = j := by omega
    rw [e] at this
    exact this
  obtain ⟨y, hy⟩ : ∃ y, l[i]? = some y := ⟨_, List.getElem?_eq_getElem hi⟩
  have hci := hcell i y hy
  refine ⟨g, cap, rfl, by simp [World.frozen?, hgg], ⟨_, hci⟩, ⟨_, cap, by simp, by simpa using hn, hm, fun e => by simp at e, fun j z hj => ⟨g, 0, rfl, ?_⟩⟩, (Fr.refl (fun k => (Value.slice (some ⟨g, 0, none⟩) l.length cap).ownBlock = some k) w).setCell (p := ⟨g, i, none⟩) (fun _ => rfl) _⟩
  have hcur : cur[i]? ≠ none := fun e => by
    have := hci
    simp [World.cell?, hgg, e] at this
  have hset : (w.setCell ⟨g, i, none⟩ (.string x)).heap[g]? = some (.cells (cur.setIfInBounds i (.string x)) 9 (0, 0)) := by
    unfold World.setCell
    rw [Array.getElem?_modify, if_pos rfl, hgg]
    rfl
  rw [List.getElem?_set] at hj
  by_cases hji : i = j
  · subst hji
    rw [if_pos rfl, if_pos hi] at hj
    simp only [Option.some.injEq] at hj
    subst hj
    simp only [World.cell?, hset, Nat.zero_add]
    rw [Array.getElem?_setIfInBounds_self_of_lt]
    · rfl
    · exact Nat.lt_of_not_le (fun hle => hcur (Array.getElem?_eq_none hle))
  · rw [if_neg hji] at hj
    have := hcell j z hj
    simp only [World.cell?, hset, Nat.zero_add]
    simp only [World.cell?, hgg] at this
    rw [Array.getElem?_setIfInBounds_ne hji]
    exact this
end Go.Proofs.Ytabiagheflkiaaa
