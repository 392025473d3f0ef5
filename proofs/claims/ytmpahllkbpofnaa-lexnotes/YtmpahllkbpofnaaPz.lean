/- Small facts on blocks and tokens in memory. -/
import Derived.Test.YtmpahllkbpofnaaMem
import Derived.Test.YtmpahllkbpofnaaCut
import Derived.Test.YtmpahllkbpofnaaX0
import Derived.Test.YtmpahllkbpofnaaLt
namespace Go.Proofs.Ytmpahllkbpofnaa
open Go.ChangeShapes Go.WideShapes Go.ChangeAt Go.RowKit

/-- Block p alone. -/
def Bk (p : Nat) : Nat → Prop := fun k => k = p

theorem Fr.bk {p : Nat} {a b c : World} (h : Fr (Bk p) a b) (k : Fr (Bk p) b c) : Fr (Bk p) a c := h.trans k (fun _ _ f => f) (fun _ _ f => f)
theorem Fr.tob {p : Nat} {a b : World} (h : Fr no a b) : Fr (Bk p) a b := h.mono (fun _ _ f => f.elim)

theorem own_ne {α : Type} {K : El α} {w : World} {v : Value} {l : List α} (h : OwnG K w v l) {p : Nat} {cs : Array Value} {t : TypeId} (hp : w.heap[p]? = some (.cells cs t (0, 0))) (ht : K.e ≠ t) : ∀ k, v.ownBlock = some k → ¬ Bk p k := by
  intro k hk e
  obtain ⟨cur, hc⟩ := h.tag hk
  unfold Bk at e
  subst e
  rw [hc] at hp
  simp only [Option.some.injEq, Obj.cells.injEq] at hp
  exact ht hp.2.1

theorem cell_of {w : World} {p : Nat} {cs : Array Value} {t : TypeId} (h : w.heap[p]? = some (.cells cs t (0, 0))) (j : Nat) (u : Value) (hj : cs[j]? = some u) : w.cell? ⟨p, j, none⟩ = some u := by
  unfold World.cell?
  simp only [h]
  simpa using hj

theorem frozen_at {w : World} {g o : Nat} {c : Array Value} {t : TypeId} (h : w.heap[g]? = some (.cells c t (0, 0))) : w.frozen? ⟨g, o, none⟩ = false := by
  unfold World.frozen?
  simp [h]
theorem box5 {w : World} {q : Nat} {a0 a1 a2 a3 a4 : Value} {t : TypeId} (h : w.heap[q]? = some (.cells #[a0, a1, a2, a3, a4] t (0, 0))) :
    w.cell? ⟨q, 0, none⟩ = some a0 ∧ w.cell? ⟨q, 1, none⟩ = some a1 ∧ w.cell? ⟨q, 2, none⟩ = some a2 ∧ w.cell? ⟨q, 3, none⟩ = some a3 ∧ w.cell? ⟨q, 4, none⟩ = some a4 := by
  refine ⟨?_, ?_, ?_, ?_, ?_⟩ <;> simp [World.cell?, h]
/-- The walk's own law for a store of a complex number. -/
theorem store_cx (w : World) (x : Addr) (re im : Nat) : (store x (.complex .f64 re im)).run Try.prog w = match w.cell? x with
    | some _ => if w.frozen? x then .halt (.unsupported (.unsafePointer "a write to bytes that a string shares")) w else .ok () (w.setCell x (.complex .f64 re im))
    | none => match w.farStore Try.prog x (.complex .f64 re im) false with
      | .ok (w, _) => .ok () w
      | .error h => .halt h w := rfl

/-! ### Worlds that are letters -/
section
variable {c : Code} {Q : Exit → Act → World → Prop} {a : Act} {W : World} {cs : Array Value} {t : TypeId} {f : FuncId} {args : Array Value} {R : Ending → World → Prop} {r : Nat}
theorem new_wp (h : ∀ w', w'.heap[W.heap.size]? = some (.cells cs t (0, 0)) → Fr no W w' → Code.wp Try.prog c Q a w') : Code.wp Try.prog c Q a (W.alloc (.cells cs t)) :=
  h _ (heap_alloc_new W _) ((Fr.refl no W).alloc _ _)
theorem new_calls (h : ∀ w', w'.heap[W.heap.size]? = some (.cells cs t (0, 0)) → Fr no W w' → Calls Try.prog f args w' R) : Calls Try.prog f args (W.alloc (.cells cs t)) R :=
  h _ (heap_alloc_new W _) ((Fr.refl no W).alloc _ _)
theorem heap_set {w : World} {g o : Nat} {x : Array Value} {t : TypeId} {u : Value} (h : w.heap[g]? = some (.cells x t (0, 0))) : (w.setCell ⟨g, o, none⟩ u).heap[g]? = some (.cells (x.setIfInBounds o u) t (0, 0)) := by
  unfold World.setCell
  simp only [Array.getElem?_modify, if_true, h, Option.map_some]
  rfl
theorem fr_set (w : World) (g o : Nat) (u : Value) : Fr (Bk g) w (w.setCell ⟨g, o, none⟩ u) := (Fr.refl (Bk g) w).setCell (p := ⟨g, o, none⟩) (fun _ => rfl) u
variable {x0 x1 x2 x3 x4 y0 y1 y2 y3 y4 : Value}
abbrev sets5 (W : World) (r : Nat) (x0 x1 x2 x3 x4 : Value) : World := ((((W.setCell ⟨r, 0, none⟩ x0).setCell ⟨r, 1, none⟩ x1).setCell ⟨r, 2, none⟩ x2).setCell ⟨r, 3, none⟩ x3).setCell ⟨r, 4, none⟩ x4
theorem sets5_heap (h : W.heap[r]? = some (.cells #[y0, y1, y2, y3, y4] t (0, 0))) : (sets5 W r x0 x1 x2 x3 x4).heap[r]? = some (.cells #[x0, x1, x2, x3, x4] t (0, 0)) := by
  have := heap_set (o := 4) (u := x4) (heap_set (o := 3) (u := x3) (heap_set (o := 2) (u := x2) (heap_set (o := 1) (u := x1) (heap_set (o := 0) (u := x0) h))))
  simpa using this
theorem sets5_fr : Fr (Bk r) W (sets5 W r x0 x1 x2 x3 x4) := ((((fr_set W r 0 x0).bk (fr_set _ r 1 x1)).bk (fr_set _ r 2 x2)).bk (fr_set _ r 3 x3)).bk (fr_set _ r 4 x4)
theorem sets5_wp (h : W.heap[r]? = some (.cells #[y0, y1, y2, y3, y4] t (0, 0))) (H : ∀ w', w'.heap[r]? = some (.cells #[x0, x1, x2, x3, x4] t (0, 0)) → Fr (Bk r) W w' → Code.wp Try.prog c Q a w') : Code.wp Try.prog c Q a (sets5 W r x0 x1 x2 x3 x4) :=
  H _ (sets5_heap h) sets5_fr
end

/-- A token's cells, one by one. -/
theorem tok_cells {w : World} {o : Option Addr} {n c : Nat} {L : List Tk} (h : OwnG elK w (.slice o n c) L) {i : Nat} {x : Tk} (hx : L[i]? = some x) :
    ∃ b off, o = some ⟨b, off, none⟩ ∧ n = L.length ∧ ∀ (j : Nat) (u : Value), (tkL x)[j]? = some u → w.cell? ⟨b, off + i * 5 + j, none⟩ = some u := by
  rcases h with ⟨hn, rfl⟩ | ⟨g, o', cap', cur, he, hgg, hn, hm, hs, ht⟩
  · simp at hx
  · have h' : OwnG elK w (.slice (some ⟨g, o', none⟩) L.length cap') L := .inr ⟨g, o', cap', cur, rfl, hgg, hn, hm, hs, ht⟩
    simp only [Value.slice.injEq] at he
    obtain ⟨rfl, rfl, rfl⟩ := he
    refine ⟨g, o', rfl, rfl, fun j u hj => ?_⟩
    have := h'.cells _ u (cg_get elK_ok L i x hx j u hj)
    rw [← Nat.add_assoc] at this
    exact this


def zK : Array Value := #[.int .i64 0, .int .i64 0, .string { data := #[] }, .int .i64 0, .complex .f64 0 0]
theorem load43 {W : World} {r : Nat} {x0 x1 x2 x3 x4 : Value} (h : W.heap[r]? = some (.cells #[x0, x1, x2, x3, x4] 35 (0, 0))) : (loadVar 35 ⟨r, 0, none⟩).run Try.prog W = .ok (.agg #[x0, x1, x2, x3, x4]) W := run_loadVar_row (P := Try.prog) W r 35 35 #[x0, x1, x2, x3, x4] (0, 0) _ h Try.underlying35 rfl (by kernel_rfl)
theorem res43 {f : Func} {s : Nat} {W : World} {r : Nat} {x0 x1 x2 x3 x4 : Value} (h : W.heap[r]? = some (.cells #[x0, x1, x2, x3, x4] 35 (0, 0))) (tmps : Array Value) (hf : f.results = #[.cell s 35]) (h2 : tmps.getD s undef = .pointer (some ⟨r, 0, none⟩)) :
    (results f tmps).run Try.prog W = .ok (.agg #[x0, x1, x2, x3, x4]) W := by
  have h2' : tmps[s]?.getD undef = .pointer (some ⟨r, 0, none⟩) := by simpa using h2
  simp [results, hf, asAddr, h2', load43 h]

section
variable {f : Func} {s : Nat} {R : Ending → World → Prop} {W : World} {r : Nat} {x0 x1 x2 x3 x4 y0 y1 y2 y3 y4 : Value} {tmps : Array Value}
theorem alloc_cell {w : World} {x : Addr} {v : Value} (h : w.cell? x = some v) (cs : Array Value) (t : TypeId) : (w.alloc (.cells cs t)).cell? x = some v := ((Fr.refl no w).alloc cs t).cell h (fun f => f)
theorem heap_drew (w : World) : w.drew.heap = w.heap := rfl
theorem ret43v (V : World) (h : V.heap[r]? = some (.cells #[x0, x1, x2, x3, x4] 35 (0, 0))) (hR : R (.returned (.agg #[x0, x1, x2, x3, x4])) V) (hf : f.results = #[.cell s 35] := by kernel_rfl) (h2 : tmps.getD s undef = .pointer (some ⟨r, 0, none⟩) := by kernel_rfl) :
    bodyPost Try.prog f R .ret { tmps := tmps, defers := [] } V := bodyPost_ret (res43 h tmps hf h2) rfl hR
theorem ret43d (s : Nat) (h : W.heap[r]? = some (.cells #[y0, y1, y2, y3, y4] 35 (0, 0))) (hR : ∀ w', Fr (Bk r) W w' → R (.returned (.agg #[x0, x1, x2, x3, x4])) w') (hf : f.results = #[.cell s 35] := by kernel_rfl) (h2 : tmps.getD s undef = .pointer (some ⟨r, 0, none⟩) := by kernel_rfl) :
    bodyPost Try.prog f R .ret { tmps := tmps, defers := [] } (sets5 W r x0 x1 x2 x3 x4).drew := by
  have h1 := sets5_heap (x0 := x0) (x1 := x1) (x2 := x2) (x3 := x3) (x4 := x4) h
  have h2' := (sets5_fr (W := W) (r := r) (x0 := x0) (x1 := x1) (x2 := x2) (x3 := x3) (x4 := x4)).drew
  generalize sets5 W r x0 x1 x2 x3 x4 = V at *
  exact ret43v (s := s) V.drew h1 (hR _ h2') hf h2
theorem Fr.newBk {r : Nat} {w a b : World} (h : Fr no w a) (k : Fr (Bk r) a b) (hr : w.heap.size ≤ r) : Fr no w b := h.new k (fun i hi e => by unfold Bk at e; omega)
end

end Go.Proofs.Ytmpahllkbpofnaa
