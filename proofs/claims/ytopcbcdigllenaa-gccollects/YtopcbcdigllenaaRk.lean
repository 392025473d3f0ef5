/- The document's Alloc. -/
import Derived.Test.YtopcbcdigllenaaRj
import Derived.Deep.CutBlock
import Derived.Deep.DeepCutAuto
namespace Go.Proofs.Ytopcbcdigllenaa
open Go.ChangeShapes Go.WideShapes Go.ChangeAt Go.RowKit

def zO : Ob := ⟨0, 0, [], none⟩

/-- All of the document's arena lies from a block on. -/
structure RB (base : Nat) (w : World) (q : Nat) (T : List Ob) : Prop where
  low : base ≤ q
  v : ∀ v, w.cell? ⟨q, 1, none⟩ = some v → ∀ k, v.ownBlock = some k → base ≤ k
  b : ∀ o ∈ T, ∀ k, o.blk = some k → base ≤ k

/-- Blocks from one on that are the document's arena's, its words aside. -/
def TS (base : Nat) (w : World) (k : Nat) : Prop := base ≤ k ∧ ∃ cs t, w.heap[k]? = some (.cells cs t (0, 0)) ∧ (t = 43 ∨ t = 40)

theorem RR.cellv {w : World} {q g : Nat} {size : Int} {T : List Ob} (h : RR w q g size T) : ∃ v, w.heap[q]? = some (.cells #[.int .i64 size, v] 43 (0, 0)) ∧ OwnG elO w v T ∧ w.cell? ⟨q, 1, none⟩ = some v := by
  obtain ⟨v, h1, h2⟩ := h.hd
  exact ⟨v, h1, h2, by simp [World.cell?, h1]⟩

theorem two_cells {w : World} {q : Nat} {a b : Value} {t : TypeId} (h : w.heap[q]? = some (.cells #[a, b] t (0, 0))) : w.cell? ⟨q, 1, none⟩ = some b ∧ w.frozen? ⟨q, 1, none⟩ = false := by
  constructor
  · simp [World.cell?, h]
  · simp [World.frozen?, h]

/-- A row with room for one more, in the arena's place; then all from A's end on one further; then the new one. -/
theorem refAlloc_steps {base : Nat} {w : World} {q g : Nat} {size : Int} {A B : List Ob} (h : RR w q g size (A ++ B)) (hb : RB base w q (A ++ B)) (hbw : base ≤ w.heap.size) (hg : g < w.heap.size) (pl : Int) (c n : Nat) (hn : n ≤ 2048)
    {v' : Value} {w3 : World} (o3 : OwnG elO w3 v' ((A ++ B) ++ [zO])) {v : Value} (hv : w.cell? ⟨q, 1, none⟩ = some v) (s3 : Sp v (w.alloc (.cells (elO.f zO).toArray 40)) v' w3) :
    ∃ gg oo cc, v' = .slice (some ⟨gg, oo, none⟩) ((A ++ B).length + 1) cc ∧ w3.cell? ⟨q, 1, none⟩ = some v ∧ w3.frozen? ⟨q, 1, none⟩ = false ∧
      (w3.setCell ⟨q, 1, none⟩ v').cell? ⟨q, 1, none⟩ = some v' ∧
      ∃ dv sv w5, (∀ w1, (Instr.slice 41 v' (some (.int .i64 ((A.length : Int) + 1))) none none).run Try.prog w1 = .ok dv w1) ∧
        (∀ w1, (Instr.sliceAt 41 v' (some (.int .i64 ((A.length : Int) + 1))) none none).run Try.prog w1 = .ok dv w1) ∧
        (∀ w1, (Instr.slice 41 v' (some (.int .i64 (A.length : Int))) none none).run Try.prog w1 = .ok sv w1) ∧
        (∀ w1, (Instr.sliceAt 41 v' (some (.int .i64 (A.length : Int))) none none).run Try.prog w1 = .ok sv w1) ∧
        (∃ m : Int, ∀ ty, (Builtin.copy_ #[41, 41] ty #[dv, sv]).run Try.prog (w3.setCell ⟨q, 1, none⟩ v').drew = .ok (.int .i64 m) w5) ∧
        w5.cell? ⟨q, 1, none⟩ = some v' ∧
        (w5.drew.alloc (.cells (cg elU (List.replicate n 0)).toArray 28)).cell? ⟨q, 1, none⟩ = some v' ∧
        (Instr.makeSlice 38 (.int .i64 (n : Int)) (.int .i64 (n : Int))).run Try.prog w5.drew = .ok (.slice (some ⟨w5.heap.size, 0, none⟩) n n) (w5.drew.alloc (.cells (cg elU (List.replicate n 0)).toArray 28)) ∧
        (∀ j, j < 3 → (∃ x, (w5.drew.alloc (.cells (cg elU (List.replicate n 0)).toArray 28)).cell? ⟨gg, oo + A.length * 3 + j, none⟩ = some x) ∧ (w5.drew.alloc (.cells (cg elU (List.replicate n 0)).toArray 28)).frozen? ⟨gg, oo + A.length * 3 + j, none⟩ = false) ∧
        ∃ w7, (Instr.storeAt 40 (.pointer (some ⟨gg, oo + A.length * 3, none⟩)) (.agg #[.int .i64 pl, .int .i64 (c : Int), .slice (some ⟨w5.heap.size, 0, none⟩) n n])).run Try.prog (w5.drew.alloc (.cells (cg elU (List.replicate n 0)).toArray 28)) = .ok () w7 ∧
          (RR w7 q g size (A ++ ⟨pl, c, List.replicate n 0, some w5.heap.size⟩ :: B) ∧ RB base w7 q (A ++ ⟨pl, c, List.replicate n 0, some w5.heap.size⟩ :: B) ∧ Fr (TS base w) w w7) := by
  obtain ⟨v0, hq0, ho0, hc0⟩ := h.cellv
  rw [hv] at hc0
  simp only [Option.some.injEq] at hc0
  subst hc0
  have fA : Fr no w (w.alloc (.cells (elO.f zO).toArray 40)) := (Fr.refl no w).alloc _ _
  -- the blocks that may turn
  have hvk : ∀ k, v.ownBlock = some k → base ≤ k ∧ ∃ cs, w.heap[k]? = some (.cells cs 40 (0, 0)) := fun k hk => ⟨hb.v v hv k hk, ho0.tag hk⟩
  have f3 : Fr (TS base w) w w3 := fA.up.trans s3.1 (fun _ _ x => x) (fun k hk e => by
    obtain ⟨h1, cs, h2⟩ := hvk k e
    exact ⟨h1, cs, 40, h2, .inr rfl⟩)
  have hq3 : w3.heap[q]? = some (.cells #[.int .i64 size, v] 43 (0, 0)) := by
    have h1 := fA.heap hq0 (fun x => x)
    refine s3.1.heap h1 (fun e => ?_)
    obtain ⟨-, cs, h2⟩ := hvk q e
    rw [hq0] at h2
    simp at h2
  obtain ⟨gg, oo, cc, cur3, hv', hcur3⟩ : ∃ gg oo cc cur, v' = .slice (some ⟨gg, oo, none⟩) ((A ++ B).length + 1) cc ∧ w3.heap[gg]? = some (.cells cur 40 (0, 0)) := by
    rcases o3 with ⟨_, h0⟩ | ⟨gg, oo, cc, cur, hv, hc, _⟩
    · simp at h0
    · exact ⟨gg, oo, cc, cur, by rw [hv, List.length_append]; rfl, hc⟩
  subst hv'
  have hggv : gg < w.heap.size → v.ownBlock = some gg := fun hlt => s3.2 gg (Nat.lt_of_lt_of_le hlt fA.size) rfl
  have hggb : base ≤ gg := by
    by_cases hlt : gg < w.heap.size
    · exact (hvk gg (hggv hlt)).1
    · omega
  have hggq : gg ≠ q := fun e => by rw [e, hq3] at hcur3; simp at hcur3
  -- the row is laid
  have F4 : Fr (fun k => k = q) w3 (w3.setCell ⟨q, 1, none⟩ (.slice (some ⟨gg, oo, none⟩) ((A ++ B).length + 1) cc)) := (Fr.refl (fun k => k = q) w3).setCell (p := ⟨q, 1, none⟩) (fun _ => rfl) _
  have hq4 : (w3.setCell ⟨q, 1, none⟩ (.slice (some ⟨gg, oo, none⟩) ((A ++ B).length + 1) cc)).heap[q]? = some (.cells #[.int .i64 size, (.slice (some ⟨gg, oo, none⟩) ((A ++ B).length + 1) cc)] 43 (0, 0)) := by
    unfold World.setCell
    simp only [Array.getElem?_modify, if_true, hq3]
    simp
  have o4 : OwnG elO (w3.setCell ⟨q, 1, none⟩ (.slice (some ⟨gg, oo, none⟩) ((A ++ B).length + 1) cc)).drew (.slice (some ⟨gg, oo, none⟩) ((A ++ B).length + 1) cc) ((A ++ B) ++ [zO]) := (o3.kept F4 (fun k hk e => by simp [Value.ownBlock] at hk; exact hggq (by omega))).keep (Fr.refl no _).drew
  obtain ⟨dv, sv, w5, y, r1, r2, r3, r4, r5, o5, f5⟩ := shift_any elO_ok elem41 o4 A.length (by simp)
  have f45 : Fr (fun k => k = q ∨ k = gg) w3 w5 := (F4.drewN 1).trans f5 (fun _ _ e => .inl e) (fun _ _ e => .inr e)
  have hq5 : w5.heap[q]? = some (.cells #[.int .i64 size, (.slice (some ⟨gg, oo, none⟩) ((A ++ B).length + 1) cc)] 43 (0, 0)) := f5.heap (w := (w3.setCell ⟨q, 1, none⟩ (.slice (some ⟨gg, oo, none⟩) ((A ++ B).length + 1) cc)).drew) hq4 (fun e => hggq e.symm)
  have hq5c : w5.cell? ⟨q, 1, none⟩ = some (.slice (some ⟨gg, oo, none⟩) ((A ++ B).length + 1) cc) := by simp [World.cell?, hq5]
  have f6 : Fr no w5 (w5.drew.alloc (.cells (cg elU (List.replicate n 0)).toArray 28)) := (Fr.refl no w5).drew.alloc _ _
  have o6 := o5.keep f6
  obtain ⟨cur6, hg6, hfit6, how⟩ := o6.turn elO_ok A.length [⟨pl, c, List.replicate n 0, some w5.heap.size⟩] (by simp)
  have hst := run_storeG elO_ok _ gg (oo + A.length * elO.n) ⟨pl, c, List.replicate n 0, some w5.heap.size⟩ cur6 hg6 hfit6
  have hrow : (List.take A.length (A ++ B) ++ y :: List.drop A.length (A ++ B)).take A.length ++ [⟨pl, c, List.replicate n 0, some w5.heap.size⟩] ++ (List.take A.length (A ++ B) ++ y :: List.drop A.length (A ++ B)).drop (A.length + ([⟨pl, c, List.replicate n 0, some w5.heap.size⟩] : List Ob).length) = A ++ ⟨pl, c, List.replicate n 0, some w5.heap.size⟩ :: B := by
    simp
  rw [hrow] at how
  have hggl : gg < w5.heap.size := by
    rcases o5 with ⟨h0, _⟩ | ⟨g', o', c', cur', he, hc', _⟩
    · simp at h0
    · simp only [Value.slice.injEq, Option.some.injEq, Addr.mk.injEq] at he
      rw [he.1.1]
      exact lt_of_heap hc'
  have hwl : w.heap.size ≤ w5.heap.size := Nat.le_trans f3.size f45.size
  generalize hW6 : w5.drew.alloc (.cells (cg elU (List.replicate n 0)).toArray 28) = W6 at *
  generalize hW7 : W6.setRow gg (cur6.toList.take (oo + A.length * elO.n) ++ cg elO [⟨pl, c, List.replicate n 0, some w5.heap.size⟩] ++ cur6.toList.drop (oo + A.length * elO.n + (cg elO [⟨pl, c, List.replicate n 0, some w5.heap.size⟩]).length)).toArray = w7 at *
  have f7 : Fr (fun k => k = gg) W6 w7 := by rw [← hW7]; exact setRow_fr _ _ _
  have FF : Fr (TS base w) w w7 := by
    refine ((f3.trans f45 (fun _ _ x => x) (fun k hk e => ?_)).trans f6 (fun _ _ x => x) (fun _ _ f => f.elim)).trans f7 (fun _ _ x => x) (fun k hk e => ?_)
    · rcases e with rfl | rfl
      · exact ⟨hb.low, _, 43, hq0, .inl rfl⟩
      · obtain ⟨h1, cs, h2⟩ := hvk _ (hggv hk)
        exact ⟨h1, cs, 40, h2, .inr rfl⟩
    · subst e
      obtain ⟨h1, cs, h2⟩ := hvk _ (hggv hk)
      exact ⟨h1, cs, 40, h2, .inr rfl⟩
  have hq7 : w7.heap[q]? = some (.cells #[.int .i64 size, (.slice (some ⟨gg, oo, none⟩) ((A ++ B).length + 1) cc)] 43 (0, 0)) := f7.heap (f6.heap hq5 (fun x => x)) (fun e => hggq e.symm)
  have hnb : w7.heap[w5.heap.size]? = some (.cells (cg elU (List.replicate n 0)).toArray 28 (0, 0)) := by
    refine f7.heap ?_ (fun e => by omega)
    rw [← hW6]
    exact heap_alloc_new w5.drew _
  have hold : ∀ x ∈ A ++ B, ∃ b, x.blk = some b ∧ b ≠ g ∧ w7.heap[b]? = some (.cells (cg elU x.ws).toArray 28 (0, 0)) ∧ b < w.heap.size := fun x hx => by
    obtain ⟨b, h1, h2, h3⟩ := h.wd x hx
    refine ⟨b, h1, h2, FF.heap h3 (fun hts => ?_), lt_of_heap h3⟩
    obtain ⟨-, cs, t, ht, hh⟩ := hts
    rw [h3] at ht
    simp only [Option.some.injEq, Obj.cells.injEq] at ht
    obtain ⟨-, ht2, -⟩ := ht
    rw [← ht2] at hh
    exact absurd hh (by decide)
  have hmem : ∀ x, x ∈ A ++ ⟨pl, c, List.replicate n 0, some w5.heap.size⟩ :: B → x = ⟨pl, c, List.replicate n 0, some w5.heap.size⟩ ∨ x ∈ A ++ B := fun x hx => by
    rcases List.mem_append.1 hx with h1 | h1
    · exact .inr (List.mem_append_left _ h1)
    · rcases List.mem_cons.1 h1 with h1 | h1
      · exact .inl h1
      · exact .inr (List.mem_append_right _ h1)
  refine ⟨gg, oo, cc, rfl, (two_cells hq3).1, (two_cells hq3).2, (two_cells hq4).1, dv, sv, w5, r1, r2, r3, r4, r5, hq5c, by rw [hW6]; exact f6.cell hq5c (fun x => x), run_new w5.drew n hn, fun j hj => ?_, w7, ?_, ⟨⟨_, hq7, how⟩, fun x hx => ?_, ?_⟩, ⟨hb.low, fun v hv k hk => ?_, fun x hx k hk => ?_⟩, FF⟩
  · rw [hW6]
    have h3 : (cg elO [⟨pl, c, List.replicate n 0, some w5.heap.size⟩]).length = 3 := rfl
    have h3n : A.length * elO.n = A.length * 3 := rfl
    rw [h3, h3n] at hfit6
    obtain ⟨x, hx⟩ : ∃ x, cur6[oo + A.length * 3 + j]? = some x := ⟨_, Array.getElem?_eq_getElem (by omega)⟩
    exact ⟨⟨x, by simp [World.cell?, hg6, hx]⟩, by simp [World.frozen?, hg6]⟩
  · rw [hW6]
    have := hst
    simpa [elO, Ob.sl] using this
  · rcases hmem x hx with rfl | hx
    · exact ⟨_, rfl, by omega, hnb⟩
    · obtain ⟨b, h1, h2, h3, -⟩ := hold x hx
      exact ⟨b, h1, h2, h3⟩
  · have hd := h.dup
    rw [List.map_append, List.nodup_append] at hd
    rw [List.map_append, List.map_cons, List.nodup_append, List.nodup_cons]
    have hne : ∀ x ∈ A ++ B, x.blk ≠ some w5.heap.size := fun x hx e => by
      obtain ⟨b, h1, -, -, h4⟩ := hold x hx
      rw [h1] at e
      simp only [Option.some.injEq] at e
      omega
    refine ⟨hd.1, ⟨fun hm => ?_, hd.2.1⟩, fun a ha b hb' => ?_⟩
    · obtain ⟨x, hx, he⟩ := List.mem_map.1 hm
      exact hne x (List.mem_append_right _ hx) he
    · rcases List.mem_cons.1 hb' with rfl | hb'
      · intro e
        obtain ⟨x, hx, he⟩ := List.mem_map.1 ha
        exact hne x (List.mem_append_left _ hx) (he.trans e)
      · exact hd.2.2 a ha b hb'
  · have hc : w7.cell? ⟨q, 1, none⟩ = some (.slice (some ⟨gg, oo, none⟩) ((A ++ B).length + 1) cc) := by simp [World.cell?, hq7]
    rw [hc] at hv
    simp only [Option.some.injEq] at hv
    subst hv
    simp only [Value.ownBlock, Option.some.injEq] at hk
    omega
  · rcases hmem x hx with rfl | hx
    · simp only [Option.some.injEq] at hk
      omega
    · exact hb.b x hx k hk
end Go.Proofs.Ytopcbcdigllenaa
