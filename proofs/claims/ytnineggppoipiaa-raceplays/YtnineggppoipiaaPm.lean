/- The program's map from places to clocks. -/
import Derived.Test.YtnineggppoipiaaRb
import Derived.DeepKeys4
import Derived.Maps.OwnSet
namespace Go.Proofs.Ytnineggppoipiaa
open Go.ChangeShapes Go.WideShapes Go.ChangeAt Go.RowKit

theorem laid0 : laidOutB Try.prog = true := by kernel_rfl
theorem keyed66 : Maps.Keyed Try.prog 66 := Maps.Keyed.of_law (deep_law_laid laid0 (m := Try.prog.types.size + 1) (by decide +kernel) (by decide +kernel) (by decide +kernel) (by decide +kernel))

/-- A number of Go's int. -/
def In (k : Int) : Prop := -9223372036854775808 ≤ k ∧ k ≤ 9223372036854775807
theorem wf_in {k : Int} (h : In k) : (Lit.int .i64 k).wf = true := WalkArith.wf_i64 h

/-- Whose clock it is. -/
structure Pk where
  k : Int
  t : Int
  a : Int
  i : Int
deriving DecidableEq
structure Pk.Ok (p : Pk) : Prop where
  k : In p.k
  t : In p.t
  a : In p.a
  i : In p.i
def pkL (p : Pk) : List Value := [.int .i64 p.k, .int .i64 p.t, .int .i64 p.a, .int .i64 p.i]
def pkV (p : Pk) : Value := .agg #[.int .i64 p.k, .int .i64 p.t, .int .i64 p.a, .int .i64 p.i]
def kl (p : Pk) : Lit := .string (keyBytes [.int .i64 p.k, .int .i64 p.t, .int .i64 p.a, .int .i64 p.i])

theorem lit3 (m : Nat) {n : Int} (h : In n) : Try.prog.keyLits (m + 1) 3 [.int .i64 n] = some [.int .i64 n] := by
  unfold Program.keyLits
  simp only [Try.underlying3]
  rw [if_pos ⟨trivial, wf_in h⟩]
theorem pk_key {p : Pk} (h : p.Ok) : keyOf Try.prog 66 (pkV p) = some (kl p) := by
  have hsz : Try.prog.types.size = 95 + 1 + 1 := by kernel_rfl
  have hkt : Try.prog.keyType 66 = true := by kernel_rfl
  have hc : Try.prog.cellsOf 66 = 4 := by kernel_rfl
  have h3 : Try.prog.cellsOf 3 = 1 := by kernel_rfl
  unfold keyOf
  simp only [Try.underlying66]
  rw [if_pos (by simp [hkt, Value.formed, Try.underlying66, hc, pkV]), hsz]
  unfold Program.keyLits
  simp only [Try.underlying66]
  rw [if_pos (by simp [hc, pkV, Value.cells])]
  simp only [pkV, Value.cells, h3, List.mapM_cons, List.mapM_nil, List.drop, List.take, lit3 _ h.k, lit3 _ h.t, lit3 _ h.a, lit3 _ h.i, kl]
  rfl
theorem kl_lit {p : Pk} (h : p.Ok) : WideAt.IsKeyLit (kl p) := keyed66.key (pk_key h)
theorem kl_inj {p q : Pk} (hp : p.Ok) (hq : q.Ok) (h : kl p = kl q) : p = q := by
  have h1 := pk_key hp
  have h2 := pk_key hq
  rw [h] at h1
  have e : pkV p = pkV q := keyed66.inj h1 h2
  obtain ⟨k, t, a, i⟩ := p
  obtain ⟨k', t', a', i'⟩ := q
  clear h1 h2 hp hq h
  unfold pkV at e
  injection e with e
  injection e with e
  injection e with e1 e
  injection e with e2 e
  injection e with e3 e
  injection e with e4 e
  injection e1 with _ e1
  injection e2 with _ e2
  injection e3 with _ e3
  injection e4 with _ e4
  dsimp only at e1 e2 e3 e4
  subst e1 e2 e3 e4
  rfl

def zeroC : Nat → Int := fun _ => 0
/-- How a clock reads. -/
def encC (c : Nat → Int) : DataW Unit := .agg ((ckL c).map fun v => match v with | .int q a => .lit (.int q a) | _ => .nil)
theorem encC_inj {c d : Nat → Int} (h : encC c = encC d) : ckL c = ckL d := by
  unfold encC ckL at h
  simp only [DataW.agg.injEq, List.map_map] at h
  have h2 := List.map_inj_left.1 h
  unfold ckL
  refine List.map_congr_left fun j hj => ?_
  have := h2 j hj
  simpa using this
open Classical in
noncomputable def ckElem (v : Value) : Option (DataW Unit × List MemPlace) := if h : ∃ c, v = ckV c then some (encC h.choose, []) else none
theorem encC_of {c d : Nat → Int} (h : ckV c = ckV d) : encC c = encC d := by
  unfold ckV at h
  have : ckL c = ckL d := by simpa using h
  unfold encC
  rw [this]
theorem ckElem_mk (c : Nat → Int) : ckElem (ckV c) = some (encC c, []) := by
  unfold ckElem
  rw [dif_pos ⟨c, rfl⟩]
  have h : ∃ d, ckV c = ckV d := ⟨c, rfl⟩
  rw [encC_of h.choose_spec]
theorem ckElem_inv {v : Value} {z : DataW Unit × List MemPlace} (h : ckElem v = some z) : ∃ c, v = ckV c ∧ z = (encC c, []) := by
  unfold ckElem at h
  split at h
  · rename_i hx
    exact ⟨_, hx.choose_spec, (Option.some.inj h).symm⟩
  · simp at h

/-- What lies at each place. -/
abbrev Cm := Pk → Option (Nat → Int)
def getP (F : Cm) (p : Pk) : Nat → Int := (F p).getD zeroC
def putP (F : Cm) (p : Pk) (c : Nat → Int) : Cm := fun q => if q = p then some c else F q

/-- Block m is a map of at most n clocks, as F says. -/
def CM (w : World) (m n : Nat) (F : Cm) : Prop :=
  ∃ D, w.ownsMap (H := Unit) Try.prog 66 ckElem m n D ∧ Maps.IsMap D ∧ ∀ p : Pk, p.Ok → Maps.has D (kl p) = (F p).isSome ∧ D.atKey (kl p) (encC zeroC) = encC (getP F p)

theorem zero61 (w : World) : (zeroValue 61).run Try.prog w = .ok (ckV zeroC) w := by kernel_rfl

theorem CM.made (w : World) : CM (w.alloc (.map #[] 0)) w.heap.size 0 (fun _ => none) :=
  ⟨.map [], World.ownsMap_made w Try.prog 66 ckElem, Maps.isMap_empty, fun _ _ => ⟨rfl, rfl⟩⟩
theorem CM.kept {S : Nat → Prop} {w w' : World} {m n : Nat} {F : Cm} (h : CM w m n F) (hf : Fr S w w') (hS : ¬ S m) : CM w' m n F := by
  obtain ⟨D, h1, h2⟩ := h
  refine ⟨D, ?_, h2⟩
  have hlt := h1.lt
  obtain ⟨es, clock, hb, X, hs, hD⟩ := h1
  exact ⟨es, clock, (hf.block m hlt hS).trans hb, X, hs, hD⟩
theorem CM.mono {w : World} {m n n' : Nat} {F : Cm} (h : CM w m n F) (hn : n ≤ n') : CM w m n' F := by
  obtain ⟨D, h1, h2⟩ := h
  exact ⟨D, h1.mono hn, h2⟩
theorem CM.lt {w : World} {m n : Nat} {F : Cm} (h : CM w m n F) : m < w.heap.size := by
  obtain ⟨D, h1, -⟩ := h
  exact h1.lt
theorem CM.isMap {w : World} {m n : Nat} {F : Cm} (h : CM w m n F) : ∃ es c, w.heap[m]? = some (.map es c) := by
  obtain ⟨D, ⟨es, c, h1, _⟩, _⟩ := h
  exact ⟨es, c, h1⟩

theorem CM.look_ok {w : World} {m n : Nat} {F : Cm} (h : CM w m n F) {p : Pk} (hp : p.Ok) :
    (Instr.lookup 56 (.map (some m)) (pkV p) true).run Try.prog w = .ok (.tuple #[ckV (getP F p), .bool (F p).isSome]) w := by
  obtain ⟨D, h1, h2, h4⟩ := h
  obtain ⟨v, ps, hrun, hv⟩ := h1.look_ok keyed66 Try.underlying56 (zero61 w) (ckElem_mk zeroC) (pk_key hp)
  obtain ⟨c, rfl, hc⟩ := ckElem_inv hv
  rw [(h4 p hp).1] at hrun
  have e1 := congrArg Prod.fst hc
  simp only at e1
  rw [(h4 p hp).2] at e1
  have e2 : ckV (getP F p) = ckV c := by unfold ckV; rw [encC_inj e1]
  rw [e2]
  exact hrun
theorem CM.look {w : World} {m n : Nat} {F : Cm} (h : CM w m n F) {p : Pk} (hp : p.Ok) :
    (Instr.lookup 56 (.map (some m)) (pkV p) false).run Try.prog w = .ok (ckV (getP F p)) w := by
  obtain ⟨D, h1, h2, h4⟩ := h
  obtain ⟨v, ps, hrun, hv⟩ := h1.lookup keyed66 Try.underlying56 (zero61 w) (ckElem_mk zeroC) (pk_key hp)
  obtain ⟨c, rfl, hc⟩ := ckElem_inv hv
  have e1 := congrArg Prod.fst hc
  simp only at e1
  rw [(h4 p hp).2] at e1
  have e2 : ckV (getP F p) = ckV c := by unfold ckV; rw [encC_inj e1]
  rw [e2]
  exact hrun
theorem look_nil (w : World) {p : Pk} (hp : p.Ok) : (Instr.lookup 56 (.map none) (pkV p) false).run Try.prog w = .ok (ckV zeroC) w := by
  have := Maps.look_nil false keyed66 Try.underlying56 (zero61 w) (pk_key hp)
  simpa using this
theorem look_nil_ok (w : World) {p : Pk} (hp : p.Ok) : (Instr.lookup 56 (.map none) (pkV p) true).run Try.prog w = .ok (.tuple #[ckV zeroC, .bool false]) w := by
  have := Maps.look_nil true keyed66 Try.underlying56 (zero61 w) (pk_key hp)
  simpa using this

theorem turned_fr {w w' : World} {m : Nat} (h : w.mapTurned w' m) : Fr (fun k => k = m) w w' :=
  ⟨h.grown.os, h.grown.output, h.grown.size, fun k hk hs => h.grown.block k hk (by simpa using hs), fun a _ => h.frozen a⟩

theorem CM.store {w : World} {m n : Nat} {F : Cm} (h : CM w m n F) (hn : n ≤ 1000000) {p : Pk} (hp : p.Ok) (c : Nat → Int) :
    ∃ w', (Instr.mapUpdate 56 (.map (some m)) (pkV p) (ckV c)).run Try.prog w = .ok () w' ∧ CM w' m (n + 1) (putP F p c) ∧ Fr (fun i => i = m) w w' := by
  obtain ⟨D, d1, d2, d4⟩ := h
  obtain ⟨w', hrun, o1, t1⟩ := d1.store keyed66 Try.underlying56 (by unfold maxLen; omega) (pk_key hp) (ckElem_mk c)
  refine ⟨w', hrun, ⟨_, o1, d2.put _ _, fun q hq => ?_⟩, turned_fr t1⟩
  unfold getP putP
  by_cases e : q = p
  · subst e
    rw [if_pos rfl]
    exact ⟨by rw [Maps.has_put_same d2 (kl_lit hq)]; rfl, Maps.atKey_put_same d2 (kl_lit hq) _ _⟩
  · have hne : kl q ≠ kl p := fun k => e (kl_inj hq hp k)
    rw [if_neg e, Maps.has_put_other hne, Maps.atKey_put_other hne]
    exact d4 q hq
end Go.Proofs.Ytnineggppoipiaa
