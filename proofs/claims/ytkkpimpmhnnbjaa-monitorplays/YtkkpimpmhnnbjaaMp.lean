/- The two maps of a table of locks: from an object to its lock's block, from a thread to a number. -/
import Derived.Test.YtkkpimpmhnnbjaaCut
import Derived.Test.YtkkpimpmhnnbjaaLift
import Derived.Maps.OwnSet
import Derived.Maps.RangeWalk
namespace Go.Proofs.Ytkkpimpmhnnbjaa
open Go.ChangeShapes Go.WideShapes Go.ChangeAt Go.RowKit

theorem keyed : Maps.Keyed Try.prog 3 := Maps.int_keyed Try.underlying3
theorem zero3 (w : World) : (zeroValue 3).run Try.prog w = .ok (.int .i64 0) w := by kernel_rfl
theorem zero62 (w : World) : (zeroValue 62).run Try.prog w = .ok (.pointer none) w := by kernel_rfl

/-- A number of Go's int. -/
def In (k : Int) : Prop := -9223372036854775808 ≤ k ∧ k ≤ 9223372036854775807

def ky (k : Int) : Lit := .int .i64 k

theorem ky_inj {s t : Int} (h : ky s = ky t) : s = t := by simpa [ky] using h
theorem ky_lit (k : Int) : WideAt.IsKeyLit (ky k) := trivial
theorem wf_in {k : Int} (h : In k) : (Lit.int .i64 k).wf = true := WalkArith.wf_i64 h
theorem ky_key {k : Int} (h : In k) : keyOf Try.prog 3 (.int .i64 k) = some (ky k) := Maps.keyOf_int_mk Try.underlying3 (wf_in h)

/-- A function turned at one place. -/
def upd {β : Type} (f : Int → β) (k : Int) (v : β) : Int → β := fun j => if j = k then v else f j

theorem upd_same {β : Type} (f : Int → β) (k : Int) (v : β) : upd f k v k = v := if_pos rfl
theorem upd_other {β : Type} (f : Int → β) {k j : Int} (v : β) (h : j ≠ k) : upd f k v j = f j := if_neg h
theorem upd_upd {β : Type} (f : Int → β) (k : Int) (u v : β) : upd (upd f k u) k v = upd f k v := by
  funext j
  unfold upd
  split <;> rfl
theorem upd_self {β : Type} (f : Int → β) (k : Int) : upd f k (f k) = f := by
  funext j
  unfold upd
  split
  · rename_i h; rw [h]
  · rfl

theorem turned_fr {w w' : World} {m : Nat} (h : w.mapTurned w' m) : Fr (fun k => k = m) w w' :=
  ⟨h.grown.os, h.grown.output, h.grown.size, fun k hk hs => h.grown.block k hk (by simpa using hs), fun a _ => h.frozen a⟩

/-- How a pointer to a lock reads. -/
def ptrElem : Value → Option (DataW Unit × List MemPlace)
  | .pointer none => some (.lit (.bool false), [])
  | .pointer (some ⟨b, 0, none⟩) => some (.lit (.int .i64 (b : Int)), [])
  | _ => none

/-- The pointer to a block, or nil. -/
def pv : Option Nat → Value
  | none => .pointer none
  | some q => .pointer (some ⟨q, 0, none⟩)

def pd : Option Nat → DataW Unit
  | none => .lit (.bool false)
  | some q => .lit (.int .i64 (q : Int))

theorem ptrElem_inv {v : Value} {z : DataW Unit × List MemPlace} (h : ptrElem v = some z) : ∃ o, v = pv o ∧ z = (pd o, []) := by
  unfold ptrElem at h
  split at h
  · exact ⟨none, rfl, (Option.some.inj h).symm⟩
  · exact ⟨some _, rfl, (Option.some.inj h).symm⟩
  · simp at h

theorem pd_inj {o o' : Option Nat} (h : pd o = pd o') : o = o' := by
  cases o <;> cases o' <;> simp [pd] at h
  · rfl
  · exact congrArg some (by omega)

/-- Block m is a map of at most n locks' blocks, as f says. -/
def LM (w : World) (m n : Nat) (f : Int → Option Nat) : Prop :=
  ∃ D, w.ownsMap (H := Unit) Try.prog 3 ptrElem m n D ∧ ∀ k, (∀ q, f k = some q → ∀ z, D.atKey (ky k) z = pd (some q)) ∧ (f k = none → ∀ z, D.atKey (ky k) z = z)

/-- Block m is a map of at most n numbers, as f says; 0 where there is none. -/
def SM (w : World) (m n : Nat) (f : Int → Int) : Prop :=
  ∃ D, w.ownsMap (H := Unit) Try.prog 3 (plainElem Try.prog 3) m n D ∧ ∀ k, D.atKey (ky k) (.lit (.int .i64 0)) = .lit (.int .i64 (f k))

theorem owns_keep {R : Value → Option (DataW Unit × List MemPlace)} {S : Nat → Prop} {w w' : World} {m n : Nat} {D : DataW Unit} (h : w.ownsMap Try.prog 3 R m n D) (hf : Fr S w w') (hS : ¬ S m) : w'.ownsMap Try.prog 3 R m n D := by
  have hlt := h.lt
  obtain ⟨es, clock, hb, F, hs, hD⟩ := h
  exact ⟨es, clock, (hf.block m hlt hS).trans hb, F, hs, hD⟩

theorem LM.kept {S : Nat → Prop} {w w' : World} {m n : Nat} {f : Int → Option Nat} (h : LM w m n f) (hf : Fr S w w') (hS : ¬ S m) : LM w' m n f := by
  obtain ⟨D, h1, h2⟩ := h
  exact ⟨D, owns_keep h1 hf hS, h2⟩
theorem SM.kept {S : Nat → Prop} {w w' : World} {m n : Nat} {f : Int → Int} (h : SM w m n f) (hf : Fr S w w') (hS : ¬ S m) : SM w' m n f := by
  obtain ⟨D, h1, h2⟩ := h
  exact ⟨D, owns_keep h1 hf hS, h2⟩
theorem LM.mono {w : World} {m n n' : Nat} {f : Int → Option Nat} (h : LM w m n f) (hn : n ≤ n') : LM w m n' f := by
  obtain ⟨D, h1, h2⟩ := h
  exact ⟨D, h1.mono hn, h2⟩
theorem SM.mono {w : World} {m n n' : Nat} {f : Int → Int} (h : SM w m n f) (hn : n ≤ n') : SM w m n' f := by
  obtain ⟨D, h1, h2⟩ := h
  exact ⟨D, h1.mono hn, h2⟩
theorem LM.isMap {w : World} {m n : Nat} {f : Int → Option Nat} (h : LM w m n f) : ∃ es c, w.heap[m]? = some (.map es c) := by
  obtain ⟨D, ⟨es, c, h1, _⟩, _⟩ := h
  exact ⟨es, c, h1⟩
theorem SM.isMap {w : World} {m n : Nat} {f : Int → Int} (h : SM w m n f) : ∃ es c, w.heap[m]? = some (.map es c) := by
  obtain ⟨D, ⟨es, c, h1, _⟩, _⟩ := h
  exact ⟨es, c, h1⟩

theorem LM.made (w : World) : LM (w.alloc (.map #[] 0)) w.heap.size 0 (fun _ => none) :=
  ⟨.map [], World.ownsMap_made w Try.prog 3 ptrElem, fun _ => ⟨fun q h => by simp at h, fun _ _ => rfl⟩⟩
theorem SM.made (w : World) : SM (w.alloc (.map #[] 0)) w.heap.size 0 (fun _ => 0) :=
  ⟨.map [], World.ownsMap_made w Try.prog 3 (plainElem Try.prog 3), fun _ => rfl⟩

theorem LM.look {w : World} {m n : Nat} {f : Int → Option Nat} (h : LM w m n f) {k : Int} (hk : In k) : (Instr.lookup 58 (.map (some m)) (.int .i64 k) false).run Try.prog w = .ok (pv (f k)) w := by
  obtain ⟨D, h1, h2⟩ := h
  obtain ⟨v, ps, hrun, hv⟩ := h1.lookup keyed Try.underlying58 (zero62 w) (zd := pd none) (zp := []) rfl (ky_key hk)
  obtain ⟨o, rfl, ho⟩ := ptrElem_inv hv
  have e : D.atKey (ky k) (pd none) = pd o := congrArg Prod.fst ho
  have : f k = o := by
    cases hf : f k with
    | none => rw [(h2 k).2 hf] at e; exact pd_inj e
    | some q => rw [(h2 k).1 q hf] at e; exact pd_inj e
  rw [this]
  exact hrun

theorem look_nil1 (w : World) {k : Int} (hk : In k) : (Instr.lookup 58 (.map none) (.int .i64 k) false).run Try.prog w = .ok (.pointer none) w := by
  have := Maps.look_nil false keyed Try.underlying58 (zero62 w) (ky_key hk)
  simpa using this
theorem look_nil2 (w : World) {k : Int} (hk : In k) : (Instr.lookup 59 (.map none) (.int .i64 k) false).run Try.prog w = .ok (.int .i64 0) w := by
  have := Maps.look_nil false keyed Try.underlying59 (zero3 w) (ky_key hk)
  simpa using this
theorem drop_nil1 (w : World) {k : Int} (hk : In k) (ty : TypeId) : (Builtin.delete_ #[58, 3] ty #[.map none, .int .i64 k]).run Try.prog w = .ok (.tuple #[]) w :=
  Maps.drop_nil keyed Try.underlying58 (ky_key hk) ty

theorem SM.look {w : World} {m n : Nat} {f : Int → Int} (h : SM w m n f) {k : Int} (hk : In k) : (Instr.lookup 59 (.map (some m)) (.int .i64 k) false).run Try.prog w = .ok (.int .i64 (f k)) w := by
  obtain ⟨D, h1, h2⟩ := h
  obtain ⟨c, hrun, hat, -⟩ := h1.lookup_int keyed Try.underlying59 Try.underlying3 (zero3 w) (ky_key hk)
  rw [h2 k] at hat
  simp only [DataW.lit.injEq, Lit.int.injEq, true_and] at hat
  rw [hat]
  exact hrun

theorem LM.store {w : World} {m n : Nat} {f : Int → Option Nat} (h : LM w m n f) (hn : n ≤ 1000000) {k : Int} (hk : In k) (q : Nat) :
    ∃ w', (Instr.mapUpdate 58 (.map (some m)) (.int .i64 k) (.pointer (some ⟨q, 0, none⟩))).run Try.prog w = .ok () w' ∧ LM w' m (n + 1) (upd f k (some q)) ∧ Fr (fun i => i = m) w w' := by
  obtain ⟨D, h1, h2⟩ := h
  have hM := h1.isMap
  obtain ⟨w', hrun, o1, t1⟩ := h1.store keyed Try.underlying58 (by unfold maxLen; omega) (ky_key hk) (d := pd (some q)) (ps := []) (val := .pointer (some ⟨q, 0, none⟩)) rfl
  refine ⟨w', hrun, ⟨_, o1, fun j => ?_⟩, turned_fr t1⟩
  by_cases e : j = k
  · subst e
    rw [upd_same]
    refine ⟨fun q' hq z => ?_, fun hq => by simp at hq⟩
    rw [Maps.atKey_put_same hM (ky_lit j), hq]
  · have hne : ky j ≠ ky k := fun e' => e (ky_inj e')
    rw [upd_other _ _ e]
    exact ⟨fun q' hq z => by rw [Maps.atKey_put_other hne]; exact (h2 j).1 q' hq z, fun hq z => by rw [Maps.atKey_put_other hne]; exact (h2 j).2 hq z⟩

theorem LM.drop {w : World} {m n : Nat} {f : Int → Option Nat} (h : LM w m n f) {k : Int} (hk : In k) (ty : TypeId) :
    ∃ w', (Builtin.delete_ #[58, 3] ty #[.map (some m), .int .i64 k]).run Try.prog w = .ok (.tuple #[]) w' ∧ LM w' m n (upd f k none) ∧ Fr (fun i => i = m) w w' := by
  obtain ⟨D, h1, h2⟩ := h
  obtain ⟨w', hrun, o1, t1⟩ := h1.drop keyed Try.underlying58 (ky_key hk) ty
  refine ⟨w', hrun, ⟨_, o1, fun j => ?_⟩, turned_fr t1⟩
  by_cases e : j = k
  · subst e
    rw [upd_same]
    exact ⟨fun q' hq => by simp at hq, fun _ z => Maps.atKey_del_same z⟩
  · have hne : ky j ≠ ky k := fun e' => e (ky_inj e')
    rw [upd_other _ _ e]
    exact ⟨fun q' hq z => by rw [Maps.atKey_del_other hne]; exact (h2 j).1 q' hq z, fun hq z => by rw [Maps.atKey_del_other hne]; exact (h2 j).2 hq z⟩

theorem SM.store {w : World} {m n : Nat} {f : Int → Int} (h : SM w m n f) (hn : n ≤ 1000000) {k v : Int} (hk : In k) (hv : In v) :
    ∃ w', (Instr.mapUpdate 59 (.map (some m)) (.int .i64 k) (.int .i64 v)).run Try.prog w = .ok () w' ∧ SM w' m (n + 1) (upd f k v) ∧ Fr (fun i => i = m) w w' := by
  obtain ⟨D, h1, h2⟩ := h
  have hM := h1.isMap
  obtain ⟨w', hrun, o1, t1⟩ := h1.store keyed Try.underlying59 (by unfold maxLen; omega) (ky_key hk) (plainElem_int Try.underlying3 (wf_in hv))
  refine ⟨w', hrun, ⟨_, o1, fun j => ?_⟩, turned_fr t1⟩
  by_cases e : j = k
  · subst e
    rw [upd_same]
    exact Maps.atKey_put_same hM (ky_lit j) _ _
  · have hne : ky j ≠ ky k := fun e' => e (ky_inj e')
    rw [upd_other _ _ e, Maps.atKey_put_other hne]
    exact h2 j

theorem SM.drop {w : World} {m n : Nat} {f : Int → Int} (h : SM w m n f) {k : Int} (hk : In k) (ty : TypeId) :
    ∃ w', (Builtin.delete_ #[59, 3] ty #[.map (some m), .int .i64 k]).run Try.prog w = .ok (.tuple #[]) w' ∧ SM w' m n (upd f k 0) ∧ Fr (fun i => i = m) w w' := by
  obtain ⟨D, h1, h2⟩ := h
  obtain ⟨w', hrun, o1, t1⟩ := h1.drop keyed Try.underlying59 (ky_key hk) ty
  refine ⟨w', hrun, ⟨_, o1, fun j => ?_⟩, turned_fr t1⟩
  by_cases e : j = k
  · subst e
    rw [upd_same]
    exact Maps.atKey_del_same _
  · have hne : ky j ≠ ky k := fun e' => e (ky_inj e')
    rw [upd_other _ _ e, Maps.atKey_del_other hne]
    exact h2 j
end Go.Proofs.Ytkkpimpmhnnbjaa
