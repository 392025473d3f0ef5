/- A table of locks in memory. -/
import Derived.Test.YtkkpimpmhnnbjaaMp
namespace Go.Proofs.Ytkkpimpmhnnbjaa
open Go.ChangeShapes Go.WideShapes Go.ChangeAt Go.RowKit

/-- A lock. -/
structure Lk where
  owner : Int
  count : Int
  fat : Bool
  entry : List (Int × Int)
  wait : List (Int × Int)

def lk0 : Lk := ⟨0, 0, false, [], []⟩

/-- Where a lock lies: its block, the slices of its lists. -/
structure Lay where
  q : Nat
  e : Value
  v : Value

def lkC (x : Lk) (e v : Value) : Array Value := #[.int .i64 x.owner, .int .i64 x.count, .bool x.fat, e, v]

def LkAt (c : Nat) (w : World) : Option Lay → Option Lk → Prop
  | none, none => True
  | some y, some x => c ≤ y.q ∧ w.heap[y.q]? = some (.cells (lkC x y.e y.v) 66 (0, 0)) ∧ OwnG elW w y.e x.entry ∧ OwnG elW w y.v x.wait ∧ (∀ b, y.e.ownBlock = some b → c ≤ b) ∧ (∀ b, y.v.ownBlock = some b → c ≤ b)
  | _, _ => False

/-- The blocks that a table's calls may turn: from c on, and of its kinds. -/
def Tm (c : Nat) (w : World) (k : Nat) : Prop :=
  c ≤ k ∧ ((∃ es cl, w.heap[k]? = some (.map es cl)) ∨ ∃ cur t, w.heap[k]? = some (.cells cur t (0, 0)) ∧ (t = 61 ∨ t = 66 ∨ t = 68))

theorem Fr.tm {c : Nat} {a b d : World} (h : Fr (Tm c a) a b) (k : Fr (Tm c b) b d) : Fr (Tm c a) a d :=
  h.trans k (fun _ _ f => f) (fun i hi f => by
    by_cases g : Tm c a i
    · exact g
    · have e := h.block i hi g
      unfold Tm at f ⊢
      rw [e] at f
      exact f)

theorem Fr.ofNo {S : Nat → Prop} {a b : World} (h : Fr no a b) : Fr S a b := h.mono (fun _ _ f => f.elim)

structure TP (c : Nat) (w : World) (p n m1 m2 : Nat) (F : Int → Option Lay) (S : Int → Option Lk) (N : Int → Int) : Prop where
  cp : c ≤ p
  c1 : c ≤ m1
  c2 : c ≤ m2
  ne : m1 ≠ m2
  tab : w.heap[p]? = some (.cells #[.map (some m1), .map (some m2)] 61 (0, 0))
  lm : LM w m1 n (fun k => (F k).map Lay.q)
  sm : SM w m2 n N
  lk : ∀ k, LkAt c w (F k) (S k)
  apart : ∀ k k' y y', F k = some y → F k' = some y' → (y.q = y'.q → k = k') ∧ (∀ b, y.e.ownBlock = some b → y'.v.ownBlock ≠ some b) ∧ (∀ b, y.e.ownBlock = some b → y'.e.ownBlock = some b → k = k') ∧ (∀ b, y.v.ownBlock = some b → y'.v.ownBlock = some b → k = k')

section
variable {c : Nat} {w : World} {p n m1 m2 : Nat} {F : Int → Option Lay} {S : Int → Option Lk} {N : Int → Int}

theorem TP.at (h : TP c w p n m1 m2 F S N) {k : Int} {x : Lk} (hx : S k = some x) : ∃ y, F k = some y ∧ c ≤ y.q ∧ w.heap[y.q]? = some (.cells (lkC x y.e y.v) 66 (0, 0)) ∧ OwnG elW w y.e x.entry ∧ OwnG elW w y.v x.wait ∧ (∀ b, y.e.ownBlock = some b → c ≤ b) ∧ (∀ b, y.v.ownBlock = some b → c ≤ b) := by
  have := h.lk k
  rw [hx] at this
  cases hy : F k with
  | none => rw [hy] at this; exact this.elim
  | some y => rw [hy] at this; exact ⟨y, rfl, this⟩

theorem TP.out (h : TP c w p n m1 m2 F S N) {k : Int} (hx : S k = none) : F k = none := by
  have := h.lk k
  rw [hx] at this
  cases hy : F k with
  | none => rfl
  | some y => rw [hy] at this; exact this.elim

theorem TP.lay (h : TP c w p n m1 m2 F S N) {k : Int} {y : Lay} (hy : F k = some y) : ∃ x, S k = some x ∧ c ≤ y.q ∧ w.heap[y.q]? = some (.cells (lkC x y.e y.v) 66 (0, 0)) ∧ OwnG elW w y.e x.entry ∧ OwnG elW w y.v x.wait ∧ (∀ b, y.e.ownBlock = some b → c ≤ b) ∧ (∀ b, y.v.ownBlock = some b → c ≤ b) := by
  have := h.lk k
  rw [hy] at this
  cases hx : S k with
  | none => rw [hx] at this; exact this.elim
  | some x => rw [hx] at this; exact ⟨x, rfl, this⟩

theorem LkAt.kept {w' : World} {T : Nat → Prop} {o : Option Lay} {x : Option Lk} (h : LkAt c w o x) (hf : Fr T w w') (hT : ∀ y, o = some y → ¬ T y.q ∧ (∀ b, y.e.ownBlock = some b → ¬ T b) ∧ (∀ b, y.v.ownBlock = some b → ¬ T b)) : LkAt c w' o x := by
  cases o with
  | none => cases x <;> exact h
  | some y =>
    cases x with
    | none => exact h
    | some x =>
      obtain ⟨h1, h2, h3, h4, h5⟩ := h
      obtain ⟨t1, t2, t3⟩ := hT y rfl
      exact ⟨h1, hf.heap h2 t1, h3.kept hf t2, h4.kept hf t3, h5⟩

/-- Nothing of the table's kinds turns. -/
theorem TP.kept {w' : World} {T : Nat → Prop} (h : TP c w p n m1 m2 F S N) (hf : Fr T w w') (hT : ∀ k, Tm c w k → ¬ T k) : TP c w' p n m1 m2 F S N := by
  obtain ⟨es1, k1, g1⟩ := h.lm.isMap
  obtain ⟨es2, k2, g2⟩ := h.sm.isMap
  refine ⟨h.cp, h.c1, h.c2, h.ne, hf.heap h.tab (hT p ⟨h.cp, .inr ⟨_, _, h.tab, .inl rfl⟩⟩), h.lm.kept hf (hT m1 ⟨h.c1, .inl ⟨_, _, g1⟩⟩), h.sm.kept hf (hT m2 ⟨h.c2, .inl ⟨_, _, g2⟩⟩), fun k => (h.lk k).kept hf (fun y hy => ?_), h.apart⟩
  obtain ⟨x, hx, h1, h2, h3, h4, h5, h6⟩ := h.lay hy
  refine ⟨hT _ ⟨h1, .inr ⟨_, _, h2, .inr (.inl rfl)⟩⟩, fun b hb => ?_, fun b hb => ?_⟩
  · obtain ⟨cur, hc⟩ := h3.tag hb
    exact hT b ⟨h5 b hb, .inr ⟨cur, 68, hc, .inr (.inr rfl)⟩⟩
  · obtain ⟨cur, hc⟩ := h4.tag hb
    exact hT b ⟨h6 b hb, .inr ⟨cur, 68, hc, .inr (.inr rfl)⟩⟩

theorem TP.keep {w' : World} (h : TP c w p n m1 m2 F S N) (hf : Fr no w w') : TP c w' p n m1 m2 F S N := h.kept hf (fun _ _ f => f)

theorem TP.mono {n' : Nat} (h : TP c w p n m1 m2 F S N) (hn : n ≤ n') : TP c w p n' m1 m2 F S N := ⟨h.cp, h.c1, h.c2, h.ne, h.tab, h.lm.mono hn, h.sm.mono hn, h.lk, h.apart⟩

/-- A lock's block is none of the maps, nor the table's, nor a row. -/
theorem TP.away (h : TP c w p n m1 m2 F S N) {k : Int} {y : Lay} (hy : F k = some y) : y.q ≠ p ∧ y.q ≠ m1 ∧ y.q ≠ m2 ∧ (∀ b, (y.e.ownBlock = some b ∨ y.v.ownBlock = some b) → b ≠ p ∧ b ≠ m1 ∧ b ≠ m2) ∧ ∀ k' y' b, F k' = some y' → (y.e.ownBlock = some b ∨ y.v.ownBlock = some b) → b ≠ y'.q := by
  obtain ⟨es1, k1, g1⟩ := h.lm.isMap
  obtain ⟨es2, k2, g2⟩ := h.sm.isMap
  obtain ⟨x, hx, h1, h2, h3, h4, h5, h6⟩ := h.lay hy
  have tg : ∀ b, (y.e.ownBlock = some b ∨ y.v.ownBlock = some b) → ∃ cur, w.heap[b]? = some (.cells cur 68 (0, 0)) := by
    rintro b (e | e)
    · exact h3.tag e
    · exact h4.tag e
  refine ⟨?_, ?_, ?_, fun b hb => ?_, fun k' y' b hy' hb e => ?_⟩
  · intro e; rw [e, h.tab] at h2; simp [lkC] at h2
  · intro e; rw [e, g1] at h2; simp at h2
  · intro e; rw [e, g2] at h2; simp at h2
  · obtain ⟨cur, hc⟩ := tg b hb
    refine ⟨?_, ?_, ?_⟩
    · rintro rfl; rw [h.tab] at hc; simp at hc
    · rintro rfl; rw [g1] at hc; simp at hc
    · rintro rfl; rw [g2] at hc; simp at hc
  · obtain ⟨cur, hc⟩ := tg b hb
    obtain ⟨x', hx', h1', h2', _⟩ := h.lay hy'
    rw [e, h2'] at hc
    simp at hc

theorem TP.pm (h : TP c w p n m1 m2 F S N) : p ≠ m1 ∧ p ≠ m2 := by
  obtain ⟨es1, k1, g1⟩ := h.lm.isMap
  obtain ⟨es2, k2, g2⟩ := h.sm.isMap
  refine ⟨?_, ?_⟩
  · rintro rfl; have := h.tab; rw [g1] at this; simp at this
  · rintro rfl; have := h.tab; rw [g2] at this; simp at this

/-- A lock turns. -/
theorem TP.put (h : TP c w p n m1 m2 F S N) {k : Int} {y : Lay} (hy : F k = some y) {w' : World} (x' : Lk) (e' v' : Value)
    (hf : Fr (fun b => b = y.q ∨ y.e.ownBlock = some b ∨ y.v.ownBlock = some b) w w')
    (hq : w'.heap[y.q]? = some (.cells (lkC x' e' v') 66 (0, 0)))
    (he : OwnG elW w' e' x'.entry) (hv : OwnG elW w' v' x'.wait)
    (ne : ∀ b, b < w.heap.size → e'.ownBlock = some b → y.e.ownBlock = some b)
    (nv : ∀ b, b < w.heap.size → v'.ownBlock = some b → y.v.ownBlock = some b)
    (nev : ∀ b, e'.ownBlock = some b → v'.ownBlock ≠ some b) :
    TP c w' p n m1 m2 (upd F k (some ⟨y.q, e', v'⟩)) (upd S k (some x')) N ∧ Fr (Tm c w) w w' := by
  obtain ⟨x, hx, h1, h2, h3, h4, h5, h6⟩ := h.lay hy
  obtain ⟨a1, a2, a3, a4, a5⟩ := h.away hy
  have cs : c ≤ w.heap.size := Nat.le_of_lt (Nat.lt_of_le_of_lt h1 (lt_of_heap h2))
  have cb : ∀ v0 v1 : Value, (∀ b, b < w.heap.size → v0.ownBlock = some b → v1.ownBlock = some b) → (∀ b, v1.ownBlock = some b → c ≤ b) → ∀ b, v0.ownBlock = some b → c ≤ b := fun v0 v1 g1 g2 b hb => by
    by_cases hlt : b < w.heap.size
    · exact g2 b (g1 b hlt hb)
    · omega
  refine ⟨⟨h.cp, h.c1, h.c2, h.ne, hf.heap h.tab ?_, ?_, h.sm.kept hf ?_, fun j => ?_, fun j j' z z' hz hz' => ?_⟩, hf.mono ?_⟩
  · rintro (e | e | e)
    · exact a1 e.symm
    · exact (a4 _ (.inl e)).1 rfl
    · exact (a4 _ (.inr e)).1 rfl
  · have e : (fun j => (upd F k (some ⟨y.q, e', v'⟩) j).map Lay.q) = fun j => (F j).map Lay.q := by
      funext j
      by_cases ej : j = k
      · subst ej; rw [upd_same, hy]; rfl
      · rw [upd_other _ _ ej]
    rw [e]
    refine h.lm.kept hf ?_
    rintro (e | e | e)
    · exact a2 e.symm
    · exact (a4 _ (.inl e)).2.1 rfl
    · exact (a4 _ (.inr e)).2.1 rfl
  · rintro (e | e | e)
    · exact a3 e.symm
    · exact (a4 _ (.inl e)).2.2 rfl
    · exact (a4 _ (.inr e)).2.2 rfl
  · by_cases ej : j = k
    · subst ej
      rw [upd_same, upd_same]
      exact ⟨h1, hq, he, hv, cb e' y.e ne h5, cb v' y.v nv h6⟩
    · rw [upd_other _ _ ej, upd_other _ _ ej]
      refine (h.lk j).kept hf (fun z hz => ?_)
      obtain ⟨b1, b2, b3, b4⟩ := h.apart k j y z hy hz
      obtain ⟨d1, d2, d3, d4⟩ := h.apart j k z y hz hy
      refine ⟨?_, fun b hb => ?_, fun b hb => ?_⟩
      · rintro (e | e | e)
        · exact ej (b1 e.symm).symm
        · exact a5 j z _ hz (.inl e) rfl
        · exact a5 j z _ hz (.inr e) rfl
      · rintro (e | e | e)
        · exact (h.away hz).2.2.2.2 k y b hy (.inl hb) e
        · exact ej (b3 b e hb).symm
        · exact d2 b hb e
      · rintro (e | e | e)
        · exact (h.away hz).2.2.2.2 k y b hy (.inr hb) e
        · exact b2 b e hb
        · exact ej (b4 b e hb).symm
  · by_cases ej : j = k
    · subst ej
      rw [upd_same] at hz
      obtain rfl := Option.some.inj hz
      by_cases ej' : j' = j
      · subst ej'
        rw [upd_same] at hz'
        obtain rfl := Option.some.inj hz'
        exact ⟨fun _ => rfl, nev, fun _ _ _ => rfl, fun _ _ _ => rfl⟩
      · rw [upd_other _ _ ej'] at hz'
        obtain ⟨b1, b2, b3, b4⟩ := h.apart j j' y z' hy hz'
        obtain ⟨d1, d2, d3, d4⟩ := h.apart j' j z' y hz' hy
        obtain ⟨x2, _, _, _, o3, o4, _⟩ := h.lay hz'
        exact ⟨b1, fun b hb hb' => b2 b (ne b (o4.lt hb') hb) hb', fun b hb hb' => b3 b (ne b (o3.lt hb') hb) hb', fun b hb hb' => b4 b (nv b (o4.lt hb') hb) hb'⟩
    · rw [upd_other _ _ ej] at hz
      by_cases ej' : j' = k
      · subst ej'
        rw [upd_same] at hz'
        obtain rfl := Option.some.inj hz'
        obtain ⟨b1, b2, b3, b4⟩ := h.apart j j' z y hz hy
        obtain ⟨x2, _, _, _, o3, o4, _⟩ := h.lay hz
        exact ⟨b1, fun b hb hb' => b2 b hb (nv b (o3.lt hb) hb'), fun b hb hb' => b3 b hb (ne b (o3.lt hb) hb'), fun b hb hb' => b4 b hb (nv b (o4.lt hb) hb')⟩
      · rw [upd_other _ _ ej'] at hz'
        exact h.apart j j' z z' hz hz'
  · rintro i hi (e | e | e)
    · subst e
      exact ⟨h1, .inr ⟨_, _, h2, .inr (.inl rfl)⟩⟩
    · obtain ⟨cur, hc⟩ := h3.tag e
      exact ⟨h5 i e, .inr ⟨cur, 68, hc, .inr (.inr rfl)⟩⟩
    · obtain ⟨cur, hc⟩ := h4.tag e
      exact ⟨h6 i e, .inr ⟨cur, 68, hc, .inr (.inr rfl)⟩⟩

theorem TP.fm1 (h : TP c w p n m1 m2 F S N) {w' : World} (hf : Fr (fun i => i = m1) w w') : Fr (Tm c w) w w' := by
  obtain ⟨es1, k1, g1⟩ := h.lm.isMap
  exact hf.mono (fun i _ e => by subst e; exact ⟨h.c1, .inl ⟨_, _, g1⟩⟩)

theorem TP.fm2 (h : TP c w p n m1 m2 F S N) {w' : World} (hf : Fr (fun i => i = m2) w w') : Fr (Tm c w) w w' := by
  obtain ⟨es1, k1, g1⟩ := h.sm.isMap
  exact hf.mono (fun i _ e => by subst e; exact ⟨h.c2, .inl ⟨_, _, g1⟩⟩)

theorem TP.offm (h : TP c w p n m1 m2 F S N) {m : Nat} (hm : m = m1 ∨ m = m2) {w' : World} (hf : Fr (fun i => i = m) w w') (j : Int) : LkAt c w' (F j) (S j) := by
  refine (h.lk j).kept hf (fun z hz => ?_)
  obtain ⟨a1, a2, a3, a4, a5⟩ := h.away hz
  refine ⟨?_, fun b hb => ?_, fun b hb => ?_⟩
  · rcases hm with rfl | rfl
    · exact a2
    · exact a3
  · rcases hm with rfl | rfl
    · exact (a4 b (.inl hb)).2.1
    · exact (a4 b (.inl hb)).2.2
  · rcases hm with rfl | rfl
    · exact (a4 b (.inr hb)).2.1
    · exact (a4 b (.inr hb)).2.2

/-- The second map turns. -/
theorem TP.stand (h : TP c w p n m1 m2 F S N) {w' : World} {n' : Nat} {N' : Int → Int} (hf : Fr (fun i => i = m2) w w') (hs : SM w' m2 n' N') (hn : n ≤ n') : TP c w' p n' m1 m2 F S N' ∧ Fr (Tm c w) w w' :=
  ⟨⟨h.cp, h.c1, h.c2, h.ne, hf.heap h.tab (fun e => h.pm.2 e), (h.lm.kept hf h.ne).mono hn, hs, h.offm (.inr rfl) hf, h.apart⟩, h.fm2 hf⟩

/-- A lock is out of the first map. -/
theorem TP.del (h : TP c w p n m1 m2 F S N) {w' : World} {k : Int} (hf : Fr (fun i => i = m1) w w') (hs : LM w' m1 n (upd (fun k => (F k).map Lay.q) k none)) : TP c w' p n m1 m2 (upd F k none) (upd S k none) N ∧ Fr (Tm c w) w w' := by
  refine ⟨⟨h.cp, h.c1, h.c2, h.ne, hf.heap h.tab (fun e => h.pm.1 e), ?_, h.sm.kept hf (fun e => h.ne e.symm), fun j => ?_, fun j j' z z' hz hz' => ?_⟩, h.fm1 hf⟩
  · have e : (fun j => (upd F k none j).map Lay.q) = upd (fun k => (F k).map Lay.q) k none := by
      funext j
      by_cases ej : j = k
      · subst ej; rw [upd_same, upd_same]; rfl
      · rw [upd_other _ _ ej, upd_other _ _ ej]
    rw [e]
    exact hs
  · by_cases ej : j = k
    · subst ej
      rw [upd_same, upd_same]
      trivial
    · rw [upd_other _ _ ej, upd_other _ _ ej]
      exact h.offm (.inl rfl) hf j
  · by_cases ej : j = k
    · subst ej; rw [upd_same] at hz; simp at hz
    · by_cases ej' : j' = k
      · subst ej'; rw [upd_same] at hz'; simp at hz'
      · rw [upd_other _ _ ej] at hz
        rw [upd_other _ _ ej'] at hz'
        exact h.apart j j' z z' hz hz'

/-- A new lock, free. -/
theorem TP.new (h : TP c w p n m1 m2 F S N) {w' : World} {k : Int} (hx : S k = none) (hf : Fr (fun i => i = m1) (w.alloc (.cells (lkC lk0 (.slice none 0 0) (.slice none 0 0)) 66)) w') (hs : LM w' m1 (n + 1) (upd (fun k => (F k).map Lay.q) k (some w.heap.size))) :
    TP c w' p (n + 1) m1 m2 (upd F k (some ⟨w.heap.size, .slice none 0 0, .slice none 0 0⟩)) (upd S k (some lk0)) N ∧ Fr (Tm c w) w w' := by
  have hn := h.out hx
  have fa : Fr no w (w.alloc (.cells (lkC lk0 (.slice none 0 0) (.slice none 0 0)) 66)) := (Fr.refl no w).alloc _ _
  have h' := h.keep fa
  have cs : c ≤ w.heap.size := Nat.le_of_lt (Nat.lt_of_le_of_lt h.cp (lt_of_heap h.tab))
  obtain ⟨es1, k1, g1⟩ := h.lm.isMap
  have l1 := lt_of_heap g1
  refine ⟨⟨h.cp, h.c1, h.c2, h.ne, hf.heap h'.tab (fun e => h.pm.1 e), ?_, (h'.sm.kept hf (fun e => h.ne e.symm)).mono (Nat.le_succ n), fun j => ?_, fun j j' z z' hz hz' => ?_⟩, ?_⟩
  · have e : (fun j => (upd F k (some ⟨w.heap.size, .slice none 0 0, .slice none 0 0⟩) j).map Lay.q) = upd (fun k => (F k).map Lay.q) k (some w.heap.size) := by
      funext j
      by_cases ej : j = k
      · subst ej; rw [upd_same, upd_same]; rfl
      · rw [upd_other _ _ ej, upd_other _ _ ej]
    rw [e]
    exact hs
  · by_cases ej : j = k
    · subst ej
      rw [upd_same, upd_same]
      refine ⟨cs, hf.heap (heap_alloc_new w _) (by show ¬ (w.heap.size = m1); omega), OwnG.nil _ _, OwnG.nil _ _, fun b hb => by simp [Value.ownBlock] at hb, fun b hb => by simp [Value.ownBlock] at hb⟩
    · rw [upd_other _ _ ej, upd_other _ _ ej]
      exact h'.offm (.inl rfl) hf j
  · by_cases ej : j = k
    · subst ej
      rw [upd_same] at hz
      obtain rfl := Option.some.inj hz
      by_cases ej' : j' = j
      · subst ej'
        exact ⟨fun _ => rfl, fun b hb => by simp [Value.ownBlock] at hb, fun _ _ _ => rfl, fun _ _ _ => rfl⟩
      · rw [upd_other _ _ ej'] at hz'
        obtain ⟨x2, _, _, o2, _⟩ := h.lay hz'
        have := lt_of_heap o2
        exact ⟨fun e => by simp only [] at e; omega, fun b hb => by simp [Value.ownBlock] at hb, fun b hb => by simp [Value.ownBlock] at hb, fun b hb => by simp [Value.ownBlock] at hb⟩
    · rw [upd_other _ _ ej] at hz
      by_cases ej' : j' = k
      · subst ej'
        rw [upd_same] at hz'
        obtain rfl := Option.some.inj hz'
        obtain ⟨x2, _, _, o2, _⟩ := h.lay hz
        have := lt_of_heap o2
        exact ⟨fun e => by simp only [] at e; omega, fun b _ hb => by simp [Value.ownBlock] at hb, fun b _ hb => by simp [Value.ownBlock] at hb, fun b _ hb => by simp [Value.ownBlock] at hb⟩
      · rw [upd_other _ _ ej'] at hz'
        exact h.apart j j' z z' hz hz'
  · exact fa.trans hf (fun _ _ f => f.elim) (fun i _ e => by subst e; exact ⟨h.c1, .inl ⟨_, _, g1⟩⟩)
end

/-- A table: nothing was ever entered, or as it stands. -/
def TB (c : Nat) (w : World) (p n : Nat) (S : Int → Option Lk) (N : Int → Int) : Prop :=
  (c ≤ p ∧ w.heap[p]? = some (.cells #[.map none, .map none] 61 (0, 0)) ∧ S = (fun _ => none) ∧ N = (fun _ => 0)) ∨ ∃ m1 m2 F, TP c w p n m1 m2 F S N

theorem TB.kept {c : Nat} {w w' : World} {p n : Nat} {S : Int → Option Lk} {N : Int → Int} {T : Nat → Prop} (h : TB c w p n S N) (hf : Fr T w w') (hT : ∀ k, Tm c w k → ¬ T k) : TB c w' p n S N := by
  rcases h with ⟨h1, h2, h3, h4⟩ | ⟨m1, m2, F, h⟩
  · exact .inl ⟨h1, hf.heap h2 (hT p ⟨h1, .inr ⟨_, _, h2, .inl rfl⟩⟩), h3, h4⟩
  · exact .inr ⟨m1, m2, F, h.kept hf hT⟩

theorem TB.keep {c : Nat} {w w' : World} {p n : Nat} {S : Int → Option Lk} {N : Int → Int} (h : TB c w p n S N) (hf : Fr no w w') : TB c w' p n S N := h.kept hf (fun _ _ f => f)

theorem TB.mono {c : Nat} {w : World} {p n n' : Nat} {S : Int → Option Lk} {N : Int → Int} (h : TB c w p n S N) (hn : n ≤ n') : TB c w p n' S N := by
  rcases h with h | ⟨m1, m2, F, h⟩
  · exact .inl h
  · exact .inr ⟨m1, m2, F, h.mono hn⟩

/-- The numbers of a lock stay below n. -/
structure LkOk (n : Nat) (x : Lk) : Prop where
  own : In x.owner
  cnt : 0 ≤ x.count ∧ x.count ≤ n
  len : x.entry.length + x.wait.length ≤ n
  ent : ∀ e ∈ x.entry, In e.1 ∧ 0 ≤ e.2 ∧ e.2 ≤ n
  wai : ∀ e ∈ x.wait, In e.1 ∧ 0 ≤ e.2 ∧ e.2 ≤ n

/-- The numbers of a table stay below n. -/
structure Bd (n : Nat) (S : Int → Option Lk) (N : Int → Int) : Prop where
  lk : ∀ k x, S k = some x → LkOk n x
  std : ∀ k, -n ≤ N k ∧ N k ≤ n

theorem LkOk.mono {n n' : Nat} {x : Lk} (h : LkOk n x) (hn : n ≤ n') : LkOk n' x :=
  ⟨h.own, ⟨h.cnt.1, by have := h.cnt.2; omega⟩, by have := h.len; omega, fun e he => by have := h.ent e he; exact ⟨this.1, this.2.1, by omega⟩, fun e he => by have := h.wai e he; exact ⟨this.1, this.2.1, by omega⟩⟩

theorem Bd.mono {n n' : Nat} {S : Int → Option Lk} {N : Int → Int} (h : Bd n S N) (hn : n ≤ n') : Bd n' S N :=
  ⟨fun k x hx => (h.lk k x hx).mono hn, fun k => by have := h.std k; omega⟩

theorem lk0_ok (n : Nat) : LkOk n lk0 := ⟨⟨by decide, by decide⟩, ⟨by decide, Int.natCast_nonneg n⟩, Nat.zero_le _, fun e he => by simp [lk0] at he, fun e he => by simp [lk0] at he⟩

theorem Bd.get {n : Nat} {S : Int → Option Lk} {N : Int → Int} (h : Bd n S N) (a : Int) : LkOk n ((S a).getD lk0) := by
  cases hx : S a with
  | none => exact lk0_ok n
  | some x => exact h.lk a x hx

theorem Bd.put {n : Nat} {S : Int → Option Lk} {N : Int → Int} (h : Bd n S N) (a : Int) {o : Option Lk} (ho : ∀ x, o = some x → LkOk n x) : Bd n (upd S a o) N := by
  refine ⟨fun k x hx => ?_, h.std⟩
  by_cases e : k = a
  · subst e
    rw [upd_same] at hx
    exact ho x hx
  · rw [upd_other _ _ e] at hx
    exact h.lk k x hx

theorem Bd.num {n : Nat} {S : Int → Option Lk} {N : Int → Int} (h : Bd n S N) (t : Int) {v : Int} (hv : -n ≤ v ∧ v ≤ n) : Bd n S (upd N t v) := by
  refine ⟨h.lk, fun k => ?_⟩
  by_cases e : k = t
  · subst e
    rw [upd_same]
    exact hv
  · rw [upd_other _ _ e]
    exact h.std k

theorem Bd.none (n : Nat) : Bd n (fun _ => none) (fun _ => 0) := ⟨fun k x hx => by simp at hx, fun k => by simp⟩
end Go.Proofs.Ytkkpimpmhnnbjaa
