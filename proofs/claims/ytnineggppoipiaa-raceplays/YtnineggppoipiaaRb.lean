/- The document's watch of threads: how it lies in memory; a new one. -/
import Derived.Test.YtnineggppoipiaaRa
namespace Go.Proofs.Ytnineggppoipiaa
open Go.ChangeShapes Go.WideShapes Go.ChangeAt Go.RowKit

/-- Threads' clocks, their ends', which have ended. -/
structure Wt where
  c : Nat
  now : Nat → Nat → Int
  fin : Nat → Nat → Int
  ended : Nat → Bool

/-- The watch in block p. -/
structure RW (w : World) (p : Nat) (T : Wt) (ks : List Kp) (as' : List Ac) (n : Int) : Prop where
  row : ∃ cs, w.heap[p]? = some (.cells cs 42 (0, 0)) ∧ cs.size = 354
  now_ : ∀ t, t < 13 → w.rangeAt p (t * 13) (ckL (T.now t))
  fin_ : ∀ t, t < 13 → w.rangeAt p (169 + t * 13) (ckL (T.fin t))
  end_ : ∀ t, t < 13 → w.cell? ⟨p, 338 + t, none⟩ = some (.bool (T.ended t))
  kept : ∃ kv, w.cell? ⟨p, 351, none⟩ = some kv ∧ OwnG elP w kv ks
  acc : ∃ lv, w.cell? ⟨p, 352, none⟩ = some lv ∧ OwnG elA w lv as'
  races : w.cell? ⟨p, 353, none⟩ = some (.int .i64 n)
  low : T.c ≤ p
  keptLow : ∀ kv, w.cell? ⟨p, 351, none⟩ = some kv → ∀ b, kv.ownBlock = some b → T.c ≤ b
  accLow : ∀ kv, w.cell? ⟨p, 352, none⟩ = some kv → ∀ b, kv.ownBlock = some b → T.c ≤ b

theorem rangeAt_fr {S : Nat → Prop} {w w' : World} {b o : Nat} {vs : List Value} (h : w.rangeAt b o vs) (f : Fr S w w') (hb : ¬ S b) : w'.rangeAt b o vs := fun j v hv => f.cell (h j v hv) hb

theorem own_blk {α : Type} {K : El α} {w : World} {v : Value} {l : List α} (h : OwnG K w v l) {p : Nat} {cs : Array Value} {t : TypeId} (hp : w.heap[p]? = some (.cells cs t (0, 0))) (ht : K.e ≠ t) : ∀ k, v.ownBlock = some k → k ≠ p := by
  intro k hk e
  rcases h with ⟨rfl, rfl⟩ | ⟨g, o, cap, cur, rfl, hg, _⟩
  · simp [Value.ownBlock] at hk
  · simp only [Value.ownBlock, Option.some.injEq] at hk
    subst hk
    subst e
    rw [hg] at hp
    simp only [Option.some.injEq, Obj.cells.injEq] at hp
    exact ht hp.2.1

theorem RW.frz {w : World} {p : Nat} {T : Wt} {ks : List Kp} {as' : List Ac} {n : Int} (h : RW w p T ks as' n) (o : Nat) : w.frozen? ⟨p, o, none⟩ = false := by
  obtain ⟨cs, h1, _⟩ := h.row
  exact row_froz h1 o
theorem RW.there {w : World} {p : Nat} {T : Wt} {ks : List Kp} {as' : List Ac} {n : Int} (h : RW w p T ks as' n) (o m : Nat) (hm : o + m ≤ 354) : w.there p o m := fun j hj => by
  obtain ⟨cs, h1, h2⟩ := h.row
  refine ⟨?_, h.frz _⟩
  unfold World.cell?
  rw [h1]
  simp
  omega
theorem RW.lt {w : World} {p : Nat} {T : Wt} {ks : List Kp} {as' : List Ac} {n : Int} (h : RW w p T ks as' n) : p < w.heap.size := by
  obtain ⟨cs, h1, _⟩ := h.row
  exact (Array.getElem?_eq_some_iff.1 h1).1
theorem RW.keep {w w' : World} {p : Nat} {T : Wt} {ks : List Kp} {as' : List Ac} {n : Int} (h : RW w p T ks as' n) (f : Fr no w w') : RW w' p T ks as' n where
  row := by
    obtain ⟨cs, h1, h2⟩ := h.row
    exact ⟨cs, f.heap h1 (fun x => x), h2⟩
  now_ := fun t ht => rangeAt_fr (h.now_ t ht) f (fun x => x)
  fin_ := fun t ht => rangeAt_fr (h.fin_ t ht) f (fun x => x)
  end_ := fun t ht => f.cell (h.end_ t ht) (fun x => x)
  kept := by
    obtain ⟨kv, h1, h2⟩ := h.kept
    exact ⟨kv, f.cell h1 (fun x => x), h2.keep f⟩
  acc := by
    obtain ⟨kv, h1, h2⟩ := h.acc
    exact ⟨kv, f.cell h1 (fun x => x), h2.keep f⟩
  races := f.cell h.races (fun x => x)
  low := h.low
  keptLow := fun kv hk => by
    obtain ⟨v, h1, -⟩ := h.kept
    rw [f.cell h1 (fun x => x)] at hk
    cases hk
    exact h.keptLow _ h1
  accLow := fun kv hk => by
    obtain ⟨v, h1, -⟩ := h.acc
    rw [f.cell h1 (fun x => x)] at hk
    cases hk
    exact h.accLow _ h1

theorem row_set {p : Nat} {t : TypeId} {m : Nat} : ∀ (vs : List Value) (o : Nat) (w : World), (∃ cs, w.heap[p]? = some (.cells cs t (0, 0)) ∧ cs.size = m) → ∃ cs, (w.setCells p o vs).heap[p]? = some (.cells cs t (0, 0)) ∧ cs.size = m
  | [], _, w, h => h
  | v :: vs, o, w, ⟨cs, h1, h2⟩ => row_set vs (o + 1) _ ⟨_, heap_set h1, by simp [h2]⟩

def setT {α : Type} (f : Nat → α) (t : Nat) (c : α) : Nat → α := fun i => if i = t then c else f i
theorem setT_same {α : Type} (f : Nat → α) (t : Nat) (c : α) : setT f t c t = c := if_pos rfl
theorem setT_ne {α : Type} (f : Nat → α) {t t' : Nat} (c : α) (h : ¬ t' = t) : setT f t c t' = f t' := if_neg h

/-- A clock of the watch is written: the now of a thread. -/
theorem RW.setNow {w : World} {p : Nat} {T : Wt} {ks : List Kp} {as' : List Ac} {n : Int} (h : RW w p T ks as' n) {t : Nat} (ht : t < 13) (c : Nat → Int) :
    RW (w.setCells p (t * 13) (ckL c)) p { T with now := setT T.now t c } ks as' n where
  row := row_set _ _ w h.row
  now_ := fun t' ht' => by
    show World.rangeAt _ _ _ (ckL (setT T.now t c t'))
    by_cases e : t' = t
    · subst e
      rw [setT_same]
      exact World.rangeAt_setCells_same w p _ _ (h.there _ _ (by rw [ckL_len]; omega))
    · rw [setT_ne _ _ e]
      exact World.rangeAt_setCells_apart (h.now_ t' ht') p _ _ (.inr (by rw [ckL_len, ckL_len]; omega))
  fin_ := fun t' ht' => World.rangeAt_setCells_apart (h.fin_ t' ht') p _ _ (.inr (by rw [ckL_len, ckL_len]; omega))
  end_ := fun t' ht' => by rw [World.cell?_setCells_out p _ _ _ _ (fun _ _ => .inr (by rw [ckL_len]; show _ ≤ 338 + t'; omega))]; exact h.end_ t' ht'
  kept := by
    obtain ⟨kv, h1, h2⟩ := h.kept
    obtain ⟨cs, h3, _⟩ := h.row
    refine ⟨kv, ?_, h2.kept (fr_sets w p _ _) (own_blk h2 h3 (by decide))⟩
    rw [World.cell?_setCells_out p _ _ _ _ (fun _ _ => .inr (by rw [ckL_len]; show _ ≤ 351; omega))]
    exact h1
  acc := by
    obtain ⟨kv, h1, h2⟩ := h.acc
    obtain ⟨cs, h3, _⟩ := h.row
    refine ⟨kv, ?_, h2.kept (fr_sets w p _ _) (own_blk h2 h3 (by decide))⟩
    rw [World.cell?_setCells_out p _ _ _ _ (fun _ _ => .inr (by rw [ckL_len]; show _ ≤ 352; omega))]
    exact h1
  races := by rw [World.cell?_setCells_out p _ _ _ _ (fun _ _ => .inr (by rw [ckL_len]; show _ ≤ 353; omega))]; exact h.races
  low := h.low
  keptLow := fun kv hk => h.keptLow kv (by rwa [World.cell?_setCells_out p _ _ _ _ (fun _ _ => .inr (by rw [ckL_len]; show _ ≤ 351; omega))] at hk)
  accLow := fun kv hk => h.accLow kv (by rwa [World.cell?_setCells_out p _ _ _ _ (fun _ _ => .inr (by rw [ckL_len]; show _ ≤ 352; omega))] at hk)
/-- Its end's. -/
theorem RW.setFin {w : World} {p : Nat} {T : Wt} {ks : List Kp} {as' : List Ac} {n : Int} (h : RW w p T ks as' n) {t : Nat} (ht : t < 13) (c : Nat → Int) :
    RW (w.setCells p (169 + t * 13) (ckL c)) p { T with fin := setT T.fin t c } ks as' n where
  row := row_set _ _ w h.row
  now_ := fun t' ht' => World.rangeAt_setCells_apart (h.now_ t' ht') p _ _ (.inr (by rw [ckL_len, ckL_len]; omega))
  fin_ := fun t' ht' => by
    show World.rangeAt _ _ _ (ckL (setT T.fin t c t'))
    by_cases e : t' = t
    · subst e
      rw [setT_same]
      exact World.rangeAt_setCells_same w p _ _ (h.there _ _ (by rw [ckL_len]; omega))
    · rw [setT_ne _ _ e]
      exact World.rangeAt_setCells_apart (h.fin_ t' ht') p _ _ (.inr (by rw [ckL_len, ckL_len]; omega))
  end_ := fun t' ht' => by rw [World.cell?_setCells_out p _ _ _ _ (fun _ _ => .inr (by rw [ckL_len]; show _ ≤ 338 + t'; omega))]; exact h.end_ t' ht'
  kept := by
    obtain ⟨kv, h1, h2⟩ := h.kept
    obtain ⟨cs, h3, _⟩ := h.row
    refine ⟨kv, ?_, h2.kept (fr_sets w p _ _) (own_blk h2 h3 (by decide))⟩
    rw [World.cell?_setCells_out p _ _ _ _ (fun _ _ => .inr (by rw [ckL_len]; show _ ≤ 351; omega))]
    exact h1
  acc := by
    obtain ⟨kv, h1, h2⟩ := h.acc
    obtain ⟨cs, h3, _⟩ := h.row
    refine ⟨kv, ?_, h2.kept (fr_sets w p _ _) (own_blk h2 h3 (by decide))⟩
    rw [World.cell?_setCells_out p _ _ _ _ (fun _ _ => .inr (by rw [ckL_len]; show _ ≤ 352; omega))]
    exact h1
  races := by rw [World.cell?_setCells_out p _ _ _ _ (fun _ _ => .inr (by rw [ckL_len]; show _ ≤ 353; omega))]; exact h.races
  low := h.low
  keptLow := fun kv hk => h.keptLow kv (by rwa [World.cell?_setCells_out p _ _ _ _ (fun _ _ => .inr (by rw [ckL_len]; show _ ≤ 351; omega))] at hk)
  accLow := fun kv hk => h.accLow kv (by rwa [World.cell?_setCells_out p _ _ _ _ (fun _ _ => .inr (by rw [ckL_len]; show _ ≤ 352; omega))] at hk)

theorem cell_set_out {w : World} {p o o' : Nat} {u : Value} (h : o ≠ o') : (w.setCell ⟨p, o, none⟩ u).cell? ⟨p, o', none⟩ = w.cell? ⟨p, o', none⟩ :=
  World.cell?_setCells_out p [u] o w ⟨p, o', none⟩ (fun _ _ => by simp; omega)
theorem cell_set_in {w : World} {p o : Nat} {u : Value} (h : (w.cell? ⟨p, o, none⟩).isSome = true) : (w.setCell ⟨p, o, none⟩ u).cell? ⟨p, o, none⟩ = some u := by
  have := World.cell?_setCells_in p [u] o w (fun j hj => by
    have : j = 0 := by simpa using hj
    subst this
    exact h) 0 (by simp)
  exact this
theorem range_set_out {w : World} {p o o' : Nat} {u : Value} {vs : List Value} (h : w.rangeAt p o' vs) (hap : o < o' ∨ o' + vs.length ≤ o) : (w.setCell ⟨p, o, none⟩ u).rangeAt p o' vs := fun j v hv => by
  have hj : j < vs.length := (List.getElem?_eq_some_iff.1 hv).1
  rw [cell_set_out (by omega)]
  exact h j v hv
theorem range_set_in {w : World} {p o k : Nat} {c : Nat → Int} {v : Int} (h : w.rangeAt p o (ckL c)) (hk : k < 13) : (w.setCell ⟨p, o + k, none⟩ (.int .i64 v)).rangeAt p o (ckL (setT c k v)) := fun j u hu => by
  have hj : j < 13 := by have := (List.getElem?_eq_some_iff.1 hu).1; rwa [ckL_len] at this
  rw [ckL_get _ j hj] at hu
  simp only [Option.some.injEq] at hu
  subst hu
  by_cases e : j = k
  · subst e
    rw [setT_same]
    exact cell_set_in (by rw [h j _ (ckL_get c j hj)]; rfl)
  · rw [setT_ne _ _ e, cell_set_out (by omega)]
    exact h j _ (ckL_get c j hj)

/-- One number of a thread's clock is written. -/
theorem RW.setOne {w : World} {p : Nat} {T : Wt} {ks : List Kp} {as' : List Ac} {n : Int} (h : RW w p T ks as' n) {t k : Nat} (ht : t < 13) (hk : k < 13) (v : Int) :
    RW (w.setCell ⟨p, t * 13 + k, none⟩ (.int .i64 v)) p { T with now := setT T.now t (setT (T.now t) k v) } ks as' n where
  row := row_set [_] _ w h.row
  now_ := fun t' ht' => by
    by_cases e : t' = t
    · subst e
      show World.rangeAt _ _ _ (ckL (setT T.now t' _ t'))
      rw [setT_same]
      exact range_set_in (h.now_ t' ht') hk
    · show World.rangeAt _ _ _ (ckL (setT T.now t _ t'))
      rw [setT_ne _ _ e]
      exact range_set_out (h.now_ t' ht') (by rw [ckL_len]; omega)
  fin_ := fun t' ht' => range_set_out (h.fin_ t' ht') (by omega)
  end_ := fun t' ht' => by rw [cell_set_out (by omega)]; exact h.end_ t' ht'
  kept := by
    obtain ⟨kv, h1, h2⟩ := h.kept
    obtain ⟨cs, h3, _⟩ := h.row
    exact ⟨kv, by rw [cell_set_out (by omega)]; exact h1, h2.kept (fr_set w p _ _) (own_blk h2 h3 (by decide))⟩
  acc := by
    obtain ⟨kv, h1, h2⟩ := h.acc
    obtain ⟨cs, h3, _⟩ := h.row
    exact ⟨kv, by rw [cell_set_out (by omega)]; exact h1, h2.kept (fr_set w p _ _) (own_blk h2 h3 (by decide))⟩
  races := by rw [cell_set_out (by omega)]; exact h.races
  low := h.low
  keptLow := fun kv hk => h.keptLow kv (by rwa [cell_set_out (by omega)] at hk)
  accLow := fun kv hk => h.accLow kv (by rwa [cell_set_out (by omega)] at hk)
/-- A thread has ended. -/
theorem RW.setEnd {w : World} {p : Nat} {T : Wt} {ks : List Kp} {as' : List Ac} {n : Int} (h : RW w p T ks as' n) {t : Nat} (ht : t < 13) :
    RW (w.setCell ⟨p, 338 + t, none⟩ (.bool true)) p { T with ended := setT T.ended t true } ks as' n where
  row := row_set [_] _ w h.row
  now_ := fun t' ht' => range_set_out (h.now_ t' ht') (by rw [ckL_len]; omega)
  fin_ := fun t' ht' => range_set_out (h.fin_ t' ht') (by rw [ckL_len]; omega)
  end_ := fun t' ht' => by
    show _ = some (Value.bool (setT T.ended t true t'))
    by_cases e : t' = t
    · subst e
      rw [setT_same]
      exact cell_set_in (by rw [h.end_ t' ht']; rfl)
    · rw [setT_ne _ _ e, cell_set_out (by omega)]
      exact h.end_ t' ht'
  kept := by
    obtain ⟨kv, h1, h2⟩ := h.kept
    obtain ⟨cs, h3, _⟩ := h.row
    exact ⟨kv, by rw [cell_set_out (by omega)]; exact h1, h2.kept (fr_set w p _ _) (own_blk h2 h3 (by decide))⟩
  acc := by
    obtain ⟨kv, h1, h2⟩ := h.acc
    obtain ⟨cs, h3, _⟩ := h.row
    exact ⟨kv, by rw [cell_set_out (by omega)]; exact h1, h2.kept (fr_set w p _ _) (own_blk h2 h3 (by decide))⟩
  races := by rw [cell_set_out (by omega)]; exact h.races
  low := h.low
  keptLow := fun kv hk => h.keptLow kv (by rwa [cell_set_out (by omega)] at hk)
  accLow := fun kv hk => h.accLow kv (by rwa [cell_set_out (by omega)] at hk)
/-- One race more. -/
theorem RW.setRaces {w : World} {p : Nat} {T : Wt} {ks : List Kp} {as' : List Ac} {n : Int} (h : RW w p T ks as' n) (m : Int) :
    RW (w.setCell ⟨p, 353, none⟩ (.int .i64 m)) p T ks as' m where
  row := row_set [_] _ w h.row
  now_ := fun t' ht' => range_set_out (h.now_ t' ht') (by rw [ckL_len]; omega)
  fin_ := fun t' ht' => range_set_out (h.fin_ t' ht') (by rw [ckL_len]; omega)
  end_ := fun t' ht' => by rw [cell_set_out (by omega)]; exact h.end_ t' ht'
  kept := by
    obtain ⟨kv, h1, h2⟩ := h.kept
    obtain ⟨cs, h3, _⟩ := h.row
    exact ⟨kv, by rw [cell_set_out (by omega)]; exact h1, h2.kept (fr_set w p _ _) (own_blk h2 h3 (by decide))⟩
  acc := by
    obtain ⟨kv, h1, h2⟩ := h.acc
    obtain ⟨cs, h3, _⟩ := h.row
    exact ⟨kv, by rw [cell_set_out (by omega)]; exact h1, h2.kept (fr_set w p _ _) (own_blk h2 h3 (by decide))⟩
  races := cell_set_in (by rw [h.races]; rfl)
  low := h.low
  keptLow := fun kv hk => h.keptLow kv (by rwa [cell_set_out (by omega)] at hk)
  accLow := fun kv hk => h.accLow kv (by rwa [cell_set_out (by omega)] at hk)

def reps (n : Nat) (v : Value) : List Value := List.replicate n v
theorem reps_len (n : Nat) (v : Value) : (reps n v).length = n := List.length_replicate ..
theorem reps_get {n i : Nat} (v : Value) (h : i < n) : (reps n v)[i]? = some v := by
  unfold reps
  rw [List.getElem?_replicate, if_pos h]
def Z354 : Array Value := (reps 338 (.int .i64 0) ++ (reps 13 (.bool false) ++ [Value.slice none 0 0, Value.slice none 0 0, Value.int .i64 0])).toArray
theorem Z354_lo {i : Nat} (h : i < 338) : Z354[i]? = some (.int .i64 0) := by
  unfold Z354
  rw [List.getElem?_toArray, List.getElem?_append_left (by rw [reps_len]; exact h), reps_get _ h]
theorem Z354_mid {i : Nat} (h : i < 13) : Z354[338 + i]? = some (.bool false) := by
  unfold Z354
  rw [List.getElem?_toArray, List.getElem?_append_right (by rw [reps_len]; omega), reps_len, Nat.add_sub_cancel_left, List.getElem?_append_left (by rw [reps_len]; exact h), reps_get _ h]
theorem Z354_hi (i : Nat) : Z354[351 + i]? = [Value.slice none 0 0, Value.slice none 0 0, Value.int .i64 0][i]? := by
  unfold Z354
  rw [List.getElem?_toArray, List.getElem?_append_right (by rw [reps_len]; omega), reps_len, show 351 + i - 338 = 13 + i by omega, List.getElem?_append_right (by rw [reps_len]; omega), reps_len, Nat.add_sub_cancel_left]
theorem Z354_size : Z354.size = 354 := by
  unfold Z354
  rw [List.size_toArray, List.length_append, List.length_append, reps_len, reps_len]
  rfl
def T0 (c : Nat) : Wt := ⟨c, fun _ _ => 0, fun _ _ => 0, fun _ => false⟩
theorem rw_new {w : World} {p : Nat} (h : w.heap[p]? = some (.cells Z354 42 (0, 0))) {c0 : Nat} (hc : c0 ≤ p) : RW w p (T0 c0) [] [] 0 := by
  have c : ∀ i v, Z354[i]? = some v → w.cell? ⟨p, i, none⟩ = some v := fun i v hv => by
    unfold World.cell?
    rw [h]
    simpa using hv
  refine ⟨⟨_, h, Z354_size⟩, fun t ht j v hv => ?_, fun t ht j v hv => ?_, fun t ht => c _ _ (Z354_mid ht), ⟨_, c _ _ (Z354_hi 0), OwnG.nil _ _⟩, ⟨_, c _ _ (Z354_hi 1), OwnG.nil _ _⟩, c _ _ (Z354_hi 2), hc, fun kv hk => ?_, fun kv hk => ?_⟩
  · have hj : j < 13 := by have := (List.getElem?_eq_some_iff.1 hv).1; rwa [ckL_len] at this
    rw [ckL_get _ j hj] at hv
    rw [c _ _ (Z354_lo (by omega)), ← hv]
    rfl
  · have hj : j < 13 := by have := (List.getElem?_eq_some_iff.1 hv).1; rwa [ckL_len] at this
    rw [ckL_get _ j hj] at hv
    rw [c _ _ (Z354_lo (by omega)), ← hv]
    rfl
  · rw [c _ _ (Z354_hi 0)] at hk
    cases hk
    exact fun b hb => by simp [Value.ownBlock] at hb
  · rw [c _ _ (Z354_hi 1)] at hk
    cases hk
    exact fun b hb => by simp [Value.ownBlock] at hb

/-- The first of them have begun. -/
def TB (c k : Nat) : Wt := ⟨c, fun t j => if 0 < t ∧ t < k ∧ j = t then 1 else 0, fun _ _ => 0, fun _ => false⟩
theorem TB_one (c : Nat) : TB c 1 = T0 c := by
  unfold TB T0
  congr 1
  funext t j
  exact if_neg (by omega)
theorem TB_step (c k : Nat) (hk : 0 < k) : { TB c k with now := setT (TB c k).now k (setT ((TB c k).now k) k 1) } = TB c (k + 1) := by
  have h : setT (TB c k).now k (setT ((TB c k).now k) k 1) = (TB c (k + 1)).now := by
    funext t j
    unfold setT TB
    dsimp only
    by_cases h1 : t = k
    · subst h1
      by_cases h2 : j = t
      · subst h2
        simp [hk]
      · simp [h2]
    · simp only [if_neg h1]
      by_cases h3 : 0 < t ∧ t < k ∧ j = t
      · rw [if_pos h3, if_pos ⟨h3.1, by omega, h3.2.2⟩]
      · rw [if_neg h3, if_neg (by omega)]
  show (⟨c, setT (TB c k).now k (setT ((TB c k).now k) k 1), (TB c k).fin, (TB c k).ended⟩ : Wt) = TB c (k + 1)
  rw [h]
  rfl

set_option maxRecDepth 100000 in
theorem new_any (w : World) (c : Nat) (hc : c ≤ w.heap.size) : Calls Try.prog 11 #[] w fun e w' => e = .returned (.pointer (some ⟨w.heap.size, 0, none⟩)) ∧ RW w' w.heap.size (TB c 13) [] [] 0 ∧ Fr no w w' := by
  have hz : ∀ w, (zeroValue 42).run Try.prog w = .ok (.agg Z354) w := fun w => by kernel_rfl
  go_enter Try.func11, Try.ntmps11
  go_upto_region 2 with fail
  have H := heap_alloc_new w (.cells Z354 42)
  have F := (Fr.refl no w).alloc Z354 42
  have HI : Hid (RW _ w.heap.size (TB c 1) [] [] 0 ∧ Fr no w _) := ⟨TB_one c ▸ rw_new H hc, F⟩
  clear H F hz
  generalize w.alloc (.cells Z354 42) = W at *
  generalize hp : w.heap.size = p at *
  have HP : Hid (w.heap.size ≤ p) := Nat.le_of_eq hp
  have HPE : Hid (w.heap.size = p) := hp
  clear hp
  go_wp2_with fail
  go_loopw [2] (fun iv wr => ∃ k : Nat, iv = .int .i64 (k : Int) ∧ 0 < k ∧ k ≤ 13 ∧ Hid (RW wr p (TB c k) [] [] 0 ∧ Fr no w wr)) (fun iv _ => 13 - (intOf iv).toNat)
  case atStart => exact ⟨1, rfl, by omega, by omega, HI⟩
  case round =>
    obtain ⟨k, rfl, hk1, hk, HJ⟩ := hrel
    clear HI
    have hk0 : (0 : Int) ≤ (k : Int) := by omega
    by_cases hlt : k < 13
    · have hlt' : (k : Int) ≤ 12 := by omega
      have hlt2 : (k : Int) < 13 := by omega
      have c1 := (HJ.out.1.now_ k hlt) k _ (ckL_get _ k hlt)
      have fz := HJ.out.1.frz
      have HN : Hid (RW (wr.setCell ⟨p, k * 13 + k, none⟩ (.int .i64 1)) p (TB c (k + 1)) [] [] 0 ∧ Fr no w (wr.setCell ⟨p, k * 13 + k, none⟩ (.int .i64 1))) := ⟨TB_step c k hk1 ▸ HJ.out.1.setOne hlt hlt 1, HJ.out.2.newBk (fr_set wr p _ _) HP.out⟩
      clear HJ
      go_wp2_with fail
      go_roundw
      case rel => exact ⟨k + 1, by congr 1, by omega, by omega, HN⟩
      case measure => simp [intOf]; omega
    · obtain rfl : k = 13 := by omega
      go_wp2_with fail
      go_ret
      rw [HPE.out]
      exact ⟨rfl, HJ.out.1, HJ.out.2⟩
end Go.Proofs.Ytnineggppoipiaa
