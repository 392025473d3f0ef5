/- Both tables go on alike. -/
import Derived.Test.YtkkpimpmhnnbjaaLq
namespace Go.Proofs.Ytkkpimpmhnnbjaa
open Go.ChangeShapes Go.WideShapes Go.ChangeAt Go.RowKit

structure LOk (x : Lk) : Prop where
  free : x.owner = 0 → x.count = 0 ∧ x.entry = []
  own : x.owner ≠ 0 → 1 ≤ x.owner ∧ 1 ≤ x.count
  thin : x.fat = false → x.entry = [] ∧ x.wait = []
  ent : ∀ e ∈ x.entry, 1 ≤ e.1 ∧ 1 ≤ e.2
  wai : ∀ e ∈ x.wait, 1 ≤ e.1 ∧ 1 ≤ e.2

structure Lnk (s : St) (T : List (Int × Lk)) : Prop where
  keys : Keys T
  lk : ∀ a, dLk T a = s.lk a
  num : ∀ t, s.N t = (tot t T : Int)
  ok : ∀ p ∈ T, LOk p.2

theorem Lnk.set {s : St} {T : List (Int × Lk)} (h : Lnk s T) {i : Nat} {a : Int} {x : Lk} (hx : T[i]? = some (a, x)) (x' : Lk) (s' : St) (hS : ∀ b, s'.lk b = if b = a then x' else s.lk b) (hN : ∀ t, s'.N t = s.N t - (cnt t x : Int) + (cnt t x' : Int)) (ok : LOk x') : Lnk s' (T.set i (a, x')) := by
  refine ⟨?_, fun b => ?_, fun t => ?_, fun p hp => ?_⟩
  · unfold Keys
    rw [keys_set hx]
    exact h.keys
  · rw [dLk_set h.keys hx, hS, h.lk]
  · have := tot_set hx x' t
    rw [hN, h.num]
    omega
  · rcases List.mem_or_eq_of_mem_set hp with hp | rfl
    · exact h.ok p hp
    · exact ok

theorem upd_lk (S : Int → Option Lk) (N : Int → Int) (a : Int) (v : Option Lk) (b : Int) : St.lk ⟨upd S a v, N⟩ b = if b = a then v.getD lk0 else ((S b).getD lk0) := by
  unfold St.lk upd
  by_cases h : b = a <;> simp [h]

theorem Lnk.own {s : St} {T : List (Int × Lk)} (h : Lnk s T) {a t : Int} {i : Nat} {x : Lk} (ho : dOwn T a t = some (i, x)) : ownP s.S a t = some x ∧ T[i]? = some (a, x) ∧ LOk x ∧ x.owner = t ∧ 1 ≤ t ∧ s.lk a = x ∧ s.S a = some x := by
  obtain ⟨hf, hx, ht, hox⟩ := dOwn_some ho
  have h1 := dLk_at hf
  rw [hx] at h1
  simp only [Option.some.injEq, Prod.mk.injEq, true_and] at h1
  have h2 := h.lk a
  rw [← h1] at h2
  have h3 : s.S a = some x := by
    cases hs : s.S a with
    | none =>
      unfold St.lk at h2
      rw [hs] at h2
      rw [h2] at hox
      simp [lk0] at hox
      omega
    | some y =>
      unfold St.lk at h2
      rw [hs] at h2
      simp only [Option.getD_some] at h2
      rw [h2]
  refine ⟨?_, hx, h.ok _ (List.mem_of_getElem? hx), hox, ht, h2.symm, h3⟩
  unfold ownP
  rw [h3]
  simp only []
  rw [if_neg (by omega)]

theorem Lnk.not {s : St} {T : List (Int × Lk)} (h : Lnk s T) {a t : Int} (ho : dOwn T a t = none) : ownP s.S a t = none := by
  cases hp : ownP s.S a t with
  | none => rfl
  | some x =>
    obtain ⟨hs, hox, ht⟩ := ownP_some hp
    have h2 := h.lk a
    have h3 : s.lk a = x := by unfold St.lk; rw [hs]; rfl
    rw [h3] at h2
    cases hf : fdT T a with
    | none =>
      rw [dLk_out (fdT_none_mem hf)] at h2
      rw [← h2] at hox
      simp [lk0] at hox
      omega
    | some i =>
      have hx := dLk_at hf
      rw [h2] at hx
      have hk := (h.ok _ (List.mem_of_getElem? hx)).own (by simp only []; omega)
      simp only [] at hk
      unfold dOwn at ho
      rw [hf] at ho
      simp only [hx] at ho
      rw [if_neg (by omega)] at ho
      simp at ho

theorem cnt_over_cons {x : Lk} {e : Int × Int} {r : List (Int × Int)} (hn : x.entry = e :: r) (t : Int) : cnt t (overL x) + (if e.1 = t then 1 else 0) = cnt t x := by
  unfold cnt overL
  rw [hn]
  simp only [List.countP_cons]
  by_cases h : e.1 = t <;> simp [h] <;> omega

/-- A lock is handed over in both. -/
theorem Lnk.hand {s : St} {T : List (Int × Lk)} (h : Lnk s T) {a : Int} {i : Nat} {x : Lk} (hx : T[i]? = some (a, x)) : Lnk ⟨handS s.S a x, handN s.N x⟩ (T.set i (a, overL x)) := by
  have ok := h.ok _ (List.mem_of_getElem? hx)
  simp only [] at ok
  cases hn : x.entry with
  | nil =>
    have e1 : handN s.N x = s.N := by unfold handN; rw [hn]
    have e2 : overL x = { x with owner := 0, count := 0 } := by unfold overL; rw [hn]
    rw [e1, handS_nil hn, e2]
    refine h.set hx _ _ (fun b => ?_) (fun t => ?_) ⟨fun _ => ⟨rfl, hn⟩, fun k => absurd rfl k, fun f => ok.thin f, ok.ent, ok.wai⟩
    · rw [upd_lk]
      by_cases hb : b = a
      · rw [if_pos hb, if_pos hb]
        cases hf : x.fat with
        | true => rfl
        | false =>
          have := (ok.thin hf).2
          obtain ⟨o, c, f, e, v⟩ := x
          simp only [] at hf hn this
          subst hf hn this
          rfl
      · rw [if_neg hb, if_neg hb]
        rfl
    · show s.N t = _
      have : cnt t { x with owner := 0, count := 0 } = cnt t x := rfl
      rw [this]
      omega
  | cons e r =>
    have he := ok.ent e (by rw [hn]; exact List.mem_cons_self)
    have e1 : handN s.N x = upd s.N e.1 (s.N e.1 - 1) := by unfold handN; rw [hn]
    have e2 : overL x = { x with owner := e.1, count := e.2, entry := r } := by unfold overL; rw [hn]
    have e3 := cnt_over_cons hn
    rw [e2] at e3
    have hfat : x.fat ≠ false := fun f => by have := (ok.thin f).1; rw [hn] at this; simp at this
    rw [e1, handS_cons hn, e2]
    refine h.set hx _ _ (fun b => ?_) (fun t => ?_) ⟨fun k => ?_, fun _ => he, fun f => absurd f hfat, fun z hz => ok.ent z (by rw [hn]; exact List.mem_cons_of_mem _ hz), ok.wai⟩
    · rw [upd_lk]
      rfl
    · have := e3 t
      show upd s.N e.1 (s.N e.1 - 1) t = _
      unfold upd
      by_cases ht : t = e.1
      · subst ht
        rw [if_pos rfl] at this ⊢
        omega
      · rw [if_neg ht]
        rw [if_neg (Ne.symm ht)] at this
        omega
    · simp only [] at k
      omega

theorem Lnk.exit {s : St} {T : List (Int × Lk)} (h : Lnk s T) (a t : Int) : Lnk (exS a t s) (dExitP a t T).2.2 ∧ exR a t s = (dExitP a t T).1 ∧ exE a t s = (dExitP a t T).2.1 := by
  unfold exS exR exE dExitP exitP
  cases ho : dOwn T a t with
  | none =>
    rw [h.not ho]
    exact ⟨h, rfl, rfl⟩
  | some p =>
    obtain ⟨i, x⟩ := p
    obtain ⟨h1, hx, ok, hox, ht, hlk, hS⟩ := h.own ho
    rw [h1]
    simp only []
    by_cases hc : 1 < x.count
    · rw [if_pos hc, if_pos (show x.count - 1 > 0 by omega)]
      refine ⟨?_, rfl, rfl⟩
      refine h.set hx _ _ (fun b => ?_) (fun t => ?_) ⟨fun k => ?_, fun k => ⟨(ok.own k).1, ?_⟩, ok.thin, ok.ent, ok.wai⟩
      · rw [upd_lk]
        rfl
      · show s.N t = _
        have : cnt t { x with count := x.count - 1 } = cnt t x := rfl
        rw [this]
        omega
      · simp only [] at k
        omega
      · show 1 ≤ x.count - 1
        omega
    · rw [if_neg hc, if_neg (show ¬ (x.count - 1 > 0) by omega)]
      exact ⟨h.hand hx, rfl, rfl⟩

theorem Lnk.wait {s : St} {T : List (Int × Lk)} (h : Lnk s T) (a t : Int) : Lnk (waS a t s) (dWaitP a t T).2.2 ∧ waR a t s = (dWaitP a t T).1 ∧ waE a t s = (dWaitP a t T).2.1 := by
  unfold waS waR waE dWaitP waitP
  cases ho : dOwn T a t with
  | none =>
    rw [h.not ho]
    exact ⟨h, rfl, rfl⟩
  | some p =>
    obtain ⟨i, x⟩ := p
    obtain ⟨h1, hx, ok, hox, ht, hlk, hS⟩ := h.own ho
    rw [h1]
    simp only []
    have hown := ok.own (by omega)
    have h2 : Lnk ⟨upd s.S a (some (waitL t x)), upd s.N t (s.N t + 1)⟩ (T.set i (a, waitL t x)) := by
      refine h.set hx _ _ (fun b => ?_) (fun u => ?_) ⟨fun k => ok.free k, fun k => ok.own k, fun f => by simp [waitL] at f, ok.ent, fun e he => ?_⟩
      · rw [upd_lk]
        rfl
      · have : cnt u (waitL t x) = cnt u x + (if t = u then 1 else 0) := by
          unfold cnt waitL
          simp only [List.countP_append, List.countP_cons, List.countP_nil]
          by_cases e : t = u <;> simp [e] <;> omega
        rw [this]
        show upd s.N t (s.N t + 1) u = _
        unfold upd
        by_cases e : u = t
        · subst e
          rw [if_pos rfl, if_pos rfl]
          omega
        · rw [if_neg e, if_neg (Ne.symm e)]
          omega
      · rcases List.mem_append.1 he with he | he
        · exact ok.wai e he
        · simp at he
          subst he
          exact ⟨ht, hown.2⟩
    have h3 := h2.hand (a := a) (i := i) (x := waitL t x) (by
      have hi := (List.getElem?_eq_some_iff.1 hx).1
      rw [List.getElem?_set_self hi])
    rw [List.set_set] at h3
    simp only [handS_upd] at h3
    exact ⟨h3, by first | rfl | trivial, by first | rfl | trivial⟩

theorem Lnk.notify {s : St} {T : List (Int × Lk)} (h : Lnk s T) (a t : Int) (b : Bool) : Lnk (noS a t b s) (dNotifyP a t b T).2.2 ∧ noR a t b s = ((dNotifyP a t b T).1 : Int) ∧ noE a t b s = (dNotifyP a t b T).2.1 := by
  unfold noS noR noE dNotifyP notifyP
  cases ho : dOwn T a t with
  | none =>
    rw [h.not ho]
    exact ⟨h, rfl, rfl⟩
  | some p =>
    obtain ⟨i, x⟩ := p
    obtain ⟨h1, hx, ok, hox, ht, hlk, hS⟩ := h.own ho
    rw [h1]
    simp only []
    refine ⟨?_, by first | rfl | trivial, by first | rfl | trivial⟩
    generalize noteK x b = k
    refine h.set hx _ _ (fun b => ?_) (fun u => ?_) ⟨fun k => ?_, fun k => ok.own k, fun f => ?_, fun e he => ?_, fun e he => ok.wai e (List.mem_of_mem_drop he)⟩
    · rw [upd_lk]
      rfl
    · have : cnt u (noteL x k) = cnt u x := by
        unfold cnt noteL
        simp only [List.countP_append]
        have := List.countP_append (p := fun z : Int × Int => z.1 == u) (l₁ := x.wait.take k) (l₂ := x.wait.drop k)
        rw [List.take_append_drop] at this
        omega
      rw [this]
      show s.N u = _
      omega
    · have : x.owner = 0 := k
      omega
    · have := ok.thin f
      unfold noteL
      simp [this]
    · rcases List.mem_append.1 he with he | he
      · exact ok.ent e he
      · exact ok.wai e (List.mem_of_mem_take he)
end Go.Proofs.Ytkkpimpmhnnbjaa
