/- MonitorFair, without memory: one lock, its owner, those who stand in line. -/
import Derived.Test.YtkkpimpmhnnbjaaJt
namespace Go.Proofs.Ytkkpimpmhnnbjaa

def lineE (q : List Int) : List (Int × Int) := q.map (fun t => (t, 1))

theorem fsts_line (q : List Int) : fsts (lineE q) = q := by simp [fsts, lineE, Function.comp_def]

/-- The lock 5 is o's, and those in q stand in line. -/
structure Fair (s : St) (o : Int) (q : List Int) : Prop where
  own : (s.lk 5).owner = o
  cnt : (s.lk 5).count = if o = 0 then 0 else 1
  ent : (s.lk 5).entry = lineE q
  wai : (s.lk 5).wait = []
  num : ∀ t, s.N t = if t ∈ q then 1 else 0
  nod : q.Nodup
  apart : o ∉ q
  free : o = 0 → q = []
  rng : ∀ t ∈ q, 1 ≤ t ∧ t ≤ 6
  ob : 0 ≤ o ∧ o ≤ 6

theorem fair0 : Fair st0 0 [] := ⟨rfl, rfl, rfl, rfl, fun _ => rfl, List.nodup_nil, by simp, fun _ => rfl, by simp, by omega⟩

theorem lk_upd (S : Int → Option Lk) (N : Int → Int) (a : Int) (x : Lk) : St.lk ⟨upd S a (some x), N⟩ a = x := by
  unfold St.lk
  simp only [upd_same, Option.getD_some]

theorem Fair.enter0 {s : St} {q : List Int} (h : Fair s 0 q) (t : Int) (ht : 1 ≤ t ∧ t ≤ 6) : enR 5 t s = true ∧ enE 5 t s = 0 ∧ Fair (enS 5 t s) t [] := by
  have hq := h.free rfl
  subst hq
  have hN : s.N t = 0 := by rw [h.num]; simp
  have c1 : ¬ ((5 : Int) < 1 ∨ t < 1 ∨ 0 < s.N t) := by rw [hN]; omega
  have ho : ((s.S 5).getD lk0).owner = 0 := h.own
  have hc : ((s.S 5).getD lk0).count = 0 := h.cnt
  have he : ((s.S 5).getD lk0).entry = [] := h.ent
  have hw : ((s.S 5).getD lk0).wait = [] := h.wai
  unfold enR enE enS enterP
  rw [if_neg c1, if_neg (by rw [ho]; omega), if_pos ho]
  refine ⟨rfl, rfl, ?_⟩
  constructor
  · rw [lk_upd]; rfl
  · rw [lk_upd, if_neg (by omega)]
    show _ + 1 = _
    rw [hc]; rfl
  · rw [lk_upd]; exact he
  · rw [lk_upd]; exact hw
  · exact h.num
  · exact List.nodup_nil
  · simp
  · intro _; rfl
  · simp
  · omega

theorem Fair.enter1 {s : St} {o : Int} {q : List Int} (h : Fair s o q) (t : Int) (ht : 1 ≤ t ∧ t ≤ 6) (ho : o ≠ 0) (hot : o ≠ t) (hq : t ∉ q) : enR 5 t s = false ∧ enE 5 t s = 0 ∧ Fair (enS 5 t s) o (q ++ [t]) := by
  have hN : s.N t = 0 := by rw [h.num, if_neg hq]
  have c1 : ¬ ((5 : Int) < 1 ∨ t < 1 ∨ 0 < s.N t) := by rw [hN]; omega
  have ho' : ((s.S 5).getD lk0).owner = o := h.own
  unfold enR enE enS enterP
  rw [if_neg c1, if_neg (by rw [ho']; exact hot), if_neg (by rw [ho']; exact ho)]
  refine ⟨rfl, rfl, ?_⟩
  constructor
  · rw [lk_upd]; exact ho'
  · rw [lk_upd]; exact h.cnt
  · rw [lk_upd]
    show _ ++ [(t, 1)] = _
    have he : ((s.S 5).getD lk0).entry = lineE q := h.ent
    rw [he]
    simp [lineE]
  · rw [lk_upd]; exact h.wai
  · intro z
    show upd s.N t (s.N t + 1) z = _
    by_cases e : z = t
    · subst e
      rw [upd_same, hN, if_pos (by simp)]
      rfl
    · rw [upd_other _ _ e, h.num]
      simp [e]
  · rw [List.nodup_append]
    refine ⟨h.nod, by simp, ?_⟩
    intro a ha b hb e
    simp only [List.mem_singleton] at hb
    subst hb e
    exact hq ha
  · simp only [List.mem_append, List.mem_singleton, not_or]
    exact ⟨h.apart, hot⟩
  · intro e; exact absurd e ho
  · intro z hz
    simp only [List.mem_append, List.mem_singleton] at hz
    rcases hz with hz | rfl
    · exact h.rng z hz
    · exact ht
  · exact h.ob

theorem Fair.exitNo {s : St} {o : Int} {q : List Int} (h : Fair s o q) (t : Int) (hot : o ≠ t) : exE 5 t s = 130 ∧ exS 5 t s = s := by
  have e : ownP s.S 5 t = none := by
    unfold ownP
    cases hx : s.S 5 with
    | none => rfl
    | some x =>
      have : x.owner = o := by have := h.own; unfold St.lk at this; rw [hx] at this; exact this
      simp only []
      rw [if_pos (.inr (by rw [this]; exact hot))]
  unfold exE exS exitP
  rw [e]
  exact ⟨rfl, rfl⟩

theorem Fair.exitOk {s : St} {t : Int} {q : List Int} (h : Fair s t q) (ht : 1 ≤ t) : exE 5 t s = 0 ∧ exR 5 t s = q.headD 0 ∧ Fair (exS 5 t s) (q.headD 0) q.tail := by
  obtain ⟨x, hx⟩ : ∃ x, s.S 5 = some x := by
    cases hx : s.S 5 with
    | none =>
      have := h.own
      unfold St.lk at this
      rw [hx] at this
      simp [lk0] at this
      omega
    | some x => exact ⟨x, rfl⟩
  have hl : s.lk 5 = x := by unfold St.lk; rw [hx]; rfl
  have ho := h.own
  have hc := h.cnt
  have he := h.ent
  have hw := h.wai
  rw [hl] at ho hc he hw
  rw [if_neg (by omega)] at hc
  have e : ownP s.S 5 t = some x := by
    unfold ownP
    rw [hx]
    simp only []
    rw [if_neg (by rw [ho]; omega)]
  unfold exE exR exS exitP
  rw [e]
  simp only []
  rw [if_neg (by omega)]
  cases q with
  | nil =>
    have hn : x.entry = [] := he
    refine ⟨rfl, by simp [handR, hn], ?_⟩
    have en : handN s.N x = s.N := by unfold handN; rw [hn]
    rw [en, handS_nil hn]
    have hz : ∀ N, (St.lk ⟨upd s.S 5 (if x.fat = true then some { x with owner := 0, count := 0 } else none), N⟩ 5).owner = 0 ∧ (St.lk ⟨upd s.S 5 (if x.fat = true then some { x with owner := 0, count := 0 } else none), N⟩ 5).count = 0 ∧ (St.lk ⟨upd s.S 5 (if x.fat = true then some { x with owner := 0, count := 0 } else none), N⟩ 5).entry = [] ∧ (St.lk ⟨upd s.S 5 (if x.fat = true then some { x with owner := 0, count := 0 } else none), N⟩ 5).wait = [] := by
      intro N
      unfold St.lk
      simp only [upd_same]
      split
      · exact ⟨rfl, rfl, hn, hw⟩
      · exact ⟨rfl, rfl, rfl, rfl⟩
    obtain ⟨z1, z2, z3, z4⟩ := hz s.N
    exact ⟨z1, z2, z3, z4, h.num, List.nodup_nil, by simp, fun _ => rfl, by simp, by simp⟩
  | cons u r =>
    have hn : x.entry = (u, 1) :: lineE r := he
    have hu := h.rng u (by simp)
    have hnd := List.nodup_cons.1 h.nod
    have en : handN s.N x = upd s.N u (s.N u - 1) := by unfold handN; rw [hn]
    refine ⟨rfl, by simp [handR, hn], ?_⟩
    rw [en, handS_cons hn]
    simp only [List.headD_cons, List.tail_cons]
    constructor
    · rw [lk_upd]
    · rw [lk_upd, if_neg (by omega)]
    · rw [lk_upd]
    · rw [lk_upd]; exact hw
    · intro z
      show upd s.N u (s.N u - 1) z = _
      by_cases e : z = u
      · subst e
        rw [upd_same, h.num, if_pos (by simp), if_neg hnd.1]
        rfl
      · rw [upd_other _ _ e, h.num]
        simp [e]
    · exact hnd.2
    · exact hnd.1
    · intro e; omega
    · intro z hz; exact h.rng z (by simp [hz])
    · omega
end Go.Proofs.Ytkkpimpmhnnbjaa
