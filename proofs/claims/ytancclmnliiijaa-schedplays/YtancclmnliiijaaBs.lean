/- Both schedulers side by side. -/
import Derived.Test.YtancclmnliiijaaDc
import Derived.Test.YtancclmnliiijaaJp
namespace Go.Proofs.Ytancclmnliiijaa
open Go.ChangeShapes Go.WideShapes Go.ChangeAt Go.RowKit

/-- Both are of the same threads. -/
structure Rl (n : Nat) (T L : List (Int × Int)) : Prop where
  len : L.length = n
  tl : n ≤ T.length
  alike : ∀ (i : Nat) (x y : Int × Int), T[i]? = some x → L[i]? = some y → x.1 = y.1 ∧ (x.1 = 4 → x.2 = y.2)
  rng : ∀ (i : Nat) (y : Int × Int), L[i]? = some y → 1 ≤ y.1 ∧ y.1 ≤ 5

section
variable {n : Nat} {T L : List (Int × Int)}

theorem Rl.two (h : Rl n T L) {i : Nat} (hi : i < n) : ∃ x y, T[i]? = some x ∧ L[i]? = some y ∧ x.1 = y.1 ∧ (x.1 = 4 → x.2 = y.2) := by
  have h1 := h.len
  have h2 := h.tl
  obtain ⟨x, hx⟩ : ∃ x, T[i]? = some x := ⟨_, List.getElem?_eq_getElem (by omega)⟩
  obtain ⟨y, hy⟩ : ∃ y, L[i]? = some y := ⟨_, List.getElem?_eq_getElem (by omega)⟩
  exact ⟨x, y, hx, hy, h.alike i x y hx hy⟩

theorem Rl.st (h : Rl n T L) (id : Int) : stA n T id = stA L.length L id := by
  rw [h.len]
  by_cases h1 : id < 1 ∨ (n : Int) < id
  · rw [stA_no h1, stA_no h1]
  · obtain ⟨i, rfl⟩ : ∃ i : Nat, id = (i : Int) + 1 := ⟨(id - 1).toNat, by omega⟩
    have hi : i < n := by omega
    obtain ⟨x, y, hx, hy, e, -⟩ := h.two hi
    rw [stA_yes hi hx, stA_yes hi hy, e]

theorem Rl.st5 (h : Rl n T L) (id : Int) : 0 ≤ stA L.length L id ∧ stA L.length L id ≤ 5 := by
  by_cases h1 : stA L.length L id = 0
  · omega
  · obtain ⟨i, x, -, -, hx, e⟩ := stA_there (Nat.le_refl _) h1
    have := h.rng i x hx
    omega

theorem Rl.rd (h : Rl n T L) : sel rdy T n = sel rdy L L.length := by
  rw [h.len]
  refine sel_congr fun j hj => ?_
  obtain ⟨x, y, hx, hy, e, -⟩ := h.two hj
  rw [hx, hy]
  simp [rdy, e]

theorem Rl.ov (h : Rl n T L) : ovr n T = ovr L.length L := by
  rw [Bool.eq_iff_iff, ovr_iff, ovr_iff]
  constructor
  · intro k j y hj hy
    obtain ⟨x, y', hx, hy', e, -⟩ := h.two (i := j) (by rw [← h.len]; exact hj)
    rw [hy] at hy'
    obtain rfl := Option.some.inj hy'
    rw [← e]
    exact k j x (by rw [← h.len]; exact hj) hx
  · intro k j x hj hx
    obtain ⟨x', y, hx', hy, e, -⟩ := h.two hj
    rw [hx] at hx'
    obtain rfl := Option.some.inj hx'
    rw [e]
    exact k j y (by rw [h.len]; exact hj) hy

/-- One place of both is turned alike. -/
theorem Rl.put (h : Rl n T L) (i : Nat) (x y : Int × Int) (h1 : x.1 = y.1) (h2 : x.1 = 4 → x.2 = y.2) (h3 : 1 ≤ y.1 ∧ y.1 ≤ 5) : Rl n (T.set i x) (L.set i y) := by
  refine ⟨by simpa using h.len, by simpa using h.tl, fun j a b ha hb => ?_, fun j b hb => ?_⟩
  · rw [List.getElem?_set] at ha hb
    by_cases e : i = j
    · rw [if_pos e] at ha hb
      split at ha
      · split at hb
        · obtain rfl := Option.some.inj ha
          obtain rfl := Option.some.inj hb
          exact ⟨h1, h2⟩
        · simp at hb
      · simp at ha
    · rw [if_neg e] at ha hb
      exact h.alike j a b ha hb
  · rw [List.getElem?_set] at hb
    by_cases e : i = j
    · rw [if_pos e] at hb
      split at hb
      · obtain rfl := Option.some.inj hb
        exact h3
      · simp at hb
    · rw [if_neg e] at hb
      exact h.rng j b hb

theorem Rl.zero : Rl 0 z12 [] := ⟨rfl, by simp, fun i x y _ h => by simp at h, fun i y h => by simp at h⟩

theorem Rl.qSet (h : Rl n T L) (id s : Int) : setQ n T id s = setQ L.length L id s := by
  unfold setQ
  rw [h.st]

theorem Rl.eSet (h : Rl n T L) (id s : Int) : setE n T id s = setE L.length L id s := by
  unfold setE
  rw [h.qSet]

theorem Rl.sets (h : Rl n T L) (id s : Int) : Rl n (setT n T id s) (setT L.length L id s) := by
  unfold setT
  rw [h.qSet]
  cases hq : setQ L.length L id s with
  | false => exact h
  | true =>
    have hs : s = 1 ∨ s = 2 ∨ s = 3 := by
      simp only [setQ, Bool.and_eq_true, sbl, decide_eq_true_eq] at hq
      exact hq.2
    refine h.put _ _ _ rfl (fun e => ?_) ?_
    · simp only [] at e
      omega
    · simp only []
      omega

theorem Rl.qJoin (h : Rl n T L) (id o : Int) : joinQ n T id o = joinQ L.length L id o := by
  unfold joinQ
  rw [h.st, h.st]

theorem Rl.eJoin (h : Rl n T L) (id o : Int) : joinE n T id o = joinE L.length L id o := by
  unfold joinE
  rw [h.qJoin]

theorem Rl.rJoin (h : Rl n T L) (id o : Int) : joinR n T id o = joinR L.length L id o := by
  unfold joinR
  rw [h.qJoin, h.st]

theorem Rl.joins (h : Rl n T L) (id o : Int) : Rl n (joinT n T id o) (joinT L.length L id o) := by
  unfold joinT
  rw [h.qJoin, h.st o]
  split
  · exact h.put _ _ _ rfl (fun _ => rfl) (by simp)
  · exact h

theorem Rl.eEnd (h : Rl n T L) (id : Int) : endE n T id = endE L.length L id := by
  unfold endE endQ
  rw [h.st]

theorem Rl.jns {n : Nat} {T L : List (Int × Int)} (h : Rl n T L) (id : Int) : sel (jn id) T n = sel (jn id) L L.length := by
  rw [h.len]
  refine sel_congr fun j hj => ?_
  obtain ⟨x, y, hx, hy, e, k⟩ := h.two hj
  rw [hx, hy]
  simp only [Option.map_some, Option.some.injEq, jn]
  by_cases h4 : x.1 = 4
  · rw [← e, k h4]
  · have g1 : (x.1 == 4) = false := by simpa using h4
    have g2 : (y.1 == 4) = false := by rw [← e]; exact g1
    rw [g1, g2]
    rfl

theorem Rl.one (h : Rl n T L) (id : Int) : Rl n (end1 T id) (end1 L id) := by
  unfold end1
  exact h.put _ _ _ rfl (fun e => by simp at e) (by simp)

theorem Rl.lEnd (h : Rl n T L) (id : Int) : endL n T id = endL L.length L id := by
  unfold endL endQ
  rw [h.st, (h.one id).jns id, (h.one id).len, h.len]

theorem Rl.end_ (h : Rl n T L) (id : Int) : Rl n (endT n T id) (endD L.length L id) := by
  unfold endT endD endQ
  rw [h.st, h.len]
  split
  · have k := h.one id
    generalize end1 T id = U at *
    generalize end1 L id = M at *
    have kl := k.len
    refine ⟨by rw [upto_len]; exact k.len, by rw [upto_len]; exact k.tl, fun i x y hx hy => ?_, fun i y hy => ?_⟩
    · have hi : i < n := by
        have := (List.getElem?_eq_some_iff.1 hy).1
        rw [upto_len] at this
        omega
      obtain ⟨x0, y0, hx0, hy0, e, k4⟩ := k.two hi
      rw [upto_low hi, hx0] at hx
      rw [upto_low hi, hy0] at hy
      simp only [Option.map_some, Option.some.injEq] at hx hy
      subst hx hy
      have hj : jn id x0 = jn id y0 := by
        unfold jn
        by_cases h4 : x0.1 = 4
        · rw [← e, k4 h4]
        · have g1 : (x0.1 == 4) = false := by simpa using h4
          have g2 : (y0.1 == 4) = false := by rw [← e]; exact g1
          rw [g1, g2]
          rfl
      unfold fre fre'
      rw [hj]
      split
      · exact ⟨rfl, fun e => by simp at e⟩
      · exact ⟨e, k4⟩
    · have hi : i < n := by
        have := (List.getElem?_eq_some_iff.1 hy).1
        rw [upto_len] at this
        omega
      obtain ⟨x0, y0, hx0, hy0, e, k4⟩ := k.two hi
      rw [upto_low hi, hy0] at hy
      simp only [Option.map_some, Option.some.injEq] at hy
      subst hy
      unfold fre'
      split
      · simp
      · exact k.rng i y0 hy0
  · exact h

theorem Rl.spawn (h : Rl n T L) (hn : n < T.length) : Rl (n + 1) (spT n T) (L ++ [(1, 0)]) := by
  have hl := h.len
  refine ⟨by simp [hl], by simp [spT]; omega, fun i x y hx hy => ?_, fun i y hy => ?_⟩
  · unfold spT at hx
    by_cases e : i = n
    · subst e
      rw [List.getElem?_set_self hn] at hx
      rw [List.getElem?_append_right (by omega), hl, Nat.sub_self] at hy
      simp at hx hy
      subst hx hy
      exact ⟨rfl, fun e => by simp at e⟩
    · rw [List.getElem?_set_ne (fun k => e k.symm)] at hx
      by_cases hi : i < n
      · rw [List.getElem?_append_left (by omega)] at hy
        exact h.alike i x y hx hy
      · rw [List.getElem?_eq_none (by simp; omega)] at hy
        simp at hy
  · by_cases hi : i < n
    · rw [List.getElem?_append_left (by omega)] at hy
      exact h.rng i y hy
    · by_cases e : i = n
      · subst e
        rw [List.getElem?_append_right (by omega), hl, Nat.sub_self] at hy
        simp at hy
        subst hy
        simp
      · rw [List.getElem?_eq_none (by simp; omega)] at hy
        simp at hy
end

/-- Both in memory. -/
structure Bs (W w : World) (p q n : Nat) (T L : List (Int × Int)) : Prop where
  js : Js W w p n T
  ds : DS W.heap.size w q L
  rl : Rl n T L

section
variable {W w : World} {p q n : Nat} {T L : List (Int × Int)}

theorem Bs.keep {w' : World} (h : Bs W w p q n T L) (f : Fr no w w') : Bs W w' p q n T L := ⟨h.js.keep f, h.ds.keep f, h.rl⟩

theorem Bs.new (j : Js W w p 0 z12) : Bs W (w.alloc (.cells #[.slice none 0 0] 29)) p w.heap.size 0 z12 [] :=
  ⟨j.keep ((Fr.refl no w).alloc _ _), ⟨j.fr.size, ⟨_, heap_alloc_new w _, OwnG.nil _ _, fun b hb => by simp [Value.ownBlock] at hb⟩, by simp⟩, Rl.zero⟩

/-- The document's turn. -/
theorem Bs.doc {w' : World} {T' L' : List (Int × Int)} {m : Nat} (j : Js W w p m T') (d : DS W.heap.size w' q L') (f : Fr (Tk [29, 65] W.heap.size w) w w') (r : Rl m T' L') : Bs W w' p q m T' L' :=
  ⟨⟨j.ps.tk f, j.le, j.fr.tab f⟩, d, r⟩

theorem Bs.prog {w' : World} (h : Bs W w p q n T L) (f : Fr (Tk [63] W.heap.size w) w w') : DS W.heap.size w' q L := h.ds.tk f (by decide) (by decide)
end
end Go.Proofs.Ytancclmnliiijaa
