/- Both tables go on alike: Enter, Forget, Held. -/
import Derived.Test.YtkkpimpmhnnbjaaLr
namespace Go.Proofs.Ytkkpimpmhnnbjaa
open Go.ChangeShapes Go.WideShapes Go.ChangeAt Go.RowKit

theorem dLk_nth {T : List (Int × Lk)} (hk : Keys T) {i : Nat} {a : Int} {x : Lk} (h : T[i]? = some (a, x)) : dLk T a = x := by
  have := dLk_set hk h x a
  rw [set_same _ _ _ h, if_pos rfl] at this
  exact this

theorem lk0_lok : LOk lk0 := ⟨fun _ => ⟨rfl, rfl⟩, fun k => absurd rfl k, fun _ => ⟨rfl, rfl⟩, fun e he => by simp [lk0] at he, fun e he => by simp [lk0] at he⟩

theorem keys_app {T : List (Int × Lk)} (h : Keys T) {a : Int} (k : ∀ p ∈ T, p.1 ≠ a) (x : Lk) : Keys (T ++ [(a, x)]) := by
  unfold Keys at *
  rw [List.map_append, List.nodup_append]
  refine ⟨h, by simp, fun y hy z hz e => ?_⟩
  simp at hz
  obtain ⟨p, hp, rfl⟩ := List.mem_map.1 hy
  exact k p hp (by rw [e, hz])

theorem Lnk.with {s : St} {T : List (Int × Lk)} (h : Lnk s T) (a : Int) : Lnk s (dWith a T) := by
  unfold dWith
  cases hf : fdT T a with
  | some i => exact h
  | none =>
    have hn := fdT_none_mem hf
    refine ⟨keys_app h.keys hn _, fun b => ?_, fun t => ?_, fun p hp => ?_⟩
    · rw [dLk_app hn]
      by_cases hb : b = a
      · subst hb
        rw [if_pos rfl, ← h.lk, dLk_out hn]
      · rw [if_neg hb, h.lk]
    · rw [h.num, tot_app]
      simp [tot, cnt, lk0]
    · rcases List.mem_append.1 hp with hp | hp
      · exact h.ok p hp
      · simp at hp
        subst hp
        exact lk0_lok

theorem Lnk.enter {s : St} {T : List (Int × Lk)} (h : Lnk s T) (a t : Int) : Lnk (enS a t s) (dEnterP a t T).2.2 ∧ enR a t s = (dEnterP a t T).1 ∧ enE a t s = (dEnterP a t T).2.1 := by
  by_cases hb : a < 1 ∨ t < 1 ∨ 0 < s.N t
  · have e1 : enterP a t s.S s.N = ⟨false, 130, s.S, s.N⟩ := by unfold enterP; rw [if_pos hb]
    have e2 : dEnterP a t T = (false, 130, T) := by
      by_cases h1 : a < 1 ∨ t < 1
      · exact dEnterP_bad h1
      · refine dEnterP_stand ?_
        rw [dStand_tot, decide_eq_true_iff]
        have := h.num t
        omega
    unfold enS enR enE
    rw [e1, e2]
    exact ⟨h, rfl, rfl⟩
  · have hst : dStand T t = false := by
      rw [dStand_tot, decide_eq_false_iff_not]
      have := h.num t
      omega
    obtain ⟨x, hx, hP⟩ := dWith_at a T
    have hP := hP t (by omega) (by omega) hst
    have hw := h.with a
    have hlk : s.lk a = x := by rw [← hw.lk, dLk_nth hw.keys hx]
    have ok := hw.ok _ (List.mem_of_getElem? hx)
    simp only [] at ok
    have hlk' : (s.S a).getD lk0 = x := hlk
    have ht : 1 ≤ t := by omega
    rw [hP]
    unfold enS enR enE enterP dEnterAt
    rw [if_neg hb, hlk']
    by_cases h1 : x.owner = t
    · rw [if_pos h1, if_neg (show ¬ x.owner = 0 by omega), if_pos h1]
      refine ⟨?_, rfl, rfl⟩
      refine hw.set hx _ _ (fun b => ?_) (fun u => ?_) ⟨fun k => ?_, fun k => ⟨(ok.own k).1, ?_⟩, fun f => ok.thin ?_, ok.ent, ok.wai⟩
      · rw [upd_lk]
        rfl
      · have : cnt u { x with count := x.count + 1, fat := x.fat || decide (x.count + 1 > 3) } = cnt u x := rfl
        rw [this]
        show s.N u = _
        omega
      · have : x.owner = 0 := k
        omega
      · have := (ok.own k).2
        show 1 ≤ x.count + 1
        omega
      · have f' : (x.fat || decide (x.count + 1 > 3)) = false := f
        simp only [Bool.or_eq_false_iff] at f'
        exact f'.1
    · rw [if_neg h1]
      by_cases h0 : x.owner = 0
      · obtain ⟨hc, he⟩ := ok.free h0
        rw [if_pos h0, if_pos h0]
        have em : more { x with owner := t } = { x with owner := t, count := 1 } := by
          unfold more
          rw [hc]
          simp
        rw [em]
        refine ⟨?_, rfl, rfl⟩
        refine hw.set hx _ _ (fun b => ?_) (fun u => ?_) ⟨fun k => ?_, fun k => ⟨ht, by show (1 : Int) ≤ 1; decide⟩, ok.thin, ok.ent, ok.wai⟩
        · rw [upd_lk]
          rfl
        · have : cnt u { x with owner := t, count := 1 } = cnt u x := rfl
          rw [this]
          show s.N u = _
          omega
        · have : t = 0 := k
          omega
      · rw [if_neg h0, if_neg h0, if_neg h1]
        refine ⟨?_, rfl, rfl⟩
        refine hw.set hx _ _ (fun b => ?_) (fun u => ?_) ⟨fun k => absurd k h0, fun k => ok.own k, fun f => by simp at f, fun e he => ?_, ok.wai⟩
        · rw [upd_lk]
          rfl
        · have : cnt u { x with fat := true, entry := x.entry ++ [(t, 1)] } = cnt u x + (if t = u then 1 else 0) := by
            unfold cnt
            simp only [List.countP_append, List.countP_cons, List.countP_nil]
            by_cases e : t = u <;> simp [e] <;> omega
          rw [this]
          show upd s.N t (s.N t + 1) u = _
          unfold upd
          by_cases e : u = t
          · subst e
            rw [if_pos rfl, if_pos rfl]
            omega
          · rw [if_neg e, if_neg (Ne.symm e)]
            omega
        · rcases List.mem_append.1 he with he | he
          · exact ok.ent e he
          · simp at he
            subst he
            exact ⟨ht, by show (1 : Int) ≤ 1; decide⟩

theorem keys_cut {T : List (Int × Lk)} (h : Keys T) (i : Nat) : Keys (T.take i ++ T.drop (i + 1)) := by
  have hs : (T.take i ++ T.drop (i + 1)).Sublist T := by
    rw [← List.eraseIdx_eq_take_drop_succ]
    exact List.eraseIdx_sublist T i
  exact h.sublist (hs.map Prod.fst)

theorem Lnk.forget {s : St} {T : List (Int × Lk)} (h : Lnk s T) (a : Int) : Lnk (foS a s) (dForgetP a T).2 ∧ foE a s = (dForgetP a T).1 := by
  have hl := h.lk a
  cases hf : fdT T a with
  | none =>
    have e2 : dForgetP a T = (0, T) := by unfold dForgetP; rw [hf]
    rw [dLk_out (fdT_none_mem hf)] at hl
    rw [e2]
    unfold foS foE forgetP
    cases hs : s.S a with
    | none => exact ⟨h, rfl⟩
    | some x =>
      have hx : x = lk0 := by unfold St.lk at hl; rw [hs] at hl; exact hl.symm
      subst hx
      simp only []
      rw [if_pos ⟨rfl, rfl⟩]
      refine ⟨⟨h.keys, fun b => ?_, h.num, h.ok⟩, rfl⟩
      rw [upd_lk]
      by_cases hb : b = a
      · subst hb
        rw [if_pos rfl, dLk_out (fdT_none_mem hf)]
        rfl
      · rw [if_neg hb]
        exact h.lk b
  | some i =>
    have hx := dLk_at hf
    rw [hl] at hx
    have ok := h.ok _ (List.mem_of_getElem? hx)
    simp only [] at ok
    have hcut : Lnk ⟨upd s.S a none, s.N⟩ (T.take i ++ T.drop (i + 1)) ∨ ¬ (s.lk a).wait = [] ∨ ¬ (s.lk a).owner = 0 := by
      by_cases h1 : (s.lk a).owner = 0
      · by_cases h2 : (s.lk a).wait = []
        · refine .inl ⟨keys_cut h.keys i, fun b => ?_, fun t => ?_, fun p hp => ?_⟩
          · rw [dLk_cut h.keys hx, upd_lk, h.lk]
            rfl
          · have := tot_cut hx t
            have hc : cnt t (s.lk a) = 0 := by unfold cnt; rw [h2, (ok.free h1).2]; rfl
            rw [hc] at this
            show s.N t = _
            rw [h.num]
            omega
          · rcases List.mem_append.1 hp with hp | hp
            · exact h.ok p (List.mem_of_mem_take hp)
            · exact h.ok p (List.mem_of_mem_drop hp)
        · exact .inr (.inl h2)
      · exact .inr (.inr h1)
    by_cases hfree : (s.lk a).owner = 0 ∧ (s.lk a).wait = []
    · have e2 : dForgetP a T = (0, T.take i ++ T.drop (i + 1)) := by
        unfold dForgetP
        rw [hf]
        simp only [hx]
        rw [if_pos ⟨hfree.1, (ok.free hfree.1).2, hfree.2⟩]
      have hc : Lnk ⟨upd s.S a none, s.N⟩ (T.take i ++ T.drop (i + 1)) := by
        rcases hcut with hc | hc | hc
        · exact hc
        · exact absurd hfree.2 hc
        · exact absurd hfree.1 hc
      rw [e2]
      unfold foS foE forgetP
      cases hs : s.S a with
      | none =>
        have e : upd s.S a none = s.S := by rw [← hs]; exact upd_self s.S a
        rw [e] at hc
        exact ⟨hc, rfl⟩
      | some x =>
        have hxe : s.lk a = x := by unfold St.lk; rw [hs]; rfl
        rw [hxe] at hfree
        simp only []
        rw [if_pos hfree]
        exact ⟨hc, rfl⟩
    · have e2 : dForgetP a T = (130, T) := by
        unfold dForgetP
        rw [hf]
        simp only [hx]
        rw [if_neg (fun k => hfree ⟨k.1, k.2.2⟩)]
      rw [e2]
      unfold foS foE forgetP
      cases hs : s.S a with
      | none =>
        have hxe : s.lk a = lk0 := by unfold St.lk; rw [hs]; rfl
        rw [hxe] at hfree
        exact absurd ⟨rfl, rfl⟩ hfree
      | some x =>
        have hxe : s.lk a = x := by unfold St.lk; rw [hs]; rfl
        rw [hxe] at hfree
        simp only []
        rw [if_neg hfree]
        exact ⟨h, rfl⟩
end Go.Proofs.Ytkkpimpmhnnbjaa
