/- One lock, without memory: its owner, its count, its lists. -/
import Derived.Test.YtkkpimpmhnnbjaaFp
namespace Go.Proofs.Ytkkpimpmhnnbjaa

/-- Of the lock a: o has it c times, E stand in line, V wait; nobody stands anywhere else. -/
structure OL (s : St) (a o c : Int) (E V : List (Int × Int)) : Prop where
  own : (s.lk a).owner = o
  cnt : (s.lk a).count = c
  ent : (s.lk a).entry = E
  wai : (s.lk a).wait = V
  fat : V ≠ [] → (s.lk a).fat = true
  num : ∀ t, s.N t = if t ∈ fsts (E ++ V) then 1 else 0
  nod : (fsts (E ++ V)).Nodup

theorem ol0 (a : Int) : OL st0 a 0 0 [] [] := ⟨rfl, rfl, rfl, rfl, fun h => absurd rfl h, fun _ => rfl, List.nodup_nil⟩

theorem St.lk_at {s : St} {a : Int} (h : (s.lk a).owner ≠ 0) : s.S a = some (s.lk a) := by
  unfold St.lk at h ⊢
  cases hx : s.S a with
  | none => rw [hx] at h; simp [lk0] at h
  | some x => rfl

theorem own_at {s : St} {a t : Int} (h : (s.lk a).owner = t) (ht : t ≠ 0) : ownP s.S a t = some (s.lk a) := by
  unfold ownP
  rw [St.lk_at (by rw [h]; exact ht)]
  simp only []
  rw [if_neg (by rw [h]; intro e; exact e.elim ht (fun e => e rfl))]

theorem own_not {s : St} {a t : Int} (h : (s.lk a).owner ≠ t) : ownP s.S a t = none := by
  unfold ownP
  cases hx : s.S a with
  | none => rfl
  | some x =>
    have : s.lk a = x := by unfold St.lk; rw [hx]; rfl
    rw [this] at h
    simp only []
    rw [if_pos (.inr h)]

section
variable {s : St} {a o c : Int} {E V : List (Int × Int)}

theorem OL.fine (h : OL s a o c E V) {t : Int} (ha : 1 ≤ a) (ht : 1 ≤ t) (hn : t ∉ fsts (E ++ V)) : ¬ (a < 1 ∨ t < 1 ∨ 0 < s.N t) := by
  rw [h.num, if_neg hn]
  omega

theorem OL.enterFree (h : OL s a 0 0 E V) {t : Int} (ha : 1 ≤ a) (ht : 1 ≤ t) (hn : t ∉ fsts (E ++ V)) : enR a t s = true ∧ enE a t s = 0 ∧ OL (enS a t s) a t 1 E V := by
  have ho : ((s.S a).getD lk0).owner = 0 := h.own
  have hc : ((s.S a).getD lk0).count = 0 := h.cnt
  unfold enR enE enS enterP
  rw [if_neg (h.fine ha ht hn), if_neg (by rw [ho]; omega), if_pos ho]
  refine ⟨rfl, rfl, ?_⟩
  constructor
  · rw [lk_upd]; rfl
  · rw [lk_upd]
    show _ + 1 = _
    rw [hc]; rfl
  · rw [lk_upd]; exact h.ent
  · rw [lk_upd]; exact h.wai
  · intro hv
    rw [lk_upd]
    have := h.fat hv
    show (((s.S a).getD lk0).fat || _) = true
    unfold St.lk at this
    rw [this]
    rfl
  · exact h.num
  · exact h.nod

theorem OL.enterOwn (h : OL s a o c E V) (ha : 1 ≤ a) (ht : 1 ≤ o) (hn : o ∉ fsts (E ++ V)) : enR a o s = true ∧ enE a o s = 0 ∧ OL (enS a o s) a o (c + 1) E V := by
  have ho : ((s.S a).getD lk0).owner = o := h.own
  have hc : ((s.S a).getD lk0).count = c := h.cnt
  unfold enR enE enS enterP
  rw [if_neg (h.fine ha ht hn), if_pos ho]
  refine ⟨rfl, rfl, ?_⟩
  constructor
  · rw [lk_upd]; exact ho
  · rw [lk_upd]
    show _ + 1 = _
    rw [hc]
  · rw [lk_upd]; exact h.ent
  · rw [lk_upd]; exact h.wai
  · intro hv
    rw [lk_upd]
    have := h.fat hv
    show (((s.S a).getD lk0).fat || _) = true
    unfold St.lk at this
    rw [this]
    rfl
  · exact h.num
  · exact h.nod

theorem OL.exitMore (h : OL s a o c E V) (ho : o ≠ 0) (hc : 1 < c) : exR a o s = 0 ∧ exE a o s = 0 ∧ OL (exS a o s) a o (c - 1) E V := by
  unfold exR exE exS exitP
  rw [own_at h.own ho]
  simp only []
  rw [if_pos (by rw [h.cnt]; exact hc)]
  refine ⟨rfl, rfl, ?_⟩
  constructor
  · rw [lk_upd]; exact h.own
  · rw [lk_upd]
    show _ - 1 = _
    rw [h.cnt]
  · rw [lk_upd]; exact h.ent
  · rw [lk_upd]; exact h.wai
  · intro hv; rw [lk_upd]; exact h.fat hv
  · exact h.num
  · exact h.nod

/-- The lock's last hold is given up: nobody stands in line. -/
theorem hand_free {x : Lk} {S : Int → Option Lk} {N : Int → Int} (he : x.entry = []) (hf : x.wait ≠ [] → x.fat = true) :
    (St.lk ⟨handS S a x, N⟩ a).owner = 0 ∧ (St.lk ⟨handS S a x, N⟩ a).count = 0 ∧ (St.lk ⟨handS S a x, N⟩ a).entry = [] ∧ (St.lk ⟨handS S a x, N⟩ a).wait = x.wait ∧ (St.lk ⟨handS S a x, N⟩ a).fat = x.fat := by
  rw [handS_nil he]
  unfold St.lk
  simp only [upd_same]
  cases hb : x.fat with
  | true => simp [he]
  | false =>
    have hw : x.wait = [] := Classical.byContradiction fun e => by rw [hf e] at hb; simp at hb
    simp [lk0, hw]

theorem OL.exitLast (h : OL s a o c [] V) (ho : o ≠ 0) (hc : c ≤ 1) : exR a o s = 0 ∧ exE a o s = 0 ∧ OL (exS a o s) a 0 0 [] V ∧ ((exS a o s).lk a).fat = (s.lk a).fat := by
  unfold exR exE exS exitP
  rw [own_at h.own ho]
  simp only []
  rw [if_neg (by rw [h.cnt]; omega)]
  have he := h.ent
  obtain ⟨z1, z2, z3, z4, z5⟩ := hand_free (a := a) (S := s.S) (N := handN s.N (s.lk a)) he (by rw [h.wai]; exact h.fat)
  have en : handN s.N (s.lk a) = s.N := by unfold handN; rw [he]
  refine ⟨by simp [handR, he], rfl, ⟨z1, z2, z3, z4.trans h.wai, fun hv => z5.trans (h.fat hv), ?_, h.nod⟩, z5⟩
  show ∀ t, handN s.N (s.lk a) t = _
  rw [en]
  exact h.num

theorem OL.exitHand {e1 e2 : Int} (h : OL s a o c ((e1, e2) :: E) V) (ho : o ≠ 0) (hc : c ≤ 1) : exR a o s = e1 ∧ exE a o s = 0 ∧ OL (exS a o s) a e1 e2 E V := by
  unfold exR exE exS exitP
  rw [own_at h.own ho]
  simp only []
  rw [if_neg (by rw [h.cnt]; omega)]
  have he := h.ent
  have hnd := h.nod
  have hnd' : (e1 :: fsts (E ++ V)).Nodup := hnd
  have hnc := List.nodup_cons.1 hnd'
  have en : handN s.N (s.lk a) = upd s.N e1 (s.N e1 - 1) := by unfold handN; rw [he]
  refine ⟨by simp [handR, he], rfl, ?_⟩
  rw [en, handS_cons he]
  constructor
  · rw [lk_upd]
  · rw [lk_upd]
  · rw [lk_upd]
  · rw [lk_upd]; exact h.wai
  · intro hv; rw [lk_upd]; exact h.fat hv
  · intro z
    show upd s.N e1 (s.N e1 - 1) z = _
    have hz := h.num
    by_cases e : z = e1
    · subst e
      rw [upd_same, hz, if_pos (by simp [fsts]), if_neg hnc.1]
      rfl
    · rw [upd_other _ _ e, hz]
      have : (z ∈ fsts ((e1, e2) :: E ++ V)) ↔ z ∈ fsts (E ++ V) := by
        show z ∈ e1 :: fsts (E ++ V) ↔ _
        simp [e]
      simp only [this]
  · exact hnc.2

theorem OL.wait (h : OL s a o c [] V) (ho : o ≠ 0) (hn : o ∉ fsts V) : waR a o s = 0 ∧ waE a o s = 0 ∧ OL (waS a o s) a 0 0 [] (V ++ [(o, c)]) := by
  unfold waR waE waS waitP
  rw [own_at h.own ho]
  simp only []
  have he : (waitL o (s.lk a)).entry = [] := h.ent
  have hw : (waitL o (s.lk a)).wait = V ++ [(o, c)] := by
    show _ ++ [_] = _
    rw [h.wai, h.cnt]
  obtain ⟨z1, z2, z3, z4, z5⟩ := hand_free (a := a) (S := s.S) (N := handN (upd s.N o (s.N o + 1)) (waitL o (s.lk a))) he (fun _ => rfl)
  have en : handN (upd s.N o (s.N o + 1)) (waitL o (s.lk a)) = upd s.N o (s.N o + 1) := by unfold handN; rw [he]
  refine ⟨by simp [handR, he], by trivial, ⟨z1, z2, z3, z4.trans hw, fun _ => z5, ?_, ?_⟩⟩
  · show ∀ t, handN (upd s.N o (s.N o + 1)) (waitL o (s.lk a)) t = _
    rw [en]
    intro t
    have hz := h.num
    by_cases e : t = o
    · subst e
      rw [upd_same, hz, if_neg (by simpa using hn), if_pos (by simp [fsts])]
      rfl
    · rw [upd_other _ _ e, hz]
      have : (t ∈ fsts ([] ++ (V ++ [(o, c)]))) ↔ t ∈ fsts ([] ++ V) := by simp [fsts, e]
      simp only [this]
  · have := h.nod
    simp only [List.nil_append, fsts, List.map_append, List.map_cons, List.map_nil] at this ⊢
    rw [List.nodup_append]
    refine ⟨this, by simp, ?_⟩
    intro x hx y hy e
    simp only [List.mem_singleton] at hy
    subst hy e
    exact hn hx

theorem fsts_perm_take (E V : List (Int × Int)) (k : Nat) : fsts ((E ++ V.take k) ++ V.drop k) = fsts (E ++ V) := by
  rw [List.append_assoc, List.take_append_drop]

theorem OL.notify (h : OL s a o c E V) (ho : o ≠ 0) (b : Bool) : noR a o b s = ((if b = true then V.length else min 1 V.length : Nat) : Int) ∧ noE a o b s = 0 ∧ OL (noS a o b s) a o c (E ++ V.take (if b = true then V.length else min 1 V.length)) (V.drop (if b = true then V.length else min 1 V.length)) := by
  unfold noR noE noS notifyP
  rw [own_at h.own ho]
  simp only []
  have hk : noteK (s.lk a) b = if b = true then V.length else min 1 V.length := by
    unfold noteK
    rw [h.wai]
  rw [hk]
  generalize (if b = true then V.length else min 1 V.length) = k
  refine ⟨by first | rfl | trivial, by first | rfl | trivial, ?_⟩
  constructor
  · rw [lk_upd]; exact h.own
  · rw [lk_upd]; exact h.cnt
  · rw [lk_upd]
    show _ ++ _ = _
    rw [h.ent, h.wai]
  · rw [lk_upd]
    show List.drop k _ = _
    rw [h.wai]
  · intro hv
    rw [lk_upd]
    exact h.fat (fun e => hv (by rw [e]; simp))
  · intro t
    rw [fsts_perm_take]
    exact h.num t
  · rw [fsts_perm_take]
    exact h.nod

theorem OL.exitNot (h : OL s a o c E V) {t : Int} (ho : o ≠ t) : exE a t s = 130 ∧ exS a t s = s := by
  unfold exE exS exitP
  rw [own_not (by rw [h.own]; exact ho)]
  exact ⟨rfl, rfl⟩

theorem OL.notifyNot (h : OL s a o c E V) {t : Int} (b : Bool) (ho : o ≠ t) : noE a t b s = 130 ∧ noS a t b s = s := by
  unfold noE noS notifyP
  rw [own_not (by rw [h.own]; exact ho)]
  exact ⟨rfl, rfl⟩
end
end Go.Proofs.Ytkkpimpmhnnbjaa
