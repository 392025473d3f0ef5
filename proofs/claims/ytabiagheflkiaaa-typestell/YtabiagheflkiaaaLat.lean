/- Types: what fits is an order, and what both are is the least that both fit. -/
import Derived.Test.YtabiagheflkiaaaOrd
namespace Go.Proofs.Ytabiagheflkiaaa

/-- A type of a value, as the statement asks it. -/
def realT (N : List ByteArray) (t : Ty) : Bool := if t.k = 4 then (ix t.c N).isSome else decide (t.c = ByteArray.empty ∧ 1 ≤ t.k ∧ t.k ≤ 5)

/-- The types that are met: those of values, and anything. -/
inductive Met (N : List ByteArray) : Ty → Prop
  | one : Met N ⟨1, ByteArray.empty⟩
  | two : Met N ⟨2, ByteArray.empty⟩
  | arr : Met N ⟨3, ByteArray.empty⟩
  | null : Met N ⟨5, ByteArray.empty⟩
  | top : Met N ⟨6, ByteArray.empty⟩
  | ref (c : ByteArray) (hc : c ∈ N) : Met N ⟨4, c⟩

theorem met_of {N : List ByteArray} {t : Ty} (h : realT N t = true) : Met N t := by
  obtain ⟨k, c⟩ := t
  unfold realT at h
  simp only [] at h
  by_cases h4 : k = 4
  · subst h4
    rw [if_pos rfl, ix_isSome] at h
    exact .ref c (inL_iff.1 h)
  · rw [if_neg h4] at h
    obtain ⟨rfl, h1, h5⟩ := of_decide_eq_true h
    obtain rfl | rfl | rfl | rfl : k = 1 ∨ k = 2 ∨ k = 3 ∨ k = 5 := by omega
    · exact .one
    · exact .two
    · exact .arr
    · exact .null

section
variable {N : List ByteArray} {A : List Nat} (h : Tree N A)
include h

theorem fits_refl {a : Ty} (ha : Met N a) : fits N A a a = true := by
  cases ha with
  | ref c hc => simp [fits, inL_iff.2 (anc_refl h hc)]
  | _ => simp [fits]

theorem fits_trans {a b c : Ty} (ha : Met N a) (hb : Met N b) (hc : Met N c) (h1 : fits N A a b = true) (h2 : fits N A b c = true) : fits N A a c = true := by
  cases ha <;> cases hb <;> cases hc <;> simp_all [fits]
  rename_i x hx y hy z hz
  exact inL_iff.2 (anc_trans h hx (inL_iff.1 h1) (inL_iff.1 h2))

theorem fits_anti {a b : Ty} (ha : Met N a) (hb : Met N b) (h1 : fits N A a b = true) (h2 : fits N A b a = true) : a = b := by
  cases ha <;> cases hb <;> simp_all [fits]
  rename_i x hx y hy
  exact anc_anti h hx (inL_iff.1 h1) (inL_iff.1 h2)

theorem merge_met {a b : Ty} (ha : Met N a) (hb : Met N b) : Met N (merge N A a b) := by
  have mt : Met N ⟨6, ByteArray.empty⟩ := .top
  cases ha with
  | ref x hx =>
    cases hb with
    | ref y hy =>
      by_cases e : x = y
      · rw [merge_eq ⟨rfl, e⟩]; exact .ref x hx
      · rw [merge_c (fun h => e h.2) rfl rfl (by rw [ix_isSome]; exact inL_iff.2 hx) (by rw [ix_isSome]; exact inL_iff.2 hy)]
        exact .ref _ (anc_sub h hx (shared_spec h hx hy).1)
    | null => rw [merge_r (by simp) (by simp) rfl rfl]; exact .ref x hx
    | _ => rw [merge_t (by simp) (by simp) (by simp) (by simp)]; exact mt
  | one => cases hb <;> first | (rw [merge_eq ⟨rfl, rfl⟩]; first | exact .one) | (rw [merge_r' (by simp) (by simp) rfl rfl]; exact mt) | (rw [merge_t (by simp) (by simp) (by simp) (by simp)]; exact mt)
  | two => cases hb <;> first | (rw [merge_eq ⟨rfl, rfl⟩]; first | exact .two) | (rw [merge_r' (by simp) (by simp) rfl rfl]; exact mt) | (rw [merge_t (by simp) (by simp) (by simp) (by simp)]; exact mt)
  | arr => cases hb <;> first | (rw [merge_eq ⟨rfl, rfl⟩]; first | exact .arr) | (rw [merge_r (by simp) (by simp) rfl rfl]; exact .arr) | (rw [merge_t (by simp) (by simp) (by simp) (by simp)]; exact mt)
  | top => cases hb <;> first | (rw [merge_eq ⟨rfl, rfl⟩]; first | exact .top) | (rw [merge_r' (by simp) (by simp) rfl rfl]; exact mt) | (rw [merge_t (by simp) (by simp) (by simp) (by simp)]; exact mt)
  | null =>
    cases hb with
    | null => rw [merge_eq ⟨rfl, rfl⟩]; exact .null
    | arr => rw [merge_l (by simp) rfl rfl]; exact .arr
    | ref y hy => rw [merge_l (by simp) rfl rfl]; exact .ref y hy
    | _ => rw [merge_l' (by simp) rfl rfl]; exact mt

/-- What both are: where both fit, and wherever both fit it fits. -/
theorem merge_lub {a b : Ty} (ha : Met N a) (hb : Met N b) : fits N A a (merge N A a b) = true ∧ fits N A b (merge N A a b) = true ∧ ∀ c, Met N c → fits N A a c = true → fits N A b c = true → fits N A (merge N A a b) c = true := by
  have R := fun {t : Ty} (ht : Met N t) => fits_refl h ht
  have tp : ∀ t : Ty, fits N A t ⟨6, ByteArray.empty⟩ = true := fun t => by simp [fits]
  by_cases e : a.k = b.k ∧ a.c = b.c
  · have e1 : merge N A a b = a := merge_eq e
    have e2 : b = a := by obtain ⟨ka, ca⟩ := a; obtain ⟨kb, cb⟩ := b; simp at e; rw [e.1, e.2]
    rw [e1]
    refine ⟨R ha, by rw [e2]; exact R ha, fun c hc h1 _ => h1⟩
  · cases ha with
    | ref x hx =>
      cases hb with
      | ref y hy =>
        have hne : x ≠ y := fun h => e ⟨rfl, h⟩
        obtain ⟨s1, s2, s3⟩ := shared_spec h hx hy
        rw [merge_c (fun h => hne h.2) rfl rfl (by rw [ix_isSome]; exact inL_iff.2 hx) (by rw [ix_isSome]; exact inL_iff.2 hy)]
        refine ⟨by simp [fits, inL_iff.2 s1], by simp [fits, inL_iff.2 s2], fun c hc h1 h2 => ?_⟩
        cases hc with
        | ref z hz =>
          simp [fits] at h1 h2 ⊢
          exact inL_iff.2 (s3 z (inL_iff.1 h1) (inL_iff.1 h2))
        | top => exact tp _
        | _ => simp [fits] at h1
      | null =>
        rw [merge_r (by simp) (by simp) rfl rfl]
        exact ⟨R (.ref x hx), by simp [fits], fun c hc h1 _ => h1⟩
      | top =>
        rw [merge_t (by simp) (by simp) (by simp) (by simp)]
        exact ⟨tp _, tp _, fun c hc _ h2 => h2⟩
      | _ =>
        rw [merge_t (by simp) (by simp) (by simp) (by simp)]
        refine ⟨tp _, tp _, fun c hc h1 h2 => ?_⟩
        cases hc <;> simp_all [fits]
    | null =>
      cases hb with
      | null => exact absurd ⟨rfl, rfl⟩ e
      | arr =>
        rw [merge_l (by simp) rfl rfl]
        exact ⟨by simp [fits], R .arr, fun c hc _ h2 => h2⟩
      | ref y hy =>
        rw [merge_l (by simp) rfl rfl]
        exact ⟨by simp [fits], R (.ref y hy), fun c hc _ h2 => h2⟩
      | top =>
        rw [merge_l' (by simp) rfl rfl]
        exact ⟨tp _, tp _, fun c hc _ h2 => h2⟩
      | _ =>
        rw [merge_l' (by simp) rfl rfl]
        refine ⟨tp _, tp _, fun c hc h1 h2 => ?_⟩
        cases hc <;> simp_all [fits]
    | arr =>
      cases hb with
      | arr => exact absurd ⟨rfl, rfl⟩ e
      | null =>
        rw [merge_r (by simp) (by simp) rfl rfl]
        exact ⟨R .arr, by simp [fits], fun c hc h1 _ => h1⟩
      | _ =>
        rw [merge_t (by simp) (by simp) (by simp) (by simp)]
        refine ⟨tp _, tp _, fun c hc h1 h2 => ?_⟩
        cases hc <;> simp_all [fits]
    | top =>
      cases hb with
      | top => exact absurd ⟨rfl, rfl⟩ e
      | null =>
        rw [merge_r' (by simp) (by simp) rfl rfl]
        exact ⟨tp _, tp _, fun c hc h1 _ => h1⟩
      | _ =>
        rw [merge_t (by simp) (by simp) (by simp) (by simp)]
        exact ⟨tp _, tp _, fun c hc h1 _ => h1⟩
    | one =>
      cases hb with
      | one => exact absurd ⟨rfl, rfl⟩ e
      | null =>
        rw [merge_r' (by simp) (by simp) rfl rfl]
        refine ⟨tp _, tp _, fun c hc h1 h2 => ?_⟩
        cases hc <;> simp_all [fits]
      | _ =>
        rw [merge_t (by simp) (by simp) (by simp) (by simp)]
        refine ⟨tp _, tp _, fun c hc h1 h2 => ?_⟩
        cases hc <;> simp_all [fits]
    | two =>
      cases hb with
      | two => exact absurd ⟨rfl, rfl⟩ e
      | null =>
        rw [merge_r' (by simp) (by simp) rfl rfl]
        refine ⟨tp _, tp _, fun c hc h1 h2 => ?_⟩
        cases hc <;> simp_all [fits]
      | _ =>
        rw [merge_t (by simp) (by simp) (by simp) (by simp)]
        refine ⟨tp _, tp _, fun c hc h1 h2 => ?_⟩
        cases hc <;> simp_all [fits]

theorem merge_comm {a b : Ty} (ha : Met N a) (hb : Met N b) : merge N A a b = merge N A b a := by
  obtain ⟨u1, u2, u3⟩ := merge_lub h ha hb
  obtain ⟨v1, v2, v3⟩ := merge_lub h hb ha
  exact fits_anti h (merge_met h ha hb) (merge_met h hb ha) (u3 _ (merge_met h hb ha) v2 v1) (v3 _ (merge_met h ha hb) u2 u1)

theorem merge_assoc {a b c : Ty} (ha : Met N a) (hb : Met N b) (hc : Met N c) : merge N A (merge N A a b) c = merge N A a (merge N A b c) := by
  have mab := merge_met h ha hb
  have mbc := merge_met h hb hc
  have m1 := merge_met h mab hc
  have m2 := merge_met h ha mbc
  obtain ⟨u1, u2, u3⟩ := merge_lub h ha hb
  obtain ⟨v1, v2, v3⟩ := merge_lub h hb hc
  obtain ⟨x1, x2, x3⟩ := merge_lub h mab hc
  obtain ⟨y1, y2, y3⟩ := merge_lub h ha mbc
  refine fits_anti h m1 m2 ?_ ?_
  · exact x3 _ m2 (u3 _ m2 y1 (fits_trans h hb mbc m2 v1 y2)) (fits_trans h hc mbc m2 v2 y2)
  · exact y3 _ m1 (fits_trans h ha mab m1 u1 x1) (v3 _ m1 (fits_trans h hb mab m1 u2 x1) x2)
end

theorem addN_nodup : ∀ (l N : List ByteArray), N.Nodup → (addN N l).2.Nodup
  | [], N, h => h
  | x :: l, N, h => by
    unfold addN
    split
    · exact h
    · split
      · exact h
      · rename_i hx
        refine addN_nodup l (N ++ [x]) ?_
        rw [List.nodup_append]
        refine ⟨h, by simp, fun a ha b hb => ?_⟩
        simp only [List.mem_singleton] at hb
        rintro rfl
        rw [ix_isSome] at hx
        exact hx (inL_iff.2 (hb ▸ ha))

theorem tree_of {names supers : List ByteArray} (h : (newH names supers).1 = 0) : Tree (newH names supers).2.1 (newH names supers).2.2 := by
  unfold newH at h ⊢
  split at h
  · simp at h
  rename_i hl
  split at h
  · simp at h
  rename_i hb
  split at h
  · rename_i h1; exact absurd h h1
  rename_i h1
  split at h
  · rename_i h2; exact absurd h h2
  rename_i h2
  split at h
  · simp at h
  rename_i h3
  rw [if_neg hl, if_neg hb, if_neg h1, if_neg h2, if_neg h3]
  have h1' : (addN [obj, fault] names).1 = 0 := by omega
  have h2' : (addS (addN [obj, fault] names).2 [0, 0] supers).1 = 0 := by omega
  refine ⟨fine_of (by omega) h1' h2', addN_nodup _ _ (by decide), fun i hi => ?_⟩
  cases hu : (up (addS (addN [obj, fault] names).2 [0, 0] supers).2 (addN [obj, fault] names).2.length i).2 with
  | true => rfl
  | false => exact absurd (ring_yes hi hu) h3
end Go.Proofs.Ytabiagheflkiaaa
