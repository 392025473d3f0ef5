/- Slices that are read, copies of them, new writers and readers, and a writer's Int, Text and Bytes. -/
import Derived.Test.YtdafghfhhkhjcaaDoorWriter
namespace Go.Proofs.YtdafghfhhkhjcaaDoor
open Go.ChangeShapes Go.WideShapes Go.ChangeAt Go.RowKit

/-- v is a slice whose bytes are l. -/
def Sl (w : World) (v : Value) (l : List Nat) : Prop :=
  (∃ b off cap, v = .slice (some ⟨b, off, none⟩) l.length cap ∧ l.length ≤ cap ∧ cap ≤ maxLen ∧ ∀ (i c : Nat), l[i]? = some c → w.cell? ⟨b, off + i, none⟩ = some (.int .u8 (c : Int))) ∨
  (l = [] ∧ ∃ ad cap, v = .slice ad 0 cap ∧ cap ≤ maxLen ∧ (ad = none → cap = 0))

theorem Own.sl {w : World} {v : Value} {l : List Nat} (h : Own w v l) : Sl w v l := by
  rcases h.2 with ⟨rfl, h0⟩ | ⟨g, cap, cur, rfl, hb, hgg, hn, hm, hs, ht⟩
  · exact .inr ⟨List.eq_nil_of_length_eq_zero h0, none, 0, rfl, Nat.zero_le _, fun _ => rfl⟩
  · refine .inl ⟨g, 0, cap, rfl, hn, hm, fun i c hi => ?_⟩
    have := World.ownsRow.cells h (g := g) rfl i (.int .u8 (c : Int)) (by unfold cl; rw [List.getElem?_map, hi]; rfl)
    rw [Addr.add_lit] at this
    exact this

theorem Sl.src {w : World} {v : Value} {l : List Nat} (h : Sl w v l) : Src Tryd.prog 1 30 v l.length (cl l) w := by
  rcases h with ⟨b, off, cap, rfl, _, _, hc⟩ | ⟨rfl, ad, cap, rfl, _, h0⟩
  · refine Src.ofSlice _ Tryd.underlying30 _ _ _ _ (by rw [cl_length]; omega) (fun j u hj => ?_) (cl_one _)
    obtain ⟨c, h1, rfl⟩ := cl_get l j u hj
    rw [Addr.add_lit]
    exact hc j c h1
  · cases ad with
    | none => exact Src.ofNil _ Tryd.underlying30 _
    | some a => exact Src.ofSlice _ Tryd.underlying30 _ _ _ _ rfl (fun j u hj => by simp [cl] at hj) (cl_one _)

theorem Sl.kept {S : Nat → Prop} {w w' : World} {v : Value} {l : List Nat} (h : Sl w v l) (hf : Fr S w w') (hS : ∀ k c, w.cell? k = some (.int .u8 c) → ¬ S k.block) : Sl w' v l := by
  rcases h with ⟨b, off, cap, rfl, h1, h2, hc⟩ | ⟨rfl, ad, cap, rfl, h1, h0⟩
  · exact .inl ⟨b, off, cap, rfl, h1, h2, fun i c hi => hf.cell (hc i c hi) (hS _ _ (hc i c hi))⟩
  · exact .inr ⟨rfl, ad, cap, rfl, h1, h0⟩

theorem Sl.shape {w : World} {v : Value} {l : List Nat} (h : Sl w v l) : ∃ o cap, v = .slice o l.length cap ∧ (o = none → l = [] ∧ cap = 0) := by
  rcases h with ⟨b, off, cap, rfl, h1, h2, hc⟩ | ⟨rfl, ad, cap, rfl, h1, h0⟩
  · exact ⟨_, _, rfl, fun h => by simp at h⟩
  · exact ⟨_, _, rfl, fun h => ⟨rfl, h0 h⟩⟩

theorem Own.form {w : World} {v : Value} {l : List Nat} (h : Own w v l) : ∃ o n cap, v = .slice o n cap := by
  obtain ⟨o, cap, e⟩ := h.shape
  exact ⟨o, _, cap, e⟩

/-- No slice. -/
def nv : Value := .slice none 0 0

theorem run_nil_eq (w : World) (n c : Nat) : (binOp .eql 30 (.slice none n c) (.slice none 0 0)).run Tryd.prog w = .ok (.bool true) w := by kernel_rfl
theorem run_some_eq (w : World) (a : Addr) (n c : Nat) : (binOp .eql 30 (.slice (some a) n c) (.slice none 0 0)).run Tryd.prog w = .ok (.bool false) w := by kernel_rfl

theorem own_empty (w : World) : Own (w.alloc (.cells #[] 5)) (.slice (some ⟨w.heap.size, 0, none⟩) 0 0) [] :=
  World.ownsRow_made w #[] 0 (Nat.zero_le _) (Nat.zero_le _) rfl

set_option maxRecDepth 100000 in
theorem clone_any (w : World) (v : Value) (l : List Nat) (h : Sl w v l) (hb : l.length ≤ 1099511627776) :
    Calls Tryd.prog 45 #[v] w fun e w' => ∃ v', e = .returned v' ∧ Own w' v' l ∧ Sp no nv w v' w' := by
  have hn := run_nil_eq
  have hs := run_some_eq
  obtain ⟨o, cap, rfl, h0⟩ := h.shape
  cases o with
  | none =>
    obtain ⟨rfl, rfl⟩ := h0 rfl
    go_enter Tryd.func45, Tryd.ntmps45
    go_wp2_with fail
    go_ret
    exact ⟨_, rfl, Own.nil _, Sp.refl _ _ _⟩
  | some a =>
    clear h0
    have h1 := own_empty w
    have hf : Fr no w (w.alloc (.cells #[] 5)) := (Fr.refl no w).alloc _ _
    have h2 := (h.kept hf (fun _ _ _ f => f)).src
    have hb' : ([] : List Nat).length + l.length ≤ 1099511627776 := by simpa using hb
    go_enter Tryd.func45, Tryd.ntmps45
    go_wp2_with (at_builtin; refine wpList_apd _ rfl rfl (.tmp 5) (.tmp 6) 30 rfl (.slice (some ⟨w.heap.size, 0, none⟩) 0 0) [] rfl h1 _ rfl l h2 hb' ?_; intro v' w' hown hsp)
    go_ret
    refine ⟨_, rfl, hown, ?_, ?_⟩
    · exact hf.trans hsp.1 (fun _ _ f => .inl f) (fun i hi s => s.elim .inl (fun e => by simp [Value.ownBlock] at e; omega))
    · intro k hk e
      have := hsp.2 k (Nat.lt_of_lt_of_le hk hf.size) e
      simp [Value.ownBlock] at this
      omega

theorem new_any (w : World) : Calls Tryd.prog 31 #[] w fun e w' => e = .returned (.pointer (some ⟨w.heap.size, 0, none⟩)) ∧ Wt w' w.heap.size nv [] ∧ Fr no w w' := by
  go_enter Tryd.func31, Tryd.ntmps31
  go_wp2_with fail
  go_ret
  exact ⟨rfl, ⟨heap_alloc_new w _, Own.nil _⟩, (Fr.refl no w).alloc _ _⟩

theorem Sp.fresh {q : Nat → Prop} {w w' : World} {v' : Value} (h : Sp q nv w v' w') : Fr q w w' ∧ ∀ k, k < w.heap.size → v'.ownBlock ≠ some k :=
  ⟨h.1.mono (fun i _ s => s.elim id (fun e => by simp [nv, Value.ownBlock] at e)), fun k hk e => by have := h.2 k hk e; simp [nv, Value.ownBlock] at this⟩

theorem bytes_any (w : World) (p : Nat) (v : Value) (l : List Nat) (h : Wt w p v l) (hb : l.length ≤ 1099511627776) :
    Calls Tryd.prog 33 #[.pointer (some ⟨p, 0, none⟩)] w fun e w' => ∃ v', e = .returned v' ∧ Own w' v' l ∧ Sp no nv w v' w' := by
  have hc : w.cell? ⟨p, 0, none⟩ = some v := cell_of_one h.1
  have hsl := h.2.sl
  obtain ⟨o, cap, rfl⟩ := h.2.shape
  go_enter Tryd.func33, Tryd.ntmps33
  go_wp2_with fail
  refine (clone_any w _ l hsl hb).mono ?_
  rintro e w' ⟨v', rfl, hown, hsp⟩
  go_wp2_with fail
  go_ret
  exact ⟨_, rfl, hown, hsp⟩

/-- A reader at block p whose bytes left are l. -/
def Rd (t : TypeId) (w : World) (p : Nat) (l : List Nat) : Prop := ∃ v, w.heap[p]? = some (.cells #[v] t (0, 0)) ∧ Sl w v l

theorem Rd.kept {t : TypeId} {S : Nat → Prop} {w w' : World} {p : Nat} {l : List Nat} (h : Rd t w p l) (hf : Fr S w w') (hp : ¬ S p) (hS : ∀ k c, w.cell? k = some (.int .u8 c) → ¬ S k.block) : Rd t w' p l := by
  obtain ⟨v, h1, h2⟩ := h
  exact ⟨v, hf.heap h1 hp, h2.kept hf hS⟩

set_option maxRecDepth 100000 in
theorem open_any (w : World) (v : Value) (l : List Nat) (h : Sl w v l) (hb : l.length ≤ 1099511627776) :
    Calls Tryd.prog 36 #[v] w fun e w' => ∃ p, e = .returned (.pointer (some ⟨p, 0, none⟩)) ∧ w.heap.size ≤ p ∧ Rd 80 w' p l ∧ Fr no w w' := by
  go_enter Tryd.func36, Tryd.ntmps36
  go_wp2_with fail
  refine (clone_any w _ l h hb).mono ?_
  rintro e w' ⟨v', rfl, hown, hsp⟩
  obtain ⟨o, cap, rfl⟩ := hown.shape
  go_wp2_with fail
  go_ret
  have hf : Fr no w' (w'.alloc (.cells #[.slice o l.length cap] 80)) := (Fr.refl no w').alloc _ _
  exact ⟨_, rfl, hsp.1.size, ⟨_, heap_alloc_new w' _, (hown.kept hf (fun _ _ f => f)).sl⟩, hsp.fresh.1.trans hf (fun _ _ f => f) (fun _ _ f => f)⟩
end Go.Proofs.YtdafghfhhkhjcaaDoor
