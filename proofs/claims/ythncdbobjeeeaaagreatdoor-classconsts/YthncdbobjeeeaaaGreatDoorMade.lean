/- Slices that are read, copies of them, new writers and readers, and a writer's Int, Text and Bytes. -/
import Derived.Test.YthncdbobjeeeaaaGreatDoorWriter
namespace Go.Proofs.YthncdbobjeeeaaaGreatDoor
open Go.ChangeShapes Go.WideShapes Go.ChangeAt Go.RowKit

/-- v is a slice whose bytes are l. -/
def Sl (w : World) (v : Value) (l : List Nat) : Prop :=
  (∃ b off cap, v = .slice (some ⟨b, off, none⟩) l.length cap ∧ l.length ≤ cap ∧ cap ≤ maxLen ∧ ∀ (i c : Nat), l[i]? = some c → w.cell? ⟨b, off + i, none⟩ = some (.int .u8 (c : Int))) ∨
  (l = [] ∧ ∃ ad cap, v = .slice ad 0 cap ∧ cap ≤ maxLen ∧ (ad = none → cap = 0))

theorem Own.sl {w : World} {v : Value} {l : List Nat} (h : Own w v l) : Sl w v l := by
  rcases h.2 with ⟨rfl, h0⟩ | ⟨g, cap, cur, rfl, hb, hgg, hn, hm, hs, ht⟩
  · exact .inr ⟨List.eq_nil_of_length_eq_zero h0, none, 0, rfl, Nat.zero_le _, fun _ => rfl⟩
  · refine .inl ⟨g, 0, cap, rfl, hn, hm, fun i c hi => ?_⟩
    have := World.ownsRow.cells h (g := g) rfl i (.int .u8 (c : Int)) (by unfold cl; rw [List.getElem?_map, hi]; rfl)
    rw [Addr.add_lit] at this
    exact this

theorem Sl.src {w : World} {v : Value} {l : List Nat} (h : Sl w v l) : Src Tryz.prog 1 22 v l.length (cl l) w := by
  rcases h with ⟨b, off, cap, rfl, _, _, hc⟩ | ⟨rfl, ad, cap, rfl, _, h0⟩
  · refine Src.ofSlice _ Tryz.underlying22 _ _ _ _ (by rw [cl_length]; omega) (fun j u hj => ?_) (cl_one _)
    obtain ⟨c, h1, rfl⟩ := cl_get l j u hj
    rw [Addr.add_lit]
    exact hc j c h1
  · cases ad with
    | none => exact Src.ofNil _ Tryz.underlying22 _
    | some a => exact Src.ofSlice _ Tryz.underlying22 _ _ _ _ rfl (fun j u hj => by simp [cl] at hj) (cl_one _)

theorem Sl.kept {S : Nat → Prop} {w w' : World} {v : Value} {l : List Nat} (h : Sl w v l) (hf : Fr S w w') (hS : ∀ k c, w.cell? k = some (.int .u8 c) → ¬ S k.block) : Sl w' v l := by
  rcases h with ⟨b, off, cap, rfl, h1, h2, hc⟩ | ⟨rfl, ad, cap, rfl, h1, h0⟩
  · exact .inl ⟨b, off, cap, rfl, h1, h2, fun i c hi => hf.cell (hc i c hi) (hS _ _ (hc i c hi))⟩
  · exact .inr ⟨rfl, ad, cap, rfl, h1, h0⟩

theorem Sl.shape {w : World} {v : Value} {l : List Nat} (h : Sl w v l) : ∃ o cap, v = .slice o l.length cap ∧ (o = none → l = [] ∧ cap = 0) := by
  rcases h with ⟨b, off, cap, rfl, h1, h2, hc⟩ | ⟨rfl, ad, cap, rfl, h1, h0⟩
  · exact ⟨_, _, rfl, fun h => by simp at h⟩
  · exact ⟨_, _, rfl, fun h => ⟨rfl, h0 h⟩⟩

theorem Own.form {w : World} {v : Value} {l : List Nat} (h : Own w v l) : ∃ o n cap, v = .slice o n cap := by
  obtain ⟨o, cap, e⟩ := h.shape
  exact ⟨o, _, cap, e⟩

/-- No slice. -/
def nv : Value := .slice none 0 0

theorem run_nil_eq (w : World) (n c : Nat) : (binOp .eql 22 (.slice none n c) (.slice none 0 0)).run Tryz.prog w = .ok (.bool true) w := by kernel_rfl
theorem run_some_eq (w : World) (a : Addr) (n c : Nat) : (binOp .eql 22 (.slice (some a) n c) (.slice none 0 0)).run Tryz.prog w = .ok (.bool false) w := by kernel_rfl

theorem own_empty (w : World) : Own (w.alloc (.cells #[] 5)) (.slice (some ⟨w.heap.size, 0, none⟩) 0 0) [] :=
  World.ownsRow_made w #[] 0 (Nat.zero_le _) (Nat.zero_le _) rfl

set_option maxRecDepth 100000 in
theorem clone_any (w : World) (v : Value) (l : List Nat) (h : Sl w v l) (hb : l.length ≤ 1099511627776) :
    Calls Tryz.prog 102 #[v] w fun e w' => ∃ v', e = .returned v' ∧ Own w' v' l ∧ Sp no nv w v' w' := by
  have hn := run_nil_eq
  have hs := run_some_eq
  obtain ⟨o, cap, rfl, h0⟩ := h.shape
  cases o with
  | none =>
    obtain ⟨rfl, rfl⟩ := h0 rfl
    go_enter Tryz.func102, Tryz.ntmps102
    go_wp2_with fail
    go_ret
    exact ⟨_, rfl, Own.nil _, Sp.refl _ _ _⟩
  | some a =>
    clear h0
    have h1 := own_empty w
    have hf : Fr no w (w.alloc (.cells #[] 5)) := (Fr.refl no w).alloc _ _
    have h2 := (h.kept hf (fun _ _ _ f => f)).src
    have hb' : ([] : List Nat).length + l.length ≤ 1099511627776 := by simpa using hb
    go_enter Tryz.func102, Tryz.ntmps102
    go_wp2_with (at_builtin; refine wpList_apd _ rfl rfl (.tmp 5) (.tmp 6) 22 rfl (.slice (some ⟨w.heap.size, 0, none⟩) 0 0) [] rfl h1 _ rfl l h2 hb' ?_; intro v' w' hown hsp)
    go_ret
    refine ⟨_, rfl, hown, ?_, ?_⟩
    · exact hf.trans hsp.1 (fun _ _ f => .inl f) (fun i hi s => s.elim .inl (fun e => by simp [Value.ownBlock] at e; omega))
    · intro k hk e
      have := hsp.2 k (Nat.lt_of_lt_of_le hk hf.size) e
      simp [Value.ownBlock] at this
      omega

theorem new_any (w : World) : Calls Tryz.prog 40 #[] w fun e w' => e = .returned (.pointer (some ⟨w.heap.size, 0, none⟩)) ∧ Wt w' w.heap.size nv [] ∧ Fr no w w' := by
  go_enter Tryz.func40, Tryz.ntmps40
  go_wp2_with fail
  go_ret
  exact ⟨rfl, ⟨heap_alloc_new w _, Own.nil _⟩, (Fr.refl no w).alloc _ _⟩

theorem Sp.fresh {q : Nat → Prop} {w w' : World} {v' : Value} (h : Sp q nv w v' w') : Fr q w w' ∧ ∀ k, k < w.heap.size → v'.ownBlock ≠ some k :=
  ⟨h.1.mono (fun i _ s => s.elim id (fun e => by simp [nv, Value.ownBlock] at e)), fun k hk e => by have := h.2 k hk e; simp [nv, Value.ownBlock] at this⟩

theorem bytes_any (w : World) (p : Nat) (v : Value) (l : List Nat) (h : Wt w p v l) (hb : l.length ≤ 1099511627776) :
    Calls Tryz.prog 49 #[.pointer (some ⟨p, 0, none⟩)] w fun e w' => ∃ v', e = .returned v' ∧ Own w' v' l ∧ Sp no nv w v' w' := by
  have hc : w.cell? ⟨p, 0, none⟩ = some v := cell_of_one h.1
  have hsl := h.2.sl
  obtain ⟨o, cap, rfl⟩ := h.2.shape
  go_enter Tryz.func49, Tryz.ntmps49
  go_wp2_with fail
  refine (clone_any w _ l hsl hb).mono ?_
  rintro e w' ⟨v', rfl, hown, hsp⟩
  go_wp2_with fail
  go_ret
  exact ⟨_, rfl, hown, hsp⟩

/-- A reader at block p whose bytes left are l. -/
def Rd (t : TypeId) (w : World) (p : Nat) (l : List Nat) : Prop := ∃ v, w.heap[p]? = some (.cells #[v] t (0, 0)) ∧ Sl w v l

theorem Rd.kept {t : TypeId} {S : Nat → Prop} {w w' : World} {p : Nat} {l : List Nat} (h : Rd t w p l) (hf : Fr S w w') (hp : ¬ S p) (hS : ∀ k c, w.cell? k = some (.int .u8 c) → ¬ S k.block) : Rd t w' p l := by
  obtain ⟨v, h1, h2⟩ := h
  exact ⟨v, hf.heap h1 hp, h2.kept hf hS⟩

set_option maxRecDepth 100000 in
theorem open_any (w : World) (v : Value) (l : List Nat) (h : Sl w v l) (hb : l.length ≤ 1099511627776) :
    Calls Tryz.prog 60 #[v] w fun e w' => ∃ p, e = .returned (.pointer (some ⟨p, 0, none⟩)) ∧ w.heap.size ≤ p ∧ Rd 176 w' p l ∧ Fr no w w' := by
  go_enter Tryz.func60, Tryz.ntmps60
  go_wp2_with fail
  refine (clone_any w _ l h hb).mono ?_
  rintro e w' ⟨v', rfl, hown, hsp⟩
  obtain ⟨o, cap, rfl⟩ := hown.shape
  go_wp2_with fail
  go_ret
  have hf : Fr no w' (w'.alloc (.cells #[.slice o l.length cap] 176)) := (Fr.refl no w').alloc _ _
  exact ⟨_, rfl, hsp.1.size, ⟨_, heap_alloc_new w' _, (hown.kept hf (fun _ _ f => f)).sl⟩, hsp.fresh.1.trans hf (fun _ _ f => f) (fun _ _ f => f)⟩

theorem folded_any (w : World) (n : Int) (h1 : -9223372036854775808 ≤ n) (h2 : n ≤ 9223372036854775807) : Calls Tryz.prog 143 #[.int .i64 n] w fun e w' => e = .returned (.int .u64 (fo n : Int)) ∧ w' = w := by
  by_cases h : n < 0
  · obtain ⟨m, e1⟩ : ∃ m : Nat, - n - 1 = (m : Int) := ⟨(- n - 1).toNat, by omega⟩
    have hx := xor_neg n h1 h2
    rw [e1] at hx
    have ho := or_one m (by omega)
    have hw : IntKind.u64.wrap (m : Int) = m := by simp [IntKind.wrap, IntKind.signed, IntKind.bits]; omega
    have hw2 : IntKind.u64.wrap ((m : Int) * 2) = (m : Int) * 2 := by simp [IntKind.wrap, IntKind.signed, IntKind.bits]; omega
    have E : Hid ((fo n : Int) = ((m * 2 + 1 : Nat) : Int)) := by show _ = _; unfold fo; rw [if_pos h]; omega
    clear e1
    go_enter Tryz.func143, Tryz.ntmps143
    go_wp2_with fail
    go_ret
    exact ⟨by rw [E.out]; rfl, rfl⟩
  · have E : Hid ((fo n : Int) = n * 2) := by show _ = _; unfold fo; rw [if_neg h]; omega
    go_enter Tryz.func143, Tryz.ntmps143
    go_wp2_with fail
    go_ret
    exact ⟨by rw [E.out]; rfl, rfl⟩

theorem int_any (w : World) (p : Nat) (v : Value) (l : List Nat) (h : Wt w p v l) (hb : l.length + 10 ≤ 1099511627776) (n : Int) (h1 : -9223372036854775808 ≤ n) (h2 : n ≤ 9223372036854775807) :
    Calls Tryz.prog 95 #[.pointer (some ⟨p, 0, none⟩), .int .i64 n] w fun e w' => e = .returned (.tuple #[]) ∧ ∃ v', Wt w' p v' (l ++ enc (fo n)) ∧ Sp (fun k => k = p) v w v' w' := by
  go_enter Tryz.func95, Tryz.ntmps95
  go_wp2_with fail
  refine (folded_any w n h1 h2).mono ?_
  rintro e w' ⟨rfl, rfl⟩
  go_wp2_with fail
  refine (uint_any w' p v l h hb _ (fo_lt n h1 h2)).mono ?_
  rintro e w' ⟨rfl, v', hw, hs⟩
  go_wp2_with fail
  go_end0
  exact ⟨rfl, v', hw, hs⟩

theorem byteCells_nl (s : ByteArray) : byteCells s = cl (nl s) := by unfold byteCells cl nl; simp [Function.comp_def]

theorem src_string (w : World) (s : ByteArray) : Src Tryz.prog 1 9 (.string s) (nl s).length (cl (nl s)) w := by
  rw [nl_length, ← byteCells_nl]
  exact Src.ofString w Tryz.underlying9 s

set_option maxRecDepth 100000 in
theorem text_any (w : World) (p : Nat) (v : Value) (l : List Nat) (h : Wt w p v l) (s : ByteArray) (hb : l.length + 10 + s.size ≤ 1099511627776) :
    Calls Tryz.prog 42 #[.pointer (some ⟨p, 0, none⟩), .string s] w fun e w' => e = .returned (.tuple #[]) ∧ ∃ v', Wt w' p v' (l ++ (enc s.size ++ nl s)) ∧ Sp (fun k => k = p) v w v' w' := by
  go_enter Tryz.func42, Tryz.ntmps42
  go_wp2_with fail
  refine (uint_any w p v l h (by omega) s.size (by omega)).mono ?_
  rintro e w1 ⟨rfl, v1, hw, hs⟩
  have hc := cell_of_one hw.1
  have hS := src_string w1 s
  have hb' : (l ++ enc s.size).length + (nl s).length ≤ 1099511627776 := by have := enc_length s.size; rw [nl_length]; simp; omega
  obtain ⟨o, n1, cap, e1⟩ := hw.2.form
  subst e1
  go_wp2_with (at_builtin; refine wpList_apd _ rfl rfl (.tmp 13) (.tmp 14) 9 rfl (.slice o n1 cap) (l ++ enc s.size) rfl hw.2 (.string s) rfl (nl s) hS hb' ?_; intro v' w' hown hsp; have hp' := hsp.1.heap hw.1 (fun e => e.elim id (fun e => hw.apart e)); have hcw := cell_of_one hp'; have hfw := free_of_one hp'; clear hp'; obtain ⟨o', n2, cap', e2⟩ := hown.form; subst e2)
  go_end0
  obtain ⟨r1, r2⟩ := hw.next hsp hown
  rw [List.append_assoc] at r1
  exact ⟨rfl, _, r1, hs.trans r2⟩
end Go.Proofs.YthncdbobjeeeaaaGreatDoor
