/- A writer and a reader of the call's own, against the world in which the call began; and what 'known' answers. -/
import Derived.Test.YthncdbobjeeeaaaGreatDoorReads
namespace Go.Proofs.YthncdbobjeeeaaaGreatDoor
open Go.ChangeShapes Go.WideShapes Go.ChangeAt Go.RowKit

theorem Fr.new {S : Nat → Prop} {w w1 w2 : World} (h : Fr no w w1) (k : Fr S w1 w2) (hS : ∀ i, i < w.heap.size → ¬ S i) : Fr no w w2 :=
  h.trans k (fun _ _ f => f) (fun i hi s => hS i hi s)

/-- A writer at p, newer than w0, that holds l. -/
def WB (w0 w : World) (p : Nat) (l : List Nat) : Prop := ∃ v, Wt w p v l ∧ w0.heap.size ≤ p ∧ (∀ k, v.ownBlock = some k → w0.heap.size ≤ k) ∧ Fr no w0 w

theorem WB.fr {w0 w : World} {p : Nat} {l : List Nat} (h : WB w0 w p l) : Fr no w0 w := h.elim fun _ h => h.2.2.2

theorem WB.step {w0 w w' : World} {p : Nat} {v v' : Value} {l' : List Nat} (h1 : w0.heap.size ≤ p) (h2 : ∀ k, v.ownBlock = some k → w0.heap.size ≤ k) (h3 : Fr no w0 w) (ht : Wt w' p v' l') (hs : Sp (fun k => k = p) v w v' w') : WB w0 w' p l' := by
  refine ⟨v', ht, h1, fun k hk => ?_, h3.new hs.1 (fun i hi s => s.elim (fun e => by omega) (fun e => by have := h2 i e; omega))⟩
  rcases Nat.lt_or_ge k w.heap.size with h | h
  · exact h2 k (hs.2 k h hk)
  · exact Nat.le_trans h3.size h

theorem wb_new (w0 w : World) (h : Fr no w0 w) : Calls Tryz.prog 40 #[] w fun e w' => ∃ p, e = .returned (.pointer (some ⟨p, 0, none⟩)) ∧ WB w0 w' p [] := by
  refine (new_any w).mono ?_
  rintro e w' ⟨rfl, h1, h2⟩
  exact ⟨_, rfl, nv, h1, h.size, fun k hk => by simp [nv, Value.ownBlock] at hk, h.new h2 (fun _ _ f => f)⟩

theorem wb_byte (w0 w : World) (p : Nat) (l : List Nat) (h : WB w0 w p l) (hb : l.length + 1 ≤ 1099511627776) (c : Nat) :
    Calls Tryz.prog 41 #[.pointer (some ⟨p, 0, none⟩), .int .u8 (c : Int)] w fun e w' => e = .returned (.tuple #[]) ∧ WB w0 w' p (l ++ [c]) := by
  obtain ⟨v, h0, h1, h2, h3⟩ := h
  refine (byte_any w p v l h0 hb c).mono ?_
  rintro e w' ⟨rfl, v', ht, hs⟩
  exact ⟨rfl, WB.step h1 h2 h3 ht hs⟩

theorem wb_uint (w0 w : World) (p : Nat) (l : List Nat) (h : WB w0 w p l) (hb : l.length + 10 ≤ 1099511627776) (n : Nat) (hn : n < 2 ^ 64) :
    Calls Tryz.prog 93 #[.pointer (some ⟨p, 0, none⟩), .int .u64 (n : Int)] w fun e w' => e = .returned (.tuple #[]) ∧ WB w0 w' p (l ++ enc n) := by
  obtain ⟨v, h0, h1, h2, h3⟩ := h
  refine (uint_any w p v l h0 hb n hn).mono ?_
  rintro e w' ⟨rfl, v', ht, hs⟩
  exact ⟨rfl, WB.step h1 h2 h3 ht hs⟩

theorem wb_int (w0 w : World) (p : Nat) (l : List Nat) (h : WB w0 w p l) (hb : l.length + 10 ≤ 1099511627776) (n : Int) (hn1 : -9223372036854775808 ≤ n) (hn2 : n ≤ 9223372036854775807) :
    Calls Tryz.prog 95 #[.pointer (some ⟨p, 0, none⟩), .int .i64 n] w fun e w' => e = .returned (.tuple #[]) ∧ WB w0 w' p (l ++ enc (fo n)) := by
  obtain ⟨v, h0, h1, h2, h3⟩ := h
  refine (int_any w p v l h0 hb n hn1 hn2).mono ?_
  rintro e w' ⟨rfl, v', ht, hs⟩
  exact ⟨rfl, WB.step h1 h2 h3 ht hs⟩

theorem wb_text (w0 w : World) (p : Nat) (l : List Nat) (h : WB w0 w p l) (s : ByteArray) (hb : l.length + 10 + s.size ≤ 1099511627776) :
    Calls Tryz.prog 42 #[.pointer (some ⟨p, 0, none⟩), .string s] w fun e w' => e = .returned (.tuple #[]) ∧ WB w0 w' p (l ++ (enc s.size ++ nl s)) := by
  obtain ⟨v, h0, h1, h2, h3⟩ := h
  refine (text_any w p v l h0 s hb).mono ?_
  rintro e w' ⟨rfl, v', ht, hs⟩
  exact ⟨rfl, WB.step h1 h2 h3 ht hs⟩

theorem WB.kept {w0 w w' : World} {p : Nat} {l : List Nat} (h : WB w0 w p l) (hf : Fr no w w') : WB w0 w' p l := by
  obtain ⟨v, h0, h1, h2, h3⟩ := h
  exact ⟨v, h0.kept hf (fun f => f) (fun _ _ f => f), h1, h2, h3.new hf (fun _ _ f => f)⟩

theorem wb_bytes (w0 w : World) (p : Nat) (l : List Nat) (h : WB w0 w p l) (hb : l.length ≤ 1099511627776) :
    Calls Tryz.prog 49 #[.pointer (some ⟨p, 0, none⟩)] w fun e w' => ∃ v', e = .returned v' ∧ Own w' v' l ∧ WB w0 w' p l ∧ Fr no w w' ∧ ∀ k, v'.ownBlock = some k → w.heap.size ≤ k := by
  have h' := h
  obtain ⟨v, h0, h1, h2, h3⟩ := h
  refine (bytes_any w p v l h0 hb).mono ?_
  rintro e w' ⟨v', rfl, ht, hs⟩
  have hf := hs.fresh
  exact ⟨v', rfl, ht, h'.kept hf.1, hf.1, fun k hk => Nat.le_of_not_lt fun h => hf.2 k h hk⟩

/-- A reader at p, newer than w0, whose bytes left are l. -/
def RB (w0 w : World) (p : Nat) (l : List Nat) : Prop := Rd 176 w p l ∧ w0.heap.size ≤ p ∧ Fr no w0 w

theorem rb_open (w0 w : World) (hf : Fr no w0 w) (v : Value) (l : List Nat) (h : Sl w v l) (hb : l.length ≤ 1099511627776) :
    Calls Tryz.prog 60 #[v] w fun e w' => ∃ p, e = .returned (.pointer (some ⟨p, 0, none⟩)) ∧ RB w0 w' p l := by
  refine (open_any w v l h hb).mono ?_
  rintro e w' ⟨p, rfl, h1, h2, h3⟩
  exact ⟨p, rfl, h2, Nat.le_trans hf.size h1, hf.new h3 (fun _ _ f => f)⟩

theorem RB.step {w0 w w' : World} {p : Nat} {l l' : List Nat} (h : RB w0 w p l) (h1 : Rd 176 w' p l') (h2 : Fr (fun q => q = p) w w') : RB w0 w' p l' :=
  ⟨h1, h.2.1, h.2.2.new h2 (fun i hi e => by have := h.2.1; omega)⟩

theorem rb_uint (w0 w : World) (p : Nat) (l : List Nat) (h : RB w0 w p l) (hl : ∀ c ∈ l, c < 256) (hb : l.length ≤ 1099511627776) :
    Calls Tryz.prog 154 #[.pointer (some ⟨p, 0, none⟩)] w fun e w' => e = .returned (.tuple #[.int .u64 ((rd l 0 0).1 : Int), .int .i64 ((rd l 0 0).2.1 : Int)]) ∧ RB w0 w' p (l.drop (rd l 0 0).2.2) := by
  refine (readUint_any w p l h.1 hl hb).mono ?_
  rintro e w' ⟨rfl, h1, _, h2⟩
  exact ⟨rfl, h.step h1 h2⟩

theorem rb_int (w0 w : World) (p : Nat) (l : List Nat) (h : RB w0 w p l) (hl : ∀ c ∈ l, c < 256) (hb : l.length ≤ 1099511627776) :
    Calls Tryz.prog 127 #[.pointer (some ⟨p, 0, none⟩)] w fun e w' => e = .returned (.tuple #[.int .i64 (unf (rd l 0 0).1), .int .i64 ((rd l 0 0).2.1 : Int)]) ∧ RB w0 w' p (l.drop (rd l 0 0).2.2) := by
  refine (readInt_any w p l h.1 hl hb).mono ?_
  rintro e w' ⟨rfl, h1, h2⟩
  exact ⟨rfl, h.step h1 h2⟩

theorem rb_byte (w0 w : World) (p : Nat) (l : List Nat) (h : RB w0 w p l) :
    Calls Tryz.prog 119 #[.pointer (some ⟨p, 0, none⟩)] w fun e w' => e = .returned (.tuple #[.int .u8 ((by1 l).1 : Int), .int .i64 ((by1 l).2.1 : Int)]) ∧ RB w0 w' p (l.drop (by1 l).2.2) := by
  refine (readByte_any w p l h.1).mono ?_
  rintro e w' ⟨rfl, h1, h2⟩
  exact ⟨rfl, h.step h1 h2⟩

theorem rb_count (w0 w : World) (p : Nat) (l : List Nat) (h : RB w0 w p l) (hl : ∀ c ∈ l, c < 256) (hb : l.length ≤ 1099511627776) (most : Int) (hm1 : -9223372036854775808 ≤ most) (hm2 : most ≤ 9223372036854775807) :
    Calls Tryz.prog 125 #[.pointer (some ⟨p, 0, none⟩), .int .i64 most] w fun e w' => e = .returned (.tuple #[.int .i64 ((ct l most).1 : Int), .int .i64 ((ct l most).2.1 : Int)]) ∧ RB w0 w' p (l.drop (ct l most).2.2) := by
  refine (readCount_any w p l h.1 hl hb most hm1 hm2).mono ?_
  rintro e w' ⟨rfl, h1, _, h2⟩
  exact ⟨rfl, h.step h1 h2⟩

theorem rb_text (w0 w : World) (p : Nat) (l : List Nat) (h : RB w0 w p l) (hl : ∀ c ∈ l, c < 256) (hb : l.length ≤ 1099511627776) (most : Int) (hm1 : -9223372036854775808 ≤ most) (hm2 : most ≤ 9223372036854775807) :
    Calls Tryz.prog 122 #[.pointer (some ⟨p, 0, none⟩), .int .i64 most] w fun e w' => e = .returned (.tuple #[.string (bstr (tx l most).1), .int .i64 ((tx l most).2.1 : Int)]) ∧ RB w0 w' p (l.drop (tx l most).2.2) := by
  refine (readText_any w p l h.1 hl hb most hm1 hm2).mono ?_
  rintro e w' ⟨rfl, h1, h2⟩
  exact ⟨rfl, h.step h1 h2⟩

theorem conv_own (w : World) (v : Value) (l : List Nat) (h : Own w v l) : (convert 22 9 v).run Tryz.prog w = .ok (.string (bstr l)) w := by
  rcases h.sl with ⟨b, off, cap, rfl, _, _, hc⟩ | ⟨rfl, ad, cap, rfl, _, h0⟩
  · have := conv_text w b off l.length cap l (Nat.le_refl _) hc
    rwa [List.take_length] at this
  · rcases h.2 with ⟨e, _⟩ | ⟨g, cp, cur, e, _⟩
    · simp at e
      obtain ⟨rfl, rfl⟩ := e
      exact run_convert_bytes_nil (P := Tryz.prog) w 22 5 Tryz.underlying22 Tryz.underlying5 0 0 9 Tryz.underlying9
    · simp at e
      obtain ⟨rfl, rfl⟩ := e
      exact conv_text w g 0 0 _ [] (by simp) (fun i c hi => by simp at hi)

theorem src_two (w : World) : Sl (w.alloc (.cells #[.int .u8 128, .int .u8 0] 5)) (.slice (some ⟨w.heap.size, 0, none⟩) 2 2) [128, 0] := by
  refine .inl ⟨w.heap.size, 0, 2, rfl, by simp, by unfold maxLen; omega, fun i c hi => ?_⟩
  match i, hi with
  | 0, hi => simp at hi; subst hi; simp
  | 1, hi => simp at hi; subst hi; simp
end Go.Proofs.YthncdbobjeeeaaaGreatDoor
