/- The class reader: it keeps the first error, and behind it reads nothing. -/
import Derived.Test.YthncdbobjeeeaaaGreatDoorEncode
namespace Go.Proofs.YthncdbobjeeeaaaGreatDoor
open Go.ChangeShapes Go.WideShapes Go.ChangeAt Go.RowKit

/-- A class reader at block p, over a reader at q: the bytes left, the error. -/
structure RS (w : World) (p q : Nat) (l : List Nat) (err : Nat) : Prop where
  blk : w.heap[p]? = some (.cells #[.pointer (some ⟨q, 0, none⟩), .int .i64 (err : Int)] 74 (0, 0))
  rd : Rd 176 w q l
  by_ : ∀ c ∈ l, c < 256
  ln : l.length ≤ 1099511627776

def PQ (p q : Nat) : Nat → Prop := fun k => k = p ∨ k = q

theorem RS.ne {w : World} {p q : Nat} {l : List Nat} {err : Nat} (h : RS w p q l err) : p ≠ q := by
  intro e
  subst e
  obtain ⟨v, h1, _⟩ := h.rd
  rw [h.blk] at h1
  simp at h1

theorem RS.lt {w : World} {p q : Nat} {l : List Nat} {err : Nat} (h : RS w p q l err) : p < w.heap.size ∧ q < w.heap.size := by
  obtain ⟨v, h1, _⟩ := h.rd
  exact ⟨lt_of_heap h.blk, lt_of_heap h1⟩

theorem RS.kept {S : Nat → Prop} {w w' : World} {p q : Nat} {l : List Nat} {err : Nat} (h : RS w p q l err) (hf : Fr S w w') (hp : ¬ S p) (hq : ¬ S q) (hS : ∀ k c, w.cell? k = some (.int .u8 c) → ¬ S k.block) : RS w' p q l err :=
  ⟨hf.heap h.blk hp, h.rd.kept hf hq hS, h.by_, h.ln⟩

theorem RS.new {w w' : World} {p q : Nat} {l : List Nat} {err : Nat} (h : RS w p q l err) (hf : Fr no w w') : RS w' p q l err := h.kept hf (fun f => f) (fun f => f) (fun _ _ _ f => f)

theorem RS.cells {w : World} {p q : Nat} {l : List Nat} {err : Nat} (h : RS w p q l err) : w.cell? ⟨p, 0, none⟩ = some (.pointer (some ⟨q, 0, none⟩)) ∧ w.cell? ⟨p, 1, none⟩ = some (.int .i64 (err : Int)) ∧ w.frozen? ⟨p, 1, none⟩ = false := by
  have hb := h.blk
  refine ⟨?_, ?_, ?_⟩ <;> simp [World.cell?, World.frozen?, hb]

theorem set_second {w : World} {r : Nat} {x y u : Value} {t : TypeId} (h : w.heap[r]? = some (.cells #[x, y] t (0, 0))) : (w.setCell ⟨r, 1, none⟩ u).heap[r]? = some (.cells #[x, u] t (0, 0)) := by
  unfold World.setCell
  rw [Array.getElem?_modify, if_pos rfl, h]
  rfl

theorem RS.set {w : World} {p q : Nat} {l : List Nat} {err : Nat} (h : RS w p q l err) (e : Nat) : RS (w.setCell ⟨p, 1, none⟩ (.int .i64 (e : Int))) p q l e ∧ Fr (fun k => k = p) w (w.setCell ⟨p, 1, none⟩ (.int .i64 (e : Int))) := by
  have hf : Fr (fun k => k = p) w (w.setCell ⟨p, 1, none⟩ (.int .i64 (e : Int))) := (Fr.refl (fun k => k = p) w).setCell (p := ⟨p, 1, none⟩) (fun _ => rfl) _
  refine ⟨⟨set_second h.blk, h.rd.kept hf (fun e => h.ne e.symm) (fun k c hk e => ?_), h.by_, h.ln⟩, hf⟩
  obtain ⟨cur, t, fz, hg, hm⟩ := cell_mem hk
  rw [e, h.blk] at hg
  simp only [Option.some.injEq, Obj.cells.injEq] at hg
  obtain ⟨rfl, _, _⟩ := hg
  simp at hm

/-- The error behind another one. -/
def thn (err e : Nat) : Nat := if err = 0 then e else err

theorem fail_any (w : World) (p q : Nat) (l : List Nat) (err : Nat) (h : RS w p q l err) (e : Nat) :
    Calls Tryz.prog 62 #[.pointer (some ⟨p, 0, none⟩), .int .i64 (e : Int)] w fun x w' => x = .returned (.tuple #[]) ∧ RS w' p q l (thn err e) ∧ Fr (PQ p q) w w' := by
  obtain ⟨c0, c1, z1⟩ := h.cells
  have S := h.set e
  by_cases h0 : err = 0
  · subst h0
    have HE : Hid (thn 0 e = e) := rfl
    go_enter Tryz.func62, Tryz.ntmps62
    go_wp2_with fail
    go_end0
    rw [HE.out]
    exact ⟨rfl, S.1, S.2.mono (fun _ _ e => .inl e)⟩
  · have h0' : ((err : Int) == 0) = false := beq_eq_false_iff_ne.2 (by omega)
    have HE : Hid (thn err e = err) := by show _ = _; unfold thn; rw [if_neg h0]
    go_enter Tryz.func62, Tryz.ntmps62
    go_wp2_with fail
    go_end0
    rw [HE.out]
    exact ⟨rfl, h, Fr.refl _ _⟩

theorem RS.stepq {w w' : World} {p q : Nat} {l l' : List Nat} {err : Nat} (h : RS w p q l err) (hr : Rd 176 w' q l') (hf : Fr (fun k => k = q) w w') (hl : ∀ c ∈ l', c < 256) (hn : l'.length ≤ 1099511627776) : RS w' p q l' err :=
  ⟨hf.heap h.blk (fun e => h.ne e), hr, hl, hn⟩

theorem bytes_drop {l : List Nat} (h : ∀ c ∈ l, c < 256) (k : Nat) : ∀ c ∈ l.drop k, c < 256 := fun c hc => h c (List.mem_of_mem_drop hc)
theorem len_drop {l : List Nat} (h : l.length ≤ 1099511627776) (k : Nat) : (l.drop k).length ≤ 1099511627776 := by rw [List.length_drop]; omega

theorem takeB_any (w : World) (p q : Nat) (l : List Nat) (err : Nat) (h : RS w p q l err) (v : Nat) (e k : Nat)
    (READ : err = 0 → Calls Tryz.prog 119 #[.pointer (some ⟨q, 0, none⟩)] w fun x w' => x = .returned (.tuple #[.int .u8 (v : Int), .int .i64 (e : Int)]) ∧ Rd 176 w' q (l.drop k) ∧ Fr (fun k => k = q) w w') :
    Calls Tryz.prog 118 #[.pointer (some ⟨p, 0, none⟩), .func (.func 119) #[.pointer (some ⟨q, 0, none⟩)] #[]] w fun x w' => x = .returned (if err = 0 then .int .u8 (v : Int) else .int .u8 0) ∧ RS w' p q (if err = 0 then l.drop k else l) (thn err e) ∧ Fr (PQ p q) w w' := by
  obtain ⟨c0, c1, z1⟩ := h.cells
  by_cases h0 : err = 0
  · subst h0
    have R := READ rfl
    rw [if_pos rfl, if_pos rfl]
    have HS : Hid (∀ w1, Rd 176 w1 q (l.drop k) → Fr (fun k => k = q) w w1 → RS w1 p q (l.drop k) 0) := fun w1 r1 f1 => h.stepq r1 f1 (bytes_drop h.by_ k) (len_drop h.ln k)
    clear READ h
    go_enter Tryz.func118, Tryz.ntmps118
    go_wp2_with fail
    refine R.mono ?_
    rintro x w1 ⟨rfl, r1, f1⟩
    go_wp2_with fail
    refine (fail_any w1 p q _ 0 (HS.out w1 r1 f1) e).mono ?_
    rintro x w2 ⟨rfl, r2, f2⟩
    go_wp2_with fail
    go_ret
    exact ⟨rfl, r2, f1.trans f2 (fun _ _ e => .inr e) (fun _ _ e => e)⟩
  · have h0' : ((err : Int) == 0) = false := beq_eq_false_iff_ne.2 (by omega)
    rw [if_neg h0, if_neg h0]
    have HE : Hid (thn err e = err) := by show _ = _; unfold thn; rw [if_neg h0]
    clear READ
    go_enter Tryz.func118, Tryz.ntmps118
    go_wp2_with fail
    go_ret
    rw [HE.out]
    exact ⟨rfl, h, Fr.refl _ _⟩

theorem takeI_any (w : World) (p q : Nat) (l : List Nat) (err : Nat) (h : RS w p q l err) (v : Int) (e k : Nat)
    (READ : err = 0 → Calls Tryz.prog 127 #[.pointer (some ⟨q, 0, none⟩)] w fun x w' => x = .returned (.tuple #[.int .i64 v, .int .i64 (e : Int)]) ∧ Rd 176 w' q (l.drop k) ∧ Fr (fun k => k = q) w w') :
    Calls Tryz.prog 126 #[.pointer (some ⟨p, 0, none⟩), .func (.func 127) #[.pointer (some ⟨q, 0, none⟩)] #[]] w fun x w' => x = .returned (if err = 0 then .int .i64 v else .int .i64 0) ∧ RS w' p q (if err = 0 then l.drop k else l) (thn err e) ∧ Fr (PQ p q) w w' := by
  obtain ⟨c0, c1, z1⟩ := h.cells
  by_cases h0 : err = 0
  · subst h0
    have R := READ rfl
    rw [if_pos rfl, if_pos rfl]
    have HS : Hid (∀ w1, Rd 176 w1 q (l.drop k) → Fr (fun k => k = q) w w1 → RS w1 p q (l.drop k) 0) := fun w1 r1 f1 => h.stepq r1 f1 (bytes_drop h.by_ k) (len_drop h.ln k)
    clear READ h
    go_enter Tryz.func126, Tryz.ntmps126
    go_wp2_with fail
    refine R.mono ?_
    rintro x w1 ⟨rfl, r1, f1⟩
    go_wp2_with fail
    refine (fail_any w1 p q _ 0 (HS.out w1 r1 f1) e).mono ?_
    rintro x w2 ⟨rfl, r2, f2⟩
    go_wp2_with fail
    go_ret
    exact ⟨rfl, r2, f1.trans f2 (fun _ _ e => .inr e) (fun _ _ e => e)⟩
  · have h0' : ((err : Int) == 0) = false := beq_eq_false_iff_ne.2 (by omega)
    rw [if_neg h0, if_neg h0]
    have HE : Hid (thn err e = err) := by show _ = _; unfold thn; rw [if_neg h0]
    clear READ
    go_enter Tryz.func126, Tryz.ntmps126
    go_wp2_with fail
    go_ret
    rw [HE.out]
    exact ⟨rfl, h, Fr.refl _ _⟩

theorem takeC_any (w : World) (p q : Nat) (l : List Nat) (err : Nat) (h : RS w p q l err) (v : Nat) (e k : Nat) (v2 : Nat)
    (READ : err = 0 → Calls Tryz.prog 129 #[.pointer (some ⟨q, 0, none⟩)] w fun x w' => x = .returned (.tuple #[.complex .f64 v v2, .int .i64 (e : Int)]) ∧ Rd 176 w' q (l.drop k) ∧ Fr (fun k => k = q) w w') :
    Calls Tryz.prog 128 #[.pointer (some ⟨p, 0, none⟩), .func (.func 129) #[.pointer (some ⟨q, 0, none⟩)] #[]] w fun x w' => x = .returned (if err = 0 then .complex .f64 v v2 else .complex .f64 0 0) ∧ RS w' p q (if err = 0 then l.drop k else l) (thn err e) ∧ Fr (PQ p q) w w' := by
  obtain ⟨c0, c1, z1⟩ := h.cells
  by_cases h0 : err = 0
  · subst h0
    have R := READ rfl
    rw [if_pos rfl, if_pos rfl]
    have HS : Hid (∀ w1, Rd 176 w1 q (l.drop k) → Fr (fun k => k = q) w w1 → RS w1 p q (l.drop k) 0) := fun w1 r1 f1 => h.stepq r1 f1 (bytes_drop h.by_ k) (len_drop h.ln k)
    clear READ h
    go_enter Tryz.func128, Tryz.ntmps128
    go_wp2_with fail
    refine R.mono ?_
    rintro x w1 ⟨rfl, r1, f1⟩
    go_wp2_with fail
    refine (fail_any w1 p q _ 0 (HS.out w1 r1 f1) e).mono ?_
    rintro x w2 ⟨rfl, r2, f2⟩
    go_wp2_with fail
    go_ret
    exact ⟨rfl, r2, f1.trans f2 (fun _ _ e => .inr e) (fun _ _ e => e)⟩
  · have h0' : ((err : Int) == 0) = false := beq_eq_false_iff_ne.2 (by omega)
    rw [if_neg h0, if_neg h0]
    have HE : Hid (thn err e = err) := by show _ = _; unfold thn; rw [if_neg h0]
    clear READ
    go_enter Tryz.func128, Tryz.ntmps128
    go_wp2_with fail
    go_ret
    rw [HE.out]
    exact ⟨rfl, h, Fr.refl _ _⟩

theorem takeT_any (w : World) (p q : Nat) (l : List Nat) (err : Nat) (h : RS w p q l err) (a b : Nat) (v : ByteArray) (e k : Nat)
    (READ : err = 0 → Calls Tryz.prog 121 #[.pointer (some ⟨a, 0, none⟩), .pointer (some ⟨b, 0, none⟩)] w fun x w' => x = .returned (.tuple #[.string v, .int .i64 (e : Int)]) ∧ Rd 176 w' q (l.drop k) ∧ Fr (fun k => k = q) w w') :
    Calls Tryz.prog 120 #[.pointer (some ⟨p, 0, none⟩), .func (.func 121) #[] #[.pointer (some ⟨a, 0, none⟩), .pointer (some ⟨b, 0, none⟩)]] w fun x w' => x = .returned (if err = 0 then .string v else .string e0) ∧ RS w' p q (if err = 0 then l.drop k else l) (thn err e) ∧ Fr (PQ p q) w w' := by
  obtain ⟨c0, c1, z1⟩ := h.cells
  by_cases h0 : err = 0
  · subst h0
    have R := READ rfl
    rw [if_pos rfl, if_pos rfl]
    have HS : Hid (∀ w1, Rd 176 w1 q (l.drop k) → Fr (fun k => k = q) w w1 → RS w1 p q (l.drop k) 0) := fun w1 r1 f1 => h.stepq r1 f1 (bytes_drop h.by_ k) (len_drop h.ln k)
    clear READ h
    go_enter Tryz.func120, Tryz.ntmps120
    go_wp2_with fail
    refine R.mono ?_
    rintro x w1 ⟨rfl, r1, f1⟩
    go_wp2_with fail
    refine (fail_any w1 p q _ 0 (HS.out w1 r1 f1) e).mono ?_
    rintro x w2 ⟨rfl, r2, f2⟩
    go_wp2_with fail
    go_ret
    exact ⟨rfl, r2, f1.trans f2 (fun _ _ e => .inr e) (fun _ _ e => e)⟩
  · have h0' : ((err : Int) == 0) = false := beq_eq_false_iff_ne.2 (by omega)
    rw [if_neg h0, if_neg h0]
    have HE : Hid (thn err e = err) := by show _ = _; unfold thn; rw [if_neg h0]
    clear READ
    go_enter Tryz.func120, Tryz.ntmps120
    go_wp2_with fail
    go_ret
    rw [HE.out]
    exact ⟨rfl, h, Fr.refl _ _⟩

theorem takeN_any (w : World) (p q : Nat) (l : List Nat) (err : Nat) (h : RS w p q l err) (a b : Nat) (v : Nat) (e k : Nat)
    (READ : err = 0 → Calls Tryz.prog 124 #[.pointer (some ⟨a, 0, none⟩), .pointer (some ⟨b, 0, none⟩)] w fun x w' => x = .returned (.tuple #[.int .i64 (v : Int), .int .i64 (e : Int)]) ∧ Rd 176 w' q (l.drop k) ∧ Fr (fun k => k = q) w w') :
    Calls Tryz.prog 123 #[.pointer (some ⟨p, 0, none⟩), .func (.func 124) #[] #[.pointer (some ⟨a, 0, none⟩), .pointer (some ⟨b, 0, none⟩)]] w fun x w' => x = .returned (if err = 0 then .int .i64 (v : Int) else .int .i64 0) ∧ RS w' p q (if err = 0 then l.drop k else l) (thn err e) ∧ Fr (PQ p q) w w' := by
  obtain ⟨c0, c1, z1⟩ := h.cells
  by_cases h0 : err = 0
  · subst h0
    have R := READ rfl
    rw [if_pos rfl, if_pos rfl]
    have HS : Hid (∀ w1, Rd 176 w1 q (l.drop k) → Fr (fun k => k = q) w w1 → RS w1 p q (l.drop k) 0) := fun w1 r1 f1 => h.stepq r1 f1 (bytes_drop h.by_ k) (len_drop h.ln k)
    clear READ h
    go_enter Tryz.func123, Tryz.ntmps123
    go_wp2_with fail
    refine R.mono ?_
    rintro x w1 ⟨rfl, r1, f1⟩
    go_wp2_with fail
    refine (fail_any w1 p q _ 0 (HS.out w1 r1 f1) e).mono ?_
    rintro x w2 ⟨rfl, r2, f2⟩
    go_wp2_with fail
    go_ret
    exact ⟨rfl, r2, f1.trans f2 (fun _ _ e => .inr e) (fun _ _ e => e)⟩
  · have h0' : ((err : Int) == 0) = false := beq_eq_false_iff_ne.2 (by omega)
    rw [if_neg h0, if_neg h0]
    have HE : Hid (thn err e = err) := by show _ = _; unfold thn; rw [if_neg h0]
    clear READ
    go_enter Tryz.func123, Tryz.ntmps123
    go_wp2_with fail
    go_ret
    rw [HE.out]
    exact ⟨rfl, h, Fr.refl _ _⟩

/-- What is read of one byte, a number, a complex one, a text, a count: behind an error nothing. -/
def tkB (s : List Nat × Nat) : Nat × (List Nat × Nat) := if s.2 = 0 then ((by1 s.1).1, (s.1.drop (by1 s.1).2.2, (by1 s.1).2.1)) else (0, s)
def tkI (s : List Nat × Nat) : Int × (List Nat × Nat) := if s.2 = 0 then (unf (rd s.1 0 0).1, (s.1.drop (rd s.1 0 0).2.2, (rd s.1 0 0).2.1)) else (0, s)
def tkC (s : List Nat × Nat) : (Nat × Nat) × (List Nat × Nat) := if s.2 = 0 then (((cxd s.1).1, (cxd s.1).2.1), (s.1.drop (cxd s.1).2.2.2, (cxd s.1).2.2.1)) else ((0, 0), s)
def tkT (most : Int) (s : List Nat × Nat) : ByteArray × (List Nat × Nat) := if s.2 = 0 then (bstr (tx s.1 most).1, (s.1.drop (tx s.1 most).2.2, (tx s.1 most).2.1)) else (e0, s)
def tkN (most : Int) (s : List Nat × Nat) : Nat × (List Nat × Nat) := if s.2 = 0 then ((ct s.1 most).1, (s.1.drop (ct s.1 most).2.2, (ct s.1 most).2.1)) else (0, s)

/-- The reader is in that state. -/
def RT (w : World) (p q : Nat) (s : List Nat × Nat) : Prop := RS w p q s.1 s.2

theorem rByte_any (w : World) (p q : Nat) (s : List Nat × Nat) (h : RT w p q s) :
    Calls Tryz.prog 61 #[.pointer (some ⟨p, 0, none⟩)] w fun x w' => x = .returned (.int .u8 ((tkB s).1 : Int)) ∧ RT w' p q (tkB s).2 ∧ Fr (PQ p q) w w' := by
  obtain ⟨l, err⟩ := s
  have h : RS w p q l err := h
  obtain ⟨c0, c1, z1⟩ := h.cells
  have K := takeB_any w p q l err h (by1 l).1 (by1 l).2.1 (by1 l).2.2 (fun _ => readByte_any w q l h.rd)
  by_cases h0 : err = 0
  · subst h0
    rw [if_pos rfl, if_pos rfl] at K
    have e : tkB (l, 0) = ((by1 l).1, (l.drop (by1 l).2.2, (by1 l).2.1)) := rfl
    rw [e]
    go_enter Tryz.func61, Tryz.ntmps61
    go_wp2_with fail
    refine K.mono ?_
    rintro x w1 ⟨rfl, r1, f1⟩
    go_wp2_with fail
    go_ret
    exact ⟨rfl, r1, f1⟩
  · rw [if_neg h0, if_neg h0] at K
    have e : tkB (l, err) = (0, (l, err)) := by unfold tkB; rw [if_neg h0]
    rw [e]
    have e2 : ∀ x, thn err x = err := fun x => by unfold thn; rw [if_neg h0]
    rw [e2] at K
    go_enter Tryz.func61, Tryz.ntmps61
    go_wp2_with fail
    refine K.mono ?_
    rintro x w1 ⟨rfl, r1, f1⟩
    go_wp2_with fail
    go_ret
    exact ⟨rfl, r1, f1⟩

theorem rInt_any (w : World) (p q : Nat) (s : List Nat × Nat) (h : RT w p q s) :
    Calls Tryz.prog 66 #[.pointer (some ⟨p, 0, none⟩)] w fun x w' => x = .returned (.int .i64 (tkI s).1) ∧ RT w' p q (tkI s).2 ∧ Fr (PQ p q) w w' := by
  obtain ⟨l, err⟩ := s
  have h : RS w p q l err := h
  obtain ⟨c0, c1, z1⟩ := h.cells
  have K := takeI_any w p q l err h (unf (rd l 0 0).1) (rd l 0 0).2.1 (rd l 0 0).2.2 (fun _ => readInt_any w q l h.rd h.by_ h.ln)
  by_cases h0 : err = 0
  · subst h0
    rw [if_pos rfl, if_pos rfl] at K
    have e : tkI (l, 0) = (unf (rd l 0 0).1, (l.drop (rd l 0 0).2.2, (rd l 0 0).2.1)) := rfl
    rw [e]
    go_enter Tryz.func66, Tryz.ntmps66
    go_wp2_with fail
    refine K.mono ?_
    rintro x w1 ⟨rfl, r1, f1⟩
    go_wp2_with fail
    go_ret
    exact ⟨rfl, r1, f1⟩
  · rw [if_neg h0, if_neg h0] at K
    have e : tkI (l, err) = (0, (l, err)) := by unfold tkI; rw [if_neg h0]
    rw [e]
    have e2 : ∀ x, thn err x = err := fun x => by unfold thn; rw [if_neg h0]
    rw [e2] at K
    go_enter Tryz.func66, Tryz.ntmps66
    go_wp2_with fail
    refine K.mono ?_
    rintro x w1 ⟨rfl, r1, f1⟩
    go_wp2_with fail
    go_ret
    exact ⟨rfl, r1, f1⟩

theorem rCplx_any (w : World) (p q : Nat) (s : List Nat × Nat) (h : RT w p q s) :
    Calls Tryz.prog 67 #[.pointer (some ⟨p, 0, none⟩)] w fun x w' => x = .returned (.complex .f64 (tkC s).1.1 (tkC s).1.2) ∧ RT w' p q (tkC s).2 ∧ Fr (PQ p q) w w' := by
  obtain ⟨l, err⟩ := s
  have h : RS w p q l err := h
  obtain ⟨c0, c1, z1⟩ := h.cells
  have K := takeC_any w p q l err h (cxd l).1 (cxd l).2.2.1 (cxd l).2.2.2 (cxd l).2.1 (fun _ => readCplx_any w q l h.rd h.by_ h.ln)
  by_cases h0 : err = 0
  · subst h0
    rw [if_pos rfl, if_pos rfl] at K
    have e : tkC (l, 0) = (((cxd l).1, (cxd l).2.1), (l.drop (cxd l).2.2.2, (cxd l).2.2.1)) := rfl
    rw [e]
    go_enter Tryz.func67, Tryz.ntmps67
    go_wp2_with fail
    refine K.mono ?_
    rintro x w1 ⟨rfl, r1, f1⟩
    go_wp2_with fail
    go_ret
    exact ⟨rfl, r1, f1⟩
  · rw [if_neg h0, if_neg h0] at K
    have e : tkC (l, err) = ((0, 0), (l, err)) := by unfold tkC; rw [if_neg h0]
    rw [e]
    have e2 : ∀ x, thn err x = err := fun x => by unfold thn; rw [if_neg h0]
    rw [e2] at K
    go_enter Tryz.func67, Tryz.ntmps67
    go_wp2_with fail
    refine K.mono ?_
    rintro x w1 ⟨rfl, r1, f1⟩
    go_wp2_with fail
    go_ret
    exact ⟨rfl, r1, f1⟩
end Go.Proofs.YthncdbobjeeeaaaGreatDoor
