/- The class reader: it keeps the first error, and behind it reads nothing. -/
import Derived.Test.YthncdbobjeeeaaaGreatDoorGl
import Derived.Deep.RegionHeld3
namespace Go.Proofs.YthncdbobjeeeaaaGreatDoor
open Go.ChangeShapes Go.WideShapes Go.ChangeAt Go.RowKit

/-- A class reader at block p, over a reader at q: the bytes left, the error. -/
structure RS (w : World) (p q : Nat) (l : List Nat) (err : Nat) : Prop where
  blk : w.heap[p]? = some (.cells #[.pointer (some ⟨q, 0, none⟩), .int .i64 (err : Int)] 74 (0, 0))
  rd : Rd 176 w q l
  by_ : ∀ c ∈ l, c < 256
  ln : l.length ≤ 1099511627776

def PQ (p q : Nat) : Nat → Prop := fun k => k = p ∨ k = q

theorem RS.ne {w : World} {p q : Nat} {l : List Nat} {err : Nat} (h : RS w p q l err) : p ≠ q := by
  intro e
  subst e
  obtain ⟨v, h1, _⟩ := h.rd
  rw [h.blk] at h1
  simp at h1

theorem RS.lt {w : World} {p q : Nat} {l : List Nat} {err : Nat} (h : RS w p q l err) : p < w.heap.size ∧ q < w.heap.size := by
  obtain ⟨v, h1, _⟩ := h.rd
  exact ⟨lt_of_heap h.blk, lt_of_heap h1⟩

theorem RS.kept {S : Nat → Prop} {w w' : World} {p q : Nat} {l : List Nat} {err : Nat} (h : RS w p q l err) (hf : Fr S w w') (hp : ¬ S p) (hq : ¬ S q) (hS : ∀ k c, w.cell? k = some (.int .u8 c) → ¬ S k.block) : RS w' p q l err :=
  ⟨hf.heap h.blk hp, h.rd.kept hf hq hS, h.by_, h.ln⟩

theorem RS.new {w w' : World} {p q : Nat} {l : List Nat} {err : Nat} (h : RS w p q l err) (hf : Fr no w w') : RS w' p q l err := h.kept hf (fun f => f) (fun f => f) (fun _ _ _ f => f)

theorem RS.cells {w : World} {p q : Nat} {l : List Nat} {err : Nat} (h : RS w p q l err) : w.cell? ⟨p, 0, none⟩ = some (.pointer (some ⟨q, 0, none⟩)) ∧ w.cell? ⟨p, 1, none⟩ = some (.int .i64 (err : Int)) ∧ w.frozen? ⟨p, 1, none⟩ = false := by
  have hb := h.blk
  refine ⟨?_, ?_, ?_⟩ <;> simp [World.cell?, World.frozen?, hb]

theorem set_second {w : World} {r : Nat} {x y u : Value} {t : TypeId} (h : w.heap[r]? = some (.cells #[x, y] t (0, 0))) : (w.setCell ⟨r, 1, none⟩ u).heap[r]? = some (.cells #[x, u] t (0, 0)) := by
  unfold World.setCell
  rw [Array.getElem?_modify, if_pos rfl, h]
  rfl

theorem RS.set {w : World} {p q : Nat} {l : List Nat} {err : Nat} (h : RS w p q l err) (e : Nat) : RS (w.setCell ⟨p, 1, none⟩ (.int .i64 (e : Int))) p q l e ∧ Fr (fun k => k = p) w (w.setCell ⟨p, 1, none⟩ (.int .i64 (e : Int))) := by
  have hf : Fr (fun k => k = p) w (w.setCell ⟨p, 1, none⟩ (.int .i64 (e : Int))) := (Fr.refl (fun k => k = p) w).setCell (p := ⟨p, 1, none⟩) (fun _ => rfl) _
  refine ⟨⟨set_second h.blk, h.rd.kept hf (fun e => h.ne e.symm) (fun k c hk e => ?_), h.by_, h.ln⟩, hf⟩
  obtain ⟨cur, t, fz, hg, hm⟩ := cell_mem hk
  rw [e, h.blk] at hg
  simp only [Option.some.injEq, Obj.cells.injEq] at hg
  obtain ⟨rfl, _, _⟩ := hg
  simp at hm

/-- The error behind another one. -/
def thn (err e : Nat) : Nat := if err = 0 then e else err

theorem fail_any (w : World) (p q : Nat) (l : List Nat) (err : Nat) (h : RS w p q l err) (e : Nat) :
    Calls Tryz.prog 62 #[.pointer (some ⟨p, 0, none⟩), .int .i64 (e : Int)] w fun x w' => x = .returned (.tuple #[]) ∧ RS w' p q l (thn err e) ∧ Fr (PQ p q) w w' := by
  obtain ⟨c0, c1, z1⟩ := h.cells
  have S := h.set e
  by_cases h0 : err = 0
  · subst h0
    have HE : Hid (thn 0 e = e) := rfl
    go_enter Tryz.func62, Tryz.ntmps62
    go_wp2_with fail
    go_end0
    rw [HE.out]
    exact ⟨rfl, S.1, S.2.mono (fun _ _ e => .inl e)⟩
  · have h0' : ((err : Int) == 0) = false := beq_eq_false_iff_ne.2 (by omega)
    have HE : Hid (thn err e = err) := by show _ = _; unfold thn; rw [if_neg h0]
    go_enter Tryz.func62, Tryz.ntmps62
    go_wp2_with fail
    go_end0
    rw [HE.out]
    exact ⟨rfl, h, Fr.refl _ _⟩

theorem RS.stepq {w w' : World} {p q : Nat} {l l' : List Nat} {err : Nat} (h : RS w p q l err) (hr : Rd 176 w' q l') (hf : Fr (fun k => k = q) w w') (hl : ∀ c ∈ l', c < 256) (hn : l'.length ≤ 1099511627776) : RS w' p q l' err :=
  ⟨hf.heap h.blk (fun e => h.ne e), hr, hl, hn⟩

theorem bytes_drop {l : List Nat} (h : ∀ c ∈ l, c < 256) (k : Nat) : ∀ c ∈ l.drop k, c < 256 := fun c hc => h c (List.mem_of_mem_drop hc)
theorem len_drop {l : List Nat} (h : l.length ≤ 1099511627776) (k : Nat) : (l.drop k).length ≤ 1099511627776 := by rw [List.length_drop]; omega

theorem takeB_any (w : World) (p q : Nat) (l : List Nat) (err : Nat) (h : RS w p q l err) (v : Nat) (e k : Nat)
    (READ : err = 0 → Calls Tryz.prog 119 #[.pointer (some ⟨q, 0, none⟩)] w fun x w' => x = .returned (.tuple #[.int .u8 (v : Int), .int .i64 (e : Int)]) ∧ Rd 176 w' q (l.drop k) ∧ Fr (fun k => k = q) w w') :
    Calls Tryz.prog 118 #[.pointer (some ⟨p, 0, none⟩), .func (.func 119) #[.pointer (some ⟨q, 0, none⟩)] #[]] w fun x w' => x = .returned (if err = 0 then .int .u8 (v : Int) else .int .u8 0) ∧ RS w' p q (if err = 0 then l.drop k else l) (thn err e) ∧ Fr (PQ p q) w w' := by
  obtain ⟨c0, c1, z1⟩ := h.cells
  by_cases h0 : err = 0
  · subst h0
    have R := READ rfl
    rw [if_pos rfl, if_pos rfl]
    have HS : Hid (∀ w1, Rd 176 w1 q (l.drop k) → Fr (fun k => k = q) w w1 → RS w1 p q (l.drop k) 0) := fun w1 r1 f1 => h.stepq r1 f1 (bytes_drop h.by_ k) (len_drop h.ln k)
    clear READ h
    go_enter Tryz.func118, Tryz.ntmps118
    go_wp2_with fail
    refine R.mono ?_
    rintro x w1 ⟨rfl, r1, f1⟩
    go_wp2_with fail
    refine (fail_any w1 p q _ 0 (HS.out w1 r1 f1) e).mono ?_
    rintro x w2 ⟨rfl, r2, f2⟩
    go_wp2_with fail
    go_ret
    exact ⟨rfl, r2, f1.trans f2 (fun _ _ e => .inr e) (fun _ _ e => e)⟩
  · have h0' : ((err : Int) == 0) = false := beq_eq_false_iff_ne.2 (by omega)
    rw [if_neg h0, if_neg h0]
    have HE : Hid (thn err e = err) := by show _ = _; unfold thn; rw [if_neg h0]
    clear READ
    go_enter Tryz.func118, Tryz.ntmps118
    go_wp2_with fail
    go_ret
    rw [HE.out]
    exact ⟨rfl, h, Fr.refl _ _⟩

theorem takeI_any (w : World) (p q : Nat) (l : List Nat) (err : Nat) (h : RS w p q l err) (v : Int) (e k : Nat)
    (READ : err = 0 → Calls Tryz.prog 127 #[.pointer (some ⟨q, 0, none⟩)] w fun x w' => x = .returned (.tuple #[.int .i64 v, .int .i64 (e : Int)]) ∧ Rd 176 w' q (l.drop k) ∧ Fr (fun k => k = q) w w') :
    Calls Tryz.prog 126 #[.pointer (some ⟨p, 0, none⟩), .func (.func 127) #[.pointer (some ⟨q, 0, none⟩)] #[]] w fun x w' => x = .returned (if err = 0 then .int .i64 v else .int .i64 0) ∧ RS w' p q (if err = 0 then l.drop k else l) (thn err e) ∧ Fr (PQ p q) w w' := by
  obtain ⟨c0, c1, z1⟩ := h.cells
  by_cases h0 : err = 0
  · subst h0
    have R := READ rfl
    rw [if_pos rfl, if_pos rfl]
    have HS : Hid (∀ w1, Rd 176 w1 q (l.drop k) → Fr (fun k => k = q) w w1 → RS w1 p q (l.drop k) 0) := fun w1 r1 f1 => h.stepq r1 f1 (bytes_drop h.by_ k) (len_drop h.ln k)
    clear READ h
    go_enter Tryz.func126, Tryz.ntmps126
    go_wp2_with fail
    refine R.mono ?_
    rintro x w1 ⟨rfl, r1, f1⟩
    go_wp2_with fail
    refine (fail_any w1 p q _ 0 (HS.out w1 r1 f1) e).mono ?_
    rintro x w2 ⟨rfl, r2, f2⟩
    go_wp2_with fail
    go_ret
    exact ⟨rfl, r2, f1.trans f2 (fun _ _ e => .inr e) (fun _ _ e => e)⟩
  · have h0' : ((err : Int) == 0) = false := beq_eq_false_iff_ne.2 (by omega)
    rw [if_neg h0, if_neg h0]
    have HE : Hid (thn err e = err) := by show _ = _; unfold thn; rw [if_neg h0]
    clear READ
    go_enter Tryz.func126, Tryz.ntmps126
    go_wp2_with fail
    go_ret
    rw [HE.out]
    exact ⟨rfl, h, Fr.refl _ _⟩

theorem takeC_any (w : World) (p q : Nat) (l : List Nat) (err : Nat) (h : RS w p q l err) (v : Nat) (e k : Nat) (v2 : Nat)
    (READ : err = 0 → Calls Tryz.prog 129 #[.pointer (some ⟨q, 0, none⟩)] w fun x w' => x = .returned (.tuple #[.complex .f64 v v2, .int .i64 (e : Int)]) ∧ Rd 176 w' q (l.drop k) ∧ Fr (fun k => k = q) w w') :
    Calls Tryz.prog 128 #[.pointer (some ⟨p, 0, none⟩), .func (.func 129) #[.pointer (some ⟨q, 0, none⟩)] #[]] w fun x w' => x = .returned (if err = 0 then .complex .f64 v v2 else .complex .f64 0 0) ∧ RS w' p q (if err = 0 then l.drop k else l) (thn err e) ∧ Fr (PQ p q) w w' := by
  obtain ⟨c0, c1, z1⟩ := h.cells
  by_cases h0 : err = 0
  · subst h0
    have R := READ rfl
    rw [if_pos rfl, if_pos rfl]
    have HS : Hid (∀ w1, Rd 176 w1 q (l.drop k) → Fr (fun k => k = q) w w1 → RS w1 p q (l.drop k) 0) := fun w1 r1 f1 => h.stepq r1 f1 (bytes_drop h.by_ k) (len_drop h.ln k)
    clear READ h
    go_enter Tryz.func128, Tryz.ntmps128
    go_wp2_with fail
    refine R.mono ?_
    rintro x w1 ⟨rfl, r1, f1⟩
    go_wp2_with fail
    refine (fail_any w1 p q _ 0 (HS.out w1 r1 f1) e).mono ?_
    rintro x w2 ⟨rfl, r2, f2⟩
    go_wp2_with fail
    go_ret
    exact ⟨rfl, r2, f1.trans f2 (fun _ _ e => .inr e) (fun _ _ e => e)⟩
  · have h0' : ((err : Int) == 0) = false := beq_eq_false_iff_ne.2 (by omega)
    rw [if_neg h0, if_neg h0]
    have HE : Hid (thn err e = err) := by show _ = _; unfold thn; rw [if_neg h0]
    clear READ
    go_enter Tryz.func128, Tryz.ntmps128
    go_wp2_with fail
    go_ret
    rw [HE.out]
    exact ⟨rfl, h, Fr.refl _ _⟩

theorem takeT_any (w : World) (p q : Nat) (l : List Nat) (err : Nat) (h : RS w p q l err) (a b : Nat) (v : ByteArray) (e k : Nat)
    (READ : err = 0 → Calls Tryz.prog 121 #[.pointer (some ⟨a, 0, none⟩), .pointer (some ⟨b, 0, none⟩)] w fun x w' => x = .returned (.tuple #[.string v, .int .i64 (e : Int)]) ∧ Rd 176 w' q (l.drop k) ∧ Fr (fun k => k = q) w w') :
    Calls Tryz.prog 120 #[.pointer (some ⟨p, 0, none⟩), .func (.func 121) #[] #[.pointer (some ⟨a, 0, none⟩), .pointer (some ⟨b, 0, none⟩)]] w fun x w' => x = .returned (if err = 0 then .string v else .string e0) ∧ RS w' p q (if err = 0 then l.drop k else l) (thn err e) ∧ Fr (PQ p q) w w' := by
  obtain ⟨c0, c1, z1⟩ := h.cells
  by_cases h0 : err = 0
  · subst h0
    have R := READ rfl
    rw [if_pos rfl, if_pos rfl]
    have HS : Hid (∀ w1, Rd 176 w1 q (l.drop k) → Fr (fun k => k = q) w w1 → RS w1 p q (l.drop k) 0) := fun w1 r1 f1 => h.stepq r1 f1 (bytes_drop h.by_ k) (len_drop h.ln k)
    clear READ h
    go_enter Tryz.func120, Tryz.ntmps120
    go_wp2_with fail
    refine R.mono ?_
    rintro x w1 ⟨rfl, r1, f1⟩
    go_wp2_with fail
    refine (fail_any w1 p q _ 0 (HS.out w1 r1 f1) e).mono ?_
    rintro x w2 ⟨rfl, r2, f2⟩
    go_wp2_with fail
    go_ret
    exact ⟨rfl, r2, f1.trans f2 (fun _ _ e => .inr e) (fun _ _ e => e)⟩
  · have h0' : ((err : Int) == 0) = false := beq_eq_false_iff_ne.2 (by omega)
    rw [if_neg h0, if_neg h0]
    have HE : Hid (thn err e = err) := by show _ = _; unfold thn; rw [if_neg h0]
    clear READ
    go_enter Tryz.func120, Tryz.ntmps120
    go_wp2_with fail
    go_ret
    rw [HE.out]
    exact ⟨rfl, h, Fr.refl _ _⟩

theorem takeN_any (w : World) (p q : Nat) (l : List Nat) (err : Nat) (h : RS w p q l err) (a b : Nat) (v : Nat) (e k : Nat)
    (READ : err = 0 → Calls Tryz.prog 124 #[.pointer (some ⟨a, 0, none⟩), .pointer (some ⟨b, 0, none⟩)] w fun x w' => x = .returned (.tuple #[.int .i64 (v : Int), .int .i64 (e : Int)]) ∧ Rd 176 w' q (l.drop k) ∧ Fr (fun k => k = q) w w') :
    Calls Tryz.prog 123 #[.pointer (some ⟨p, 0, none⟩), .func (.func 124) #[] #[.pointer (some ⟨a, 0, none⟩), .pointer (some ⟨b, 0, none⟩)]] w fun x w' => x = .returned (if err = 0 then .int .i64 (v : Int) else .int .i64 0) ∧ RS w' p q (if err = 0 then l.drop k else l) (thn err e) ∧ Fr (PQ p q) w w' := by
  obtain ⟨c0, c1, z1⟩ := h.cells
  by_cases h0 : err = 0
  · subst h0
    have R := READ rfl
    rw [if_pos rfl, if_pos rfl]
    have HS : Hid (∀ w1, Rd 176 w1 q (l.drop k) → Fr (fun k => k = q) w w1 → RS w1 p q (l.drop k) 0) := fun w1 r1 f1 => h.stepq r1 f1 (bytes_drop h.by_ k) (len_drop h.ln k)
    clear READ h
    go_enter Tryz.func123, Tryz.ntmps123
    go_wp2_with fail
    refine R.mono ?_
    rintro x w1 ⟨rfl, r1, f1⟩
    go_wp2_with fail
    refine (fail_any w1 p q _ 0 (HS.out w1 r1 f1) e).mono ?_
    rintro x w2 ⟨rfl, r2, f2⟩
    go_wp2_with fail
    go_ret
    exact ⟨rfl, r2, f1.trans f2 (fun _ _ e => .inr e) (fun _ _ e => e)⟩
  · have h0' : ((err : Int) == 0) = false := beq_eq_false_iff_ne.2 (by omega)
    rw [if_neg h0, if_neg h0]
    have HE : Hid (thn err e = err) := by show _ = _; unfold thn; rw [if_neg h0]
    clear READ
    go_enter Tryz.func123, Tryz.ntmps123
    go_wp2_with fail
    go_ret
    rw [HE.out]
    exact ⟨rfl, h, Fr.refl _ _⟩

/-- What is read of one byte, a number, a complex one, a text, a count: behind an error nothing. -/
def tkB (s : List Nat × Nat) : Nat × (List Nat × Nat) := if s.2 = 0 then ((by1 s.1).1, (s.1.drop (by1 s.1).2.2, (by1 s.1).2.1)) else (0, s)
def tkI (s : List Nat × Nat) : Int × (List Nat × Nat) := if s.2 = 0 then (unf (rd s.1 0 0).1, (s.1.drop (rd s.1 0 0).2.2, (rd s.1 0 0).2.1)) else (0, s)
def tkC (s : List Nat × Nat) : (Nat × Nat) × (List Nat × Nat) := if s.2 = 0 then (((cxd s.1).1, (cxd s.1).2.1), (s.1.drop (cxd s.1).2.2.2, (cxd s.1).2.2.1)) else ((0, 0), s)
def tkT (most : Int) (s : List Nat × Nat) : ByteArray × (List Nat × Nat) := if s.2 = 0 then (bstr (tx s.1 most).1, (s.1.drop (tx s.1 most).2.2, (tx s.1 most).2.1)) else (e0, s)
def tkN (most : Int) (s : List Nat × Nat) : Nat × (List Nat × Nat) := if s.2 = 0 then ((ct s.1 most).1, (s.1.drop (ct s.1 most).2.2, (ct s.1 most).2.1)) else (0, s)

/-- The reader is in that state. -/
def RT (w : World) (p q : Nat) (s : List Nat × Nat) : Prop := RS w p q s.1 s.2

theorem rByte_any (w : World) (p q : Nat) (s : List Nat × Nat) (h : RT w p q s) :
    Calls Tryz.prog 61 #[.pointer (some ⟨p, 0, none⟩)] w fun x w' => x = .returned (.int .u8 ((tkB s).1 : Int)) ∧ RT w' p q (tkB s).2 ∧ Fr (PQ p q) w w' := by
  obtain ⟨l, err⟩ := s
  have h : RS w p q l err := h
  obtain ⟨c0, c1, z1⟩ := h.cells
  have K := takeB_any w p q l err h (by1 l).1 (by1 l).2.1 (by1 l).2.2 (fun _ => readByte_any w q l h.rd)
  by_cases h0 : err = 0
  · subst h0
    rw [if_pos rfl, if_pos rfl] at K
    have e : tkB (l, 0) = ((by1 l).1, (l.drop (by1 l).2.2, (by1 l).2.1)) := rfl
    rw [e]
    go_enter Tryz.func61, Tryz.ntmps61
    go_wp2_with fail
    refine K.mono ?_
    rintro x w1 ⟨rfl, r1, f1⟩
    go_wp2_with fail
    go_ret
    exact ⟨rfl, r1, f1⟩
  · rw [if_neg h0, if_neg h0] at K
    have e : tkB (l, err) = (0, (l, err)) := by unfold tkB; rw [if_neg h0]
    rw [e]
    have e2 : ∀ x, thn err x = err := fun x => by unfold thn; rw [if_neg h0]
    rw [e2] at K
    go_enter Tryz.func61, Tryz.ntmps61
    go_wp2_with fail
    refine K.mono ?_
    rintro x w1 ⟨rfl, r1, f1⟩
    go_wp2_with fail
    go_ret
    exact ⟨rfl, r1, f1⟩

theorem rInt_any (w : World) (p q : Nat) (s : List Nat × Nat) (h : RT w p q s) :
    Calls Tryz.prog 66 #[.pointer (some ⟨p, 0, none⟩)] w fun x w' => x = .returned (.int .i64 (tkI s).1) ∧ RT w' p q (tkI s).2 ∧ Fr (PQ p q) w w' := by
  obtain ⟨l, err⟩ := s
  have h : RS w p q l err := h
  obtain ⟨c0, c1, z1⟩ := h.cells
  have K := takeI_any w p q l err h (unf (rd l 0 0).1) (rd l 0 0).2.1 (rd l 0 0).2.2 (fun _ => readInt_any w q l h.rd h.by_ h.ln)
  by_cases h0 : err = 0
  · subst h0
    rw [if_pos rfl, if_pos rfl] at K
    have e : tkI (l, 0) = (unf (rd l 0 0).1, (l.drop (rd l 0 0).2.2, (rd l 0 0).2.1)) := rfl
    rw [e]
    go_enter Tryz.func66, Tryz.ntmps66
    go_wp2_with fail
    refine K.mono ?_
    rintro x w1 ⟨rfl, r1, f1⟩
    go_wp2_with fail
    go_ret
    exact ⟨rfl, r1, f1⟩
  · rw [if_neg h0, if_neg h0] at K
    have e : tkI (l, err) = (0, (l, err)) := by unfold tkI; rw [if_neg h0]
    rw [e]
    have e2 : ∀ x, thn err x = err := fun x => by unfold thn; rw [if_neg h0]
    rw [e2] at K
    go_enter Tryz.func66, Tryz.ntmps66
    go_wp2_with fail
    refine K.mono ?_
    rintro x w1 ⟨rfl, r1, f1⟩
    go_wp2_with fail
    go_ret
    exact ⟨rfl, r1, f1⟩

theorem rCplx_any (w : World) (p q : Nat) (s : List Nat × Nat) (h : RT w p q s) :
    Calls Tryz.prog 67 #[.pointer (some ⟨p, 0, none⟩)] w fun x w' => x = .returned (.complex .f64 (tkC s).1.1 (tkC s).1.2) ∧ RT w' p q (tkC s).2 ∧ Fr (PQ p q) w w' := by
  obtain ⟨l, err⟩ := s
  have h : RS w p q l err := h
  obtain ⟨c0, c1, z1⟩ := h.cells
  have K := takeC_any w p q l err h (cxd l).1 (cxd l).2.2.1 (cxd l).2.2.2 (cxd l).2.1 (fun _ => readCplx_any w q l h.rd h.by_ h.ln)
  by_cases h0 : err = 0
  · subst h0
    rw [if_pos rfl, if_pos rfl] at K
    have e : tkC (l, 0) = (((cxd l).1, (cxd l).2.1), (l.drop (cxd l).2.2.2, (cxd l).2.2.1)) := rfl
    rw [e]
    go_enter Tryz.func67, Tryz.ntmps67
    go_wp2_with fail
    refine K.mono ?_
    rintro x w1 ⟨rfl, r1, f1⟩
    go_wp2_with fail
    go_ret
    exact ⟨rfl, r1, f1⟩
  · rw [if_neg h0, if_neg h0] at K
    have e : tkC (l, err) = ((0, 0), (l, err)) := by unfold tkC; rw [if_neg h0]
    rw [e]
    have e2 : ∀ x, thn err x = err := fun x => by unfold thn; rw [if_neg h0]
    rw [e2] at K
    go_enter Tryz.func67, Tryz.ntmps67
    go_wp2_with fail
    refine K.mono ?_
    rintro x w1 ⟨rfl, r1, f1⟩
    go_wp2_with fail
    go_ret
    exact ⟨rfl, r1, f1⟩
end Go.Proofs.YthncdbobjeeeaaaGreatDoor

/- The class reader: texts, counts, names, flags, its end. -/
namespace Go.Proofs.YthncdbobjeeeaaaGreatDoor
open Go.ChangeShapes Go.WideShapes Go.ChangeAt Go.RowKit

set_option maxRecDepth 100000 in
theorem cloT_any (w : World) (p q a b : Nat) (l : List Nat) (h : RS w p q l 0) (most : Int) (hm1 : -9223372036854775808 ≤ most) (hm2 : most ≤ 9223372036854775807)
    (ha : w.heap[a]? = some (.cells #[.pointer (some ⟨p, 0, none⟩)] 62 (0, 0))) (hb : w.heap[b]? = some (.cells #[.int .i64 most] 3 (0, 0))) :
    Calls Tryz.prog 121 #[.pointer (some ⟨a, 0, none⟩), .pointer (some ⟨b, 0, none⟩)] w fun x w' => x = .returned (.tuple #[.string (bstr (tx l most).1), .int .i64 ((tx l most).2.1 : Int)]) ∧ Rd 176 w' q (l.drop (tx l most).2.2) ∧ Fr (fun k => k = q) w w' := by
  obtain ⟨c0, c1, z1⟩ := h.cells
  have d0 := cell_of_one ha
  have d1 := cell_of_one hb
  have R0 := readText_any w.drew q l (h.new (Fr.refl no w).drew).rd h.by_ h.ln most hm1 hm2
  have R : Calls Tryz.prog 122 #[.pointer (some ⟨q, 0, none⟩), .int .i64 most] w.drew fun x w' => x = .returned (.tuple #[.string (bstr (tx l most).1), .int .i64 ((tx l most).2.1 : Int)]) ∧ Rd 176 w' q (l.drop (tx l most).2.2) ∧ Fr (fun k => k = q) w w' := by
    refine R0.mono ?_
    rintro x w' ⟨rfl, r1, f1⟩
    exact ⟨rfl, r1, ((Fr.refl no w).drew).trans f1 (fun _ _ f => f.elim) (fun _ _ e => e)⟩
  clear R0
  have hqa : a ≠ q := fun e => by
    obtain ⟨v, h1, _⟩ := h.rd
    rw [← e, ha] at h1
    simp at h1
  have hqb : b ≠ q := fun e => by
    obtain ⟨v, h1, _⟩ := h.rd
    rw [← e, hb] at h1
    simp at h1
  have KS : ∀ w2, Fr (fun k => k = q) w w2 → w2.cell? ⟨a, 0, none⟩ = some (.pointer (some ⟨p, 0, none⟩)) ∧ w2.cell? ⟨b, 0, none⟩ = some (.int .i64 most) ∧ w2.cell? ⟨p, 0, none⟩ = some (.pointer (some ⟨q, 0, none⟩)) :=
    fun w2 f2 => ⟨f2.cell d0 hqa, f2.cell d1 hqb, f2.cell c0 h.ne⟩
  clear ha hb h
  go_enter Tryz.func121, Tryz.ntmps121
  go_wp2_with fail
  go_region_held3 (fun w2 => w2.cell? ⟨a, 0, none⟩ = some (.pointer (some ⟨p, 0, none⟩)) ∧ w2.cell? ⟨b, 0, none⟩ = some (.int .i64 most) ∧ w2.cell? ⟨p, 0, none⟩ = some (.pointer (some ⟨q, 0, none⟩))) (first | exact KS _ (Fr.refl _ _).drew | exact KS _ f1) (first | (go_at_call 122; refine R.mono ?_; rintro x w1 ⟨rfl, r1, f1⟩))
  go_wp2_with fail
  go_ret2
  exact ⟨rfl, r1, f1⟩

theorem rText_any (w : World) (p q : Nat) (s : List Nat × Nat) (h : RT w p q s) (most : Int) (hm1 : -9223372036854775808 ≤ most) (hm2 : most ≤ 9223372036854775807) :
    Calls Tryz.prog 63 #[.pointer (some ⟨p, 0, none⟩), .int .i64 most] w fun x w' => x = .returned (.string (tkT most s).1) ∧ RT w' p q (tkT most s).2 ∧ Fr (PQ p q) w w' := by
  obtain ⟨l, err⟩ := s
  have h : RS w p q l err := h
  have f0 : Fr no w ((w.alloc (.cells #[.pointer (some ⟨p, 0, none⟩)] 62)).alloc (.cells #[.int .i64 most] 3)) := ((Fr.refl no w).alloc _ _).alloc _ _
  have hs1 : (w.alloc (.cells #[.pointer (some ⟨p, 0, none⟩)] 62)).heap.size = w.heap.size + 1 := size_alloc _ _
  have hb : ((w.alloc (.cells #[.pointer (some ⟨p, 0, none⟩)] 62)).alloc (.cells #[.int .i64 most] 3)).heap[w.heap.size + 1]? = some (.cells #[.int .i64 most] 3 (0, 0)) := by rw [← hs1]; exact heap_alloc_new _ _
  have ha : ((w.alloc (.cells #[.pointer (some ⟨p, 0, none⟩)] 62)).alloc (.cells #[.int .i64 most] 3)).heap[w.heap.size]? = some (.cells #[.pointer (some ⟨p, 0, none⟩)] 62 (0, 0)) := ((Fr.refl no _).alloc _ _).heap (heap_alloc_new w _) (fun f => f)
  have HF : Hid (Fr no w ((w.alloc (.cells #[.pointer (some ⟨p, 0, none⟩)] 62)).alloc (.cells #[.int .i64 most] 3))) := f0
  have h' := h.new f0
  generalize hW : (w.alloc (.cells #[.pointer (some ⟨p, 0, none⟩)] 62)).alloc (.cells #[.int .i64 most] 3) = W at *
  have a0 := cell_of_one ha
  have K := takeT_any W p q l err h' w.heap.size (w.heap.size + 1) (bstr (tx l most).1) (tx l most).2.1 (tx l most).2.2 (fun e0 => by subst e0; exact cloT_any W p q _ _ l h' most hm1 hm2 ha hb)
  clear f0 ha hb h h'
  by_cases h0 : err = 0
  · subst h0
    rw [if_pos rfl, if_pos rfl] at K
    have e : tkT most (l, 0) = (bstr (tx l most).1, (l.drop (tx l most).2.2, (tx l most).2.1)) := rfl
    rw [e]
    go_enter Tryz.func63, Tryz.ntmps63
    go_wp2_with fail
    refine K.mono ?_
    rintro x w1 ⟨rfl, r1, f1⟩
    go_wp2_with fail
    go_ret
    exact ⟨rfl, r1, HF.out.trans f1 (fun _ _ f => f.elim) (fun _ _ e => e)⟩
  · rw [if_neg h0, if_neg h0] at K
    have e : tkT most (l, err) = (e0, (l, err)) := by unfold tkT; rw [if_neg h0]
    rw [e]
    have e2 : ∀ x, thn err x = err := fun x => by unfold thn; rw [if_neg h0]
    rw [e2] at K
    go_enter Tryz.func63, Tryz.ntmps63
    go_wp2_with fail
    refine K.mono ?_
    rintro x w1 ⟨rfl, r1, f1⟩
    go_wp2_with fail
    go_ret
    exact ⟨rfl, r1, HF.out.trans f1 (fun _ _ f => f.elim) (fun _ _ e => e)⟩

set_option maxRecDepth 100000 in
theorem cloN_any (w : World) (p q a b : Nat) (l : List Nat) (h : RS w p q l 0) (most : Int) (hm1 : -9223372036854775808 ≤ most) (hm2 : most ≤ 9223372036854775807)
    (ha : w.heap[a]? = some (.cells #[.pointer (some ⟨p, 0, none⟩)] 62 (0, 0))) (hb : w.heap[b]? = some (.cells #[.int .i64 most] 3 (0, 0))) :
    Calls Tryz.prog 124 #[.pointer (some ⟨a, 0, none⟩), .pointer (some ⟨b, 0, none⟩)] w fun x w' => x = .returned (.tuple #[.int .i64 ((ct l most).1 : Int), .int .i64 ((ct l most).2.1 : Int)]) ∧ Rd 176 w' q (l.drop (ct l most).2.2) ∧ Fr (fun k => k = q) w w' := by
  obtain ⟨c0, c1, z1⟩ := h.cells
  have d0 := cell_of_one ha
  have d1 := cell_of_one hb
  have R0 := readCount_any w.drew q l (h.new (Fr.refl no w).drew).rd h.by_ h.ln most hm1 hm2
  have R : Calls Tryz.prog 125 #[.pointer (some ⟨q, 0, none⟩), .int .i64 most] w.drew fun x w' => x = .returned (.tuple #[.int .i64 ((ct l most).1 : Int), .int .i64 ((ct l most).2.1 : Int)]) ∧ Rd 176 w' q (l.drop (ct l most).2.2) ∧ Fr (fun k => k = q) w w' := by
    refine R0.mono ?_
    rintro x w' ⟨rfl, r1, _, f1⟩
    exact ⟨rfl, r1, ((Fr.refl no w).drew).trans f1 (fun _ _ f => f.elim) (fun _ _ e => e)⟩
  clear R0
  have hqa : a ≠ q := fun e => by
    obtain ⟨v, h1, _⟩ := h.rd
    rw [← e, ha] at h1
    simp at h1
  have hqb : b ≠ q := fun e => by
    obtain ⟨v, h1, _⟩ := h.rd
    rw [← e, hb] at h1
    simp at h1
  have KS : ∀ w2, Fr (fun k => k = q) w w2 → w2.cell? ⟨a, 0, none⟩ = some (.pointer (some ⟨p, 0, none⟩)) ∧ w2.cell? ⟨b, 0, none⟩ = some (.int .i64 most) ∧ w2.cell? ⟨p, 0, none⟩ = some (.pointer (some ⟨q, 0, none⟩)) :=
    fun w2 f2 => ⟨f2.cell d0 hqa, f2.cell d1 hqb, f2.cell c0 h.ne⟩
  clear ha hb h
  go_enter Tryz.func124, Tryz.ntmps124
  go_wp2_with fail
  go_region_held3 (fun w2 => w2.cell? ⟨a, 0, none⟩ = some (.pointer (some ⟨p, 0, none⟩)) ∧ w2.cell? ⟨b, 0, none⟩ = some (.int .i64 most) ∧ w2.cell? ⟨p, 0, none⟩ = some (.pointer (some ⟨q, 0, none⟩))) (first | exact KS _ (Fr.refl _ _).drew | exact KS _ f1) (first | (go_at_call 125; refine R.mono ?_; rintro x w1 ⟨rfl, r1, f1⟩))
  go_wp2_with fail
  go_ret2
  exact ⟨rfl, r1, f1⟩

theorem rCount_any (w : World) (p q : Nat) (s : List Nat × Nat) (h : RT w p q s) (most : Int) (hm1 : -9223372036854775808 ≤ most) (hm2 : most ≤ 9223372036854775807) :
    Calls Tryz.prog 64 #[.pointer (some ⟨p, 0, none⟩), .int .i64 most] w fun x w' => x = .returned (.int .i64 ((tkN most s).1 : Int)) ∧ RT w' p q (tkN most s).2 ∧ Fr (PQ p q) w w' := by
  obtain ⟨l, err⟩ := s
  have h : RS w p q l err := h
  have f0 : Fr no w ((w.alloc (.cells #[.pointer (some ⟨p, 0, none⟩)] 62)).alloc (.cells #[.int .i64 most] 3)) := ((Fr.refl no w).alloc _ _).alloc _ _
  have hs1 : (w.alloc (.cells #[.pointer (some ⟨p, 0, none⟩)] 62)).heap.size = w.heap.size + 1 := size_alloc _ _
  have hb : ((w.alloc (.cells #[.pointer (some ⟨p, 0, none⟩)] 62)).alloc (.cells #[.int .i64 most] 3)).heap[w.heap.size + 1]? = some (.cells #[.int .i64 most] 3 (0, 0)) := by rw [← hs1]; exact heap_alloc_new _ _
  have ha : ((w.alloc (.cells #[.pointer (some ⟨p, 0, none⟩)] 62)).alloc (.cells #[.int .i64 most] 3)).heap[w.heap.size]? = some (.cells #[.pointer (some ⟨p, 0, none⟩)] 62 (0, 0)) := ((Fr.refl no _).alloc _ _).heap (heap_alloc_new w _) (fun f => f)
  have HF : Hid (Fr no w ((w.alloc (.cells #[.pointer (some ⟨p, 0, none⟩)] 62)).alloc (.cells #[.int .i64 most] 3))) := f0
  have h' := h.new f0
  generalize hW : (w.alloc (.cells #[.pointer (some ⟨p, 0, none⟩)] 62)).alloc (.cells #[.int .i64 most] 3) = W at *
  have a0 := cell_of_one ha
  have K := takeN_any W p q l err h' w.heap.size (w.heap.size + 1) (ct l most).1 (ct l most).2.1 (ct l most).2.2 (fun e0 => by subst e0; exact cloN_any W p q _ _ l h' most hm1 hm2 ha hb)
  clear f0 ha hb h h'
  by_cases h0 : err = 0
  · subst h0
    rw [if_pos rfl, if_pos rfl] at K
    have e : tkN most (l, 0) = ((ct l most).1, (l.drop (ct l most).2.2, (ct l most).2.1)) := rfl
    rw [e]
    go_enter Tryz.func64, Tryz.ntmps64
    go_wp2_with fail
    refine K.mono ?_
    rintro x w1 ⟨rfl, r1, f1⟩
    go_wp2_with fail
    go_ret
    exact ⟨rfl, r1, HF.out.trans f1 (fun _ _ f => f.elim) (fun _ _ e => e)⟩
  · rw [if_neg h0, if_neg h0] at K
    have e : tkN most (l, err) = (0, (l, err)) := by unfold tkN; rw [if_neg h0]
    rw [e]
    have e2 : ∀ x, thn err x = err := fun x => by unfold thn; rw [if_neg h0]
    rw [e2] at K
    go_enter Tryz.func64, Tryz.ntmps64
    go_wp2_with fail
    refine K.mono ?_
    rintro x w1 ⟨rfl, r1, f1⟩
    go_wp2_with fail
    go_ret
    exact ⟨rfl, r1, HF.out.trans f1 (fun _ _ f => f.elim) (fun _ _ e => e)⟩

theorem rName_any (w : World) (p q : Nat) (s : List Nat × Nat) (h : RT w p q s) :
    Calls Tryz.prog 18 #[.pointer (some ⟨p, 0, none⟩)] w fun x w' => x = .returned (.string (tkT 20 s).1) ∧ RT w' p q (tkT 20 s).2 ∧ Fr (PQ p q) w w' := by
  have K := rText_any w p q s h 20 (by omega) (by omega)
  generalize tkT 20 s = r at *
  go_enter Tryz.func18, Tryz.ntmps18
  go_wp2_with fail
  refine K.mono ?_
  rintro x w1 ⟨rfl, r1, f1⟩
  go_wp2_with fail
  go_ret
  exact ⟨rfl, r1, f1⟩

/-- A flag. -/
def tkF (s : List Nat × Nat) : Bool × (List Nat × Nat) := (decide ((tkB s).1 = 1), ((tkB s).2.1, if 1 < (tkB s).1 then thn (tkB s).2.2 31 else (tkB s).2.2))

theorem rFlag_any (w : World) (p q : Nat) (s : List Nat × Nat) (h : RT w p q s) :
    Calls Tryz.prog 69 #[.pointer (some ⟨p, 0, none⟩)] w fun x w' => x = .returned (.bool (tkF s).1) ∧ RT w' p q (tkF s).2 ∧ Fr (PQ p q) w w' := by
  have K := rByte_any w p q s h
  have HE : Hid (tkF s = (decide ((tkB s).1 = 1), ((tkB s).2.1, if 1 < (tkB s).1 then thn (tkB s).2.2 31 else (tkB s).2.2))) := rfl
  generalize tkB s = r at *
  generalize tkF s = t at *
  obtain ⟨c, l, e⟩ := r
  simp only [] at *
  by_cases hc : 1 < c
  · have HE' : Hid (t = (false, (l, thn e 31))) := by show _ = _; rw [HE.out, if_pos hc, decide_eq_false (by omega)]
    have q1 : ((c : Int) == 1) = false := by simp; omega
    clear HE
    go_enter Tryz.func69, Tryz.ntmps69
    go_wp2_with fail
    refine K.mono ?_
    rintro x w1 ⟨rfl, r1, f1⟩
    go_wp2_with fail
    refine (fail_any w1 p q l e r1 31).mono ?_
    rintro x w2 ⟨rfl, r2, f2⟩
    go_wp2_with fail
    go_ret
    rw [HE'.out]
    exact ⟨rfl, r2, f1.trans f2 (fun _ _ e => e) (fun _ _ e => e)⟩
  · have HE' : Hid (t = (decide (c = 1), (l, e))) := by show _ = _; rw [HE.out, if_neg hc]
    clear HE
    by_cases hc1 : c = 1
    · subst hc1
      go_enter Tryz.func69, Tryz.ntmps69
      go_wp2_with fail
      refine K.mono ?_
      rintro x w1 ⟨rfl, r1, f1⟩
      go_wp2_with fail
      go_ret
      rw [HE'.out]
      exact ⟨rfl, r1, f1⟩
    · obtain rfl : c = 0 := by omega
      go_enter Tryz.func69, Tryz.ntmps69
      go_wp2_with fail
      refine K.mono ?_
      rintro x w1 ⟨rfl, r1, f1⟩
      go_wp2_with fail
      go_ret
      rw [HE'.out]
      exact ⟨rfl, r1, f1⟩

/-- Nothing may be left. -/
def tkEnd (s : List Nat × Nat) : List Nat × Nat := (s.1, if 0 < s.1.length then thn s.2 31 else s.2)

theorem rEnd_any (w : World) (p q : Nat) (s : List Nat × Nat) (h : RT w p q s) :
    Calls Tryz.prog 25 #[.pointer (some ⟨p, 0, none⟩)] w fun x w' => x = .returned (.tuple #[]) ∧ RT w' p q (tkEnd s) ∧ Fr (PQ p q) w w' := by
  obtain ⟨l, err⟩ := s
  have h : RS w p q l err := h
  obtain ⟨c0, c1, z1⟩ := h.cells
  have L := left_any w q l h.rd
  by_cases hl : 0 < l.length
  · have e : tkEnd (l, err) = (l, thn err 31) := by unfold tkEnd; rw [if_pos hl]
    rw [e]
    have hl' : (0 : Int) < (l.length : Int) := by omega
    go_enter Tryz.func25, Tryz.ntmps25
    go_wp2_with fail
    refine L.mono ?_
    rintro x w1 ⟨rfl, rfl⟩
    go_wp2_with fail
    refine (fail_any w1 p q l err h 31).mono ?_
    rintro x w2 ⟨rfl, r2, f2⟩
    go_wp2_with fail
    go_end0
    exact ⟨rfl, r2, f2⟩
  · have e : tkEnd (l, err) = (l, err) := by unfold tkEnd; rw [if_neg hl]
    rw [e]
    have hl' : ¬ (0 : Int) < (l.length : Int) := by omega
    go_enter Tryz.func25, Tryz.ntmps25
    go_wp2_with fail
    refine L.mono ?_
    rintro x w1 ⟨rfl, rfl⟩
    go_wp2_with fail
    go_end0
    exact ⟨rfl, h, Fr.refl _ _⟩

theorem rOpen_any (w : World) (v : Value) (l : List Nat) (h : Sl w v l) (hl : ∀ c ∈ l, c < 256) (hb : l.length ≤ 1099511627776) :
    Calls Tryz.prog 16 #[v] w fun x w' => ∃ p q, x = .returned (.pointer (some ⟨p, 0, none⟩)) ∧ w.heap.size ≤ p ∧ w.heap.size ≤ q ∧ RT w' p q (l, 0) ∧ Fr no w w' := by
  have O := open_any w v l h hb
  obtain ⟨vo, vc, rfl, _⟩ := h.shape
  go_enter Tryz.func16, Tryz.ntmps16
  go_wp2_with fail
  refine O.mono ?_
  rintro x w1 ⟨q, rfl, hq, r1, f1⟩
  go_wp2_with fail
  go_ret
  have f2 : Fr no w1 (w1.alloc (.cells #[.pointer (some ⟨q, 0, none⟩), .int .i64 0] 74)) := (Fr.refl no w1).alloc _ _
  exact ⟨_, q, rfl, f1.size, hq, ⟨heap_alloc_new w1 _, r1.kept f2 (fun f => f) (fun _ _ _ f => f), hl, hb⟩, f1.new f2 (fun _ _ f => f)⟩
end Go.Proofs.YthncdbobjeeeaaaGreatDoor

/- The class reader: types, constants, fields, handlers, code. -/
namespace Go.Proofs.YthncdbobjeeeaaaGreatDoor
open Go.ChangeShapes Go.WideShapes Go.ChangeAt Go.RowKit

/-- The reader stays beside stores into blocks that hold no byte. -/
theorem RT.away {w w' : World} {p q : Nat} {s : List Nat × Nat} (h : RT w p q s) {S : Nat → Prop} (hS : ∀ k, S k → k ≠ p ∧ k ≠ q ∧ ∀ cur t fz, w.heap[k]? = some (.cells cur t fz) → ∀ u ∈ cur.toList, nob u) (hf : Fr S w w') : RT w' p q s := by
  refine RS.kept h hf (fun e => (hS p e).1 rfl) (fun e => (hS q e).2.1 rfl) (fun k c hk e => ?_)
  obtain ⟨cur, t, fz, hg, hm⟩ := cell_mem hk
  exact (hS k.block e).2.2 cur t fz hg _ hm c rfl

theorem RT.lt {w : World} {p q : Nat} {s : List Nat × Nat} (h : RT w p q s) : p < w.heap.size ∧ q < w.heap.size := RS.lt h

/-- Cells without a byte. -/
theorem nob2 {x y : Value} (hx : nob x) (hy : nob y) : ∀ u ∈ (#[x, y] : Array Value).toList, nob u := by
  intro u hu
  simp at hu
  rcases hu with rfl | rfl
  · exact hx
  · exact hy

theorem tkB_lt {w : World} {p q : Nat} {s : List Nat × Nat} (h : RT w p q s) : (tkB s).1 < 256 := by
  unfold tkB
  split
  · cases e : s.1 with
    | nil => simp [by1]
    | cons c r =>
      have := RS.by_ h c (by rw [e]; simp)
      simpa [by1] using this
  · simp

theorem set_chain2 {w : World} {B : Nat} {y0 y1 x0 x1 : Value} {t : TypeId} (h : w.heap[B]? = some (.cells #[y0, y1] t (0, 0))) :
    ((w.setCell ⟨B, 0, none⟩ x0).setCell ⟨B, 1, none⟩ x1).heap[B]? = some (.cells #[x0, x1] t (0, 0)) := by
  have h0 : (w.setCell ⟨B, 0, none⟩ x0).heap[B]? = some (.cells #[x0, y1] t (0, 0)) := by
    unfold World.setCell
    rw [Array.getElem?_modify, if_pos rfl, h]
    rfl
  have h1 : ((w.setCell ⟨B, 0, none⟩ x0).setCell ⟨B, 1, none⟩ x1).heap[B]? = some (.cells #[x0, x1] t (0, 0)) := by
    generalize (w.setCell ⟨B, 0, none⟩ x0) = w' at *
    unfold World.setCell
    rw [Array.getElem?_modify, if_pos rfl, h0]
    rfl
  exact h1
theorem fr_chain2 (w : World) (B : Nat) (x0 x1 : Value) : Fr (fun k => k = B) w ((w.setCell ⟨B, 0, none⟩ x0).setCell ⟨B, 1, none⟩ x1) := (((Fr.refl (fun k => k = B) w).setCell (p := ⟨B, 0, none⟩) (fun _ => rfl) x0).setCell (p := ⟨B, 1, none⟩) (fun _ => rfl) x1)
theorem nobs2 {x0 x1 : Value} (h0 : nob x0) (h1 : nob x1) : ∀ u ∈ (#[x0, x1] : Array Value).toList, nob u := by
  intro u hu
  simp at hu
  rcases hu with rfl | rfl
  · exact h0
  · exact h1

theorem set_chain4 {w : World} {B : Nat} {y0 y1 y2 y3 x0 x1 x2 x3 : Value} {t : TypeId} (h : w.heap[B]? = some (.cells #[y0, y1, y2, y3] t (0, 0))) :
    ((((w.setCell ⟨B, 0, none⟩ x0).setCell ⟨B, 1, none⟩ x1).setCell ⟨B, 2, none⟩ x2).setCell ⟨B, 3, none⟩ x3).heap[B]? = some (.cells #[x0, x1, x2, x3] t (0, 0)) := by
  have h0 : (w.setCell ⟨B, 0, none⟩ x0).heap[B]? = some (.cells #[x0, y1, y2, y3] t (0, 0)) := by
    unfold World.setCell
    rw [Array.getElem?_modify, if_pos rfl, h]
    rfl
  have h1 : ((w.setCell ⟨B, 0, none⟩ x0).setCell ⟨B, 1, none⟩ x1).heap[B]? = some (.cells #[x0, x1, y2, y3] t (0, 0)) := by
    generalize (w.setCell ⟨B, 0, none⟩ x0) = w' at *
    unfold World.setCell
    rw [Array.getElem?_modify, if_pos rfl, h0]
    rfl
  have h2 : (((w.setCell ⟨B, 0, none⟩ x0).setCell ⟨B, 1, none⟩ x1).setCell ⟨B, 2, none⟩ x2).heap[B]? = some (.cells #[x0, x1, x2, y3] t (0, 0)) := by
    generalize ((w.setCell ⟨B, 0, none⟩ x0).setCell ⟨B, 1, none⟩ x1) = w' at *
    unfold World.setCell
    rw [Array.getElem?_modify, if_pos rfl, h1]
    rfl
  have h3 : ((((w.setCell ⟨B, 0, none⟩ x0).setCell ⟨B, 1, none⟩ x1).setCell ⟨B, 2, none⟩ x2).setCell ⟨B, 3, none⟩ x3).heap[B]? = some (.cells #[x0, x1, x2, x3] t (0, 0)) := by
    generalize (((w.setCell ⟨B, 0, none⟩ x0).setCell ⟨B, 1, none⟩ x1).setCell ⟨B, 2, none⟩ x2) = w' at *
    unfold World.setCell
    rw [Array.getElem?_modify, if_pos rfl, h2]
    rfl
  exact h3
theorem fr_chain4 (w : World) (B : Nat) (x0 x1 x2 x3 : Value) : Fr (fun k => k = B) w ((((w.setCell ⟨B, 0, none⟩ x0).setCell ⟨B, 1, none⟩ x1).setCell ⟨B, 2, none⟩ x2).setCell ⟨B, 3, none⟩ x3) := (((((Fr.refl (fun k => k = B) w).setCell (p := ⟨B, 0, none⟩) (fun _ => rfl) x0).setCell (p := ⟨B, 1, none⟩) (fun _ => rfl) x1).setCell (p := ⟨B, 2, none⟩) (fun _ => rfl) x2).setCell (p := ⟨B, 3, none⟩) (fun _ => rfl) x3)
theorem nobs4 {x0 x1 x2 x3 : Value} (h0 : nob x0) (h1 : nob x1) (h2 : nob x2) (h3 : nob x3) : ∀ u ∈ (#[x0, x1, x2, x3] : Array Value).toList, nob u := by
  intro u hu
  simp at hu
  rcases hu with rfl | rfl | rfl | rfl
  · exact h0
  · exact h1
  · exact h2
  · exact h3

theorem set_chain5 {w : World} {B : Nat} {y0 y1 y2 y3 y4 x0 x1 x2 x3 x4 : Value} {t : TypeId} (h : w.heap[B]? = some (.cells #[y0, y1, y2, y3, y4] t (0, 0))) :
    (((((w.setCell ⟨B, 0, none⟩ x0).setCell ⟨B, 1, none⟩ x1).setCell ⟨B, 2, none⟩ x2).setCell ⟨B, 3, none⟩ x3).setCell ⟨B, 4, none⟩ x4).heap[B]? = some (.cells #[x0, x1, x2, x3, x4] t (0, 0)) := by
  have h0 : (w.setCell ⟨B, 0, none⟩ x0).heap[B]? = some (.cells #[x0, y1, y2, y3, y4] t (0, 0)) := by
    unfold World.setCell
    rw [Array.getElem?_modify, if_pos rfl, h]
    rfl
  have h1 : ((w.setCell ⟨B, 0, none⟩ x0).setCell ⟨B, 1, none⟩ x1).heap[B]? = some (.cells #[x0, x1, y2, y3, y4] t (0, 0)) := by
    generalize (w.setCell ⟨B, 0, none⟩ x0) = w' at *
    unfold World.setCell
    rw [Array.getElem?_modify, if_pos rfl, h0]
    rfl
  have h2 : (((w.setCell ⟨B, 0, none⟩ x0).setCell ⟨B, 1, none⟩ x1).setCell ⟨B, 2, none⟩ x2).heap[B]? = some (.cells #[x0, x1, x2, y3, y4] t (0, 0)) := by
    generalize ((w.setCell ⟨B, 0, none⟩ x0).setCell ⟨B, 1, none⟩ x1) = w' at *
    unfold World.setCell
    rw [Array.getElem?_modify, if_pos rfl, h1]
    rfl
  have h3 : ((((w.setCell ⟨B, 0, none⟩ x0).setCell ⟨B, 1, none⟩ x1).setCell ⟨B, 2, none⟩ x2).setCell ⟨B, 3, none⟩ x3).heap[B]? = some (.cells #[x0, x1, x2, x3, y4] t (0, 0)) := by
    generalize (((w.setCell ⟨B, 0, none⟩ x0).setCell ⟨B, 1, none⟩ x1).setCell ⟨B, 2, none⟩ x2) = w' at *
    unfold World.setCell
    rw [Array.getElem?_modify, if_pos rfl, h2]
    rfl
  have h4 : (((((w.setCell ⟨B, 0, none⟩ x0).setCell ⟨B, 1, none⟩ x1).setCell ⟨B, 2, none⟩ x2).setCell ⟨B, 3, none⟩ x3).setCell ⟨B, 4, none⟩ x4).heap[B]? = some (.cells #[x0, x1, x2, x3, x4] t (0, 0)) := by
    generalize ((((w.setCell ⟨B, 0, none⟩ x0).setCell ⟨B, 1, none⟩ x1).setCell ⟨B, 2, none⟩ x2).setCell ⟨B, 3, none⟩ x3) = w' at *
    unfold World.setCell
    rw [Array.getElem?_modify, if_pos rfl, h3]
    rfl
  exact h4
theorem fr_chain5 (w : World) (B : Nat) (x0 x1 x2 x3 x4 : Value) : Fr (fun k => k = B) w (((((w.setCell ⟨B, 0, none⟩ x0).setCell ⟨B, 1, none⟩ x1).setCell ⟨B, 2, none⟩ x2).setCell ⟨B, 3, none⟩ x3).setCell ⟨B, 4, none⟩ x4) := ((((((Fr.refl (fun k => k = B) w).setCell (p := ⟨B, 0, none⟩) (fun _ => rfl) x0).setCell (p := ⟨B, 1, none⟩) (fun _ => rfl) x1).setCell (p := ⟨B, 2, none⟩) (fun _ => rfl) x2).setCell (p := ⟨B, 3, none⟩) (fun _ => rfl) x3).setCell (p := ⟨B, 4, none⟩) (fun _ => rfl) x4)
theorem nobs5 {x0 x1 x2 x3 x4 : Value} (h0 : nob x0) (h1 : nob x1) (h2 : nob x2) (h3 : nob x3) (h4 : nob x4) : ∀ u ∈ (#[x0, x1, x2, x3, x4] : Array Value).toList, nob u := by
  intro u hu
  simp at hu
  rcases hu with rfl | rfl | rfl | rfl | rfl
  · exact h0
  · exact h1
  · exact h2
  · exact h3
  · exact h4

theorem set_chain8 {w : World} {B : Nat} {y0 y1 y2 y3 y4 y5 y6 y7 x0 x1 x2 x3 x4 x5 x6 x7 : Value} {t : TypeId} (h : w.heap[B]? = some (.cells #[y0, y1, y2, y3, y4, y5, y6, y7] t (0, 0))) :
    ((((((((w.setCell ⟨B, 0, none⟩ x0).setCell ⟨B, 1, none⟩ x1).setCell ⟨B, 2, none⟩ x2).setCell ⟨B, 3, none⟩ x3).setCell ⟨B, 4, none⟩ x4).setCell ⟨B, 5, none⟩ x5).setCell ⟨B, 6, none⟩ x6).setCell ⟨B, 7, none⟩ x7).heap[B]? = some (.cells #[x0, x1, x2, x3, x4, x5, x6, x7] t (0, 0)) := by
  have h0 : (w.setCell ⟨B, 0, none⟩ x0).heap[B]? = some (.cells #[x0, y1, y2, y3, y4, y5, y6, y7] t (0, 0)) := by
    unfold World.setCell
    rw [Array.getElem?_modify, if_pos rfl, h]
    rfl
  have h1 : ((w.setCell ⟨B, 0, none⟩ x0).setCell ⟨B, 1, none⟩ x1).heap[B]? = some (.cells #[x0, x1, y2, y3, y4, y5, y6, y7] t (0, 0)) := by
    generalize (w.setCell ⟨B, 0, none⟩ x0) = w' at *
    unfold World.setCell
    rw [Array.getElem?_modify, if_pos rfl, h0]
    rfl
  have h2 : (((w.setCell ⟨B, 0, none⟩ x0).setCell ⟨B, 1, none⟩ x1).setCell ⟨B, 2, none⟩ x2).heap[B]? = some (.cells #[x0, x1, x2, y3, y4, y5, y6, y7] t (0, 0)) := by
    generalize ((w.setCell ⟨B, 0, none⟩ x0).setCell ⟨B, 1, none⟩ x1) = w' at *
    unfold World.setCell
    rw [Array.getElem?_modify, if_pos rfl, h1]
    rfl
  have h3 : ((((w.setCell ⟨B, 0, none⟩ x0).setCell ⟨B, 1, none⟩ x1).setCell ⟨B, 2, none⟩ x2).setCell ⟨B, 3, none⟩ x3).heap[B]? = some (.cells #[x0, x1, x2, x3, y4, y5, y6, y7] t (0, 0)) := by
    generalize (((w.setCell ⟨B, 0, none⟩ x0).setCell ⟨B, 1, none⟩ x1).setCell ⟨B, 2, none⟩ x2) = w' at *
    unfold World.setCell
    rw [Array.getElem?_modify, if_pos rfl, h2]
    rfl
  have h4 : (((((w.setCell ⟨B, 0, none⟩ x0).setCell ⟨B, 1, none⟩ x1).setCell ⟨B, 2, none⟩ x2).setCell ⟨B, 3, none⟩ x3).setCell ⟨B, 4, none⟩ x4).heap[B]? = some (.cells #[x0, x1, x2, x3, x4, y5, y6, y7] t (0, 0)) := by
    generalize ((((w.setCell ⟨B, 0, none⟩ x0).setCell ⟨B, 1, none⟩ x1).setCell ⟨B, 2, none⟩ x2).setCell ⟨B, 3, none⟩ x3) = w' at *
    unfold World.setCell
    rw [Array.getElem?_modify, if_pos rfl, h3]
    rfl
  have h5 : ((((((w.setCell ⟨B, 0, none⟩ x0).setCell ⟨B, 1, none⟩ x1).setCell ⟨B, 2, none⟩ x2).setCell ⟨B, 3, none⟩ x3).setCell ⟨B, 4, none⟩ x4).setCell ⟨B, 5, none⟩ x5).heap[B]? = some (.cells #[x0, x1, x2, x3, x4, x5, y6, y7] t (0, 0)) := by
    generalize (((((w.setCell ⟨B, 0, none⟩ x0).setCell ⟨B, 1, none⟩ x1).setCell ⟨B, 2, none⟩ x2).setCell ⟨B, 3, none⟩ x3).setCell ⟨B, 4, none⟩ x4) = w' at *
    unfold World.setCell
    rw [Array.getElem?_modify, if_pos rfl, h4]
    rfl
  have h6 : (((((((w.setCell ⟨B, 0, none⟩ x0).setCell ⟨B, 1, none⟩ x1).setCell ⟨B, 2, none⟩ x2).setCell ⟨B, 3, none⟩ x3).setCell ⟨B, 4, none⟩ x4).setCell ⟨B, 5, none⟩ x5).setCell ⟨B, 6, none⟩ x6).heap[B]? = some (.cells #[x0, x1, x2, x3, x4, x5, x6, y7] t (0, 0)) := by
    generalize ((((((w.setCell ⟨B, 0, none⟩ x0).setCell ⟨B, 1, none⟩ x1).setCell ⟨B, 2, none⟩ x2).setCell ⟨B, 3, none⟩ x3).setCell ⟨B, 4, none⟩ x4).setCell ⟨B, 5, none⟩ x5) = w' at *
    unfold World.setCell
    rw [Array.getElem?_modify, if_pos rfl, h5]
    rfl
  have h7 : ((((((((w.setCell ⟨B, 0, none⟩ x0).setCell ⟨B, 1, none⟩ x1).setCell ⟨B, 2, none⟩ x2).setCell ⟨B, 3, none⟩ x3).setCell ⟨B, 4, none⟩ x4).setCell ⟨B, 5, none⟩ x5).setCell ⟨B, 6, none⟩ x6).setCell ⟨B, 7, none⟩ x7).heap[B]? = some (.cells #[x0, x1, x2, x3, x4, x5, x6, x7] t (0, 0)) := by
    generalize (((((((w.setCell ⟨B, 0, none⟩ x0).setCell ⟨B, 1, none⟩ x1).setCell ⟨B, 2, none⟩ x2).setCell ⟨B, 3, none⟩ x3).setCell ⟨B, 4, none⟩ x4).setCell ⟨B, 5, none⟩ x5).setCell ⟨B, 6, none⟩ x6) = w' at *
    unfold World.setCell
    rw [Array.getElem?_modify, if_pos rfl, h6]
    rfl
  exact h7
theorem fr_chain8 (w : World) (B : Nat) (x0 x1 x2 x3 x4 x5 x6 x7 : Value) : Fr (fun k => k = B) w ((((((((w.setCell ⟨B, 0, none⟩ x0).setCell ⟨B, 1, none⟩ x1).setCell ⟨B, 2, none⟩ x2).setCell ⟨B, 3, none⟩ x3).setCell ⟨B, 4, none⟩ x4).setCell ⟨B, 5, none⟩ x5).setCell ⟨B, 6, none⟩ x6).setCell ⟨B, 7, none⟩ x7) := (((((((((Fr.refl (fun k => k = B) w).setCell (p := ⟨B, 0, none⟩) (fun _ => rfl) x0).setCell (p := ⟨B, 1, none⟩) (fun _ => rfl) x1).setCell (p := ⟨B, 2, none⟩) (fun _ => rfl) x2).setCell (p := ⟨B, 3, none⟩) (fun _ => rfl) x3).setCell (p := ⟨B, 4, none⟩) (fun _ => rfl) x4).setCell (p := ⟨B, 5, none⟩) (fun _ => rfl) x5).setCell (p := ⟨B, 6, none⟩) (fun _ => rfl) x6).setCell (p := ⟨B, 7, none⟩) (fun _ => rfl) x7)
theorem nobs8 {x0 x1 x2 x3 x4 x5 x6 x7 : Value} (h0 : nob x0) (h1 : nob x1) (h2 : nob x2) (h3 : nob x3) (h4 : nob x4) (h5 : nob x5) (h6 : nob x6) (h7 : nob x7) : ∀ u ∈ (#[x0, x1, x2, x3, x4, x5, x6, x7] : Array Value).toList, nob u := by
  intro u hu
  simp at hu
  rcases hu with rfl | rfl | rfl | rfl | rfl | rfl | rfl | rfl
  · exact h0
  · exact h1
  · exact h2
  · exact h3
  · exact h4
  · exact h5
  · exact h6
  · exact h7

theorem cells4z {w : World} {r : Nat} {a b c d : Value} {t : TypeId} (h : w.heap[r]? = some (.cells #[a, b, c, d] t (0, 0))) : (w.cell? ⟨r, 0, none⟩ = some a ∧ w.cell? ⟨r, 1, none⟩ = some b ∧ w.cell? ⟨r, 2, none⟩ = some c ∧ w.cell? ⟨r, 3, none⟩ = some d) ∧ (w.frozen? ⟨r, 0, none⟩ = false ∧ w.frozen? ⟨r, 1, none⟩ = false ∧ w.frozen? ⟨r, 2, none⟩ = false ∧ w.frozen? ⟨r, 3, none⟩ = false) := by
  refine ⟨⟨?_, ?_, ?_, ?_⟩, ?_, ?_, ?_, ?_⟩ <;> simp [World.cell?, World.frozen?, h]
theorem cells5z {w : World} {r : Nat} {a b c d e : Value} {t : TypeId} (h : w.heap[r]? = some (.cells #[a, b, c, d, e] t (0, 0))) : (w.cell? ⟨r, 0, none⟩ = some a ∧ w.cell? ⟨r, 1, none⟩ = some b ∧ w.cell? ⟨r, 2, none⟩ = some c ∧ w.cell? ⟨r, 3, none⟩ = some d ∧ w.cell? ⟨r, 4, none⟩ = some e) ∧ (w.frozen? ⟨r, 0, none⟩ = false ∧ w.frozen? ⟨r, 1, none⟩ = false ∧ w.frozen? ⟨r, 2, none⟩ = false ∧ w.frozen? ⟨r, 3, none⟩ = false ∧ w.frozen? ⟨r, 4, none⟩ = false) := by
  refine ⟨⟨?_, ?_, ?_, ?_, ?_⟩, ?_, ?_, ?_, ?_, ?_⟩ <;> simp [World.cell?, World.frozen?, h]
theorem cells8z {w : World} {r : Nat} {a b c d e f g i : Value} {t : TypeId} (h : w.heap[r]? = some (.cells #[a, b, c, d, e, f, g, i] t (0, 0))) : (w.cell? ⟨r, 0, none⟩ = some a ∧ w.cell? ⟨r, 1, none⟩ = some b ∧ w.cell? ⟨r, 2, none⟩ = some c ∧ w.cell? ⟨r, 3, none⟩ = some d ∧ w.cell? ⟨r, 4, none⟩ = some e ∧ w.cell? ⟨r, 5, none⟩ = some f ∧ w.cell? ⟨r, 6, none⟩ = some g ∧ w.cell? ⟨r, 7, none⟩ = some i) ∧ (w.frozen? ⟨r, 0, none⟩ = false ∧ w.frozen? ⟨r, 1, none⟩ = false ∧ w.frozen? ⟨r, 2, none⟩ = false ∧ w.frozen? ⟨r, 3, none⟩ = false ∧ w.frozen? ⟨r, 4, none⟩ = false ∧ w.frozen? ⟨r, 5, none⟩ = false ∧ w.frozen? ⟨r, 6, none⟩ = false ∧ w.frozen? ⟨r, 7, none⟩ = false) := by
  refine ⟨⟨?_, ?_, ?_, ?_, ?_, ?_, ?_, ?_⟩, ?_, ?_, ?_, ?_, ?_, ?_, ?_, ?_⟩ <;> simp [World.cell?, World.frozen?, h]

theorem results_68 (w : World) (r : Nat) (x0 x1 : Value) (h : w.heap[r]? = some (.cells #[x0, x1] 46 (0, 0))) (tmps : Array Value) (h2 : tmps.getD 2 undef = .pointer (some ⟨r, 0, none⟩)) :
    (results Tryz.f68 tmps).run Tryz.prog w = .ok (.agg #[x0, x1]) w := by
  have hl : (loadVar 46 ⟨r, 0, none⟩).run Tryz.prog w = .ok (.agg #[x0, x1]) w := run_loadVar_row (P := Tryz.prog) w r 46 46 #[x0, x1] (0, 0) _ h Tryz.underlying46 rfl (by kernel_rfl)
  have h2' : tmps[2]?.getD undef = .pointer (some ⟨r, 0, none⟩) := by simpa using h2
  simp [results, asAddr, h2', hl]

theorem results_20 (w : World) (r : Nat) (x0 x1 x2 x3 x4 : Value) (h : w.heap[r]? = some (.cells #[x0, x1, x2, x3, x4] 39 (0, 0))) (tmps : Array Value) (h2 : tmps.getD 2 undef = .pointer (some ⟨r, 0, none⟩)) :
    (results Tryz.f20 tmps).run Tryz.prog w = .ok (.agg #[x0, x1, x2, x3, x4]) w := by
  have hl : (loadVar 39 ⟨r, 0, none⟩).run Tryz.prog w = .ok (.agg #[x0, x1, x2, x3, x4]) w := run_loadVar_row (P := Tryz.prog) w r 39 39 #[x0, x1, x2, x3, x4] (0, 0) _ h Tryz.underlying39 rfl (by kernel_rfl)
  have h2' : tmps[2]?.getD undef = .pointer (some ⟨r, 0, none⟩) := by simpa using h2
  simp [results, asAddr, h2', hl]

theorem results_22 (w : World) (r : Nat) (x0 x1 x2 x3 : Value) (h : w.heap[r]? = some (.cells #[x0, x1, x2, x3] 48 (0, 0))) (tmps : Array Value) (h2 : tmps.getD 2 undef = .pointer (some ⟨r, 0, none⟩)) :
    (results Tryz.f22 tmps).run Tryz.prog w = .ok (.agg #[x0, x1, x2, x3]) w := by
  have hl : (loadVar 48 ⟨r, 0, none⟩).run Tryz.prog w = .ok (.agg #[x0, x1, x2, x3]) w := run_loadVar_row (P := Tryz.prog) w r 48 48 #[x0, x1, x2, x3] (0, 0) _ h Tryz.underlying48 rfl (by kernel_rfl)
  have h2' : tmps[2]?.getD undef = .pointer (some ⟨r, 0, none⟩) := by simpa using h2
  simp [results, asAddr, h2', hl]

theorem results_73 (w : World) (r : Nat) (x0 x1 x2 x3 x4 : Value) (h : w.heap[r]? = some (.cells #[x0, x1, x2, x3, x4] 59 (0, 0))) (tmps : Array Value) (h2 : tmps.getD 2 undef = .pointer (some ⟨r, 0, none⟩)) :
    (results Tryz.f73 tmps).run Tryz.prog w = .ok (.agg #[x0, x1, x2, x3, x4]) w := by
  have hl : (loadVar 59 ⟨r, 0, none⟩).run Tryz.prog w = .ok (.agg #[x0, x1, x2, x3, x4]) w := run_loadVar_row (P := Tryz.prog) w r 59 59 #[x0, x1, x2, x3, x4] (0, 0) _ h Tryz.underlying59 rfl (by kernel_rfl)
  have h2' : tmps[2]?.getD undef = .pointer (some ⟨r, 0, none⟩) := by simpa using h2
  simp [results, asAddr, h2', hl]

theorem results_24 (w : World) (r : Nat) (x0 x1 x2 x3 x4 x5 x6 x7 : Value) (h : w.heap[r]? = some (.cells #[x0, x1, x2, x3, x4, x5, x6, x7] 53 (0, 0))) (tmps : Array Value) (h2 : tmps.getD 2 undef = .pointer (some ⟨r, 0, none⟩)) :
    (results Tryz.f24 tmps).run Tryz.prog w = .ok (.agg #[x0, x1, x2, x3, x4, x5, x6, x7]) w := by
  have hl : (loadVar 53 ⟨r, 0, none⟩).run Tryz.prog w = .ok (.agg #[x0, x1, x2, x3, x4, x5, x6, x7]) w := run_loadVar_row (P := Tryz.prog) w r 53 53 #[x0, x1, x2, x3, x4, x5, x6, x7] (0, 0) _ h Tryz.underlying53 rfl (by kernel_rfl)
  have h2' : tmps[2]?.getD undef = .pointer (some ⟨r, 0, none⟩) := by simpa using h2
  simp [results, asAddr, h2', hl]

/-- A type, read. -/
def rTy (s : List Nat × Nat) : Ty × (List Nat × Nat) := if (tkB s).1 = 4 then (⟨4, (tkT 20 (tkB s).2).1⟩, (tkT 20 (tkB s).2).2) else (⟨((tkB s).1 : Int), e0⟩, (tkB s).2)

set_option maxRecDepth 100000 in
set_option maxHeartbeats 1000000 in
theorem readType_any (w : World) (p q : Nat) (s : List Nat × Nat) (h : RT w p q s) :
    Calls Tryz.prog 68 #[.pointer (some ⟨p, 0, none⟩)] w fun x w' => x = .returned (.agg #[.int .i64 (rTy s).1.k, .string (rTy s).1.c]) ∧ RT w' p q (rTy s).2 ∧ Fr (PQ p q) w w' := by
  have f0 : Fr no w (w.alloc (.cells #[.int .i64 0, .string e0] 46)) := (Fr.refl no w).alloc _ _
  have hb0 := heap_alloc_new w (.cells #[.int .i64 0, .string e0] 46)
  have K := rByte_any _ p q s (h.new f0)
  have HR : Hid (rTy s = if (tkB s).1 = 4 then (⟨4, (tkT 20 (tkB s).2).1⟩, (tkT 20 (tkB s).2).2) else (⟨((tkB s).1 : Int), e0⟩, (tkB s).2)) := rfl
  have hlt := h.lt
  have hc256 := tkB_lt h
  have HF : Hid (Fr no w (w.alloc (.cells #[.int .i64 0, .string e0] 46))) := f0
  have hsz : (w.alloc (.cells #[.int .i64 0, .string e0] 46)).heap.size = w.heap.size + 1 := size_alloc _ _
  generalize rTy s = r at *
  generalize tkB s = t at *
  obtain ⟨c, t⟩ := t
  simp only [] at K HR hc256
  have HB : Hid (∀ w1, Fr (PQ p q) (w.alloc (.cells #[.int .i64 0, .string e0] 46)) w1 → w1.heap[w.heap.size]? = some (.cells #[.int .i64 0, .string e0] 46 (0, 0)) ∧ w.heap.size < w1.heap.size) := fun w1 f1 =>
    ⟨f1.heap hb0 (fun e => e.elim (fun e => by omega) (fun e => by omega)), by have := f1.size; omega⟩
  clear h f0 hb0
  by_cases h4 : c = 4
  · subst h4
    rw [if_pos rfl] at HR
    go_enter Tryz.func68, Tryz.ntmps68
    go_wp2_with fail
    refine K.mono ?_
    rintro x w1 ⟨rfl, r1, f1⟩
    have hlt1 := r1.lt
    obtain ⟨hB1, hBs⟩ := HB.out w1 f1
    have fa : Fr no w1 (w1.alloc (.cells #[.int .i64 4, .string e0] 46)) := (Fr.refl no w1).alloc _ _
    have hA0 := heap_alloc_new w1 (.cells #[.int .i64 4, .string e0] 46)
    have N := rName_any _ p q t (r1.new fa)
    have hB2 := fa.heap hB1 (fun f => f)
    have HFa : Hid (Fr no w1 (w1.alloc (.cells #[.int .i64 4, .string e0] 46))) := fa
    have HF1 : Hid (Fr (PQ p q) w w1) := HF.out.trans f1 (fun _ _ f => f.elim) (fun _ _ e => e)
    have hAB : ¬ w1.heap.size = w.heap.size := by omega
    clear fa f1 hB1
    go_wp2_with fail
    refine N.mono ?_
    rintro x w2 ⟨rfl, r2, f2⟩
    have hA3 := f2.heap hA0 (fun e => e.elim (fun e => by omega) (fun e => by omega))
    have hB3 := f2.heap hB2 (fun e => e.elim (fun e => by omega) (fun e => by omega))
    obtain ⟨a0, a1, az0, az1⟩ := two_cells hA3
    obtain ⟨b0, b1, bz0, bz1⟩ := two_cells hB3
    generalize tkT 20 t = r3 at *
    obtain ⟨nm, t3⟩ := r3
    simp only [] at r2 HR ⊢
    clear hA0 hB2 N
    go_wp2_with fail
    have g1 : (w2.setCell ⟨w1.heap.size, 1, none⟩ (.string nm)).heap[w.heap.size]? = some (.cells #[.int .i64 0, .string e0] 46 (0, 0)) := by
      rw [Below.heap_setCell w2 ⟨w1.heap.size, 1, none⟩ _ w.heap.size (by simp; omega)]
      exact hB3
    refine bodyPost_ret (results_68 _ w.heap.size _ _ (two_set g1) _ rfl) rfl ?_
    have FF : Fr (fun k => k = w1.heap.size ∨ k = w.heap.size) w2 (((w2.setCell ⟨w1.heap.size, 1, none⟩ (.string nm)).setCell ⟨w.heap.size, 0, none⟩ (.int .i64 4)).setCell ⟨w.heap.size, 1, none⟩ (.string nm)) :=
      (((Fr.refl _ w2).setCell (p := ⟨w1.heap.size, 1, none⟩) (fun _ => .inl rfl) _).setCell (p := ⟨w.heap.size, 0, none⟩) (fun _ => .inr rfl) _).setCell (p := ⟨w.heap.size, 1, none⟩) (fun _ => .inr rfl) _
    rw [HR.out]
    refine ⟨rfl, r2.away (fun k hk => ?_) FF, ?_⟩
    · rcases hk with rfl | rfl
      · exact ⟨by omega, by omega, fun cur t fz hc => by rw [hA3] at hc; simp only [Option.some.injEq, Obj.cells.injEq] at hc; rw [← hc.1]; exact nob2 (nob_int _) (nob_str _)⟩
      · exact ⟨by omega, by omega, fun cur t fz hc => by rw [hB3] at hc; simp only [Option.some.injEq, Obj.cells.injEq] at hc; rw [← hc.1]; exact nob2 (nob_int _) (nob_str _)⟩
    · exact ((HF1.out.trans HFa.out (fun _ _ e => e) (fun _ _ f => f.elim)).trans f2 (fun _ _ e => e) (fun _ _ e => e)).trans FF (fun _ _ e => e) (fun i hi e => by have := HF1.out.size; rcases e with e | e <;> omega)
  · rw [if_neg h4] at HR
    have h4' : ((c : Int) == 4) = false := by simp; omega
    have hwc : IntKind.i64.wrap (c : Int) = (c : Int) := by simp [IntKind.wrap, IntKind.signed, IntKind.bits]; omega
    go_enter Tryz.func68, Tryz.ntmps68
    go_wp2_with fail
    refine K.mono ?_
    rintro x w1 ⟨rfl, r1, f1⟩
    have hlt1 := r1.lt
    obtain ⟨hB1, hBs⟩ := HB.out w1 f1
    obtain ⟨b0, b1, bz0, bz1⟩ := two_cells hB1
    have HF1 : Hid (Fr (PQ p q) w w1) := HF.out.trans f1 (fun _ _ f => f.elim) (fun _ _ e => e)
    have hAB : ¬ w1.heap.size = w.heap.size := by omega
    clear f1
    go_wp2_with fail
    refine bodyPost_ret (results_68 _ w.heap.size _ _ (((Fr.refl no _).alloc _ _).heap (two_set hB1) (fun f => f)) _ rfl) rfl ?_
    have FF := fr_chain2 w1 w.heap.size (.int .i64 (c : Int)) (.string e0)
    rw [HR.out]
    refine ⟨rfl, (r1.away (fun k hk => ?_) FF).new ((Fr.refl no _).alloc _ _), ?_⟩
    · subst hk
      exact ⟨by omega, by omega, fun cur t fz hc => by rw [hB1] at hc; simp only [Option.some.injEq, Obj.cells.injEq] at hc; rw [← hc.1]; exact nob2 (nob_int _) (nob_str _)⟩
    · exact (HF1.out.trans FF (fun _ _ e => e) (fun i hi e => by omega)).alloc _ _
end Go.Proofs.YthncdbobjeeeaaaGreatDoor

/- The class reader: constants. -/
namespace Go.Proofs.YthncdbobjeeeaaaGreatDoor
open Go.ChangeShapes Go.WideShapes Go.ChangeAt Go.RowKit

/-- A constant, read. -/
def rCs (s : List Nat × Nat) : Cs × (List Nat × Nat) :=
  if (tkB s).1 = 1 then (⟨1, (tkI (tkB s).2).1, 0, 0, e0, e0⟩, (tkI (tkB s).2).2)
  else if (tkB s).1 = 2 then (⟨2, 0, (tkC (tkB s).2).1.1, (tkC (tkB s).2).1.2, e0, e0⟩, (tkC (tkB s).2).2)
  else if (tkB s).1 = 3 then (⟨3, 0, 0, 0, (tkT 20 (tkB s).2).1, e0⟩, (tkT 20 (tkB s).2).2)
  else if (tkB s).1 = 4 ∨ (tkB s).1 = 5 then (⟨((tkB s).1 : Int), 0, 0, 0, (tkT 20 (tkB s).2).1, (tkT 20 (tkT 20 (tkB s).2).2).1⟩, (tkT 20 (tkT 20 (tkB s).2).2).2)
  else (⟨((tkB s).1 : Int), 0, 0, 0, e0, e0⟩, (tkB s).2)

theorem run_store_cx (a : Addr) (x y : Nat) (w : World) : (store a (.complex .f64 x y)).run Tryz.prog w = stored Tryz.prog w a (.complex .f64 x y) .plain := run_store Tryz.prog w a _ _ rfl

theorem fr_one (w : World) (A j : Nat) (v : Value) : Fr (fun k => k = A) w (w.setCell ⟨A, j, none⟩ v) := (Fr.refl (fun k => k = A) w).setCell (p := ⟨A, j, none⟩) (fun _ => rfl) v

theorem set_at {w : World} {A : Nat} {cur : Array Value} {t : TypeId} {fz : Nat × Nat} (h : w.heap[A]? = some (.cells cur t fz)) (j : Nat) (v : Value) : (w.setCell ⟨A, j, none⟩ v).heap[A]? = some (.cells (cur.setIfInBounds j v) t fz) := by
  unfold World.setCell
  rw [Array.getElem?_modify, if_pos rfl, h]
  rfl

/-- What the reader sees of a block that holds no byte. -/
theorem nob_block {w : World} {A : Nat} {cur : Array Value} {t : TypeId} {fz : Nat × Nat} (h : w.heap[A]? = some (.cells cur t fz)) (hn : ∀ u ∈ cur.toList, nob u) : ∀ cur' t' fz', w.heap[A]? = some (.cells cur' t' fz') → ∀ u ∈ cur'.toList, nob u := by
  intro cur' t' fz' hc
  rw [h] at hc
  simp only [Option.some.injEq, Obj.cells.injEq] at hc
  rw [← hc.1]
  exact hn

set_option maxRecDepth 100000 in
set_option maxHeartbeats 4000000 in
theorem readConst_any (w : World) (p q : Nat) (s : List Nat × Nat) (h : RT w p q s) :
    Calls Tryz.prog 20 #[.pointer (some ⟨p, 0, none⟩)] w fun x w' => x = .returned (.agg #[.int .i64 (rCs s).1.k, .int .i64 (rCs s).1.n, .complex .f64 (rCs s).1.re (rCs s).1.im, .string (rCs s).1.c, .string (rCs s).1.m]) ∧ RT w' p q (rCs s).2 ∧ Fr (PQ p q) w w' := by
  have f0 : Fr no w (w.alloc (.cells #[.int .i64 0, .int .i64 0, .complex .f64 0 0, .string e0, .string e0] 39)) := (Fr.refl no w).alloc _ _
  have hb0 := heap_alloc_new w (.cells #[.int .i64 0, .int .i64 0, .complex .f64 0 0, .string e0, .string e0] 39)
  have K := rByte_any _ p q s (h.new f0)
  have HR : Hid (rCs s = if (tkB s).1 = 1 then (⟨1, (tkI (tkB s).2).1, 0, 0, e0, e0⟩, (tkI (tkB s).2).2)
    else if (tkB s).1 = 2 then (⟨2, 0, (tkC (tkB s).2).1.1, (tkC (tkB s).2).1.2, e0, e0⟩, (tkC (tkB s).2).2)
    else if (tkB s).1 = 3 then (⟨3, 0, 0, 0, (tkT 20 (tkB s).2).1, e0⟩, (tkT 20 (tkB s).2).2)
    else if (tkB s).1 = 4 ∨ (tkB s).1 = 5 then (⟨((tkB s).1 : Int), 0, 0, 0, (tkT 20 (tkB s).2).1, (tkT 20 (tkT 20 (tkB s).2).2).1⟩, (tkT 20 (tkT 20 (tkB s).2).2).2)
    else (⟨((tkB s).1 : Int), 0, 0, 0, e0, e0⟩, (tkB s).2)) := rfl
  have hlt := h.lt
  have hc256 := tkB_lt h
  have HF : Hid (Fr no w (w.alloc (.cells #[.int .i64 0, .int .i64 0, .complex .f64 0 0, .string e0, .string e0] 39))) := f0
  have hsz : (w.alloc (.cells #[.int .i64 0, .int .i64 0, .complex .f64 0 0, .string e0, .string e0] 39)).heap.size = w.heap.size + 1 := size_alloc _ _
  generalize rCs s = r at *
  generalize tkB s = t at *
  obtain ⟨c, t⟩ := t
  simp only [] at K HR hc256
  have HB : Hid (∀ w1, Fr (PQ p q) (w.alloc (.cells #[.int .i64 0, .int .i64 0, .complex .f64 0 0, .string e0, .string e0] 39)) w1 → w1.heap[w.heap.size]? = some (.cells #[.int .i64 0, .int .i64 0, .complex .f64 0 0, .string e0, .string e0] 39 (0, 0)) ∧ w.heap.size < w1.heap.size) := fun w1 f1 =>
    ⟨f1.heap hb0 (fun e => e.elim (fun e => by omega) (fun e => by omega)), by have := f1.size; omega⟩
  have hwc : IntKind.i64.wrap (c : Int) = (c : Int) := by simp [IntKind.wrap, IntKind.signed, IntKind.bits]; omega
  have O := fun w1 => ownParts_any w1 (c : Int)
  have hstc := run_store_cx
  clear h f0 hb0
  by_cases hk : c = 1
  · have hO : own (c : Int) = 1 := by unfold own; rw [if_pos (by omega)]
    rw [hO] at O
    rw [if_pos hk] at HR
    clear hO
    subst hk
    go_enter Tryz.func20, Tryz.ntmps20
    go_wp2_with fail
    refine K.mono ?_
    rintro x w1 ⟨rfl, r1, f1⟩
    have hlt1 := r1.lt
    obtain ⟨hB1, hBs⟩ := HB.out w1 f1
    have HF1 : Hid (Fr (PQ p q) w w1) := HF.out.trans f1 (fun _ _ f => f.elim) (fun _ _ e => e)
    have hAB : ¬ w1.heap.size = w.heap.size := by omega
    have fa : Fr no w1 (w1.alloc (.cells #[.int .i64 ((1 : Nat) : Int), .int .i64 0, .complex .f64 0 0, .string e0, .string e0] 39)) := (Fr.refl no w1).alloc _ _
    have hA0 := heap_alloc_new w1 (.cells #[.int .i64 ((1 : Nat) : Int), .int .i64 0, .complex .f64 0 0, .string e0, .string e0] 39)
    have ra : RT _ p q t := r1.new fa
    have hB2 := fa.heap hB1 (fun f => f)
    have HFa : Hid (Fr no w1 (w1.alloc (.cells #[.int .i64 ((1 : Nat) : Int), .int .i64 0, .complex .f64 0 0, .string e0, .string e0] 39))) := fa
    clear fa f1 hB1
    go_wp2_with fail
    refine (O _).mono ?_
    rintro x w1x ⟨rfl, rfl⟩
    go_wp2_with fail
    refine (rInt_any _ p q t ra).mono ?_
    rintro x w2 ⟨rfl, r2, f2⟩
    have hA3 := f2.heap hA0 (fun e => e.elim (fun e => by omega) (fun e => by omega))
    have hB3 := f2.heap hB2 (fun e => e.elim (fun e => by omega) (fun e => by omega))
    generalize tkI t = r3 at *
    obtain ⟨nm, t3⟩ := r3
    simp only [] at r2 HR ⊢
    obtain ⟨⟨a0, a1, a2, a3, a4⟩, az0, az1, az2, az3, az4⟩ := cells5z hA3
    obtain ⟨⟨b0, b1, b2, b3, b4⟩, bz0, bz1, bz2, bz3, bz4⟩ := cells5z hB3
    clear hA0 hB2
    go_wp2_with fail
    have g1 : (w2.setCell ⟨w1.heap.size, 1, none⟩ (.int .i64 nm)).heap[w.heap.size]? = some (.cells #[.int .i64 0, .int .i64 0, .complex .f64 0 0, .string e0, .string e0] 39 (0, 0)) := by
      rw [Below.heap_setCell w2 ⟨w1.heap.size, 1, none⟩ _ w.heap.size (by simp; omega)]
      exact hB3
    refine bodyPost_ret (results_20 _ w.heap.size _ _ _ _ _ (set_chain5 g1) _ rfl) rfl ?_
    have FF := (fr_one w2 w1.heap.size 1 (.int .i64 nm)).trans (fr_chain5 (w2.setCell ⟨w1.heap.size, 1, none⟩ (.int .i64 nm)) w.heap.size (.int .i64 1) (.int .i64 nm) (.complex .f64 0 0) (.string e0) (.string e0)) (U := fun k => k = w1.heap.size ∨ k = w.heap.size) (fun _ _ e => .inl e) (fun _ _ e => .inr e)
    rw [HR.out]
    refine ⟨rfl, r2.away (fun k hk => ?_) FF, ?_⟩
    · rcases hk with rfl | rfl
      · exact ⟨by omega, by omega, nob_block hA3 (nobs5 (nob_int _) (nob_int _) (nob_cx _ _) (nob_str _) (nob_str _))⟩
      · exact ⟨by omega, by omega, nob_block hB3 (nobs5 (nob_int _) (nob_int _) (nob_cx _ _) (nob_str _) (nob_str _))⟩
    · exact ((HF1.out.trans HFa.out (fun _ _ e => e) (fun _ _ f => f.elim)).trans f2 (fun _ _ e => e) (fun _ _ e => e)).trans FF (fun _ _ e => e) (fun i hi e => by have := HF1.out.size; rcases e with e | e <;> omega)
  have k1 := hk
  clear hk
  by_cases hk : c = 2
  · have hO : own (c : Int) = 2 := by unfold own; rw [if_neg (by omega), if_pos (by omega)]
    rw [hO] at O
    rw [if_neg k1, if_pos hk] at HR
    clear hO
    subst hk
    go_enter Tryz.func20, Tryz.ntmps20
    go_wp2_with fail
    refine K.mono ?_
    rintro x w1 ⟨rfl, r1, f1⟩
    have hlt1 := r1.lt
    obtain ⟨hB1, hBs⟩ := HB.out w1 f1
    have HF1 : Hid (Fr (PQ p q) w w1) := HF.out.trans f1 (fun _ _ f => f.elim) (fun _ _ e => e)
    have hAB : ¬ w1.heap.size = w.heap.size := by omega
    have fa : Fr no w1 (w1.alloc (.cells #[.int .i64 ((2 : Nat) : Int), .int .i64 0, .complex .f64 0 0, .string e0, .string e0] 39)) := (Fr.refl no w1).alloc _ _
    have hA0 := heap_alloc_new w1 (.cells #[.int .i64 ((2 : Nat) : Int), .int .i64 0, .complex .f64 0 0, .string e0, .string e0] 39)
    have ra : RT _ p q t := r1.new fa
    have hB2 := fa.heap hB1 (fun f => f)
    have HFa : Hid (Fr no w1 (w1.alloc (.cells #[.int .i64 ((2 : Nat) : Int), .int .i64 0, .complex .f64 0 0, .string e0, .string e0] 39))) := fa
    clear fa f1 hB1
    go_wp2_with fail
    refine (O _).mono ?_
    rintro x w1x ⟨rfl, rfl⟩
    go_wp2_with fail
    refine (rCplx_any _ p q t ra).mono ?_
    rintro x w2 ⟨rfl, r2, f2⟩
    have hA3 := f2.heap hA0 (fun e => e.elim (fun e => by omega) (fun e => by omega))
    have hB3 := f2.heap hB2 (fun e => e.elim (fun e => by omega) (fun e => by omega))
    generalize tkC t = r3 at *
    obtain ⟨⟨nm, nm2⟩, t3⟩ := r3
    simp only [] at r2 HR ⊢
    obtain ⟨⟨a0, a1, a2, a3, a4⟩, az0, az1, az2, az3, az4⟩ := cells5z hA3
    obtain ⟨⟨b0, b1, b2, b3, b4⟩, bz0, bz1, bz2, bz3, bz4⟩ := cells5z hB3
    clear hA0 hB2
    go_wp2_with fail
    have g1 : (w2.setCell ⟨w1.heap.size, 2, none⟩ (.complex .f64 nm nm2)).heap[w.heap.size]? = some (.cells #[.int .i64 0, .int .i64 0, .complex .f64 0 0, .string e0, .string e0] 39 (0, 0)) := by
      rw [Below.heap_setCell w2 ⟨w1.heap.size, 2, none⟩ _ w.heap.size (by simp; omega)]
      exact hB3
    refine bodyPost_ret (results_20 _ w.heap.size _ _ _ _ _ (set_chain5 g1) _ rfl) rfl ?_
    have FF := (fr_one w2 w1.heap.size 2 (.complex .f64 nm nm2)).trans (fr_chain5 (w2.setCell ⟨w1.heap.size, 2, none⟩ (.complex .f64 nm nm2)) w.heap.size (.int .i64 2) (.int .i64 0) (.complex .f64 nm nm2) (.string e0) (.string e0)) (U := fun k => k = w1.heap.size ∨ k = w.heap.size) (fun _ _ e => .inl e) (fun _ _ e => .inr e)
    rw [HR.out]
    refine ⟨rfl, r2.away (fun k hk => ?_) FF, ?_⟩
    · rcases hk with rfl | rfl
      · exact ⟨by omega, by omega, nob_block hA3 (nobs5 (nob_int _) (nob_int _) (nob_cx _ _) (nob_str _) (nob_str _))⟩
      · exact ⟨by omega, by omega, nob_block hB3 (nobs5 (nob_int _) (nob_int _) (nob_cx _ _) (nob_str _) (nob_str _))⟩
    · exact ((HF1.out.trans HFa.out (fun _ _ e => e) (fun _ _ f => f.elim)).trans f2 (fun _ _ e => e) (fun _ _ e => e)).trans FF (fun _ _ e => e) (fun i hi e => by have := HF1.out.size; rcases e with e | e <;> omega)
  have k2 := hk
  clear hk
  by_cases hk : c = 3
  · have hO : own (c : Int) = 4 := by unfold own; rw [if_neg (by omega), if_neg (by omega), if_pos (by omega)]
    rw [hO] at O
    rw [if_neg k1, if_neg k2, if_pos hk] at HR
    clear hO
    subst hk
    go_enter Tryz.func20, Tryz.ntmps20
    go_wp2_with fail
    refine K.mono ?_
    rintro x w1 ⟨rfl, r1, f1⟩
    have hlt1 := r1.lt
    obtain ⟨hB1, hBs⟩ := HB.out w1 f1
    have HF1 : Hid (Fr (PQ p q) w w1) := HF.out.trans f1 (fun _ _ f => f.elim) (fun _ _ e => e)
    have hAB : ¬ w1.heap.size = w.heap.size := by omega
    have fa : Fr no w1 (w1.alloc (.cells #[.int .i64 ((3 : Nat) : Int), .int .i64 0, .complex .f64 0 0, .string e0, .string e0] 39)) := (Fr.refl no w1).alloc _ _
    have hA0 := heap_alloc_new w1 (.cells #[.int .i64 ((3 : Nat) : Int), .int .i64 0, .complex .f64 0 0, .string e0, .string e0] 39)
    have ra : RT _ p q t := r1.new fa
    have hB2 := fa.heap hB1 (fun f => f)
    have HFa : Hid (Fr no w1 (w1.alloc (.cells #[.int .i64 ((3 : Nat) : Int), .int .i64 0, .complex .f64 0 0, .string e0, .string e0] 39))) := fa
    clear fa f1 hB1
    go_wp2_with fail
    refine (O _).mono ?_
    rintro x w1x ⟨rfl, rfl⟩
    go_wp2_with fail
    refine (rName_any _ p q t ra).mono ?_
    rintro x w2 ⟨rfl, r2, f2⟩
    have hA3 := f2.heap hA0 (fun e => e.elim (fun e => by omega) (fun e => by omega))
    have hB3 := f2.heap hB2 (fun e => e.elim (fun e => by omega) (fun e => by omega))
    generalize tkT 20 t = r3 at *
    obtain ⟨nm, t3⟩ := r3
    simp only [] at r2 HR ⊢
    obtain ⟨⟨a0, a1, a2, a3, a4⟩, az0, az1, az2, az3, az4⟩ := cells5z hA3
    obtain ⟨⟨b0, b1, b2, b3, b4⟩, bz0, bz1, bz2, bz3, bz4⟩ := cells5z hB3
    clear hA0 hB2
    go_wp2_with fail
    have g1 : (w2.setCell ⟨w1.heap.size, 3, none⟩ (.string nm)).heap[w.heap.size]? = some (.cells #[.int .i64 0, .int .i64 0, .complex .f64 0 0, .string e0, .string e0] 39 (0, 0)) := by
      rw [Below.heap_setCell w2 ⟨w1.heap.size, 3, none⟩ _ w.heap.size (by simp; omega)]
      exact hB3
    refine bodyPost_ret (results_20 _ w.heap.size _ _ _ _ _ (set_chain5 g1) _ rfl) rfl ?_
    have FF := (fr_one w2 w1.heap.size 3 (.string nm)).trans (fr_chain5 (w2.setCell ⟨w1.heap.size, 3, none⟩ (.string nm)) w.heap.size (.int .i64 3) (.int .i64 0) (.complex .f64 0 0) (.string nm) (.string e0)) (U := fun k => k = w1.heap.size ∨ k = w.heap.size) (fun _ _ e => .inl e) (fun _ _ e => .inr e)
    rw [HR.out]
    refine ⟨rfl, r2.away (fun k hk => ?_) FF, ?_⟩
    · rcases hk with rfl | rfl
      · exact ⟨by omega, by omega, nob_block hA3 (nobs5 (nob_int _) (nob_int _) (nob_cx _ _) (nob_str _) (nob_str _))⟩
      · exact ⟨by omega, by omega, nob_block hB3 (nobs5 (nob_int _) (nob_int _) (nob_cx _ _) (nob_str _) (nob_str _))⟩
    · exact ((HF1.out.trans HFa.out (fun _ _ e => e) (fun _ _ f => f.elim)).trans f2 (fun _ _ e => e) (fun _ _ e => e)).trans FF (fun _ _ e => e) (fun i hi e => by have := HF1.out.size; rcases e with e | e <;> omega)
  have k3 := hk
  clear hk
  by_cases hk : c = 4 ∨ c = 5
  · have hO : own (c : Int) = 12 := by unfold own; rw [if_neg (by omega), if_neg (by omega), if_neg (by omega), if_pos (by omega)]
    rw [hO] at O
    rw [if_neg k1, if_neg k2, if_neg k3, if_pos hk] at HR
    clear hO
    clear hk k1 k2 k3
    go_enter Tryz.func20, Tryz.ntmps20
    go_wp2_with fail
    refine K.mono ?_
    rintro x w1 ⟨rfl, r1, f1⟩
    have hlt1 := r1.lt
    obtain ⟨hB1, hBs⟩ := HB.out w1 f1
    have HF1 : Hid (Fr (PQ p q) w w1) := HF.out.trans f1 (fun _ _ f => f.elim) (fun _ _ e => e)
    have hAB : ¬ w1.heap.size = w.heap.size := by omega
    have fa : Fr no w1 (w1.alloc (.cells #[.int .i64 (c : Int), .int .i64 0, .complex .f64 0 0, .string e0, .string e0] 39)) := (Fr.refl no w1).alloc _ _
    have hA0 := heap_alloc_new w1 (.cells #[.int .i64 (c : Int), .int .i64 0, .complex .f64 0 0, .string e0, .string e0] 39)
    have ra : RT _ p q t := r1.new fa
    have hB2 := fa.heap hB1 (fun f => f)
    have HFa : Hid (Fr no w1 (w1.alloc (.cells #[.int .i64 (c : Int), .int .i64 0, .complex .f64 0 0, .string e0, .string e0] 39))) := fa
    clear fa f1 hB1
    go_wp2_with fail
    refine (O _).mono ?_
    rintro x w1x ⟨rfl, rfl⟩
    go_wp2_with fail
    refine (rName_any _ p q t ra).mono ?_
    rintro x w2 ⟨rfl, r2, f2⟩
    have hA3 := f2.heap hA0 (fun e => e.elim (fun e => by omega) (fun e => by omega))
    have hB3 := f2.heap hB2 (fun e => e.elim (fun e => by omega) (fun e => by omega))
    generalize tkT 20 t = r3 at *
    obtain ⟨nm, t3⟩ := r3
    simp only [] at r2 HR ⊢
    obtain ⟨⟨a0, a1, a2, a3, a4⟩, az0, az1, az2, az3, az4⟩ := cells5z hA3
    have hA4 : (w2.setCell ⟨w1.heap.size, 3, none⟩ (.string nm)).heap[w1.heap.size]? = some (.cells #[.int .i64 (c : Int), .int .i64 0, .complex .f64 0 0, .string nm, .string e0] 39 (0, 0)) := set_at hA3 3 _
    have hB4 : (w2.setCell ⟨w1.heap.size, 3, none⟩ (.string nm)).heap[w.heap.size]? = some (.cells #[.int .i64 0, .int .i64 0, .complex .f64 0 0, .string e0, .string e0] 39 (0, 0)) := by
      rw [Below.heap_setCell w2 ⟨w1.heap.size, 3, none⟩ _ w.heap.size (by simp; omega)]
      exact hB3
    have rb : RT (w2.setCell ⟨w1.heap.size, 3, none⟩ (.string nm)) p q t3 := r2.away (fun k hk => by subst hk; exact ⟨by omega, by omega, nob_block hA3 (nobs5 (nob_int _) (nob_int _) (nob_cx _ _) (nob_str _) (nob_str _))⟩) (fr_one w2 w1.heap.size 3 (.string nm))
    have HF2 : Hid (Fr (PQ p q) w (w2.setCell ⟨w1.heap.size, 3, none⟩ (.string nm))) := ((HF1.out.trans HFa.out (fun _ _ e => e) (fun _ _ f => f.elim)).trans f2 (fun _ _ e => e) (fun _ _ e => e)).trans (fr_one w2 w1.heap.size 3 (.string nm)) (fun _ _ e => e) (fun i hi e => by have := HF1.out.size; omega)
    have hlt2 := rb.lt
    clear hA0 hB2
    go_wp2_with fail
    refine (rName_any _ p q t3 rb).mono ?_
    rintro x w3 ⟨rfl, r3, f3⟩
    clear a0 a1 a2 a3 a4 az0 az1 az2 az3 az4
    have hA5 := f3.heap hA4 (fun e => e.elim (fun e => by omega) (fun e => by omega))
    have hB5 := f3.heap hB4 (fun e => e.elim (fun e => by omega) (fun e => by omega))
    generalize tkT 20 t3 = r4 at *
    obtain ⟨nm2, t4⟩ := r4
    simp only [] at r3 HR ⊢
    obtain ⟨⟨a0, a1, a2, a3, a4⟩, az0, az1, az2, az3, az4⟩ := cells5z hA5
    obtain ⟨⟨b0, b1, b2, b3, b4⟩, bz0, bz1, bz2, bz3, bz4⟩ := cells5z hB5
    clear hA4 hB4
    go_wp2_with fail
    have g1 : (w3.setCell ⟨w1.heap.size, 4, none⟩ (.string nm2)).heap[w.heap.size]? = some (.cells #[.int .i64 0, .int .i64 0, .complex .f64 0 0, .string e0, .string e0] 39 (0, 0)) := by
      rw [Below.heap_setCell w3 ⟨w1.heap.size, 4, none⟩ _ w.heap.size (by simp; omega)]
      exact hB5
    refine bodyPost_ret (results_20 _ w.heap.size _ _ _ _ _ (set_chain5 g1) _ rfl) rfl ?_
    have FF := (fr_one w3 w1.heap.size 4 (.string nm2)).trans (fr_chain5 (w3.setCell ⟨w1.heap.size, 4, none⟩ (.string nm2)) w.heap.size (.int .i64 (c : Int)) (.int .i64 0) (.complex .f64 0 0) (.string nm) (.string nm2)) (U := fun k => k = w1.heap.size ∨ k = w.heap.size) (fun _ _ e => .inl e) (fun _ _ e => .inr e)
    rw [HR.out]
    refine ⟨rfl, r3.away (fun k hk => ?_) FF, ?_⟩
    · rcases hk with rfl | rfl
      · exact ⟨by omega, by omega, nob_block hA5 (nobs5 (nob_int _) (nob_int _) (nob_cx _ _) (nob_str _) (nob_str _))⟩
      · exact ⟨by omega, by omega, nob_block hB5 (nobs5 (nob_int _) (nob_int _) (nob_cx _ _) (nob_str _) (nob_str _))⟩
    · exact (HF2.out.trans f3 (fun _ _ e => e) (fun _ _ e => e)).trans FF (fun _ _ e => e) (fun i hi e => by have := HF1.out.size; rcases e with e | e <;> omega)
  have k4 := hk
  clear hk
  have hO : own (c : Int) = 0 := by unfold own; rw [if_neg (by omega), if_neg (by omega), if_neg (by omega), if_neg (by omega)]
  rw [hO] at O
  rw [if_neg k1, if_neg k2, if_neg k3, if_neg k4] at HR
  clear hO
  go_enter Tryz.func20, Tryz.ntmps20
  go_wp2_with fail
  refine K.mono ?_
  rintro x w1 ⟨rfl, r1, f1⟩
  have hlt1 := r1.lt
  obtain ⟨hB1, hBs⟩ := HB.out w1 f1
  have HF1 : Hid (Fr (PQ p q) w w1) := HF.out.trans f1 (fun _ _ f => f.elim) (fun _ _ e => e)
  have hAB : ¬ w1.heap.size = w.heap.size := by omega
  obtain ⟨⟨b0, b1, b2, b3, b4⟩, bz0, bz1, bz2, bz3, bz4⟩ := cells5z hB1
  clear f1
  go_wp2_with fail
  refine (O _).mono ?_
  rintro x w1x ⟨rfl, rfl⟩
  go_wp2_with fail
  refine bodyPost_ret (results_20 _ w.heap.size _ _ _ _ _ (((Fr.refl no _).alloc _ _).heap (set_chain5 hB1) (fun f => f)) _ rfl) rfl ?_
  have FF := fr_chain5 w1 w.heap.size (.int .i64 (c : Int)) (.int .i64 0) (.complex .f64 0 0) (.string e0) (.string e0)
  rw [HR.out]
  refine ⟨rfl, (r1.away (fun k hk => ?_) FF).new ((Fr.refl no _).alloc _ _), ?_⟩
  · subst hk
    exact ⟨by omega, by omega, nob_block hB1 (nobs5 (nob_int _) (nob_int _) (nob_cx _ _) (nob_str _) (nob_str _))⟩
  · exact (HF1.out.trans FF (fun _ _ e => e) (fun i hi e => by omega)).alloc _ _
end Go.Proofs.YthncdbobjeeeaaaGreatDoor

/- The class reader: fields, handlers, code, the mark. -/
namespace Go.Proofs.YthncdbobjeeeaaaGreatDoor
open Go.ChangeShapes Go.WideShapes Go.ChangeAt Go.RowKit

/-- A field, read. -/
def rFd (s : List Nat × Nat) : Fd × (List Nat × Nat) := (⟨(tkT 20 s).1, (rTy (tkT 20 s).2).1, (tkF (rTy (tkT 20 s).2).2).1⟩, (tkF (rTy (tkT 20 s).2).2).2)
/-- A handler, read. -/
def rHd (s : List Nat × Nat) : Hd × (List Nat × Nat) :=
  let a := tkN 200 s
  let b := tkN 200 a.2
  let c := tkN 200 b.2
  let d := tkN 128 c.2
  let e := tkN 6 d.2
  (⟨(a.1 : Int), (b.1 : Int), (c.1 : Int), (d.1 : Int) - 1, (e.1 : Int)⟩, e.2)

set_option maxRecDepth 100000 in
set_option maxHeartbeats 2000000 in
theorem readField_any (w : World) (p q : Nat) (s : List Nat × Nat) (h : RT w p q s) :
    Calls Tryz.prog 22 #[.pointer (some ⟨p, 0, none⟩)] w fun x w' => x = .returned (.agg #[.string (rFd s).1.name, .int .i64 (rFd s).1.ty.k, .string (rFd s).1.ty.c, .bool (rFd s).1.vol]) ∧ RT w' p q (rFd s).2 ∧ Fr (PQ p q) w w' := by
  have f0 : Fr no w (w.alloc (.cells #[.string e0, .int .i64 0, .string e0, .bool false] 48)) := (Fr.refl no w).alloc _ _
  have hb0 := heap_alloc_new w (.cells #[.string e0, .int .i64 0, .string e0, .bool false] 48)
  have hlt := h.lt
  have HF : Hid (Fr no w (w.alloc (.cells #[.string e0, .int .i64 0, .string e0, .bool false] 48))) := f0
  have hsz : (w.alloc (.cells #[.string e0, .int .i64 0, .string e0, .bool false] 48)).heap.size = w.heap.size + 1 := size_alloc _ _
  have ra : RT _ p q s := h.new f0
  have HB : Hid (∀ w1, Fr (PQ p q) (w.alloc (.cells #[.string e0, .int .i64 0, .string e0, .bool false] 48)) w1 → w1.heap[w.heap.size]? = some (.cells #[.string e0, .int .i64 0, .string e0, .bool false] 48 (0, 0))) := fun w1 f1 => f1.heap hb0 (fun e => e.elim (fun e => by omega) (fun e => by omega))
  have HR : Hid (rFd s = (⟨(tkT 20 s).1, (rTy (tkT 20 s).2).1, (tkF (rTy (tkT 20 s).2).2).1⟩, (tkF (rTy (tkT 20 s).2).2).2)) := rfl
  generalize rFd s = r at *
  clear h f0 hb0
  go_enter Tryz.func22, Tryz.ntmps22
  go_wp2_with fail
  refine (rName_any _ p q s ra).mono ?_
  rintro x w1 ⟨rfl, r1, g1⟩
  have f1 := g1
  clear g1
  generalize tkT 20 s = t1 at *
  obtain ⟨nm, t1⟩ := t1
  simp only [] at r1 HR ⊢
  go_wp2_with fail
  refine (readType_any _ p q t1 r1).mono ?_
  rintro x w2 ⟨rfl, r2, g2⟩
  have f2 := f1.trans g2 (fun _ _ e => e) (U := PQ p q) (fun _ _ e => e)
  clear f1
  clear g2
  generalize rTy t1 = t2 at *
  obtain ⟨⟨k, c⟩, t2⟩ := t2
  simp only [] at r2 HR ⊢
  go_wp2_with fail
  refine (rFlag_any _ p q t2 r2).mono ?_
  rintro x w3 ⟨rfl, r3, g3⟩
  have f3 := f2.trans g3 (fun _ _ e => e) (U := PQ p q) (fun _ _ e => e)
  clear f2
  clear g3
  generalize tkF t2 = t3 at *
  obtain ⟨b, t3⟩ := t3
  simp only [] at r3 HR ⊢
  have hB := HB.out w3 f3
  obtain ⟨⟨b0, b1, b2, b3⟩, bz0, bz1, bz2, bz3⟩ := cells4z hB
  go_wp2_with fail
  refine bodyPost_ret (results_22 _ w.heap.size _ _ _ _ (set_chain4 hB) _ rfl) rfl ?_
  have FF := fr_chain4 w3 w.heap.size (.string nm) (.int .i64 k) (.string c) (.bool b)
  rw [HR.out]
  refine ⟨rfl, r3.away (fun k hk => ?_) FF, ?_⟩
  · subst hk
    have hl := r3.lt
    exact ⟨by omega, by omega, nob_block hB (nobs4 (nob_str _) (nob_int _) (nob_str _) (nob_bool _))⟩
  · exact (HF.out.trans f3 (fun _ _ f => f.elim) (fun _ _ e => e)).trans FF (fun _ _ e => e) (fun i hi e => by omega)

theorem tkN_le (most : Nat) (s : List Nat × Nat) : (tkN (most : Int) s).1 ≤ most := by
  unfold tkN
  split
  · by_cases h : (ct s.1 (most : Int)).2.1 = 0
    · have := (ct_le s.1 (most : Int) h).2.2
      simp only []
      omega
    · unfold ct at h ⊢
      split at h
      · rename_i hx
        rw [if_pos hx]
        have := rd_err s.1 0 0 hx
        rw [this]
        simp
      · rename_i hx
        rw [if_neg hx]
        split at h
        · rename_i hy
          rw [if_pos hy]
          simp
        · exact absurd h (by simpa using hx)
  · simp

set_option maxRecDepth 100000 in
set_option maxHeartbeats 2000000 in
theorem readHandler_any (w : World) (p q : Nat) (s : List Nat × Nat) (h : RT w p q s) :
    Calls Tryz.prog 73 #[.pointer (some ⟨p, 0, none⟩)] w fun x w' => x = .returned (.agg #[.int .i64 (rHd s).1.fr, .int .i64 (rHd s).1.to, .int .i64 (rHd s).1.tg, .int .i64 (rHd s).1.cl, .int .i64 (rHd s).1.dp]) ∧ RT w' p q (rHd s).2 ∧ Fr (PQ p q) w w' := by
  have f0 : Fr no w (w.alloc (.cells #[.int .i64 0, .int .i64 0, .int .i64 0, .int .i64 0, .int .i64 0] 59)) := (Fr.refl no w).alloc _ _
  have hb0 := heap_alloc_new w (.cells #[.int .i64 0, .int .i64 0, .int .i64 0, .int .i64 0, .int .i64 0] 59)
  have hlt := h.lt
  have HF : Hid (Fr no w (w.alloc (.cells #[.int .i64 0, .int .i64 0, .int .i64 0, .int .i64 0, .int .i64 0] 59))) := f0
  have hsz : (w.alloc (.cells #[.int .i64 0, .int .i64 0, .int .i64 0, .int .i64 0, .int .i64 0] 59)).heap.size = w.heap.size + 1 := size_alloc _ _
  have ra : RT _ p q s := h.new f0
  have HB : Hid (∀ w1, Fr (PQ p q) (w.alloc (.cells #[.int .i64 0, .int .i64 0, .int .i64 0, .int .i64 0, .int .i64 0] 59)) w1 → w1.heap[w.heap.size]? = some (.cells #[.int .i64 0, .int .i64 0, .int .i64 0, .int .i64 0, .int .i64 0] 59 (0, 0))) := fun w1 f1 => f1.heap hb0 (fun e => e.elim (fun e => by omega) (fun e => by omega))
  have HR : Hid (rHd s = (⟨((tkN 200 s).1 : Int), ((tkN 200 (tkN 200 s).2).1 : Int), ((tkN 200 (tkN 200 (tkN 200 s).2).2).1 : Int), ((tkN 128 (tkN 200 (tkN 200 (tkN 200 s).2).2).2).1 : Int) - 1, ((tkN 6 (tkN 128 (tkN 200 (tkN 200 (tkN 200 s).2).2).2).2).1 : Int)⟩, (tkN 6 (tkN 128 (tkN 200 (tkN 200 (tkN 200 s).2).2).2).2).2)) := rfl
  generalize rHd s = r at *
  clear h f0 hb0
  go_enter Tryz.func73, Tryz.ntmps73
  go_wp2_with fail
  refine (rCount_any _ p q s ra 200 (by omega) (by omega)).mono ?_
  rintro x w1 ⟨rfl, r1, g1⟩
  have f1 := g1
  clear g1
  generalize tkN 200 s = t1 at *
  obtain ⟨n1, t1⟩ := t1
  simp only [] at r1 HR ⊢
  go_wp2_with fail
  refine (rCount_any _ p q t1 r1 200 (by omega) (by omega)).mono ?_
  rintro x w2 ⟨rfl, r2, g2⟩
  have f2 := f1.trans g2 (fun _ _ e => e) (U := PQ p q) (fun _ _ e => e)
  clear f1
  clear g2
  generalize tkN 200 t1 = t2 at *
  obtain ⟨n2, t2⟩ := t2
  simp only [] at r2 HR ⊢
  go_wp2_with fail
  refine (rCount_any _ p q t2 r2 200 (by omega) (by omega)).mono ?_
  rintro x w3 ⟨rfl, r3, g3⟩
  have f3 := f2.trans g3 (fun _ _ e => e) (U := PQ p q) (fun _ _ e => e)
  clear f2
  clear g3
  generalize tkN 200 t2 = t3 at *
  obtain ⟨n3, t3⟩ := t3
  simp only [] at r3 HR ⊢
  go_wp2_with fail
  refine (rCount_any _ p q t3 r3 128 (by omega) (by omega)).mono ?_
  rintro x w4 ⟨rfl, r4, g4⟩
  have f4 := f3.trans g4 (fun _ _ e => e) (U := PQ p q) (fun _ _ e => e)
  clear f3
  clear g4
  have h128 := tkN_le 128 t3
  generalize tkN 128 t3 = t4 at *
  obtain ⟨n4, t4⟩ := t4
  simp only [] at r4 HR ⊢
  simp only [] at h128
  have hw4 : IntKind.i64.wrap ((n4 : Int) + -1) = (n4 : Int) - 1 := by simp [IntKind.wrap, IntKind.signed, IntKind.bits]; omega
  go_wp2_with fail
  refine (rCount_any _ p q t4 r4 6 (by omega) (by omega)).mono ?_
  rintro x w5 ⟨rfl, r5, g5⟩
  have f5 := f4.trans g5 (fun _ _ e => e) (U := PQ p q) (fun _ _ e => e)
  clear f4
  clear g5
  generalize tkN 6 t4 = t5 at *
  obtain ⟨n5, t5⟩ := t5
  simp only [] at r5 HR ⊢
  have hB := HB.out w5 f5
  obtain ⟨⟨b0, b1, b2, b3, b4⟩, bz0, bz1, bz2, bz3, bz4⟩ := cells5z hB
  go_wp2_with fail
  refine bodyPost_ret (results_73 _ w.heap.size _ _ _ _ _ (set_chain5 hB) _ rfl) rfl ?_
  have FF := fr_chain5 w5 w.heap.size (.int .i64 (n1 : Int)) (.int .i64 (n2 : Int)) (.int .i64 (n3 : Int)) (.int .i64 ((n4 : Int) - 1)) (.int .i64 (n5 : Int))
  rw [HR.out]
  refine ⟨rfl, r5.away (fun k hk => ?_) FF, ?_⟩
  · subst hk
    have hl := r5.lt
    exact ⟨by omega, by omega, nob_block hB (nobs5 (nob_int _) (nob_int _) (nob_int _) (nob_int _) (nob_int _))⟩
  · exact (HF.out.trans f5 (fun _ _ f => f.elim) (fun _ _ e => e)).trans FF (fun _ _ e => e) (fun i hi e => by omega)
end Go.Proofs.YthncdbobjeeeaaaGreatDoor

