/- Rows of enters and exits: what the statement keeps of them. -/
import Derived.Test.YtalgjpmaafooeaaGreatDoorL19K
namespace Go.Proofs.YtalgjpmaafooeaaGreatDoor
open Go.ChangeShapes Go.WideShapes Go.ChangeAt Go.RowKit
open H (ky Owns MapOf ix NewV)
structure Ls where
 code : List (Int × Int)
 held : List Int
 ok : Bool
def num8 (c : Nat) : Int := ((c / 2 % 8 : Nat) : Int)
def exN (c : Nat) (h : List Int) : Int := match h.getLast? with | none => num8 c | some m => if 230 < c then (m + 1) % 8 else m
def allNe (n : Int) (h : List Int) : Bool := h.all fun k => decide (k ≠ n)
def stepS (s : Ls) (c : Nat) : Ls :=
 if c % 2 = 0 then ⟨s.code ++ [(38, num8 c)], s.held ++ [num8 c], (s.ok && allNe (num8 c) s.held) && decide (s.held.length + 1 ≤ 6)⟩
 else ⟨s.code ++ [(39, exN c s.held)], s.held.dropLast, (s.ok && decide (0 < s.held.length)) && lastI (exN c s.held) s.held⟩
def allS (l : List Nat) : Ls := l.foldl stepS ⟨[], [], true⟩
theorem allS_snoc (l : List Nat) (c : Nat) : allS (l ++ [c]) = stepS (allS l) c := by simp [allS, List.foldl_append]
def runO : List (Int × Int) → List Int → Option (List Int)
 | [], h => some h
 | x :: l, h => if (behP x h).2 = true then runO l (behP x h).1 else none
theorem lineL_runO : ∀ (l : List (Int × Int)) (h : List Int), lineL l h = match runO l h with | none => false | some k => decide (k.length = 0)
 | [], h => rfl
 | x :: l, h => by
  unfold lineL runO
  cases hb : (behP x h).2 with
  | false => simp
  | true => simp only [Bool.true_eq_false, if_false, if_true]; exact lineL_runO l _
theorem runO_snoc : ∀ (l : List (Int × Int)) (x : Int × Int) (h : List Int), runO (l ++ [x]) h = (runO l h).bind fun k => if (behP x k).2 = true then some (behP x k).1 else none
 | [], x, h => rfl
 | y :: l, x, h => by
  show (if (behP y h).2 = true then runO (l ++ [x]) (behP y h).1 else none) = ((if (behP y h).2 = true then runO l (behP y h).1 else none) : Option (List Int)).bind _
  cases (behP y h).2 with
  | false => rfl
  | true => exact runO_snoc l x _
theorem num8_lt (c : Nat) : 0 ≤ num8 c ∧ num8 c < 8 := by unfold num8; omega
structure LsOk (s : Ls) (n : Nat) : Prop where
 run : runO s.code [] = if s.ok = true then some s.held else none
 six : s.ok = true → s.held.length ≤ 6
 lks : Lks s.code
 rng : ∀ k ∈ s.held, 0 ≤ k ∧ k < 8
 len : s.code.length = n
 hln : s.held.length ≤ n
theorem exN_lt (c : Nat) (h : List Int) (hh : ∀ k ∈ h, 0 ≤ k ∧ k < 8) : 0 ≤ exN c h ∧ exN c h < 8 := by
 unfold exN
 cases hl : h.getLast? with
 | none => exact num8_lt c
 | some m =>
  have := hh m (List.mem_of_getLast? hl)
  simp only
  split
  · omega
  · exact this
theorem LsOk.step {s : Ls} {n : Nat} (h : LsOk s n) (c : Nat) : LsOk (stepS s c) (n + 1) := by
 unfold stepS
 split
 · refine ⟨?_, fun e => ?_, fun x hx => ?_, fun k hk => ?_, by simp [h.len], by simp [h.hln]⟩
   · show runO (s.code ++ [(38, num8 c)]) [] = if ((s.ok && allNe (num8 c) s.held) && decide (s.held.length + 1 ≤ 6)) = true then some (s.held ++ [num8 c]) else none
     rw [runO_snoc, h.run]
     cases hok : s.ok with
     | false => rfl
     | true =>
      have h6 := h.six hok
      have hin : inI (num8 c) s.held = !allNe (num8 c) s.held := by
       unfold inI allNe
       rw [Bool.eq_iff_iff]
       simp
      have hb : behP (38, num8 c) s.held = if inI (num8 c) s.held = true ∨ s.held.length = 6 then (s.held, false) else (s.held ++ [num8 c], true) := by simp [behP]
      show (if (behP (38, num8 c) s.held).2 = true then some (behP (38, num8 c) s.held).1 else none) = _
      rw [hb, hin]
      cases ha : allNe (num8 c) s.held with
      | false => simp
      | true =>
       by_cases e6 : s.held.length = 6
       · simp [e6]
       · have : s.held.length + 1 ≤ 6 := by omega
         simp [e6, this]
   · simp only [Bool.and_eq_true, decide_eq_true_eq] at e
     simp only [List.length_append, List.length_singleton]
     exact e.2
   · rcases List.mem_append.1 hx with hx | hx
     · exact h.lks x hx
     · simp only [List.mem_singleton] at hx
       subst hx
       exact ⟨.inl rfl, num8_lt c⟩
   · rcases List.mem_append.1 hk with hk | hk
     · exact h.rng k hk
     · simp only [List.mem_singleton] at hk
       subst hk
       exact num8_lt c
 · refine ⟨?_, fun e => ?_, fun x hx => ?_, fun k hk => h.rng k (List.dropLast_subset _ hk), by simp [h.len], by simp; have := h.hln; omega⟩
   · show runO (s.code ++ [(39, exN c s.held)]) [] = if ((s.ok && decide (0 < s.held.length)) && lastI (exN c s.held) s.held) = true then some s.held.dropLast else none
     rw [runO_snoc, h.run]
     cases hok : s.ok with
     | false => rfl
     | true =>
      have hb : behP (39, exN c s.held) s.held = if lastI (exN c s.held) s.held = true then (s.held.dropLast, true) else (s.held, false) := by simp [behP]
      show (if (behP (39, exN c s.held) s.held).2 = true then some (behP (39, exN c s.held) s.held).1 else none) = _
      rw [hb]
      cases hl : lastI (exN c s.held) s.held with
      | false => simp
      | true =>
       have : 0 < s.held.length := by
        cases hh : s.held with
        | nil => rw [hh] at hl; simp [lastI] at hl
        | cons a l => simp
       simp [this]
   · simp only [Bool.and_eq_true] at e
     have := h.six e.1.1
     simp only [List.length_dropLast]
     omega
   · rcases List.mem_append.1 hx with hx | hx
     · exact h.lks x hx
     · simp only [List.mem_singleton] at hx
       subst hx
       exact ⟨.inr rfl, exN_lt c _ h.rng⟩
theorem allS_ok (l : List Nat) : LsOk (allS l) l.length := by
 have : ∀ (l : List Nat) (s : Ls) (n : Nat), LsOk s n → LsOk (l.foldl stepS s) (n + l.length) := by
  intro l
  induction l with
  | nil => intro s n h; exact h
  | cons c l ih =>
   intro s n h
   have := ih _ _ (h.step c)
   rw [List.length_cons]
   rw [show n + (l.length + 1) = n + 1 + l.length by omega]
   exact this
 have h := this l ⟨[], [], true⟩ 0 ⟨rfl, fun _ => by simp, fun x hx => by simp at hx, fun k hk => by simp at hk, rfl, Nat.le_refl _⟩
 rw [Nat.zero_add] at h
 exact h
theorem ask_stack (l : List Nat) (hl : l.length ≤ 30) : ∃ res lr, Asked 8 2 tops (allCd (allS l).code) pool1 200 res ∧ fitsP (allCd (allS l).code) 200 (comeP 0 [] (wk0 (allCd (allS l).code).length)).2 = some lr ∧ decide (lockE res.1 lr.1 = 0) = ((allS l).ok && decide ((allS l).held.length = 0)) := by
 have h := allS_ok l
 obtain ⟨res, lr, h1, h2, h3⟩ := ask_lks (allS l).code h.lks (by rw [h.len]; omega)
 refine ⟨res, lr, h1, h2, h3.trans ?_⟩
 rw [lineL_runO, h.run]
 cases (allS l).ok <;> simp
end Go.Proofs.YtalgjpmaafooeaaGreatDoor
