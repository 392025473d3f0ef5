/- What is told of an object: has, Class, Words, Get; Put. -/
import Derived.Test.YtopcbcdigllenaaBeg
namespace Go.Proofs.Ytopcbcdigllenaa
open Go.ChangeShapes Go.WideShapes Go.ChangeAt Go.RowKit

def Blk.told : Blk → Option (Nat × List Nat)
  | .obj c ws => some (c, ws)
  | .free _ => none

def Blk.put : Blk → Int → Nat → Blk
  | .obj c ws, i, v => .obj c (if 0 ≤ i then ws.set i.toNat v else ws)
  | .free j, _, _ => .free j

/-- The object that begins at address a. -/
def objAt : List Blk → Int → Option (Nat × List Nat)
  | [], _ => none
  | b :: r, a => if a = 1 then b.told else objAt r (a - (b.len : Int))

theorem beg_obj (bs : List Blk) (a : Int) : beg bs a = (objAt bs a).isSome := by
  induction bs generalizing a with
  | nil => rfl
  | cons b r ih =>
    rw [beg, objAt]
    by_cases e : a = 1
    · rw [if_pos e, if_pos e]
      cases b <;> rfl
    · rw [if_neg e, if_neg e]
      exact ih _

theorem objAt_at (pre post : List Blk) (c : Nat) (ws : List Nat) : objAt (pre ++ .obj c ws :: post) ((siz pre : Int) + 1) = some (c, ws) := by
  induction pre with
  | nil => simp [objAt, siz_nil, Blk.told]
  | cons x r ih =>
    have := x.len_pos
    rw [List.cons_append, objAt, if_neg (by rw [siz_cons]; omega), siz_cons]
    rw [show ((x.len + siz r : Nat) : Int) + 1 - (x.len : Int) = (siz r : Int) + 1 by omega]
    exact ih

theorem objAt_split {bs : List Blk} {a : Int} {c : Nat} {ws : List Nat} (h : objAt bs a = some (c, ws)) : ∃ pre post, bs = pre ++ .obj c ws :: post ∧ a = (siz pre : Int) + 1 := by
  have hb : beg bs a = true := by rw [beg_obj, h]; rfl
  obtain ⟨pre, c', ws', post, rfl, rfl⟩ := beg_split hb
  rw [objAt_at] at h
  simp only [Option.some.injEq, Prod.mk.injEq] at h
  obtain ⟨rfl, rfl⟩ := h
  exact ⟨pre, post, rfl, rfl⟩

theorem flat_word (pre post : List Blk) (c : Nat) (ws : List Nat) (i : Nat) (h : i < ws.length) : (flat (pre ++ .obj c ws :: post))[siz pre + 2 + i]? = some ws[i] := by
  rw [flat_append, List.getElem?_append_right (by unfold siz; omega), flat_cons]
  unfold siz
  rw [show (flat pre).length + 2 + i - (flat pre).length = i + 2 by omega, List.getElem?_append_left (by rw [Blk.words_length]; simp [Blk.len]; omega)]
  simp [Blk.words, h]

theorem flat_class (pre post : List Blk) (c : Nat) (ws : List Nat) : (flat (pre ++ .obj c ws :: post))[siz pre + 1]? = some c := by
  rw [flat_append, List.getElem?_append_right (by unfold siz; omega), flat_cons]
  unfold siz
  rw [show (flat pre).length + 1 - (flat pre).length = 1 by omega, List.getElem?_append_left (by rw [Blk.words_length]; simp [Blk.len])]
  rfl

theorem flat_set (pre post : List Blk) (b : Blk) (i x : Nat) (h : i < b.len) : (flat (pre ++ b :: post)).set (siz pre + i) x = flat pre ++ b.words.set i x ++ flat post := by
  rw [flat_append, flat_cons]
  unfold siz
  rw [List.set_append_right _ _ (by omega), show (flat pre).length + i - (flat pre).length = i by omega, List.set_append_left _ _ (by rw [Blk.words_length]; exact h), List.append_assoc]

theorem flat_setw (pre post : List Blk) (c : Nat) (ws : List Nat) (i x : Nat) (h : i < ws.length) : (flat (pre ++ .obj c ws :: post)).set (siz pre + 2 + i) x = flat (pre ++ .obj c (ws.set i x) :: post) := by
  have := flat_set pre post (.obj c ws) (i + 2) x (by simp [Blk.len]; omega)
  rw [show siz pre + (i + 2) = siz pre + 2 + i by omega] at this
  rw [this, flat_append, flat_cons]
  simp [Blk.words]

def clsA (bs : List Blk) (a : Int) : Int := match objAt bs a with | some x => (x.1 : Int) | none => 0
def cntA (bs : List Blk) (a : Int) : Int := match objAt bs a with | some x => (x.2.length : Int) | none => 0
def errA (b : Bool) : Int := if b then 0 else 111
def hasW (bs : List Blk) (a i : Int) : Bool := match objAt bs a with | some x => decide (0 ≤ i ∧ i < (x.2.length : Int)) | none => false
def getW (bs : List Blk) (a i : Int) : Int := match objAt bs a with | some x => if 0 ≤ i ∧ i < (x.2.length : Int) then (x.2.getD i.toNat 0 : Int) else 0 | none => 0
def putB : List Blk → Int → Int → Nat → List Blk
  | [], _, _, _ => []
  | b :: r, a, i, v => if a = 1 then b.put i v :: r else b :: putB r (a - (b.len : Int)) i v

theorem putB_at (pre post : List Blk) (c : Nat) (ws : List Nat) (i v : Nat) : putB (pre ++ .obj c ws :: post) ((siz pre : Int) + 1) (i : Int) v = pre ++ .obj c (ws.set i v) :: post := by
  induction pre with
  | nil => simp [putB, siz_nil, Blk.put]
  | cons x r ih =>
    have := x.len_pos
    rw [List.cons_append, putB, if_neg (by rw [siz_cons]; omega), siz_cons]
    rw [show ((x.len + siz r : Nat) : Int) + 1 - (x.len : Int) = (siz r : Int) + 1 by omega, ih]
    rfl

theorem putB_none (bs : List Blk) (a i : Int) (v : Nat) (h : hasW bs a i = false) : putB bs a i v = bs := by
  induction bs generalizing a with
  | nil => rfl
  | cons b r ih =>
    unfold hasW at h
    rw [objAt] at h
    rw [putB]
    by_cases e : a = 1
    · rw [if_pos e] at h ⊢
      cases b with
      | free j => rfl
      | obj c ws =>
        simp only [Blk.told, decide_eq_false_iff_not] at h
        simp only [Blk.put, List.cons.injEq, Blk.obj.injEq, and_true, true_and]
        split
        · exact List.set_eq_of_length_le (by omega)
        · rfl
    · rw [if_neg e] at h ⊢
      rw [ih _ h]

/-- What is at an address: an object, or nothing that counts. -/
theorem at_cases (bs : List Blk) (a : Int) : (objAt bs a = none ∧ beg bs a = false) ∨ ∃ pre c ws post, bs = pre ++ .obj c ws :: post ∧ a = (siz pre : Int) + 1 ∧ beg bs a = true ∧ objAt bs a = some (c, ws) := by
  cases h : objAt bs a with
  | none => exact .inl ⟨rfl, by rw [beg_obj, h]; rfl⟩
  | some x =>
    obtain ⟨c, ws⟩ := x
    obtain ⟨pre, post, h1, h2⟩ := objAt_split h
    exact .inr ⟨pre, c, ws, post, h1, h2, by rw [beg_obj, h]; rfl, rfl⟩

theorem siz_le {pre post : List Blk} {b : Blk} {n : Nat} (h : (flat (pre ++ b :: post)).length ≤ n) : siz pre + b.len ≤ n := by
  have e : siz (pre ++ b :: post) ≤ n := h
  rw [siz_append, siz_cons] at e
  omega

set_option maxRecDepth 100000 in
theorem has_any (w : World) (p g : Nat) (bs : List Blk) (h : HP w p g bs) (a i : Int) (ha : a ≤ 9223372036854775807) :
    Calls Try.prog 43 #[.pointer (some ⟨p, 0, none⟩), .int .i64 a, .int .i64 i] w fun e w' => e = .returned (.bool (hasW bs a i)) ∧ ∃ m, w' = w.drewN m := by
  have BG := begins_any w p g bs h a ha
  rcases at_cases bs a with ⟨ho, hb⟩ | ⟨pre, c, ws, post, he, rfl, hb, ho⟩
  · have HO : Hid (hasW bs a i = false) := by unfold Hid hasW; rw [ho]
    rw [hb] at BG
    clear h ho hb
    go_enter Try.func43, Try.ntmps43
    go_wp2_with fail
    refine BG.mono ?_
    rintro e w1 ⟨rfl, m1, rfl⟩
    go_wp2_with fail
    go_ret
    exact ⟨by rw [HO.out]; rfl, m1, rfl⟩
  · have HO : Hid (hasW bs ((siz pre : Int) + 1) i = decide (0 ≤ i ∧ i < (ws.length : Int))) := by unfold Hid hasW; rw [ho]
    rw [hb] at BG
    have hl := h.len
    have hsz : siz pre + (ws.length + 2) ≤ 2048 := by rw [he] at hl; exact siz_le hl
    have LO : ∀ m, Calls Try.prog 41 #[.pointer (some ⟨p, 0, none⟩), .int .i64 ((siz pre : Int) + 1)] (w.drewN m) fun e w' => e = .returned (.int .i64 ((ws.length + 2 : Nat) : Int)) ∧ ∃ m', w' = (w.drewN m).drewN m' :=
      fun m => length_any (w.drewN m) p g (flat bs) (h.drewN m) (siz pre) (ws.length + 2) 1 (by rw [he]; exact flat_head pre (.obj c ws) post) (by omega) (by omega)
    clear h ho hb hl he
    generalize siz pre = k at *
    generalize ws.length = n at *
    by_cases h0 : 0 ≤ i
    · by_cases h1 : i < (n : Int)
      · have HD : Hid (decide (0 ≤ i ∧ i < (n : Int)) = true) := decide_eq_true ⟨h0, h1⟩
        go_enter Try.func43, Try.ntmps43
        go_wp2_with fail
        refine BG.mono ?_
        rintro e w1 ⟨rfl, m1, rfl⟩
        go_wp2_with fail
        refine (LO m1).mono ?_
        rintro e w1 ⟨rfl, m2, rfl⟩
        go_wp2_with fail
        go_ret
        exact ⟨by rw [HO.out, HD.out]; rfl, m1 + m2, by simp⟩
      · have HD : Hid (decide (0 ≤ i ∧ i < (n : Int)) = false) := decide_eq_false (fun x => h1 x.2)
        go_enter Try.func43, Try.ntmps43
        go_wp2_with fail
        refine BG.mono ?_
        rintro e w1 ⟨rfl, m1, rfl⟩
        go_wp2_with fail
        refine (LO m1).mono ?_
        rintro e w1 ⟨rfl, m2, rfl⟩
        go_wp2_with fail
        go_ret
        exact ⟨by rw [HO.out, HD.out]; simp; omega, m1 + m2, by simp⟩
    · have hd : decide (0 ≤ i) = false := decide_eq_false h0
      have HD : Hid (decide (0 ≤ i ∧ i < (n : Int)) = false) := decide_eq_false (fun x => h0 x.1)
      go_enter Try.func43, Try.ntmps43
      go_wp2_with fail
      refine BG.mono ?_
      rintro e w1 ⟨rfl, m1, rfl⟩
      go_wp2_with fail
      go_ret
      exact ⟨by rw [HO.out, HD.out]; rfl, m1, rfl⟩
end Go.Proofs.Ytopcbcdigllenaa
