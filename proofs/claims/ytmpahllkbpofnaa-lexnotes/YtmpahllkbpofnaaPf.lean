/- What stands at a place, by the program's own parts. -/
import Derived.Test.YtmpahllkbpofnaaPe
import Derived.Test.YtmpahllkbpofnaaXd
namespace Go.Proofs.Ytmpahllkbpofnaa
open Go.ChangeShapes Go.WideShapes Go.ChangeAt Go.RowKit

/-- At a place stands a token, or what is none: its error, and the token but for its place. -/
def OneIs (s : ByteArray) (a : Nat) (E : Nat) (x : Tk) : Prop :=
  (E ≠ 0 → ∃ b m, one s a = (b, m, E)) ∧ (E = 0 → one s a = (a + x.text.size, [{ x with at_ := (a : Int) }], 0) ∧ 0 < x.text.size ∧ a + x.text.size ≤ s.size)

section
variable (s : ByteArray) (a : Nat)
abbrev behind : ByteArray := s.extract a s.size
theorem nl_behind : (nl s).drop a = nl (behind s a) := (Y.sign_ext s a).symm
theorem size_behind : (behind s a).size = s.size - a := by
  show (s.extract a s.size).size = _
  rw [ByteArray.size_extract]
  omega
theorem at_behind : (nl (behind s a)).getD 0 0 = at0 s a := by rw [← nl_behind, Y.getD_drop]; rfl

theorem com_behind : isCom s a = decide ((nl (behind s a)).take 2 = [47, 47]) := by
  unfold isCom
  rw [← at_behind, Y.lt_drop, Y.at0_drop, nl_behind]
  cases nl (behind s a) with
  | nil => rfl
  | cons c r =>
    cases r with
    | nil => simp
    | cons d r => simp
theorem comE_behind : comE s a = a + (headT Y.notNl (behind s a)).size := by
  rw [headT_size, ← nl_behind]
  exact Y.comE_eq s a

variable {s a}
theorem one_name (ha : a < s.size) (hb : blankB (at0 s a) = false) (hc : isCom s a = false) (hl : letterB (at0 s a) true = true) : OneIs s a (nmErr (headT Y.letN (behind s a))) (nmTok (headT Y.letN (behind s a))) := by
  have hE := Y.wordE_eq s a
  have hsz := headT_size Y.letN (behind s a)
  have hnl := headT_nl Y.letN (behind s a)
  have hle := Y.tw_le Y.letN (nl (behind s a))
  rw [nl_length, size_behind] at hle
  have hpos : Y.tw Y.letN (nl (behind s a)) ≠ 0 := by
    intro h
    refine tw_zero.1 h ⟨by rw [nl_length, size_behind]; omega, ?_⟩
    rw [at_behind, letN_or, hl]
    rfl
  rw [nl_behind, ← hsz] at hE
  rw [← hsz] at hnl hle hpos
  generalize headT Y.letN (behind s a) = x at *
  have hx : s.extract a (a + x.size) = x := by
    rw [Y.ext_bytes, nl_behind, ← hnl, Y.bytes_nl]
  have ho : one s a = if 20 < x.size then (a, [], 32) else (a + x.size, [⟨if isWord x then 2 else 1, a, x, 0, 0, 0⟩], 0) := by
    unfold one wordTok
    rw [hb, hc, hl, hE, hx, Nat.add_sub_cancel_left]
    rfl
  unfold nmErr
  by_cases h20 : 20 < x.size
  · rw [if_pos h20] at ho ⊢
    exact ⟨fun _ => ⟨_, _, ho⟩, fun h => by omega⟩
  · rw [if_neg h20] at ho ⊢
    exact ⟨fun h => absurd rfl h, fun _ => ⟨ho, by show 0 < x.size; omega, by show a + x.size ≤ _; omega⟩⟩

theorem mk_at (k a : Nat) (t : List Nat) : { Y.mk k 0 t with at_ := (a : Int) } = Y.mk k a t := by
  unfold Y.mk
  split
  · rfl
  · split
    · split <;> rfl
    · rfl
theorem mk_text (k a : Nat) (t : List Nat) : (Y.mk k a t).text = Y.bytes t := by
  unfold Y.mk
  split
  · rfl
  · split
    · split <;> rfl
    · rfl

theorem one_num (ha : a < s.size) (hb : blankB (at0 s a) = false) (hc : isCom s a = false) (hl : letterB (at0 s a) true = false) (hd : digitB (at0 s a) = true) : OneIs s a (nbErr (behind s a)) (nbTok (behind s a)) := by
  have hE := Y.digE_eq s a
  have hN := Y.numEnd_eq s a
  have hR := Y.numErr_eq s a
  have hT := Y.numTok_eq s a
  have ho : one s a = (a + Y.endR (nl (behind s a)), [Y.mk (if Y.sufR (nl (behind s a)) (Y.tw digitB (nl (behind s a))) then 4 else 3) a ((nl (behind s a)).take (Y.endR (nl (behind s a))))], Y.errR (nl (behind s a))) := by
    unfold one
    rw [hb, hc, hl, hd, hE, hN, hR, hT, nl_behind]
    rfl
  have hp := nb_parts (behind s a) _ rfl _ rfl
  have hpos : Y.tw digitB (nl (behind s a)) ≠ 0 := by
    intro h
    refine tw_zero.1 h ⟨by rw [nl_length, size_behind]; omega, ?_⟩
    rw [at_behind]
    exact hd
  have hsz : (nbTok (behind s a)).text.size = Y.endR (nl (behind s a)) := by
    unfold nbTok
    rw [mk_text, Y.size_bytes, List.length_take, nl_length]
    omega
  have hs := size_behind s a
  unfold OneIs
  rw [hsz]
  unfold nbErr nbTok
  rw [mk_at]
  refine ⟨fun h => ⟨_, _, ho⟩, fun h => ⟨?_, by omega, by omega⟩⟩
  rw [ho, h]

theorem one_sign (ha : a < s.size) (hb : blankB (at0 s a) = false) (hc : isCom s a = false) (hl : letterB (at0 s a) true = false) (hd : digitB (at0 s a) = false) : OneIs s a (sgErr (behind s a)) (sgTok (behind s a)) := by
  have ho : one s a = if (signT (behind s a)).size = 0 then (a, [], 180) else (a + (signT (behind s a)).size, [⟨5, a, signT (behind s a), 0, 0, 0⟩], 0) := by
    unfold one signTok
    rw [hb, hc, hl, hd]
    rfl
  have hle := signT_le (behind s a)
  have hs := size_behind s a
  unfold sgErr
  by_cases h0 : (signT (behind s a)).size = 0
  · rw [if_pos h0] at ho ⊢
    exact ⟨fun _ => ⟨_, _, ho⟩, fun h => by omega⟩
  · rw [if_neg h0] at ho ⊢
    exact ⟨fun h => absurd rfl h, fun _ => ⟨ho, by show 0 < (signT (behind s a)).size; omega, by show a + (signT (behind s a)).size ≤ _; omega⟩⟩
end

/-- The lexer's loop: its list, its box for a token. -/
structure LxAt (w wr : World) (r : Nat) (lv : Value) (acc : List Tk) : Prop where
  own : OwnG elK wr lv acc
  new : NewV w lv
  fr : Fr no w wr
  box : ∃ y0 y1 y2 y3 y4, wr.heap[r]? = some (.cells #[y0, y1, y2, y3, y4] 35 (0, 0))
  ge : w.heap.size ≤ r
  ne : lv.ownBlock ≠ some r

theorem LxAt.keep {w wr w2 : World} {r : Nat} {lv : Value} {acc : List Tk} (h : LxAt w wr r lv acc) (F : Fr no wr w2) : LxAt w w2 r lv acc := by
  obtain ⟨y0, y1, y2, y3, y4, hb⟩ := h.box
  exact ⟨h.own.keep F, h.new, h.fr.and F, ⟨y0, y1, y2, y3, y4, F.heap hb (fun f => f)⟩, h.ge, h.ne⟩
theorem LxAt.bk {w wr w2 : World} {r : Nat} {lv : Value} {acc : List Tk} (h : LxAt w wr r lv acc) (F : Fr (Bk r) wr w2) (hb : ∃ y0 y1 y2 y3 y4, w2.heap[r]? = some (.cells #[y0, y1, y2, y3, y4] 35 (0, 0))) : LxAt w w2 r lv acc :=
  ⟨h.own.kept F (fun k hk e => h.ne (by unfold Bk at e; rw [hk, e])), h.new, h.fr.newBk F h.ge, hb, h.ge, h.ne⟩
theorem LxAt.app {w wr w3 : World} {r : Nat} {lv v' : Value} {acc acc' : List Tk} (h : LxAt w wr r lv acc) (o : OwnG elK w3 v' acc') (s : Sp lv wr v' w3) : LxAt w w3 r v' acc' := by
  obtain ⟨n, f⟩ := NewV.step (S := no) h.new h.fr s
  obtain ⟨y0, y1, y2, y3, y4, hb⟩ := h.box
  exact ⟨o, n, f, ⟨y0, y1, y2, y3, y4, s.1.heap hb h.ne⟩, h.ge, fun e => h.ne (s.2 r (lt_of_heap hb) e)⟩

theorem below_fr {w w' : World} (h : Below w.heap.size w w') : Fr no w w' :=
  ⟨h.os, h.output, h.size, fun k hk _ => h.block k hk, fun a ha => by
    unfold World.frozen?
    rw [h.block a.block ha]⟩

theorem pClone (w : World) (s : ByteArray) (hs : s.size ≤ 100000) : Calls Try.prog 26 #[.string s] w fun e w' => e = .returned (.string s) ∧ Fr no w w' := by
  have C := fun w => Try.stringslite_Clone s w (by omega)
  go_enter Try.func26, Try.ntmps26
  go_wp2_with fail
  refine (C _).mono ?_
  rintro _ w' ⟨rfl, h⟩
  go_wp2_with fail
  go_ret
  exact ⟨rfl, below_fr h⟩
end Go.Proofs.Ytmpahllkbpofnaa
