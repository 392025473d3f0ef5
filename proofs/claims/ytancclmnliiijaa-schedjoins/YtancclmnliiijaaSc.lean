/- Spawn, Set, Join. -/
import Derived.Test.YtancclmnliiijaaSb
namespace Go.Proofs.Ytancclmnliiijaa
open Go.ChangeShapes Go.WideShapes Go.ChangeAt Go.RowKit

def In (a : Int) : Prop := -9223372036854775808 ≤ a ∧ a ≤ 9223372036854775807

theorem stA_there {n : Nat} {T : List (Int × Int)} {id : Int} (hn : n ≤ T.length) (h : stA n T id ≠ 0) : ∃ (i : Nat) (x : Int × Int), id = (i : Int) + 1 ∧ i < n ∧ T[i]? = some x ∧ x.1 = stA n T id := by
  by_cases h1 : id < 1 ∨ (n : Int) < id
  · exact absurd (stA_no h1) h
  · obtain ⟨i, rfl⟩ : ∃ i : Nat, id = (i : Int) + 1 := ⟨(id - 1).toNat, by omega⟩
    have hi : i < n := by omega
    obtain ⟨x, hx⟩ : ∃ x, T[i]? = some x := ⟨_, List.getElem?_eq_getElem (by omega)⟩
    exact ⟨i, x, rfl, hi, hx, (stA_yes hi hx).symm⟩

/-- The place of a number. -/
def plc (T : List (Int × Int)) (id : Int) : Int × Int := (T[(id - 1).toNat]?).getD (0, 0)

theorem plc_eq {T : List (Int × Int)} {i : Nat} {x : Int × Int} (h : T[i]? = some x) : plc T ((i : Int) + 1) = x := by
  unfold plc
  rw [show ((i : Int) + 1 - 1).toNat = i by omega, h]
  rfl

theorem at_eq (i : Nat) : ((i : Int) + 1 - 1).toNat = i := by omega

def setQ (n : Nat) (T : List (Int × Int)) (id s : Int) : Bool := sbl (stA n T id) && sbl s
def setE (n : Nat) (T : List (Int × Int)) (id s : Int) : Int := if setQ n T id s then 0 else 140
def setT (n : Nat) (T : List (Int × Int)) (id s : Int) : List (Int × Int) := if setQ n T id s then T.set (id - 1).toNat (s, (plc T id).2) else T

def joinQ (n : Nat) (T : List (Int × Int)) (id o : Int) : Bool := stA n T id == 1 && stA n T o != 0
def joinE (n : Nat) (T : List (Int × Int)) (id o : Int) : Int := if joinQ n T id o then 0 else 140
def joinR (n : Nat) (T : List (Int × Int)) (id o : Int) : Bool := joinQ n T id o && stA n T o == 5
def joinT (n : Nat) (T : List (Int × Int)) (id o : Int) : List (Int × Int) := if joinQ n T id o && stA n T o != 5 then T.set (id - 1).toNat (4, o) else T

section
variable {w : World} {p n : Nat} {T : List (Int × Int)}

theorem spawn_full (h : PS w p 12 T) : Calls Try.prog 9 #[.pointer (some ⟨p, 0, none⟩)] w fun e w' => e = .returned (.tuple #[.int .i64 0, .int .i64 140]) ∧ w' = w := by
  have hb := h.begun
  clear h
  go_enter Try.func9, Try.ntmps9
  go_wp2_with fail
  go_ret2
  exact ⟨rfl, rfl⟩

set_option maxRecDepth 100000 in
theorem spawn_ok (h : PS w p n T) (hn : n < 12) {c : Nat} (hc : c ≤ p) : Calls Try.prog 9 #[.pointer (some ⟨p, 0, none⟩)] w fun e w' => e = .returned (.tuple #[.int .i64 ((n : Int) + 1), .int .i64 0]) ∧ PS w' p (n + 1) (T.set n (1, (T.getD n (0, 0)).2)) ∧ Fr (Tk [63] c w) w w' := by
  have hb := h.begun
  have hnb : ((n : Int) == 12) = false := by simp; omega
  obtain ⟨x, hx⟩ := h.nth hn
  obtain ⟨c0, -⟩ := h.at hx
  have hz := h.thaw
  have h1 := h.keep ((Fr.refl no w).drew)
  have h2 := h1.put1 hx 1
  have h3 := h2.put0 (n + 1) (by omega)
  have hb2 := h2.begun
  have hz2 := h2.thaw
  have hb3 := h3.begun
  rw [show (T.getD n (0, 0)).2 = x.2 by rw [List.getD_eq_getElem?_getD, hx]; rfl]
  have HP : Hid _ := h3
  have HF : Hid (Fr (Tk [63] c w) w ((w.drew.setCell ⟨p, 1 + n * 2, none⟩ (.int .i64 1)).setCell ⟨p, 0, none⟩ (.int .i64 ((n + 1 : Nat) : Int)))) := ((Fr.refl _ w).drew.setCell (fun _ => h.tp hc) _).setCell (fun _ => h.tp hc) _
  clear h h1 h2 h3 hx
  go_enter Try.func9, Try.ntmps9
  go_wp2_with fail
  go_region
  go_wp2_with fail
  go_ret2
  exact ⟨rfl, HP.out, HF.out⟩

set_option maxRecDepth 100000 in
theorem set_any (h : PS w p n T) (id s : Int) (hid : In id) {c : Nat} (hc : c ≤ p) : Calls Try.prog 11 #[.pointer (some ⟨p, 0, none⟩), .int .i64 id, .int .i64 s] w fun e w' => e = .returned (.int .i64 (setE n T id s)) ∧ PS w' p n (setT n T id s) ∧ Fr (Tk [63] c w) w w' := by
  have ST := state_any h id hid
  have hle := h.le
  cases hq : sbl (stA n T id) with
  | false =>
    have HZ : Hid (setE n T id s = 140 ∧ PS w p n (setT n T id s)) := by simp [Hid, setE, setT, setQ, hq]; exact h
    have SB := settable_any w (stA n T id)
    rw [hq] at SB
    clear h hq
    generalize stA n T id = sv at *
    go_enter Try.func11, Try.ntmps11
    go_wp2_with fail
    refine ST.mono ?_
    rintro _ w1 ⟨rfl, rfl⟩
    clear ST
    go_wp2_with fail
    refine SB.mono ?_
    rintro _ w1 ⟨rfl, rfl⟩
    go_wp2_with fail
    go_ret
    exact ⟨by rw [HZ.out.1]; rfl, HZ.out.2, Fr.refl _ _⟩
  | true =>
    cases hq2 : sbl s with
    | false =>
      have HZ : Hid (setE n T id s = 140 ∧ PS w p n (setT n T id s)) := by simp [Hid, setE, setT, setQ, hq2]; exact h
      have SB := settable_any w (stA n T id)
      have SB2 := settable_any w s
      rw [hq] at SB
      rw [hq2] at SB2
      clear h hq hq2
      generalize stA n T id = sv at *
      go_enter Try.func11, Try.ntmps11
      go_wp2_with fail
      refine ST.mono ?_
      rintro _ w1 ⟨rfl, rfl⟩
      clear ST
      go_wp2_with fail
      refine SB.mono ?_
      rintro _ w1 ⟨rfl, rfl⟩
      clear SB
      go_wp2_with fail
      refine SB2.mono ?_
      rintro _ w1 ⟨rfl, rfl⟩
      go_wp2_with fail
      go_ret
      exact ⟨by rw [HZ.out.1]; rfl, HZ.out.2, Fr.refl _ _⟩
    | true =>
      obtain ⟨i, x, rfl, hi, hx, hxs⟩ := stA_there (by rw [h.len]; exact hle) (id := id) (fun e => by rw [e] at hq; exact absurd hq (by decide))
      have HZ : Hid (setE n T ((i : Int) + 1) s = 0 ∧ setT n T ((i : Int) + 1) s = T.set i (s, x.2)) := by simp [Hid, setE, setT, setQ, hq, hq2, plc_eq hx]
      have SB := settable_any w (stA n T ((i : Int) + 1))
      have SB2 := settable_any w s
      rw [hq] at SB
      rw [hq2] at SB2
      have hz := h.thaw
      have HP : Hid _ := h.put1 hx s
      have HF : Hid (Fr (Tk [63] c w) w (w.setCell ⟨p, 1 + i * 2, none⟩ (.int .i64 s))) := (Fr.refl _ w).setCell (fun _ => h.tp hc) _
      obtain ⟨c0, -⟩ := h.at hx
      clear h hq hq2 hx hxs
      generalize stA n T ((i : Int) + 1) = sv at *
      go_enter Try.func11, Try.ntmps11
      go_wp2_with fail
      refine ST.mono ?_
      rintro _ w1 ⟨rfl, rfl⟩
      clear ST
      go_wp2_with fail
      refine SB.mono ?_
      rintro _ w1 ⟨rfl, rfl⟩
      clear SB
      go_wp2_with fail
      refine SB2.mono ?_
      rintro _ w1 ⟨rfl, rfl⟩
      clear SB2
      go_wp2_with fail
      go_ret
      exact ⟨by rw [HZ.out.1]; rfl, by rw [HZ.out.2]; exact HP.out, HF.out⟩

theorem joinQ_iff (id o : Int) : joinQ n T id o = true ↔ stA n T id = 1 ∧ stA n T o ≠ 0 := by simp [joinQ]

set_option maxRecDepth 100000 in
theorem join_any (h : PS w p n T) (id o : Int) (hid : In id) (ho : In o) {c : Nat} (hc : c ≤ p) : Calls Try.prog 13 #[.pointer (some ⟨p, 0, none⟩), .int .i64 id, .int .i64 o] w fun e w' => e = .returned (.tuple #[.bool (joinR n T id o), .int .i64 (joinE n T id o)]) ∧ PS w' p n (joinT n T id o) ∧ Fr (Tk [63] c w) w w' := by
  have ST := state_any h id hid
  have SO := state_any h o ho
  have hle := h.le
  by_cases h1 : stA n T id = 1
  · by_cases h0 : stA n T o = 0
    · have HZ : Hid (joinE n T id o = 140 ∧ joinR n T id o = false ∧ PS w p n (joinT n T id o)) := by simp [Hid, joinE, joinR, joinT, joinQ, h0]; exact h
      rw [h1] at ST
      rw [h0] at SO
      clear h h1 h0
      go_enter Try.func13, Try.ntmps13
      go_wp2_with fail
      refine SO.mono ?_
      rintro _ w1 ⟨rfl, rfl⟩
      clear SO
      go_wp2_with fail
      refine ST.mono ?_
      rintro _ w1 ⟨rfl, rfl⟩
      go_wp2_with fail
      go_ret2
      exact ⟨by rw [HZ.out.1, HZ.out.2.1]; rfl, HZ.out.2.2, Fr.refl _ _⟩
    · have g0 : (stA n T o == 0) = false := by simpa using h0
      by_cases h5 : stA n T o = 5
      · have HZ : Hid (joinE n T id o = 0 ∧ joinR n T id o = true ∧ PS w p n (joinT n T id o)) := by simp [Hid, joinE, joinR, joinT, joinQ, h5, h1]; exact h
        rw [h1] at ST
        rw [h5] at SO
        clear h h1 h0 h5 g0
        go_enter Try.func13, Try.ntmps13
        go_wp2_with fail
        refine SO.mono ?_
        rintro _ w1 ⟨rfl, rfl⟩
        clear SO
        go_wp2_with fail
        refine ST.mono ?_
        rintro _ w1 ⟨rfl, rfl⟩
        go_wp2_with fail
        go_ret2
        exact ⟨by rw [HZ.out.1, HZ.out.2.1]; rfl, HZ.out.2.2, Fr.refl _ _⟩
      · have g5 : (stA n T o == 5) = false := by simpa using h5
        obtain ⟨i, x, rfl, hi, hx, hxs⟩ := stA_there (by rw [h.len]; exact hle) (id := id) (fun e => by omega)
        have HZ : Hid (joinE n T ((i : Int) + 1) o = 0 ∧ joinR n T ((i : Int) + 1) o = false ∧ joinT n T ((i : Int) + 1) o = T.set i (4, o)) := by simp [Hid, joinE, joinR, joinT, joinQ, h1, g5, h0, h5]
        have hz := h.thaw
        have h2 := h.put1 hx 4
        have hz2 := h2.thaw
        have h3 := h2.put2 (i := i) (x := (4, x.2)) (by rw [List.getElem?_set_self (by rw [h.len]; omega)]) o
        rw [List.set_set] at h3
        have HP : Hid _ := h3
        have HF : Hid (Fr (Tk [63] c w) w ((w.setCell ⟨p, 1 + i * 2, none⟩ (.int .i64 4)).setCell ⟨p, 1 + i * 2 + 1, none⟩ (.int .i64 o))) := ((Fr.refl _ w).setCell (fun _ => h.tp hc) _).setCell (fun _ => h.tp hc) _
        obtain ⟨c0, c1⟩ := h.at hx
        rw [h1] at ST
        clear h h1 h0 h5 hx hxs h2 h3
        generalize stA n T o = sv at *
        go_enter Try.func13, Try.ntmps13
        go_wp2_with fail
        refine SO.mono ?_
        rintro _ w1 ⟨rfl, rfl⟩
        clear SO
        go_wp2_with fail
        refine ST.mono ?_
        rintro _ w1 ⟨rfl, rfl⟩
        clear ST
        go_wp2_with fail
        go_ret2
        exact ⟨by rw [HZ.out.1, HZ.out.2.1]; rfl, by rw [HZ.out.2.2]; exact HP.out, HF.out⟩
  · have g1 : (stA n T id != 1) = true := by simpa using h1
    have HZ : Hid (joinE n T id o = 140 ∧ joinR n T id o = false ∧ PS w p n (joinT n T id o)) := by simp [Hid, joinE, joinR, joinT, joinQ, h1]; exact h
    clear h h1
    generalize stA n T id = sv at *
    generalize stA n T o = so at *
    go_enter Try.func13, Try.ntmps13
    go_wp2_with fail
    refine SO.mono ?_
    rintro _ w1 ⟨rfl, rfl⟩
    clear SO
    go_wp2_with fail
    refine ST.mono ?_
    rintro _ w1 ⟨rfl, rfl⟩
    go_wp2_with fail
    go_ret2
    exact ⟨by rw [HZ.out.1, HZ.out.2.1]; rfl, HZ.out.2.2, Fr.refl _ _⟩
end
end Go.Proofs.Ytancclmnliiijaa
