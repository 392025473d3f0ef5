/- SchedMany. -/
import Derived.Test.YtancclmnliiijaaJp
import Derived.Deep.CutBlock
namespace Go.Proofs.Ytancclmnliiijaa
open Go.ChangeShapes Go.WideShapes Go.ChangeAt Go.RowKit

/-- Threads that are ready or have ended. -/
structure MI (m : Nat) (T : List (Int × Int)) : Prop where
  len : T.length = 12
  mm : m ≤ 12
  all : ∀ j x, j < m → T[j]? = some x → x.1 = 1 ∨ x.1 = 5

theorem MI.begin {m : Nat} (h : m ≤ 12) : MI m (rT m) := ⟨by simp [rT]; omega, h, fun j x hj hx => by
  rw [rT_get hj] at hx
  obtain rfl := Option.some.inj hx
  exact .inl rfl⟩

theorem sel_drop {P : Int × Int → Bool} {T : List (Int × Int)} {m j : Nat} {x y : Int × Int} (hj : j < m) (hx : T[j]? = some x) (h1 : P x = true) (h2 : P y = false) : (sel P T m).length = (sel P (T.set j y) m).length + 1 := by
  have hl := (List.getElem?_eq_some_iff.1 hx).1
  induction m with
  | zero => omega
  | succ m ih =>
    by_cases e : j = m
    · subst e
      rw [sel_yes hx h1, sel_no (x := y) (by rw [List.getElem?_set_self hl]) h2, sel_congr (P := P) (Q := P) (T := T) (U := T.set j y) (fun i hi => by rw [List.getElem?_set_ne (by omega)])]
      simp
    · have := ih (by omega)
      simp only [sel, List.length_append]
      rw [List.getElem?_set_ne e, this]
      omega

theorem sel_has {P : Int × Int → Bool} {T : List (Int × Int)} {m j : Nat} {x : Int × Int} (hj : j < m) (hx : T[j]? = some x) (h : P x = true) : 0 < (sel P T m).length := by
  induction m with
  | zero => omega
  | succ m ih =>
    by_cases e : j = m
    · subst e
      rw [sel_yes hx h]
      simp
    · have := ih (by omega)
      simp only [sel, List.length_append]
      omega

theorem sel_rT : ∀ {m : Nat}, m ≤ 12 → (sel rdy (rT m) m).length = m := by
  have : ∀ m : Nat, m ≤ 12 → (sel rdy (rT m) m).length = m := by decide
  exact fun {m} h => this m h

section
variable {m : Nat} {T : List (Int × Int)}

theorem MI.over (h : MI m T) (h0 : (sel rdy T m).length = 0) : ovr m T = true := by
  refine (ovr_iff m T).2 fun j x hj hx => ?_
  rcases h.all j x hj hx with e | e
  · have := sel_has (P := rdy) hj hx (by simp [rdy, e])
    omega
  · exact e

theorem MI.step (h : MI m T) (k : Int) (h0 : 0 < (sel rdy T m).length) : In (pkN (sel rdy T m) k) ∧ endE m T (pkN (sel rdy T m) k) = 0 ∧ MI m (endT m T (pkN (sel rdy T m) k)) ∧ (sel rdy (endT m T (pkN (sel rdy T m) k)) m).length + 1 = (sel rdy T m).length := by
  obtain ⟨i, -, -, hi⟩ := pk_at k h0
  obtain ⟨j, x, e, hj, hx, hr⟩ := sel_mem (List.mem_of_getElem? hi)
  rw [e]
  have hx1 : x.1 = 1 := by simpa [rdy] using hr
  have hm := h.mm
  have hl := h.len
  have s1 : stA m T ((j : Int) + 1) = 1 := by rw [stA_yes hj hx, hx1]
  have e1 : endT m T ((j : Int) + 1) = T.set j (5, x.2) := by
    have : endT m T ((j : Int) + 1) = upto (fre ((j : Int) + 1)) m (T.set j (5, x.2)) := by simp [endT, endQ, end1, s1, plc_eq hx]
    rw [this, upto_skip (Nat.zero_le m) (fun i y _ hi hy => fre_no (jn_no4 ?_)), upto_zero]
    by_cases hij : j = i
    · subst hij
      rw [List.getElem?_set_self (by omega)] at hy
      obtain rfl := Option.some.inj hy
      show (5 : Int) ≠ 4
      decide
    · rw [List.getElem?_set_ne hij] at hy
      rcases h.all i y hi hy with e | e <;> omega
  refine ⟨⟨by omega, by omega⟩, by simp [endE, endQ, s1], ?_, ?_⟩
  · rw [e1]
    refine ⟨by simpa using hl, hm, fun i y hi hy => ?_⟩
    by_cases hij : j = i
    · subst hij
      rw [List.getElem?_set_self (by omega)] at hy
      obtain rfl := Option.some.inj hy
      exact .inr rfl
    · rw [List.getElem?_set_ne hij] at hy
      exact h.all i y hi hy
  · rw [e1, sel_drop (P := rdy) (y := (5, x.2)) hj hx hr rfl]
end

set_option maxRecDepth 100000 in
set_option maxHeartbeats 4000000 in
theorem many_any (w : World) (a : Nat) (v : Value) (l : List Nat) (ha : a ≤ 255) (h : RdG elY w v l) (hb : ∀ c ∈ l, c < 256) : Calls Try.prog 6 #[.int .u8 (a : Int), v] w fun e w' => e = .returned (.bool true) ∧ Fr no w w' := by
  have HR : Hid (RdG elY w v l) := h
  have HB : Hid (∀ c ∈ l, c < 256) := hb
  obtain ⟨ad, cp, rfl⟩ := h.form
  have KN := known_any w
  clear h hb
  generalize hn : l.length = n at *
  by_cases hlen : n > 30
  · have hlen' : (n : Int) > 30 := by omega
    go_enter Try.func6, Try.ntmps6
    go_wp2_with fail
    refine KN.mono ?_
    rintro _ w1 ⟨rfl, f1⟩
    have HF : Hid _ := f1
    clear KN f1
    go_wp2_with fail
    go_ret
    exact ⟨rfl, HF.out⟩
  · have hlen' : ¬ ((n : Int) > 30) := by omega
    go_enter Try.func6, Try.ntmps6
    go_wp2_with fail
    refine KN.mono ?_
    rintro _ w1 ⟨rfl, f1⟩
    have NW := Js.new f1
    clear KN f1
    go_wp2_with fail
    refine NW.mono ?_
    rintro _ w2 ⟨p, rfl, j2, -⟩
    have HJ2 : Hid _ := j2
    have OV := over_any j2.ps
    rw [show ovr 0 z12 = true by decide] at OV
    have SK := stuck_any j2.ps
    rw [show stk 0 z12 = false by decide] at SK
    clear NW j2
    go_wp2_with fail
    refine OV.mono ?_
    rintro _ w3 ⟨rfl, hw3⟩
    subst hw3
    clear OV
    go_wp2_with fail
    refine SK.mono ?_
    rintro _ w4 ⟨rfl, hw4⟩
    subst hw4
    clear SK
    go_wp2_with fail
    obtain ⟨k, hk⟩ : ∃ k : Nat, (a : Int) % 16 = (k : Int) := ⟨a % 16, by omega⟩
    have hk2 : k ≤ 15 := by omega
    rw [hk]
    clear hk
    go_loopw [7] (fun iv wr => ∃ j : Nat, iv = .int .i64 ((j : Int) + 1) ∧ j ≤ k ∧ Js w wr p (min j 12) (rT (min j 12))) (fun iv _ => k + 1 - (intOf iv).toNat)
    case atStart => exact ⟨0, rfl, Nat.zero_le _, HJ2.out⟩
    case round =>
      clear HJ2
      obtain ⟨j, rfl, hj, js⟩ := hrel
      by_cases hjk : j < k
      · have hjk' : (j : Int) + 1 ≤ (k : Int) := by omega
        by_cases hj12 : j < 12
        · rw [show min j 12 = j by omega] at js
          have SP := js.spawn hj12
          rw [rT_step j hj12] at SP
          have hle : (j : Int) + 1 ≤ 12 := by omega
          clear js
          go_wp2_with fail
          refine SP.mono ?_
          rintro _ w3 ⟨rfl, j3, -⟩
          have HJ3 : Hid _ := j3
          clear SP j3
          go_wp2_with fail
          go_roundw
          case rel => exact ⟨j + 1, by go_num, by omega, by rw [show min (j + 1) 12 = j + 1 by omega]; exact HJ3.out⟩
          case measure => simp [intOf]; omega
        · rw [show min j 12 = 12 by omega] at js
          have SP := js.full
          have hle : ¬ ((j : Int) + 1 ≤ 12) := by omega
          have HJ3 : Hid _ := js
          clear js
          go_wp2_with fail
          refine SP.mono ?_
          rintro _ w3 ⟨rfl, hw3⟩
          subst hw3
          clear SP
          go_wp2_with fail
          go_roundw
          case rel => exact ⟨j + 1, by go_num, by omega, by rw [show min (j + 1) 12 = 12 by omega]; exact HJ3.out⟩
          case measure => simp [intOf]; omega
      · obtain rfl : j = k := by omega
        have hjk' : ¬ ((j : Int) + 1 ≤ (j : Int)) := by omega
        by_cases h12 : j ≤ 12
        · rw [show min j 12 = j by omega] at js
          have hm12 := h12
          have h12' : (j : Int) ≤ 12 := by omega
          have HJ3 : Hid _ := js
          have HC0 : Hid ((sel rdy (rT j) j).length + 0 = j) := by rw [Hid, sel_rT h12]; rfl
          clear js
          go_wp2_with fail
          go_loopw [10] (fun iv wr => ∃ (i : Nat) (T : List (Int × Int)), iv = .int .i64 (i : Int) ∧ Js w wr p j T ∧ MI j T ∧ (sel rdy T j).length + i = j) (fun iv _ => 20 - (intOf iv).toNat)
          case atStart => exact ⟨0, _, rfl, HJ3.out, MI.begin hm12, HC0.out⟩
          case round =>
            clear HJ3 HC0
            obtain ⟨i, T, rfl, js, mi, hc⟩ := hrel
            have RD := js.ready
            have HJ : Hid (Js w wr p j T ∧ MI j T ∧ (sel rdy T j).length + i = j) := ⟨js, mi, hc⟩
            clear js mi hc
            go_wp2_with fail
            refine RD.mono ?_
            rintro _ w5 ⟨o5, k5, c5, rfl, hk5, -, -, f5⟩
            have HJ5 : Hid (Js w w5 p j T) := HJ.out.1.keep f5
            clear RD f5
            by_cases hpos : 0 < k5
            · have hpos' : (k5 : Int) > 0 := by omega
              have hi20 : i < 20 := by have := HJ.out.2.2; omega
              have hi20' : ¬ ((i : Int) > 20) := by omega
              have ST : Hid (∀ q : Int, In (pkN (sel rdy T j) q) ∧ endE j T (pkN (sel rdy T j) q) = 0 ∧ MI j (endT j T (pkN (sel rdy T j) q)) ∧ (sel rdy (endT j T (pkN (sel rdy T j) q)) j).length + 1 = (sel rdy T j).length) := fun q => HJ.out.2.1.step q (by omega)
              have PK : Hid (∀ q : Int, Calls Try.prog 18 #[.pointer (some ⟨p, 0, none⟩), .int .i64 q] w5 fun e w' => e = .returned (.tuple #[.int .i64 (pkN (sel rdy T j) q), .bool true]) ∧ Fr no w5 w') := fun q => by
                have := HJ5.out.pick q
                rw [show pkO (sel rdy T j) = true by unfold pkO; cases hs : sel rdy T j with | nil => (rw [hs] at hk5; simp at hk5; omega) | cons _ _ => rfl] at this
                exact this
              have EN : Hid (∀ (q : Int) (w6 : World), Fr no w5 w6 → Calls Try.prog 15 #[.pointer (some ⟨p, 0, none⟩), .int .i64 (pkN (sel rdy T j) q)] w6 fun e w' => ∃ o k c, e = .returned (.tuple #[.slice o k c, .int .i64 0]) ∧ Js w w' p j (endT j T (pkN (sel rdy T j) q))) := fun q w6 f6 => by
                have := (HJ5.out.keep f6).end_ (pkN (sel rdy T j) q) (ST.out q).1
                rw [(ST.out q).2.1] at this
                refine this.mono ?_
                rintro _ _ ⟨o, k, c, he, -, -, -, j, -⟩
                exact ⟨o, k, c, he, j⟩
              have HCN : Hid (∀ q : Int, (sel rdy (endT j T (pkN (sel rdy T j) q)) j).length + (i + 1) = j) := fun q => by
                have h1 := (ST.out q).2.2.2
                have h2 := HJ.out.2.2
                omega
              by_cases hin : i < n
              · have hin' : (i : Int) < (n : Int) := by omega
                obtain ⟨x, hx⟩ : ∃ x, l[i]? = some x := ⟨_, List.getElem?_eq_getElem (by omega)⟩
                obtain ⟨b0, o0, hov, hc0⟩ := (HR.out.keep HJ5.out.fr).at1 (u := .int .u8 (x : Int)) rfl rfl hx
                have hx256 := HB.out x (List.mem_of_getElem? hx)
                subst hov
                have P1 := PK.out (x : Int)
                clear hx
                go_wp2_with fail
                refine P1.mono ?_
                rintro _ w6 ⟨rfl, f6⟩
                have E1 := EN.out (x : Int) w6 f6
                clear P1 f6
                go_wp2_with fail
                refine E1.mono ?_
                rintro _ w7 ⟨o7, k7, c7, rfl, j7⟩
                have HJ7 : Hid _ := j7
                clear E1 j7 hc0
                go_wp2_with fail
                go_roundw
                case rel => exact ⟨i + 1, _, by go_num, HJ7.out, (ST.out _).2.2.1, HCN.out _⟩
                case measure => simp [intOf]; omega
              · have hin' : ¬ ((i : Int) < (n : Int)) := by omega
                have P1 := PK.out 0
                go_wp2_with fail
                refine P1.mono ?_
                rintro _ w6 ⟨rfl, f6⟩
                have E1 := EN.out 0 w6 f6
                clear P1 f6
                go_wp2_with fail
                refine E1.mono ?_
                rintro _ w7 ⟨o7, k7, c7, rfl, j7⟩
                have HJ7 : Hid _ := j7
                clear E1 j7
                go_wp2_with fail
                go_roundw
                case rel => exact ⟨i + 1, _, by go_num, HJ7.out, (ST.out _).2.2.1, HCN.out _⟩
                case measure => simp [intOf]; omega
            · obtain rfl : k5 = 0 := by omega
              have OV := over_any HJ5.out.ps
              have ho := HJ.out.2.1.over hk5.symm
              rw [ho] at OV
              have SK := stuck_any HJ5.out.ps
              rw [show stk j T = false by simp [stk, ho]] at SK
              have LN := len_any HJ5.out.ps
              clear hk5 ho
              go_wp2_with fail
              refine OV.mono ?_
              rintro _ w6 ⟨rfl, hw6⟩
              subst hw6
              clear OV
              go_wp2_with fail
              refine SK.mono ?_
              rintro _ w6 ⟨rfl, hw7⟩
              subst hw7
              clear SK
              go_wp2_with fail
              refine LN.mono ?_
              rintro _ w6 ⟨rfl, hw8⟩
              subst hw8
              clear LN
              go_wp2_with fail
              go_ret
              exact ⟨rfl, HJ5.out.fr⟩
        · rw [show min j 12 = 12 by omega] at js
          have hm12 : 12 ≤ 12 := Nat.le_refl _
          have h12' : ¬ ((j : Int) ≤ 12) := by omega
          have HJ3 : Hid _ := js
          have HC0 : Hid ((sel rdy (rT 12) 12).length + 0 = 12) := by rw [Hid, sel_rT (by omega)]
          clear js
          go_wp2_with fail
          go_loopw [10] (fun iv wr => ∃ (i : Nat) (T : List (Int × Int)), iv = .int .i64 (i : Int) ∧ Js w wr p 12 T ∧ MI 12 T ∧ (sel rdy T 12).length + i = 12) (fun iv _ => 20 - (intOf iv).toNat)
          case atStart => exact ⟨0, _, rfl, HJ3.out, MI.begin hm12, HC0.out⟩
          case round =>
            clear HJ3 HC0
            obtain ⟨i, T, rfl, js, mi, hc⟩ := hrel
            have RD := js.ready
            have HJ : Hid (Js w wr p 12 T ∧ MI 12 T ∧ (sel rdy T 12).length + i = 12) := ⟨js, mi, hc⟩
            clear js mi hc
            go_wp2_with fail
            refine RD.mono ?_
            rintro _ w5 ⟨o5, k5, c5, rfl, hk5, -, -, f5⟩
            have HJ5 : Hid (Js w w5 p 12 T) := HJ.out.1.keep f5
            clear RD f5
            by_cases hpos : 0 < k5
            · have hpos' : (k5 : Int) > 0 := by omega
              have hi20 : i < 20 := by have := HJ.out.2.2; omega
              have hi20' : ¬ ((i : Int) > 20) := by omega
              have ST : Hid (∀ q : Int, In (pkN (sel rdy T 12) q) ∧ endE 12 T (pkN (sel rdy T 12) q) = 0 ∧ MI 12 (endT 12 T (pkN (sel rdy T 12) q)) ∧ (sel rdy (endT 12 T (pkN (sel rdy T 12) q)) 12).length + 1 = (sel rdy T 12).length) := fun q => HJ.out.2.1.step q (by omega)
              have PK : Hid (∀ q : Int, Calls Try.prog 18 #[.pointer (some ⟨p, 0, none⟩), .int .i64 q] w5 fun e w' => e = .returned (.tuple #[.int .i64 (pkN (sel rdy T 12) q), .bool true]) ∧ Fr no w5 w') := fun q => by
                have := HJ5.out.pick q
                rw [show pkO (sel rdy T 12) = true by unfold pkO; cases hs : sel rdy T 12 with | nil => (rw [hs] at hk5; simp at hk5; omega) | cons _ _ => rfl] at this
                exact this
              have EN : Hid (∀ (q : Int) (w6 : World), Fr no w5 w6 → Calls Try.prog 15 #[.pointer (some ⟨p, 0, none⟩), .int .i64 (pkN (sel rdy T 12) q)] w6 fun e w' => ∃ o k c, e = .returned (.tuple #[.slice o k c, .int .i64 0]) ∧ Js w w' p 12 (endT 12 T (pkN (sel rdy T 12) q))) := fun q w6 f6 => by
                have := (HJ5.out.keep f6).end_ (pkN (sel rdy T 12) q) (ST.out q).1
                rw [(ST.out q).2.1] at this
                refine this.mono ?_
                rintro _ _ ⟨o, k, c, he, -, -, -, j, -⟩
                exact ⟨o, k, c, he, j⟩
              have HCN : Hid (∀ q : Int, (sel rdy (endT 12 T (pkN (sel rdy T 12) q)) 12).length + (i + 1) = 12) := fun q => by
                have h1 := (ST.out q).2.2.2
                have h2 := HJ.out.2.2
                omega
              by_cases hin : i < n
              · have hin' : (i : Int) < (n : Int) := by omega
                obtain ⟨x, hx⟩ : ∃ x, l[i]? = some x := ⟨_, List.getElem?_eq_getElem (by omega)⟩
                obtain ⟨b0, o0, hov, hc0⟩ := (HR.out.keep HJ5.out.fr).at1 (u := .int .u8 (x : Int)) rfl rfl hx
                have hx256 := HB.out x (List.mem_of_getElem? hx)
                subst hov
                have P1 := PK.out (x : Int)
                clear hx
                go_wp2_with fail
                refine P1.mono ?_
                rintro _ w6 ⟨rfl, f6⟩
                have E1 := EN.out (x : Int) w6 f6
                clear P1 f6
                go_wp2_with fail
                refine E1.mono ?_
                rintro _ w7 ⟨o7, k7, c7, rfl, j7⟩
                have HJ7 : Hid _ := j7
                clear E1 j7 hc0
                go_wp2_with fail
                go_roundw
                case rel => exact ⟨i + 1, _, by go_num, HJ7.out, (ST.out _).2.2.1, HCN.out _⟩
                case measure => simp [intOf]; omega
              · have hin' : ¬ ((i : Int) < (n : Int)) := by omega
                have P1 := PK.out 0
                go_wp2_with fail
                refine P1.mono ?_
                rintro _ w6 ⟨rfl, f6⟩
                have E1 := EN.out 0 w6 f6
                clear P1 f6
                go_wp2_with fail
                refine E1.mono ?_
                rintro _ w7 ⟨o7, k7, c7, rfl, j7⟩
                have HJ7 : Hid _ := j7
                clear E1 j7
                go_wp2_with fail
                go_roundw
                case rel => exact ⟨i + 1, _, by go_num, HJ7.out, (ST.out _).2.2.1, HCN.out _⟩
                case measure => simp [intOf]; omega
            · obtain rfl : k5 = 0 := by omega
              have OV := over_any HJ5.out.ps
              have ho := HJ.out.2.1.over hk5.symm
              rw [ho] at OV
              have SK := stuck_any HJ5.out.ps
              rw [show stk 12 T = false by simp [stk, ho]] at SK
              have LN := len_any HJ5.out.ps
              clear hk5 ho
              go_wp2_with fail
              refine OV.mono ?_
              rintro _ w6 ⟨rfl, hw6⟩
              subst hw6
              clear OV
              go_wp2_with fail
              refine SK.mono ?_
              rintro _ w6 ⟨rfl, hw7⟩
              subst hw7
              clear SK
              go_wp2_with fail
              refine LN.mono ?_
              rintro _ w6 ⟨rfl, hw8⟩
              subst hw8
              clear LN
              go_wp2_with fail
              go_ret
              exact ⟨rfl, HJ5.out.fr⟩
end Go.Proofs.Ytancclmnliiijaa
