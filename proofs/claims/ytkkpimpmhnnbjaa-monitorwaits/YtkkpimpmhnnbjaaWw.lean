/- MonitorWaits, walked. -/
import Derived.Test.YtkkpimpmhnnbjaaOl
import Derived.Test.YtkkpimpmhnnbjaaFw
namespace Go.Proofs.Ytkkpimpmhnnbjaa
open Go.ChangeShapes Go.WideShapes Go.ChangeAt Go.RowKit

/-- The threads j + 1 up to j + k, each with its count. -/
def wv (d : Int) : Nat → Nat → List (Int × Int)
  | _, 0 => []
  | j, k + 1 => ((j : Int) + 1, d) :: wv d (j + 1) k

theorem wv_len (d : Int) (j k : Nat) : (wv d j k).length = k := by
  induction k generalizing j with
  | zero => rfl
  | succ k ih => simp [wv, ih]

theorem wv_snoc (d : Int) (j k : Nat) : wv d j k ++ [((j : Int) + (k : Int) + 1, d)] = wv d j (k + 1) := by
  induction k generalizing j with
  | zero => simp [wv]
  | succ k ih =>
    have := ih (j + 1)
    rw [show wv d j (k + 1 + 1) = ((j : Int) + 1, d) :: wv d (j + 1) (k + 1) from rfl, ← this]
    show ((j : Int) + 1, d) :: (wv d (j + 1) k ++ _) = _
    congr 4
    omega

theorem wv_take (d : Int) (j k m : Nat) (h : m ≤ k) : (wv d j k).take m = wv d j m := by
  induction k generalizing j m with
  | zero => obtain rfl : m = 0 := by omega
            rfl
  | succ k ih =>
    cases m with
    | zero => rfl
    | succ m =>
      show ((j : Int) + 1, d) :: (wv d (j + 1) k).take m = _
      rw [ih (j + 1) m (by omega)]
      rfl

theorem wv_drop (d : Int) (j k m : Nat) (h : m ≤ k) : (wv d j k).drop m = wv d (j + m) (k - m) := by
  induction k generalizing j m with
  | zero => obtain rfl : m = 0 := by omega
            rfl
  | succ k ih =>
    cases m with
    | zero => rfl
    | succ m =>
      show (wv d (j + 1) k).drop m = _
      rw [ih (j + 1) m (by omega)]
      congr 1 <;> omega

theorem wv_mem (d : Int) (j k : Nat) (t : Int) : t ∈ fsts (wv d j k) ↔ (j : Int) + 1 ≤ t ∧ t ≤ (j : Int) + (k : Int) := by
  induction k generalizing j with
  | zero => simp [wv, fsts]; omega
  | succ k ih =>
    show t ∈ ((j : Int) + 1) :: fsts (wv d (j + 1) k) ↔ _
    rw [List.mem_cons, ih (j + 1)]
    omega

open Classical in
/-- The least number of which R tells. -/
noncomputable def leastC (R : Nat → World → Prop) (w : World) : Nat := if h : ∃ m, R m w ∧ ∀ k, R k w → m ≤ k then Classical.choose h else 0

theorem least_of (P : Nat → Prop) : ∀ n, P n → ∃ m, P m ∧ ∀ k, P k → m ≤ k := by
  intro n
  induction n using Nat.strongRecOn with
  | _ n ih =>
    intro hn
    by_cases h : ∃ k, k < n ∧ P k
    · obtain ⟨k, hk, hp⟩ := h
      exact ih k hk hp
    · exact ⟨n, hn, fun k hk => Classical.byContradiction fun e => h ⟨k, by omega, hk⟩⟩

theorem leastC_spec {R : Nat → World → Prop} {w : World} {n : Nat} (h : R n w) : R (leastC R w) w ∧ leastC R w ≤ n := by
  have hm := least_of (fun k => R k w) n h
  unfold leastC
  rw [dif_pos hm]
  have := Classical.choose_spec hm
  exact ⟨this.1, this.2 n h⟩

def isZ (v : Value) : Bool := intOf v == 0

set_option maxRecDepth 100000 in
set_option maxHeartbeats 8000000 in
theorem waits_any (w : World) (n0 d0 : Nat) (all : Bool) (hn : n0 < 256) (hd : d0 < 256) :
    Calls Try.prog 6 #[.int .u8 (n0 : Int), .int .u8 (d0 : Int), .bool all] w fun e w' => e = .returned (.bool true) ∧ Fr no w w' := by
  have KN := known_any w
  have g0 := fld0
  have g1 := fld1
  have g3 := fld3
  have g4 := fld4
  go_enter Try.func6, Try.ntmps6
  go_wp2_with fail
  refine KN.mono ?_
  rintro _ w1 ⟨rfl, f1⟩
  have NW := jNew w w1 f1
  clear f1 KN
  go_wp2_with fail
  refine NW.mono ?_
  rintro _ w2 ⟨p, rfl, j2, -⟩
  have J2 : Hid _ := j2
  clear j2 NW
  go_upto_block 0 with fail
  obtain ⟨k, hk, hk8⟩ : ∃ k : Nat, (n0 : Int) % 8 + 1 = (k : Int) ∧ 1 ≤ k ∧ k ≤ 8 := ⟨n0 % 8 + 1, by omega, by omega⟩
  obtain ⟨d, hd', hd3⟩ : ∃ d : Nat, (d0 : Int) % 3 + 1 = (d : Int) ∧ 1 ≤ d ∧ d ≤ 3 := ⟨d0 % 3 + 1, by omega, by omega⟩
  rw [hk, hd']
  clear hk hd' hn hd
  go_cut [10] (fun _ wc => ∃ n s, n ≤ 200 ∧ Jt w wc p n s ∧ OL s 9 0 0 [] (wv d 0 k))
  case first =>
    go_wp2_with fail
    go_loopw [10] (fun iv wr => ∃ (j n : Nat) (s : St), iv = .int .i64 ((j : Int) + 1) ∧ j ≤ k ∧ n ≤ 20 * j ∧ Jt w wr p n s ∧ OL s 9 0 0 [] (wv d 0 j)) (fun iv _ => k + 1 - (intOf iv).toNat)
    case atStart => exact ⟨0, 0, st0, rfl, Nat.zero_le _, Nat.le_refl _, J2.out, ol0 9⟩
    case round =>
      clear J2
      obtain ⟨j, n, s, rfl, hj, hnj, js, hol⟩ := hrel
      have HJ : Hid (Jt w wr p n s) := js
      have HO : Hid (OL s 9 0 0 [] (wv d 0 j)) := hol
      clear js hol
      by_cases hlt : j < k
      · have hle : (j : Int) + 1 ≤ (k : Int) := by omega
        go_upto_block 2 with fail
        go_cut [11] (fun _ wc => ∃ n' s', n' ≤ 20 * j + 6 ∧ Jt w wc p n' s' ∧ OL s' 9 ((j : Int) + 1) d [] (wv d 0 j))
        case first =>
          go_wp2_with fail
          go_loopw [11] (fun iv wz => ∃ (i n' : Nat) (s' : St), iv = .int .i64 (i : Int) ∧ i ≤ d ∧ n' ≤ 20 * j + 2 * i ∧ Jt w wz p n' s' ∧ OL s' 9 (if i = 0 then 0 else (j : Int) + 1) i [] (wv d 0 j)) (fun iv _ => d - (intOf iv).toNat)
          case atStart => exact ⟨0, n, s, rfl, Nat.zero_le _, hnj, HJ.out, HO.out⟩
          case round =>
            clear HJ HO
            obtain ⟨i, n', s', rfl, hi, hn', js, hol⟩ := hrel
            by_cases hid : i < d
            · have hid' : (i : Int) < (d : Int) := by omega
              have hnm : (j : Int) + 1 ∉ fsts ([] ++ wv d 0 j) := by
                rw [List.nil_append, wv_mem]
                omega
              have EN := js.enter (by omega) 9 ((j : Int) + 1) ⟨by decide, by decide⟩ ⟨by omega, by omega⟩
              have ES : enR 9 ((j : Int) + 1) s' = true ∧ enE 9 ((j : Int) + 1) s' = 0 ∧ OL (enS 9 ((j : Int) + 1) s') 9 (if i + 1 = 0 then 0 else (j : Int) + 1) ((i + 1 : Nat) : Int) [] (wv d 0 j) := by
                rw [if_neg (by omega)]
                by_cases hi0 : i = 0
                · subst hi0
                  exact hol.enterFree (by omega) (by omega) hnm
                · rw [if_neg hi0] at hol
                  obtain ⟨x1, x2, x3⟩ := hol.enterOwn (by omega) (by omega) hnm
                  exact ⟨x1, x2, by rw [Int.natCast_add]; exact x3⟩
              obtain ⟨x1, x2, x3⟩ := ES
              rw [x1, x2] at EN
              have HX : Hid _ := x3
              clear x1 x2 x3 js hol hnm
              go_wp2_with fail
              refine EN.mono ?_
              rintro _ w5 ⟨rfl, j5, -⟩
              have HJ5 : Hid _ := j5
              clear j5 EN
              go_wp2_with fail
              go_roundw
              case rel => exact ⟨i + 1, n' + 2, _, by go_num, by omega, by omega, HJ5.out, HX.out⟩
              case measure => simp [intOf]; omega
            · obtain rfl : i = d := by omega
              rw [if_neg (by omega)] at hol
              have HZ : Hid (Jt w wr p n' s' ∧ OL s' 9 ((j : Int) + 1) i [] (wv i 0 j)) := ⟨js, hol⟩
              clear js hol
              go_wp2_with fail
              go_meet
              exact ⟨n', s', by omega, HZ.out⟩
        case rest =>
          obtain ⟨n', s', hn', js, hol⟩ := hcut
          clear HJ HO
          have WA := js.wait (by omega) 9 ((j : Int) + 1) ⟨by decide, by decide⟩ ⟨by omega, by omega⟩
          obtain ⟨x1, x2, x3⟩ := hol.wait (by omega) (by rw [wv_mem]; omega)
          rw [x1, x2] at WA
          have HX : Hid (OL (waS 9 ((j : Int) + 1) s') 9 0 0 [] (wv d 0 (j + 1))) := by
            have e := wv_snoc d 0 j
            rw [show ((0 : Nat) : Int) + (j : Int) + 1 = (j : Int) + 1 by omega] at e
            rw [e] at x3
            exact x3
          clear x1 x2 x3 js hol
          go_wp2_with fail
          refine WA.mono ?_
          rintro _ w5 ⟨rfl, j5, -⟩
          have LK := j5.lock (by omega) 9 ⟨by decide, by decide⟩
          rw [HX.out.own] at LK
          clear j5 WA
          go_wp2_with fail
          refine LK.mono ?_
          rintro _ w6 ⟨o1, k1, c1, o2, k2, c2, rfl, -, -, -, -, j6, -⟩
          have HJ6 : Hid _ := j6
          clear j6 LK
          go_wp2_with fail
          go_roundw
          case rel => exact ⟨j + 1, n' + 2, _, by go_num, by omega, by omega, HJ6.out, HX.out⟩
          case measure => simp [intOf]; omega
      · obtain rfl : j = k := by omega
        go_wp2_with fail
        go_meet
        exact ⟨n, s, by omega, HJ.out, HO.out⟩
  case rest =>
    obtain ⟨n, s, hn, js, hol⟩ := hcut
    clear J2
    have EN := js.enter (by omega) 9 100 ⟨by decide, by decide⟩ ⟨by decide, by decide⟩
    obtain ⟨x1, x2, x3⟩ := hol.enterFree (t := 100) (by omega) (by omega) (by rw [List.nil_append, wv_mem]; omega)
    rw [x1, x2] at EN
    clear x1 x2 js hol
    go_wp2_with fail
    refine EN.mono ?_
    rintro _ w5 ⟨rfl, j5, -⟩
    cases all with
    | true =>
      have NO := j5.notify (by omega) 9 100 true ⟨by decide, by decide⟩
      obtain ⟨y1, y2, y3⟩ := x3.notify (by decide) true
      clear j5 EN x3
      rw [show (if true = true then (wv (d : Int) 0 k).length else min 1 (wv (d : Int) 0 k).length) = k by rw [if_pos rfl, wv_len]] at y1 y3
      rw [y1, y2] at NO
      have hz3 : OL (noS 9 100 true (enS 9 100 s)) 9 100 1 (wv d 0 k) (wv d k (k - k)) := by
        rw [wv_take _ _ _ _ (by omega), wv_drop _ _ _ _ (by omega)] at y3
        simpa using y3
      have HZ : Hid _ := hz3
      clear y1 y2 y3 hz3
      go_wp2_with fail
      refine NO.mono ?_
      rintro _ w6 ⟨rfl, j6, -⟩
      have LK : Hid (∀ w', Jt w w' p (n + 2 + 2) (noS 9 100 true (enS 9 100 s)) → Calls Try.prog 21 #[.pointer (some ⟨p, 0, none⟩), .int .i64 9] w' fun e w2 => ∃ o1 c1 o2 c2 oo cc ff, e = .returned (.agg #[oo, cc, ff, .slice o1 k c1, .slice o2 (k - k) c2]) ∧ Jt w w2 p (n + 2 + 2) (noS 9 100 true (enS 9 100 s))) := fun w' h => by
        refine (h.lock (by omega) 9 ⟨by decide, by decide⟩).mono ?_
        rintro e w2 ⟨o1, k1, c1, o2, k2, c2, rfl, hk1, hk2, -, -, h5, h6⟩
        rw [HZ.out.ent, wv_len] at hk1
        rw [HZ.out.wai, wv_len] at hk2
        subst hk1 hk2
        exact ⟨o1, c1, o2, c2, _, _, _, rfl, h5⟩
      have L6 := LK.out _ j6
      clear j6 NO
      have hsub : (((k - k : Nat) : Int) != (k : Int) - (k : Int)) = false := by simp only [bne_eq_false_iff_eq]; omega
      go_wp2_with fail
      refine L6.mono ?_
      rintro _ w7 ⟨o1, c1, o2, c2, oo, cc, ff, rfl, j7⟩
      have L7 := LK.out _ j7
      clear j7 L6
      go_wp2_with fail
      refine L7.mono ?_
      rintro _ w8 ⟨o3, c3, o4, c4, oo', cc', ff', rfl, j8⟩
      have HJ8 : Hid _ := j8
      clear j8 L7 LK
      go_upto_block 4 with fail
      go_wp2_with fail
      generalize hsg : noS 9 100 true (enS 9 100 s) = sg at *
      clear hsub hsg
      go_loopw [21, 22] (fun ov iv wr => ∃ (j n : Nat) (s : St) (o : Int) (c : Nat), ov = .int .i64 o ∧ iv = .int .i64 ((j : Int) + 1) ∧ j ≤ k ∧ n ≤ 400 + 20 * j ∧ Jt w wr p n s ∧ OL s 9 o c (wv d j (k - j)) (wv d k (k - k)) ∧ 1 ≤ o ∧ o ≤ 100 ∧ 1 ≤ c ∧ c ≤ 3) (fun _ iv _ => k + 1 - (intOf iv).toNat)
      case atStart => exact ⟨0, n + 2 + 2, sg, 100, 1, rfl, rfl, Nat.zero_le _, by omega, HJ8.out, HZ.out, by omega, by omega, by omega, by omega⟩
      case round =>
        clear HJ8 HZ
        obtain ⟨j, n, s, o, c, rfl, rfl, hj, hnj, js, hol, ho1, ho2, hc1, hc3⟩ := hrel
        by_cases hlt : j < k
        · have hle : (j : Int) + 1 ≤ (k : Int) := by omega
          have hE : wv (d : Int) j (k - j) = ((j : Int) + 1, (d : Int)) :: wv d (j + 1) (k - j - 1) := by
            rw [show k - j = (k - j - 1) + 1 by omega]
            rfl
          rw [hE] at hol
          generalize hE2 : wv (d : Int) (j + 1) (k - j - 1) = E2 at *
          have HE2 : Hid _ := hE2
          clear hE2
          generalize hV2 : wv (d : Int) k (k - k) = V2 at *
          have HR0 : Hid (∃ n' s', Jt w wr p n' s' ∧ 1 ≤ c ∧ c ≤ 3 ∧ n' + 2 * c ≤ 408 + 20 * j ∧ OL s' 9 o c (((j : Int) + 1, (d : Int)) :: E2) V2) := ⟨n, s, js, hc1, hc3, by omega, hol⟩
          clear js hol hE
          go_upto_block 6 with fail
          go_cut [23] (fun nv wc => nv = .int .i64 ((j : Int) + 1) ∧ ∃ n' s', n' ≤ 408 + 20 * j ∧ Jt w wc p n' s' ∧ OL s' 9 ((j : Int) + 1) d E2 V2)
          case first =>
            go_wp2_with fail
            go_loopw [23] (fun nv wz => (nv = .int .i64 0 ∧ ∃ c', (∃ n' s', Jt w wz p n' s' ∧ 1 ≤ c' ∧ c' ≤ 3 ∧ n' + 2 * c' ≤ 408 + 20 * j ∧ OL s' 9 o c' (((j : Int) + 1, (d : Int)) :: E2) V2)) ∨ (nv = .int .i64 ((j : Int) + 1) ∧ ∃ n' s', n' ≤ 408 + 20 * j ∧ Jt w wz p n' s' ∧ OL s' 9 ((j : Int) + 1) d E2 V2)) (fun nv wz => if isZ nv then leastC (fun c' wz => ∃ (n' : Nat) (s' : St), Jt w wz p n' s' ∧ 1 ≤ c' ∧ c' ≤ 3 ∧ n' + 2 * c' ≤ 408 + 20 * j ∧ OL s' 9 o c' (((j : Int) + 1, (d : Int)) :: E2) V2) wz else 0)
            case atStart => exact .inl ⟨rfl, c, HR0.out⟩
            case round =>
              clear HR0
              rcases hrel with ⟨rfl, c', hrc⟩ | ⟨rfl, hrc⟩
              · obtain ⟨hsp, -⟩ := leastC_spec (R := fun c' wz => ∃ (n' : Nat) (s' : St), Jt w wz p n' s' ∧ 1 ≤ c' ∧ c' ≤ 3 ∧ n' + 2 * c' ≤ 408 + 20 * j ∧ OL s' 9 o c' (((j : Int) + 1, (d : Int)) :: E2) V2) hrc
                generalize hcz : leastC (fun c' wz => ∃ (n' : Nat) (s' : St), Jt w wz p n' s' ∧ 1 ≤ c' ∧ c' ≤ 3 ∧ n' + 2 * c' ≤ 408 + 20 * j ∧ OL s' 9 o c' (((j : Int) + 1, (d : Int)) :: E2) V2) wr = cz at hsp
                have HCZ : Hid _ := hcz
                clear HCZ
                obtain ⟨n', s', js, hz1, hz3, hnz, hol⟩ := hsp
                clear hrc hcz
                have EX := js.exit (by omega) 9 o ⟨by decide, by decide⟩
                by_cases hcm : 1 < cz
                · obtain ⟨x1, x2, x3⟩ := hol.exitMore (by omega) (by omega)
                  rw [x1, x2] at EX
                  have HX : Hid (OL (exS 9 o s') 9 o ((cz - 1 : Nat) : Int) (((j : Int) + 1, (d : Int)) :: E2) V2) := by
                    rw [show ((cz - 1 : Nat) : Int) = (cz : Int) - 1 by omega]
                    exact x3
                  clear x1 x2 x3 js hol
                  go_wp2_with fail
                  refine EX.mono ?_
                  rintro _ w5 ⟨rfl, j5, -⟩
                  have HN5 : Hid (∃ (n' : Nat) (s' : St), Jt w w5 p n' s' ∧ 1 ≤ cz - 1 ∧ cz - 1 ≤ 3 ∧ n' + 2 * (cz - 1) ≤ 408 + 20 * j ∧ OL s' 9 o ((cz - 1 : Nat) : Int) (((j : Int) + 1, (d : Int)) :: E2) V2) := ⟨_, _, j5, by omega, by omega, by omega, HX.out⟩
                  clear j5 EX
                  go_wp2_with fail
                  go_roundw
                  case rel => exact .inl ⟨rfl, cz - 1, HN5.out⟩
                  case measure =>
                    have h2 := (leastC_spec (R := fun c' wz => ∃ (n' : Nat) (s' : St), Jt w wz p n' s' ∧ 1 ≤ c' ∧ c' ≤ 3 ∧ n' + 2 * c' ≤ 408 + 20 * j ∧ OL s' 9 o c' (((j : Int) + 1, (d : Int)) :: E2) V2) HN5.out).2
                    have e0 : isZ (.int .i64 0) = true := rfl
                    rw [if_pos e0, if_pos e0]
                    omega
                · obtain ⟨x1, x2, x3⟩ := hol.exitHand (by omega) (by omega)
                  rw [x1, x2] at EX
                  have HX : Hid _ := x3
                  clear x1 x2 x3 js hol
                  go_wp2_with fail
                  refine EX.mono ?_
                  rintro _ w5 ⟨rfl, j5, -⟩
                  have HN5 : Hid _ := j5
                  clear j5 EX
                  go_wp2_with fail
                  go_roundw
                  case rel => exact .inr ⟨rfl, _, _, by omega, HN5.out, HX.out⟩
                  case measure =>
                    have e1 : isZ (.int .i64 ((j : Int) + 1)) = false := by simp [isZ, intOf]; omega
                    have e0 : isZ (.int .i64 0) = true := rfl
                    rw [if_neg (by rw [e1]; decide), if_pos e0]
                    omega
              · have HRC : Hid _ := hrc
                have hjz : ((j : Int) + 1 == 0) = false := by simp only [beq_eq_false_iff_ne]; omega
                clear hrc
                go_wp2_with fail
                go_meet
                exact ⟨rfl, HRC.out⟩
          case rest =>
            obtain ⟨rfl, n', s', hn', js, hol⟩ := hcut
            clear HR0
            have LK : Hid (∀ w', Jt w w' p n' s' → Calls Try.prog 21 #[.pointer (some ⟨p, 0, none⟩), .int .i64 9] w' fun e w2 => ∃ ff v1 v2, e = .returned (.agg #[.int .i64 ((j : Int) + 1), .int .i64 (d : Int), ff, v1, v2]) ∧ Jt w w2 p n' s') := fun w' h => by
              refine (h.lock (by omega) 9 ⟨by decide, by decide⟩).mono ?_
              rintro e w2 ⟨o1, k1, c1, o2, k2, c2, rfl, -, -, -, -, h5, h6⟩
              rw [hol.own, hol.cnt]
              exact ⟨_, _, _, rfl, h5⟩
            have L5 := LK.out _ js
            have hjj : ((j : Int) + 1 != (j : Int) + 1) = false := by simp
            have hdd : ((d : Int) != (d : Int)) = false := by simp
            have HOL : Hid _ := hol
            clear js hol
            go_wp2_with fail
            refine L5.mono ?_
            rintro _ w6 ⟨ff, v1, v2, rfl, j6⟩
            have L6 := LK.out _ j6
            clear j6 L5
            go_wp2_with fail
            refine L6.mono ?_
            rintro _ w7 ⟨ff', v1', v2', rfl, j7⟩
            have HJ7 : Hid _ := j7
            clear j7 L6 LK
            go_wp2_with fail
            go_roundw
            case rel => exact ⟨j + 1, n', s', (j : Int) + 1, d, rfl, by go_num, by omega, by omega, HJ7.out, by rw [show k - (j + 1) = k - j - 1 by omega, HE2.out]; exact HOL.out, by omega, by omega, by omega, by omega⟩
            case measure => simp [intOf]; omega
        · obtain rfl : j = k := by omega
          have NO := js.notify (by omega) 9 200 true ⟨by decide, by decide⟩
          obtain ⟨y1, y2⟩ := hol.notifyNot true (t := 200) (by omega)
          rw [y1, y2] at NO
          have HOL : Hid _ := hol
          generalize noR 9 200 true s = nr at NO
          clear y1 y2 js hol
          go_wp2_with fail
          refine NO.mono ?_
          rintro _ w9 ⟨rfl, j9, -⟩
          have L9 := j9.lock (by omega) 9 ⟨by decide, by decide⟩
          clear j9 NO
          go_wp2_with fail
          refine L9.mono ?_
          rintro _ w10 ⟨o5, k5, c5, o6, k6, c6, rfl, hk5, -, -, -, j10, -⟩
          rw [HOL.out.ent, wv_len, Nat.sub_self] at hk5
          subst hk5
          have HF : Hid _ := j10.fr
          clear j10 L9
          go_wp2_with fail
          go_ret
          exact ⟨rfl, HF.out⟩
    | false =>
      have NO := j5.notify (by omega) 9 100 false ⟨by decide, by decide⟩
      obtain ⟨y1, y2, y3⟩ := x3.notify (by decide) false
      clear j5 EN x3
      rw [show (if false = true then (wv (d : Int) 0 k).length else min 1 (wv (d : Int) 0 k).length) = 1 by (rw [if_neg (by decide), wv_len]; first | done | omega)] at y1 y3
      rw [y1, y2] at NO
      have hz3 : OL (noS 9 100 false (enS 9 100 s)) 9 100 1 (wv d 0 1) (wv d 1 (k - 1)) := by
        rw [wv_take _ _ _ _ (by omega), wv_drop _ _ _ _ (by omega)] at y3
        simpa using y3
      have HZ : Hid _ := hz3
      clear y1 y2 y3 hz3
      go_wp2_with fail
      refine NO.mono ?_
      rintro _ w6 ⟨rfl, j6, -⟩
      have LK : Hid (∀ w', Jt w w' p (n + 2 + 2) (noS 9 100 false (enS 9 100 s)) → Calls Try.prog 21 #[.pointer (some ⟨p, 0, none⟩), .int .i64 9] w' fun e w2 => ∃ o1 c1 o2 c2 oo cc ff, e = .returned (.agg #[oo, cc, ff, .slice o1 1 c1, .slice o2 (k - 1) c2]) ∧ Jt w w2 p (n + 2 + 2) (noS 9 100 false (enS 9 100 s))) := fun w' h => by
        refine (h.lock (by omega) 9 ⟨by decide, by decide⟩).mono ?_
        rintro e w2 ⟨o1, k1, c1, o2, k2, c2, rfl, hk1, hk2, -, -, h5, h6⟩
        rw [HZ.out.ent, wv_len] at hk1
        rw [HZ.out.wai, wv_len] at hk2
        subst hk1 hk2
        exact ⟨o1, c1, o2, c2, _, _, _, rfl, h5⟩
      have L6 := LK.out _ j6
      clear j6 NO
      have hsub : (((k - 1 : Nat) : Int) != (k : Int) - 1) = false := by simp only [bne_eq_false_iff_eq]; omega
      go_wp2_with fail
      refine L6.mono ?_
      rintro _ w7 ⟨o1, c1, o2, c2, oo, cc, ff, rfl, j7⟩
      have L7 := LK.out _ j7
      clear j7 L6
      go_wp2_with fail
      refine L7.mono ?_
      rintro _ w8 ⟨o3, c3, o4, c4, oo', cc', ff', rfl, j8⟩
      have HJ8 : Hid _ := j8
      clear j8 L7 LK
      go_upto_block 4 with fail
      go_wp2_with fail
      generalize hsg : noS 9 100 false (enS 9 100 s) = sg at *
      clear hsub hsg
      go_loopw [21, 22] (fun ov iv wr => ∃ (j n : Nat) (s : St) (o : Int) (c : Nat), ov = .int .i64 o ∧ iv = .int .i64 ((j : Int) + 1) ∧ j ≤ 1 ∧ n ≤ 400 + 20 * j ∧ Jt w wr p n s ∧ OL s 9 o c (wv d j (1 - j)) (wv d 1 (k - 1)) ∧ 1 ≤ o ∧ o ≤ 100 ∧ 1 ≤ c ∧ c ≤ 3) (fun _ iv _ => 1 + 1 - (intOf iv).toNat)
      case atStart => exact ⟨0, n + 2 + 2, sg, 100, 1, rfl, rfl, Nat.zero_le _, by omega, HJ8.out, HZ.out, by omega, by omega, by omega, by omega⟩
      case round =>
        clear HJ8 HZ
        obtain ⟨j, n, s, o, c, rfl, rfl, hj, hnj, js, hol, ho1, ho2, hc1, hc3⟩ := hrel
        by_cases hlt : j < 1
        · have hle : (j : Int) + 1 ≤ 1 := by omega
          have hE : wv (d : Int) j (1 - j) = ((j : Int) + 1, (d : Int)) :: wv d (j + 1) (1 - j - 1) := by
            rw [show 1 - j = (1 - j - 1) + 1 by omega]
            rfl
          rw [hE] at hol
          generalize hE2 : wv (d : Int) (j + 1) (1 - j - 1) = E2 at *
          have HE2 : Hid _ := hE2
          clear hE2
          generalize hV2 : wv (d : Int) 1 (k - 1) = V2 at *
          have HR0 : Hid (∃ n' s', Jt w wr p n' s' ∧ 1 ≤ c ∧ c ≤ 3 ∧ n' + 2 * c ≤ 408 + 20 * j ∧ OL s' 9 o c (((j : Int) + 1, (d : Int)) :: E2) V2) := ⟨n, s, js, hc1, hc3, by omega, hol⟩
          clear js hol hE
          go_upto_block 6 with fail
          go_cut [23] (fun nv wc => nv = .int .i64 ((j : Int) + 1) ∧ ∃ n' s', n' ≤ 408 + 20 * j ∧ Jt w wc p n' s' ∧ OL s' 9 ((j : Int) + 1) d E2 V2)
          case first =>
            go_wp2_with fail
            go_loopw [23] (fun nv wz => (nv = .int .i64 0 ∧ ∃ c', (∃ n' s', Jt w wz p n' s' ∧ 1 ≤ c' ∧ c' ≤ 3 ∧ n' + 2 * c' ≤ 408 + 20 * j ∧ OL s' 9 o c' (((j : Int) + 1, (d : Int)) :: E2) V2)) ∨ (nv = .int .i64 ((j : Int) + 1) ∧ ∃ n' s', n' ≤ 408 + 20 * j ∧ Jt w wz p n' s' ∧ OL s' 9 ((j : Int) + 1) d E2 V2)) (fun nv wz => if isZ nv then leastC (fun c' wz => ∃ (n' : Nat) (s' : St), Jt w wz p n' s' ∧ 1 ≤ c' ∧ c' ≤ 3 ∧ n' + 2 * c' ≤ 408 + 20 * j ∧ OL s' 9 o c' (((j : Int) + 1, (d : Int)) :: E2) V2) wz else 0)
            case atStart => exact .inl ⟨rfl, c, HR0.out⟩
            case round =>
              clear HR0
              rcases hrel with ⟨rfl, c', hrc⟩ | ⟨rfl, hrc⟩
              · obtain ⟨hsp, -⟩ := leastC_spec (R := fun c' wz => ∃ (n' : Nat) (s' : St), Jt w wz p n' s' ∧ 1 ≤ c' ∧ c' ≤ 3 ∧ n' + 2 * c' ≤ 408 + 20 * j ∧ OL s' 9 o c' (((j : Int) + 1, (d : Int)) :: E2) V2) hrc
                generalize hcz : leastC (fun c' wz => ∃ (n' : Nat) (s' : St), Jt w wz p n' s' ∧ 1 ≤ c' ∧ c' ≤ 3 ∧ n' + 2 * c' ≤ 408 + 20 * j ∧ OL s' 9 o c' (((j : Int) + 1, (d : Int)) :: E2) V2) wr = cz at hsp
                have HCZ : Hid _ := hcz
                clear HCZ
                obtain ⟨n', s', js, hz1, hz3, hnz, hol⟩ := hsp
                clear hrc hcz
                have EX := js.exit (by omega) 9 o ⟨by decide, by decide⟩
                by_cases hcm : 1 < cz
                · obtain ⟨x1, x2, x3⟩ := hol.exitMore (by omega) (by omega)
                  rw [x1, x2] at EX
                  have HX : Hid (OL (exS 9 o s') 9 o ((cz - 1 : Nat) : Int) (((j : Int) + 1, (d : Int)) :: E2) V2) := by
                    rw [show ((cz - 1 : Nat) : Int) = (cz : Int) - 1 by omega]
                    exact x3
                  clear x1 x2 x3 js hol
                  go_wp2_with fail
                  refine EX.mono ?_
                  rintro _ w5 ⟨rfl, j5, -⟩
                  have HN5 : Hid (∃ (n' : Nat) (s' : St), Jt w w5 p n' s' ∧ 1 ≤ cz - 1 ∧ cz - 1 ≤ 3 ∧ n' + 2 * (cz - 1) ≤ 408 + 20 * j ∧ OL s' 9 o ((cz - 1 : Nat) : Int) (((j : Int) + 1, (d : Int)) :: E2) V2) := ⟨_, _, j5, by omega, by omega, by omega, HX.out⟩
                  clear j5 EX
                  go_wp2_with fail
                  go_roundw
                  case rel => exact .inl ⟨rfl, cz - 1, HN5.out⟩
                  case measure =>
                    have h2 := (leastC_spec (R := fun c' wz => ∃ (n' : Nat) (s' : St), Jt w wz p n' s' ∧ 1 ≤ c' ∧ c' ≤ 3 ∧ n' + 2 * c' ≤ 408 + 20 * j ∧ OL s' 9 o c' (((j : Int) + 1, (d : Int)) :: E2) V2) HN5.out).2
                    have e0 : isZ (.int .i64 0) = true := rfl
                    rw [if_pos e0, if_pos e0]
                    omega
                · obtain ⟨x1, x2, x3⟩ := hol.exitHand (by omega) (by omega)
                  rw [x1, x2] at EX
                  have HX : Hid _ := x3
                  clear x1 x2 x3 js hol
                  go_wp2_with fail
                  refine EX.mono ?_
                  rintro _ w5 ⟨rfl, j5, -⟩
                  have HN5 : Hid _ := j5
                  clear j5 EX
                  go_wp2_with fail
                  go_roundw
                  case rel => exact .inr ⟨rfl, _, _, by omega, HN5.out, HX.out⟩
                  case measure =>
                    have e1 : isZ (.int .i64 ((j : Int) + 1)) = false := by simp [isZ, intOf]; omega
                    have e0 : isZ (.int .i64 0) = true := rfl
                    rw [if_neg (by rw [e1]; decide), if_pos e0]
                    omega
              · have HRC : Hid _ := hrc
                have hjz : ((j : Int) + 1 == 0) = false := by simp only [beq_eq_false_iff_ne]; omega
                clear hrc
                go_wp2_with fail
                go_meet
                exact ⟨rfl, HRC.out⟩
          case rest =>
            obtain ⟨rfl, n', s', hn', js, hol⟩ := hcut
            clear HR0
            have LK : Hid (∀ w', Jt w w' p n' s' → Calls Try.prog 21 #[.pointer (some ⟨p, 0, none⟩), .int .i64 9] w' fun e w2 => ∃ ff v1 v2, e = .returned (.agg #[.int .i64 ((j : Int) + 1), .int .i64 (d : Int), ff, v1, v2]) ∧ Jt w w2 p n' s') := fun w' h => by
              refine (h.lock (by omega) 9 ⟨by decide, by decide⟩).mono ?_
              rintro e w2 ⟨o1, k1, c1, o2, k2, c2, rfl, -, -, -, -, h5, h6⟩
              rw [hol.own, hol.cnt]
              exact ⟨_, _, _, rfl, h5⟩
            have L5 := LK.out _ js
            have hjj : ((j : Int) + 1 != (j : Int) + 1) = false := by simp
            have hdd : ((d : Int) != (d : Int)) = false := by simp
            have HOL : Hid _ := hol
            clear js hol
            go_wp2_with fail
            refine L5.mono ?_
            rintro _ w6 ⟨ff, v1, v2, rfl, j6⟩
            have L6 := LK.out _ j6
            clear j6 L5
            go_wp2_with fail
            refine L6.mono ?_
            rintro _ w7 ⟨ff', v1', v2', rfl, j7⟩
            have HJ7 : Hid _ := j7
            clear j7 L6 LK
            go_wp2_with fail
            go_roundw
            case rel => exact ⟨j + 1, n', s', (j : Int) + 1, d, rfl, by go_num, by omega, by omega, HJ7.out, by rw [show 1 - (j + 1) = 1 - j - 1 by omega, HE2.out]; exact HOL.out, by omega, by omega, by omega, by omega⟩
            case measure => simp [intOf]; omega
        · obtain rfl : j = 1 := by omega
          have NO := js.notify (by omega) 9 200 true ⟨by decide, by decide⟩
          obtain ⟨y1, y2⟩ := hol.notifyNot true (t := 200) (by omega)
          rw [y1, y2] at NO
          have HOL : Hid _ := hol
          generalize noR 9 200 true s = nr at NO
          clear y1 y2 js hol
          go_wp2_with fail
          refine NO.mono ?_
          rintro _ w9 ⟨rfl, j9, -⟩
          have L9 := j9.lock (by omega) 9 ⟨by decide, by decide⟩
          clear j9 NO
          go_wp2_with fail
          refine L9.mono ?_
          rintro _ w10 ⟨o5, k5, c5, o6, k6, c6, rfl, hk5, -, -, -, j10, -⟩
          rw [HOL.out.ent, wv_len, Nat.sub_self] at hk5
          subst hk5
          have HF : Hid _ := j10.fr
          clear j10 L9
          go_wp2_with fail
          go_ret
          exact ⟨rfl, HF.out⟩
end Go.Proofs.Ytkkpimpmhnnbjaa
