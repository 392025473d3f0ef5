/- The program's lexer. -/
import Derived.Test.YtmpahllkbpofnaaPf
import Derived.Deep.DeepCutAuto
namespace Go.Proofs.Ytmpahllkbpofnaa
open Go.ChangeShapes Go.WideShapes Go.ChangeAt Go.RowKit

/-- A row of letters. -/
def spell (f : Nat → Value) : Nat → Nat → List Value
  | 0, _ => []
  | n + 1, i => f i :: spell f n (i + 1)
theorem spell_eq : ∀ (l : List Value) (i : Nat) (g : Nat → Value), (∀ j, g (i + j) = l.getD j undef) → l = spell g l.length i
  | [], _, _, _ => rfl
  | x :: l, i, g, h => by
    show x :: l = g i :: spell g l.length (i + 1)
    have h0 := h 0
    rw [Nat.add_zero] at h0
    rw [h0, ← spell_eq l (i + 1) g (fun j => by rw [Nat.add_assoc, Nat.add_comm 1 j]; exact h (j + 1))]
    rfl
theorem spell_arr (T : Array Value) (n : Nat) (hn : T.size = n) : T = (spell (fun i => T.getD i undef) n 0).toArray := by
  obtain ⟨l⟩ := T
  subst hn
  have := spell_eq l 0 (fun i => (⟨l⟩ : Array Value).getD i undef) (fun j => by
    rw [Nat.zero_add]
    simp [Array.getD_eq_getD_getElem?, List.getD_eq_getElem?_getD])
  show (⟨l⟩ : Array Value) = ⟨spell _ l.length 0⟩
  rw [← this]

/-- The lexer's frame. -/
def alF (s : ByteArray) (lv : Value) (r a : Nat) (L : Nat → Value) : Act := { tmps := (.string s :: L 1 :: L 2 :: L 3 :: L 4 :: lv :: .pointer (some ⟨r, 0, none⟩) :: .int .i64 (a : Int) :: L 8 :: L 9 :: L 10 :: L 11 :: L 12 :: L 13 :: L 14 :: L 15 :: L 16 :: L 17 :: L 18 :: L 19 :: L 20 :: L 21 :: L 22 :: L 23 :: L 24 :: L 25 :: L 26 :: L 27 :: L 28 :: L 29 :: L 30 :: L 31 :: L 32 :: L 33 :: L 34 :: L 35 :: L 36 :: L 37 :: L 38 :: L 39 :: L 40 :: L 41 :: L 42 :: L 43 :: L 44 :: L 45 :: L 46 :: L 47 :: L 48 :: L 49 :: L 50 :: L 51 :: L 52 :: L 53 :: L 54 :: L 55 :: L 56 :: L 57 :: L 58 :: L 59 :: L 60 :: L 61 :: L 62 :: L 63 :: L 64 :: L 65 :: L 66 :: L 67 :: L 68 :: L 69 :: L 70 :: L 71 :: L 72 :: L 73 :: L 74 :: L 75 :: L 76 :: L 77 :: L 78 :: L 79 :: L 80 :: L 81 :: L 82 :: L 83 :: L 84 :: L 85 :: L 86 :: L 87 :: L 88 :: L 89 :: L 90 :: []).toArray, defers := [] }
theorem alF_of {T : Array Value} {s : ByteArray} {lv : Value} {r a : Nat} (hn : T.size = 91) (h0 : T.getD 0 undef = .string s) (h5 : T.getD 5 undef = lv) (h6 : T.getD 6 undef = .pointer (some ⟨r, 0, none⟩)) (h7 : T.getD 7 undef = .int .i64 (a : Int)) :
    ∃ L, ({ tmps := T, defers := [] } : Act) = alF s lv r a L := by
  refine ⟨fun i => T.getD i undef, ?_⟩
  unfold alF
  rw [← h0, ← h5, ← h6, ← h7]
  exact congrArg (fun t => ({ tmps := t, defers := [] } : Act)) (spell_arr T 91 hn)

def AlAt (w : World) (s : ByteArray) (r : Nat) (R : Nat × List Tk × Nat) (b : Act) (wr : World) : Prop :=
  ∃ (k a : Nat) (lv : Value) (acc : List Tk) (L : Nat → Value), b = alF s lv r a L ∧ a ≤ s.size ∧ acc.length ≤ a ∧ LxAt w wr r lv acc ∧ s.size - a ≤ k ∧ lexF s (k + 1) a acc = R
def EnAt (w : World) (s : ByteArray) (r : Nat) (R : Nat × List Tk × Nat) (b : Act) (wr : World) : Prop :=
  ∃ (lv : Value) (acc : List Tk) (L : Nat → Value), b = alF s lv r s.size L ∧ acc.length ≤ s.size ∧ LxAt w wr r lv acc ∧ R = (0, acc ++ [⟨6, s.size, ⟨#[]⟩, 0, 0, 0⟩], 0)
theorem AlAt.of {w wr : World} {s : ByteArray} {r : Nat} {R : Nat × List Tk × Nat} {T : Array Value} {lv : Value} {a : Nat} (acc : List Tk) (k : Nat) (ha : a ≤ s.size) (hl : acc.length ≤ a) (hL : LxAt w wr r lv acc) (hk : s.size - a ≤ k) (he : lexF s (k + 1) a acc = R)
    (hn : T.size = 91 := by kernel_rfl) (h0 : T.getD 0 undef = .string s := by kernel_rfl) (h5 : T.getD 5 undef = lv := by kernel_rfl) (h6 : T.getD 6 undef = .pointer (some ⟨r, 0, none⟩) := by kernel_rfl) (h7 : T.getD 7 undef = .int .i64 (a : Int) := by kernel_rfl) : AlAt w s r R { tmps := T, defers := [] } wr := by
  obtain ⟨L, hT⟩ := alF_of hn h0 h5 h6 h7
  exact ⟨k, a, lv, acc, L, hT, ha, hl, hL, hk, he⟩
theorem EnAt.of {w wr : World} {s : ByteArray} {r : Nat} {R : Nat × List Tk × Nat} {T : Array Value} {lv : Value} (acc : List Tk) (hl : acc.length ≤ s.size) (hL : LxAt w wr r lv acc) (he : R = (0, acc ++ [⟨6, s.size, ⟨#[]⟩, 0, 0, 0⟩], 0))
    (hn : T.size = 91 := by kernel_rfl) (h0 : T.getD 0 undef = .string s := by kernel_rfl) (h5 : T.getD 5 undef = lv := by kernel_rfl) (h6 : T.getD 6 undef = .pointer (some ⟨r, 0, none⟩) := by kernel_rfl) (h7 : T.getD 7 undef = .int .i64 (s.size : Int) := by kernel_rfl) : EnAt w s r R { tmps := T, defers := [] } wr := by
  obtain ⟨L, hT⟩ := alF_of hn h0 h5 h6 h7
  exact ⟨lv, acc, L, hT, hl, hL, he⟩

set_option maxRecDepth 100000 in
set_option maxHeartbeats 4000000 in
theorem pAllS (w : World) (s : ByteArray) (hs : s.size ≤ 8000) :
    Calls Try.prog 9 #[.string s] w fun e w' => ∃ v, e = .returned (.tuple #[v, .int .i64 ((lexF s (s.size + 1) 0 []).1 : Nat), .int .i64 ((lexF s (s.size + 1) 0 []).2.2 : Nat)]) ∧ (OwnG elK w' v (lexF s (s.size + 1) 0 []).2.1 ∧ NewV w v) ∧ Fr no w w' := by
  have scx := store_cx
  have hs' : ¬ (8000 : Int) < (s.size : Int) := by omega
  generalize hR : lexF s (s.size + 1) 0 [] = R
  have HR : Hid (lexF s (s.size + 1) 0 [] = R) := hR
  clear hR
  go_enter Try.func9, Try.ntmps9
  go_wp2_with fail
  refine wp_label_two 1 0 (by decide) (AlAt w s w.heap.size R) (EnAt w s w.heap.size R) (fun b _ => s.size - (intOf (b.tmps.getD 7 undef)).toNat) rfl rfl ?_ ?_ ?_
  · intro K h0 h1 hr
    go_wp2_with fail
    go_step3
    rename_i hk
    exact hk _ _ (h0 _ _ (AlAt.of (a := 0) [] s.size (Nat.zero_le _) (Nat.le_refl _) ⟨OwnG.nil _ _, NewV.nil _, (Fr.refl no w).alloc _ _, ⟨_, _, _, _, _, heap_alloc_new w _⟩, Nat.le_refl _, fun e => by cases e⟩ (by omega) HR.out))
  · rintro b wr ⟨k, a, lv, acc, L, hb, ha, hal, hL, hk, he⟩ K hj h1 hr
    unfold alF at hb
    subst hb
    have HJ : Hid (∀ (b' : Act) (w' : World), AlAt w s w.heap.size R b' w' → s.size - (intOf (b'.tmps.getD 7 undef)).toNat < s.size - a → K (.goto 1) b' w') := hj
    have HE1 : Hid (∀ (a : Act) (w_1 : World), EnAt w s w.heap.size R a w_1 → K (Exit.goto 0) a w_1) := h1
    clear hj h1
    obtain ⟨oo, cc, rfl⟩ := hL.own.form
    have HL : Hid (LxAt w wr w.heap.size (.slice oo acc.length cc) acc) := hL
    have HK : Hid (s.size - a ≤ k ∧ lexF s (k + 1) a acc = R) := ⟨hk, he⟩
    have HAL : Hid (acc.length ≤ a) := hal
    clear hL hk he hal
    generalize w.heap.size = r at *
    have a0 : (0 : Int) ≤ (a : Int) := by omega
    by_cases hlt : a = s.size
    · have hq : ((a : Int) == (s.size : Int)) = true := by simp [hlt]
      have HEN := lexF_end HK.out.2 (by omega)
      have HENH : Hid _ := HEN
      clear HEN
      subst hlt
      go_wp2_with fail
      go_step3
      exact HE1.out _ _ (EnAt.of acc HAL.out HL.out HENH.out)
    · have hq : ((a : Int) == (s.size : Int)) = false := by simp; omega
      have hlt2 : a < s.size := by omega
      have hlt' : (a : Int) < (s.size : Int) := by omega
      obtain ⟨k, rfl⟩ : ∃ k0, k = k0 + 1 := ⟨k - 1, by have := HK.out.1; omega⟩
      have HA : Hid (at0 s a = s[a].toNat) := at0_eq s a hlt2
      have BL := pBlank wr s[a].toNat
      clear hlt ha
      cases hb : blankB s[a].toNat
      case true =>
        rw [hb] at BL
        have HG : Hid (lexF s (k + 1) (a + 1) acc = R) := by
          have h := lexF_go HK.out.2 hlt2 (b := a + 1) (m := []) (by unfold one; rw [HA.out, if_pos hb])
          rwa [List.append_nil] at h
        go_wp2_with fail
        refine BL.mono ?_
        rintro _ wr ⟨rfl, rfl⟩
        go_wp2_with fail
        go_step3
        refine HJ.out _ _ (AlAt.of (a := a + 1) acc k (by omega) (by have := HAL.out; omega) HL.out (by have := HK.out.1; omega) HG.out) ?_
        show s.size - (intOf (.int .i64 ((a : Int) + 1))).toNat < _
        simp only [intOf]
        omega
      case false =>
        rw [hb] at BL
        have PX := fun w => Try.strings_HasPrefix (behind s a) ⟨#[47, 47]⟩ w
        rw [show ({ data := #[47, 47] } : ByteArray).data.toList = [47, 47] from rfl, prefix_two (behind s a) 47 47, show decide ((nl (behind s a)).take 2 = [(47 : UInt8).toNat, (47 : UInt8).toNat]) = isCom s a from (com_behind s a).symm] at PX
        have hbd : (behind s a).size ≤ 100000 := by rw [size_behind]; omega
        have a1 : (a : Int) ≤ (s.size : Int) := by omega
        cases hc : isCom s a
        case true =>
          rw [hc] at PX
          have CE := comE_behind s a
          have HH := fun w => head20 w (behind s a) hbd
          have hsz := headT_size Y.notNl (behind s a)
          have hle := Y.tw_le Y.notNl (nl (behind s a))
          rw [nl_length, size_behind] at hle
          have hpos : Y.tw Y.notNl (nl (behind s a)) ≠ 0 := by
            intro h
            refine tw_zero.1 h ⟨by rw [nl_length, size_behind]; omega, ?_⟩
            rw [at_behind]
            unfold isCom at hc
            simp only [Bool.and_eq_true, decide_eq_true_eq] at hc
            rw [hc.1]
            rfl
          rw [← hsz] at hle hpos
          generalize headT Y.notNl (behind s a) = x at *
          have HG : Hid (lexF s (k + 1) (a + x.size) acc = R) := by
            have h := lexF_go HK.out.2 hlt2 (b := a + x.size) (m := []) (by unfold one; rw [HA.out, hb, hc, ← CE]; rfl)
            rwa [List.append_nil] at h
          have hx1 : (a : Int) + (x.size : Int) ≤ 8000 := by omega
          have HX : Hid (a + x.size ≤ s.size ∧ 0 < x.size) := ⟨by omega, by omega⟩
          clear hsz CE hle hpos hc hbd
          go_wp2_with fail
          refine BL.mono ?_
          rintro _ wr ⟨rfl, rfl⟩
          go_wp2_with fail
          refine (PX _).mono ?_
          rintro _ wr ⟨rfl, rfl⟩
          go_wp2_with fail
          refine (HH _).mono ?_
          rintro _ wr ⟨rfl, rfl⟩
          go_wp2_with fail
          go_step3
          refine HJ.out _ _ (AlAt.of (a := a + x.size) acc k HX.out.1 (by have := HAL.out; omega) HL.out (by have := HK.out.1; have := HX.out.2; omega) HG.out) ?_
          have := HX.out
          show s.size - (intOf (.int .i64 ((a : Int) + (x.size : Int)))).toNat < _
          simp only [intOf]
          omega
        case false =>
          rw [hc] at PX
          have LT := pLetter wr s[a].toNat
          have CL := pClone
          cases hl : letterB s[a].toNat true
          case true =>
            rw [hl] at LT
            have HON : Hid _ := one_name hlt2 (by rw [HA.out]; exact hb) hc (by rw [HA.out]; exact hl)
            have NM := fun w => pNm w (behind s a) hbd
            generalize nmErr (headT Y.letN (behind s a)) = z at *
            generalize nmTok (headT Y.letN (behind s a)) = X at *
            clear hbd hc
            go_wp2_with fail
            refine BL.mono ?_
            rintro _ wr ⟨rfl, rfl⟩
            go_wp2_with fail
            refine (PX _).mono ?_
            rintro _ wr ⟨rfl, rfl⟩
            go_wp2_with fail
            refine LT.mono ?_
            rintro _ wr ⟨rfl, rfl⟩
            go_wp2_with fail
            refine (NM _).mono ?_
            rintro _ w1 ⟨⟨q0, q1, q2, q3, q4, q5⟩, rfl, HX, F1⟩
            simp only [tkV]
            have HL1 : Hid (LxAt w w1 r (.slice oo acc.length cc) acc) := HL.out.keep F1
            obtain ⟨y0, y1, y2, y3, y4, hB⟩ := HL1.out.box
            have HB : Hid _ := hB
            obtain ⟨c0, c1, c2, c3, c4⟩ := box5 hB
            have fz := fun o => frozen_at (o := o) hB
            clear hB F1
            by_cases hz0 : z = 0
            · subst hz0
              have hx := HX.out rfl
              rw [← hx] at HON
              clear hx HX
              obtain ⟨ho, hpos, hend⟩ := HON.out.2 rfl
              have HG : Hid _ := lexF_go HK.out.2 hlt2 ho
              simp only at hpos hend
              have hend' : (a : Int) + (q2.size : Int) ≤ 8000 := by omega
              have HQ : Hid (a + q2.size ≤ s.size ∧ 0 < q2.size) := ⟨hend, hpos⟩
              have CLL := fun w => CL w q2 (by omega)
              clear ho hpos hend CL
              go_upto_region 16 with fail
              clear c0 c1 c2 c3 c4 fz
              refine sets5_wp HB.out fun W2 hB2 F2 => ?_
              have HL2 : Hid (LxAt w W2 r (.slice oo acc.length cc) acc) := HL1.out.bk F2 ⟨_, _, _, _, _, hB2⟩
              have HB2 : Hid _ := hB2
              clear HL1 HB F2
              obtain ⟨c0, c1, c2, c3, c4⟩ := box5 hB2
              have fz := fun o => frozen_at (o := o) hB2
              clear hB2
              go_wp2_with fail
              refine (CLL _).mono ?_
              rintro _ w3 ⟨rfl, F3⟩
              have hB3 : w3.heap[r]? = some (.cells #[.int .i64 q0, .int .i64 (a : Int), .string q2, .int .i64 q3, .complex .f64 q4 q5] 35 (0, 0)) := F3.heap (heap_set (o := 1) (u := .int .i64 (a : Int)) HB2.out) (fun f => f)
              have HL3 : Hid (LxAt w w3 r (.slice oo acc.length cc) acc) := (HL2.out.bk (fr_set W2 r 1 _) ⟨_, _, _, _, _, heap_set (o := 1) (u := .int .i64 (a : Int)) HB2.out⟩).keep F3
              have HO1 : Hid (LxAt w ((w3.setCell ⟨r, 2, none⟩ (.string q2)).alloc (.cells (elK.f ⟨q0, a, q2, q3, q4, q5⟩).toArray elK.e)) r (.slice oo acc.length cc) acc) := (HL3.out.bk (fr_set w3 r 2 _) ⟨_, _, _, _, _, heap_set (o := 2) (u := .string q2) hB3⟩).keep ((Fr.refl no _).alloc _ _)
              clear c0 c1 c2 c3 c4 fz F3 HL2 HL3
              obtain ⟨c0, c1, c2, c3, c4⟩ := box5 hB3
              have fz := fun o => frozen_at (o := o) hB3
              clear hB3
              go_wp2_with (at_builtin; refine wpList_apdG elK_ok _ rfl rfl _ _ rfl (.slice oo acc.length cc) acc rfl HO1.out.own _ rfl [⟨q0, a, q2, q3, q4, q5⟩] (srcG_oneN elK_ok (w3.setCell ⟨r, 2, none⟩ (.string q2)) _ (by simp [World.setCell]) ⟨q0, a, q2, q3, q4, q5⟩) (by have := HAL.out; simp; omega) ?_; intro v' w4 o4 s4; have H4 : Hid (LxAt w w4 r v' (acc ++ [⟨q0, a, q2, q3, q4, q5⟩])) := HO1.out.app o4 s4; clear o4 s4)
              go_step3
              refine HJ.out _ _ (AlAt.of (a := a + q2.size) (acc ++ [⟨q0, a, q2, q3, q4, q5⟩]) k HQ.out.1 (by have := HAL.out; have := HQ.out.2; simp; omega) H4.out (by have := HK.out.1; have := HQ.out.2; omega) HG.out) ?_
              have := HQ.out
              show s.size - (intOf (.int .i64 ((a : Int) + (q2.size : Int)))).toNat < _
              simp only [intOf]
              omega
            · have hz1 : ((z : Int) != 0) = true := by simp; omega
              have hz2 : ¬ (z : Int) = 0 := by omega
              obtain ⟨bb, mm, ho⟩ := HON.out.1 hz0
              have HR2 := lexF_bad HK.out.2 hlt2 ho hz0
              subst HR2
              clear ho HX
              go_wp2_with fail
              refine bodyPost_ret (results_tmp3 rfl _ _ _) rfl ?_
              exact ⟨_, rfl, ⟨OwnG.nil _ _, NewV.nil _⟩, HL1.out.fr.newBk sets5_fr HL1.out.ge⟩
          case false =>
            rw [hl] at LT
            have DT := pDigit wr s[a].toNat
            cases hd : digitB s[a].toNat
            case true =>
              rw [hd] at DT
              have HON : Hid _ := one_num hlt2 (by rw [HA.out]; exact hb) hc (by rw [HA.out]; exact hl) (by rw [HA.out]; exact hd)
              have NM := fun w => pNumber w (behind s a) hbd
              generalize nbErr (behind s a) = z at *
              generalize nbTok (behind s a) = X at *
              clear hbd hc
              go_wp2_with fail
              refine BL.mono ?_
              rintro _ wr ⟨rfl, rfl⟩
              go_wp2_with fail
              refine (PX _).mono ?_
              rintro _ wr ⟨rfl, rfl⟩
              go_wp2_with fail
              refine LT.mono ?_
              rintro _ wr ⟨rfl, rfl⟩
              go_wp2_with fail
              refine DT.mono ?_
              rintro _ wr ⟨rfl, rfl⟩
              go_wp2_with fail
              refine (NM _).mono ?_
              rintro _ w1 ⟨⟨q0, q1, q2, q3, q4, q5⟩, rfl, HX, F1⟩
              simp only [tkV]
              have HL1 : Hid (LxAt w w1 r (.slice oo acc.length cc) acc) := HL.out.keep F1
              obtain ⟨y0, y1, y2, y3, y4, hB⟩ := HL1.out.box
              have HB : Hid _ := hB
              obtain ⟨c0, c1, c2, c3, c4⟩ := box5 hB
              have fz := fun o => frozen_at (o := o) hB
              clear hB F1
              by_cases hz0 : z = 0
              · subst hz0
                have hx := HX.out rfl
                rw [← hx] at HON
                clear hx HX
                obtain ⟨ho, hpos, hend⟩ := HON.out.2 rfl
                have HG : Hid _ := lexF_go HK.out.2 hlt2 ho
                simp only at hpos hend
                have hend' : (a : Int) + (q2.size : Int) ≤ 8000 := by omega
                have HQ : Hid (a + q2.size ≤ s.size ∧ 0 < q2.size) := ⟨hend, hpos⟩
                have CLL := fun w => CL w q2 (by omega)
                clear ho hpos hend CL
                go_upto_region 16 with fail
                clear c0 c1 c2 c3 c4 fz
                refine sets5_wp HB.out fun W2 hB2 F2 => ?_
                have HL2 : Hid (LxAt w W2 r (.slice oo acc.length cc) acc) := HL1.out.bk F2 ⟨_, _, _, _, _, hB2⟩
                have HB2 : Hid _ := hB2
                clear HL1 HB F2
                obtain ⟨c0, c1, c2, c3, c4⟩ := box5 hB2
                have fz := fun o => frozen_at (o := o) hB2
                clear hB2
                go_wp2_with fail
                refine (CLL _).mono ?_
                rintro _ w3 ⟨rfl, F3⟩
                have hB3 : w3.heap[r]? = some (.cells #[.int .i64 q0, .int .i64 (a : Int), .string q2, .int .i64 q3, .complex .f64 q4 q5] 35 (0, 0)) := F3.heap (heap_set (o := 1) (u := .int .i64 (a : Int)) HB2.out) (fun f => f)
                have HL3 : Hid (LxAt w w3 r (.slice oo acc.length cc) acc) := (HL2.out.bk (fr_set W2 r 1 _) ⟨_, _, _, _, _, heap_set (o := 1) (u := .int .i64 (a : Int)) HB2.out⟩).keep F3
                have HO1 : Hid (LxAt w ((w3.setCell ⟨r, 2, none⟩ (.string q2)).alloc (.cells (elK.f ⟨q0, a, q2, q3, q4, q5⟩).toArray elK.e)) r (.slice oo acc.length cc) acc) := (HL3.out.bk (fr_set w3 r 2 _) ⟨_, _, _, _, _, heap_set (o := 2) (u := .string q2) hB3⟩).keep ((Fr.refl no _).alloc _ _)
                clear c0 c1 c2 c3 c4 fz F3 HL2 HL3
                obtain ⟨c0, c1, c2, c3, c4⟩ := box5 hB3
                have fz := fun o => frozen_at (o := o) hB3
                clear hB3
                go_wp2_with (at_builtin; refine wpList_apdG elK_ok _ rfl rfl _ _ rfl (.slice oo acc.length cc) acc rfl HO1.out.own _ rfl [⟨q0, a, q2, q3, q4, q5⟩] (srcG_oneN elK_ok (w3.setCell ⟨r, 2, none⟩ (.string q2)) _ (by simp [World.setCell]) ⟨q0, a, q2, q3, q4, q5⟩) (by have := HAL.out; simp; omega) ?_; intro v' w4 o4 s4; have H4 : Hid (LxAt w w4 r v' (acc ++ [⟨q0, a, q2, q3, q4, q5⟩])) := HO1.out.app o4 s4; clear o4 s4)
                go_step3
                refine HJ.out _ _ (AlAt.of (a := a + q2.size) (acc ++ [⟨q0, a, q2, q3, q4, q5⟩]) k HQ.out.1 (by have := HAL.out; have := HQ.out.2; simp; omega) H4.out (by have := HK.out.1; have := HQ.out.2; omega) HG.out) ?_
                have := HQ.out
                show s.size - (intOf (.int .i64 ((a : Int) + (q2.size : Int)))).toNat < _
                simp only [intOf]
                omega
              · have hz1 : ((z : Int) != 0) = true := by simp; omega
                have hz2 : ¬ (z : Int) = 0 := by omega
                obtain ⟨bb, mm, ho⟩ := HON.out.1 hz0
                have HR2 := lexF_bad HK.out.2 hlt2 ho hz0
                subst HR2
                clear ho HX
                go_wp2_with fail
                refine bodyPost_ret (results_tmp3 rfl _ _ _) rfl ?_
                exact ⟨_, rfl, ⟨OwnG.nil _ _, NewV.nil _⟩, HL1.out.fr.newBk sets5_fr HL1.out.ge⟩
            case false =>
              rw [hd] at DT
              have HON : Hid _ := one_sign hlt2 (by rw [HA.out]; exact hb) hc (by rw [HA.out]; exact hl) (by rw [HA.out]; exact hd)
              have NM := fun w => pSign w (behind s a) (by rw [size_behind]; omega)
              generalize sgErr (behind s a) = z at *
              generalize sgTok (behind s a) = X at *
              clear hbd hc
              go_wp2_with fail
              refine BL.mono ?_
              rintro _ wr ⟨rfl, rfl⟩
              go_wp2_with fail
              refine (PX _).mono ?_
              rintro _ wr ⟨rfl, rfl⟩
              go_wp2_with fail
              refine LT.mono ?_
              rintro _ wr ⟨rfl, rfl⟩
              go_wp2_with fail
              refine DT.mono ?_
              rintro _ wr ⟨rfl, rfl⟩
              go_wp2_with fail
              refine (NM _).mono ?_
              rintro _ w1 ⟨⟨q0, q1, q2, q3, q4, q5⟩, rfl, HX, F1⟩
              simp only [tkV]
              have HL1 : Hid (LxAt w w1 r (.slice oo acc.length cc) acc) := HL.out.keep F1
              obtain ⟨y0, y1, y2, y3, y4, hB⟩ := HL1.out.box
              have HB : Hid _ := hB
              obtain ⟨c0, c1, c2, c3, c4⟩ := box5 hB
              have fz := fun o => frozen_at (o := o) hB
              clear hB F1
              by_cases hz0 : z = 0
              · subst hz0
                have hx := HX.out rfl
                rw [← hx] at HON
                clear hx HX
                obtain ⟨ho, hpos, hend⟩ := HON.out.2 rfl
                have HG : Hid _ := lexF_go HK.out.2 hlt2 ho
                simp only at hpos hend
                have hend' : (a : Int) + (q2.size : Int) ≤ 8000 := by omega
                have HQ : Hid (a + q2.size ≤ s.size ∧ 0 < q2.size) := ⟨hend, hpos⟩
                have CLL := fun w => CL w q2 (by omega)
                clear ho hpos hend CL
                go_upto_region 16 with fail
                clear c0 c1 c2 c3 c4 fz
                refine sets5_wp HB.out fun W2 hB2 F2 => ?_
                have HL2 : Hid (LxAt w W2 r (.slice oo acc.length cc) acc) := HL1.out.bk F2 ⟨_, _, _, _, _, hB2⟩
                have HB2 : Hid _ := hB2
                clear HL1 HB F2
                obtain ⟨c0, c1, c2, c3, c4⟩ := box5 hB2
                have fz := fun o => frozen_at (o := o) hB2
                clear hB2
                go_wp2_with fail
                refine (CLL _).mono ?_
                rintro _ w3 ⟨rfl, F3⟩
                have hB3 : w3.heap[r]? = some (.cells #[.int .i64 q0, .int .i64 (a : Int), .string q2, .int .i64 q3, .complex .f64 q4 q5] 35 (0, 0)) := F3.heap (heap_set (o := 1) (u := .int .i64 (a : Int)) HB2.out) (fun f => f)
                have HL3 : Hid (LxAt w w3 r (.slice oo acc.length cc) acc) := (HL2.out.bk (fr_set W2 r 1 _) ⟨_, _, _, _, _, heap_set (o := 1) (u := .int .i64 (a : Int)) HB2.out⟩).keep F3
                have HO1 : Hid (LxAt w ((w3.setCell ⟨r, 2, none⟩ (.string q2)).alloc (.cells (elK.f ⟨q0, a, q2, q3, q4, q5⟩).toArray elK.e)) r (.slice oo acc.length cc) acc) := (HL3.out.bk (fr_set w3 r 2 _) ⟨_, _, _, _, _, heap_set (o := 2) (u := .string q2) hB3⟩).keep ((Fr.refl no _).alloc _ _)
                clear c0 c1 c2 c3 c4 fz F3 HL2 HL3
                obtain ⟨c0, c1, c2, c3, c4⟩ := box5 hB3
                have fz := fun o => frozen_at (o := o) hB3
                clear hB3
                go_wp2_with (at_builtin; refine wpList_apdG elK_ok _ rfl rfl _ _ rfl (.slice oo acc.length cc) acc rfl HO1.out.own _ rfl [⟨q0, a, q2, q3, q4, q5⟩] (srcG_oneN elK_ok (w3.setCell ⟨r, 2, none⟩ (.string q2)) _ (by simp [World.setCell]) ⟨q0, a, q2, q3, q4, q5⟩) (by have := HAL.out; simp; omega) ?_; intro v' w4 o4 s4; have H4 : Hid (LxAt w w4 r v' (acc ++ [⟨q0, a, q2, q3, q4, q5⟩])) := HO1.out.app o4 s4; clear o4 s4)
                go_step3
                refine HJ.out _ _ (AlAt.of (a := a + q2.size) (acc ++ [⟨q0, a, q2, q3, q4, q5⟩]) k HQ.out.1 (by have := HAL.out; have := HQ.out.2; simp; omega) H4.out (by have := HK.out.1; have := HQ.out.2; omega) HG.out) ?_
                have := HQ.out
                show s.size - (intOf (.int .i64 ((a : Int) + (q2.size : Int)))).toNat < _
                simp only [intOf]
                omega
              · have hz1 : ((z : Int) != 0) = true := by simp; omega
                have hz2 : ¬ (z : Int) = 0 := by omega
                obtain ⟨bb, mm, ho⟩ := HON.out.1 hz0
                have HR2 := lexF_bad HK.out.2 hlt2 ho hz0
                subst HR2
                clear ho HX
                go_wp2_with fail
                refine bodyPost_ret (results_tmp3 rfl _ _ _) rfl ?_
                exact ⟨_, rfl, ⟨OwnG.nil _ _, NewV.nil _⟩, HL1.out.fr.newBk sets5_fr HL1.out.ge⟩
  · rintro b wr ⟨lv, acc, L, hb, hal, hL, hR⟩ K hr
    unfold alF at hb
    subst hb
    subst hR
    obtain ⟨oo, cc, rfl⟩ := hL.own.form
    have HL : Hid (LxAt w wr w.heap.size (.slice oo acc.length cc) acc) := hL
    have HAL : Hid (acc.length ≤ s.size) := hal
    clear hL hal
    have HO1 : Hid (OwnG elK (wr.alloc (.cells (elK.f ⟨6, s.size, ⟨#[]⟩, 0, 0, 0⟩).toArray elK.e)) (.slice oo acc.length cc) acc) := HL.out.own.keep ((Fr.refl no _).alloc _ _)
    go_wp2_with (at_builtin; refine wpList_apdG elK_ok _ rfl rfl _ _ rfl (.slice oo acc.length cc) acc rfl HO1.out _ rfl [⟨6, s.size, ⟨#[]⟩, 0, 0, 0⟩] (srcG_one elK_ok wr ⟨6, s.size, ⟨#[]⟩, 0, 0, 0⟩) (by have := HAL.out; simp; omega) ?_; intro v' w3 o3 s3)
    obtain ⟨n3, f3⟩ := NewV.step (S := no) HL.out.new ((HL.out.fr).alloc _ _) s3
    refine bodyPost_ret (results_tmp3 rfl _ _ _) rfl ?_
    exact ⟨_, rfl, ⟨o3, n3⟩, f3⟩

theorem pAll (w : World) (s : ByteArray) :
    Calls Try.prog 9 #[.string s] w fun e w' => ∃ v, e = .returned (.tuple #[v, .int .i64 ((lexR s).1 : Nat), .int .i64 ((lexR s).2.2 : Nat)]) ∧ (OwnG elK w' v (lexR s).2.1 ∧ NewV w v) ∧ Fr no w w' := by
  by_cases h : 8000 < s.size
  · have h' : (8000 : Int) < (s.size : Int) := by omega
    have HR : lexR s = (0, [], 32) := if_pos h
    rw [HR]
    clear HR
    go_enter Try.func9, Try.ntmps9
    go_wp2_with fail
    go_step3
    go_wp2_with fail
    rw [Exit.noGoto_ret]
    refine bodyPost_ret (results_tmp3 rfl _ _ _) rfl ?_
    exact ⟨_, rfl, ⟨OwnG.nil _ _, NewV.nil _⟩, (Fr.refl no w).alloc _ _⟩
  · have HR : lexR s = lexF s (s.size + 1) 0 [] := if_neg h
    rw [HR]
    exact pAllS w s (by omega)
end Go.Proofs.Ytmpahllkbpofnaa
