/- SchedPicks. -/
import Derived.Test.YtancclmnliiijaaJp
import Derived.Deep.CutBlock
import Derived.Deep.DeepCutAuto
namespace Go.Proofs.Ytancclmnliiijaa
open Go.ChangeShapes Go.WideShapes Go.ChangeAt Go.RowKit

/-- Threads none of which has joined or ended. -/
structure KI (m : Nat) (T : List (Int × Int)) : Prop where
  len : T.length = 12
  mm : m ≤ 12
  all : ∀ j x, j < m → T[j]? = some x → x.1 = 1 ∨ x.1 = 2 ∨ x.1 = 3

theorem KI.begin {m : Nat} (h : m ≤ 12) : KI m (rT m) := ⟨by simp [rT]; omega, h, fun j x hj hx => by
  rw [rT_get hj] at hx
  obtain rfl := Option.some.inj hx
  exact .inl rfl⟩

section
variable {m : Nat} {T : List (Int × Int)}

theorem KI.set (h : KI m T) {j : Nat} (hj : j < m) {s : Int} (hs : s = 1 ∨ s = 2 ∨ s = 3) : setE m T ((j : Int) + 1) s = 0 ∧ KI m (setT m T ((j : Int) + 1) s) := by
  have hm := h.mm
  have hl := h.len
  obtain ⟨x, hx⟩ : ∃ x, T[j]? = some x := ⟨_, List.getElem?_eq_getElem (by omega)⟩
  have s1 : stA m T ((j : Int) + 1) = x.1 := stA_yes hj hx
  have q : setQ m T ((j : Int) + 1) s = true := by
    unfold setQ
    rw [s1]
    have a1 : sbl x.1 = true := decide_eq_true (h.all j x hj hx)
    have a2 : sbl s = true := decide_eq_true hs
    rw [a1, a2]
    rfl
  refine ⟨by simp [setE, q], ?_⟩
  have e : setT m T ((j : Int) + 1) s = T.set j (s, x.2) := by simp [setT, q, plc_eq hx]
  rw [e]
  refine ⟨by simpa using hl, hm, fun i y hi hy => ?_⟩
  by_cases hij : j = i
  · subst hij
    rw [List.getElem?_set_self (by omega)] at hy
    obtain rfl := Option.some.inj hy
    exact hs
  · rw [List.getElem?_set_ne hij] at hy
    exact h.all i y hi hy

theorem KI.stuck (h : KI m T) (h0 : sel rdy T m = []) : stk m T = decide ((m : Int) > 0) := by
  have hm := h.mm
  have hl := h.len
  unfold stk
  rw [h0]
  by_cases e : m = 0
  · subst e
    rfl
  · have ho : ovr m T = false := Bool.eq_false_iff.2 (fun ho => by
      obtain ⟨x, hx⟩ : ∃ x, T[0]? = some x := ⟨_, List.getElem?_eq_getElem (by omega)⟩
      have a := (ovr_iff m T).1 ho 0 x (by omega) hx
      have b := h.all 0 x (by omega) hx
      omega)
    rw [ho]
    have : 0 < m := by omega
    simp [this]

theorem pk_more (l : List Int) (k : Int) : pkN l (k + (l.length : Int)) = pkN l k := by
  unfold pkN
  rw [Int.add_emod_right]

theorem pk_place {l : List Int} {i : Nat} {x : Int} (h : l[i]? = some x) : pkN l (i : Int) = x := by
  have hi := (List.getElem?_eq_some_iff.1 h).1
  unfold pkN
  rw [Int.emod_eq_of_lt (by omega) (by omega), Int.toNat_natCast, List.getD_eq_getElem?_getD, h]
  rfl

theorem pk_state {k : Int} (h0 : 0 < (sel rdy T m).length) : stA m T (pkN (sel rdy T m) k) = 1 ∧ In (pkN (sel rdy T m) k) ∨ 12 < m := by
  obtain ⟨i, -, -, hi⟩ := pk_at k h0
  obtain ⟨j, x, e, hj, hx, hr⟩ := sel_mem (List.mem_of_getElem? hi)
  by_cases hm : 12 < m
  · exact .inr hm
  · rw [e]
    exact .inl ⟨by rw [stA_yes hj hx]; simpa [rdy] using hr, by omega, by omega⟩
end

set_option maxRecDepth 100000 in
set_option maxHeartbeats 4000000 in
theorem picks_any (w : World) (a : Nat) (v : Value) (l : List Nat) (k : Int) (ha : a ≤ 255) (h : RdG elY w v l) (hb : ∀ c ∈ l, c < 256) (hk1 : -9223372036854775808 ≤ k) (hk2 : k ≤ 9223372036854775807) :
    Calls Try.prog 4 #[.int .u8 (a : Int), v, .int .i64 k] w fun e w' => e = .returned (.bool true) ∧ Fr no w w' := by
  have HR : Hid (RdG elY w v l) := h
  have HB : Hid (∀ c ∈ l, c < 256) := hb
  obtain ⟨ad, cp, rfl⟩ := h.form
  have KN := known_any w
  clear h hb
  generalize hn : l.length = n at *
  by_cases hlen : n > 12
  · have hlen' : (n : Int) > 12 := by omega
    go_enter Try.func4, Try.ntmps4
    go_wp2_with fail
    refine KN.mono ?_
    rintro _ w1 ⟨rfl, f1⟩
    have HF : Hid _ := f1
    clear KN f1
    go_wp2_with fail
    go_ret
    exact ⟨rfl, HF.out⟩
  have hlen' : ¬ ((n : Int) > 12) := by omega
  by_cases hkb : k > 1099511627776
  · go_enter Try.func4, Try.ntmps4
    go_wp2_with fail
    refine KN.mono ?_
    rintro _ w1 ⟨rfl, f1⟩
    have HF : Hid _ := f1
    clear KN f1
    go_wp2_with fail
    go_ret
    exact ⟨rfl, HF.out⟩
  by_cases hkl : k < -1099511627776
  · go_enter Try.func4, Try.ntmps4
    go_wp2_with fail
    refine KN.mono ?_
    rintro _ w1 ⟨rfl, f1⟩
    have HF : Hid _ := f1
    clear KN f1
    go_wp2_with fail
    go_ret
    exact ⟨rfl, HF.out⟩
  go_enter Try.func4, Try.ntmps4
  go_wp2_with fail
  refine KN.mono ?_
  rintro _ w1 ⟨rfl, f1⟩
  have NW := Js.new f1
  clear KN f1
  go_wp2_with fail
  refine NW.mono ?_
  rintro _ w2 ⟨p, rfl, j2, -⟩
  have HJ2 : Hid _ := j2
  clear NW j2
  go_wp2_with fail
  have ham : a % 13 ≤ 12 := by omega
  obtain ⟨m, hm⟩ : ∃ m : Nat, a % 13 = m := ⟨_, rfl⟩
  have hmi : (a : Int) % 13 = (m : Int) := by omega
  have hm12 : m ≤ 12 := by omega
  clear hm ham
  go_loopw [8] (fun iv wr => ∃ j : Nat, iv = .int .i64 (j : Int) ∧ j ≤ m ∧ Js w wr p j (rT j)) (fun iv _ => m - (intOf iv).toNat)
  case atStart => exact ⟨0, rfl, Nat.zero_le _, HJ2.out⟩
  case round =>
    clear HJ2
    obtain ⟨j, rfl, hj, js⟩ := hrel
    by_cases hjm : j < m
    · have hjm' : (j : Int) < (m : Int) := by omega
      have hj12 : (j : Int) < 12 := by omega
      have SP := js.spawn (by omega)
      rw [rT_step j (by omega)] at SP
      clear js
      go_wp2_with fail
      refine SP.mono ?_
      rintro _ w3 ⟨rfl, j3, -⟩
      have HJ3 : Hid _ := j3
      clear SP j3
      go_wp2_with fail
      go_roundw
      case rel => exact ⟨j + 1, by go_num, by omega, HJ3.out⟩
      case measure => simp [intOf]; omega
    · obtain rfl : j = m := by omega
      have HJ3 : Hid _ := js
      clear js
      go_upto_block 2 with fail
      clear hmi
      go_cut [11] (fun iv wc => ∃ T : List (Int × Int), Js w wc p j T ∧ KI j T)
      case first =>
        go_wp2_with fail
        go_loopw [11] (fun iv wr => ∃ (i : Nat) (T : List (Int × Int)), iv = .int .i64 (i : Int) ∧ i ≤ n ∧ i ≤ j ∧ Js w wr p j T ∧ KI j T) (fun iv _ => 20 - (intOf iv).toNat)
        case atStart => exact ⟨0, _, rfl, Nat.zero_le _, Nat.zero_le _, HJ3.out, KI.begin hm12⟩
        case round =>
          clear HJ3
          obtain ⟨i, T, rfl, hi, hij, js, ki⟩ := hrel
          have HKI : Hid (KI j T) := ki
          have LN := len_any js.ps
          have HJ : Hid (Js w wr p j T) := js
          clear js ki
          by_cases hgo : i < n ∧ i < j
          · obtain ⟨g1, g2⟩ := hgo
            have g1' : (i : Int) < (n : Int) := by omega
            have g2' : (i : Int) < (j : Int) := by omega
            obtain ⟨x, hx⟩ : ∃ x, l[i]? = some x := ⟨_, List.getElem?_eq_getElem (by omega)⟩
            obtain ⟨b0, o0, hov, hc0⟩ := (HR.out.keep HJ.out.fr).at1 (u := .int .u8 (x : Int)) rfl rfl hx
            have hx256 := HB.out x (List.mem_of_getElem? hx)
            subst hov
            obtain ⟨y, hy⟩ : ∃ y : Nat, (x : Int) % 3 = (y : Int) := ⟨x % 3, by omega⟩
            have hy3 : (y : Int) + 1 = 1 ∨ (y : Int) + 1 = 2 ∨ (y : Int) + 1 = 3 := by omega
            obtain ⟨s1, s2⟩ := HKI.out.set g2 hy3
            have SE := HJ.out.set ((i : Int) + 1) ((y : Int) + 1) ⟨by omega, by omega⟩
            rw [s1] at SE
            have HS2 : Hid _ := s2
            clear hx s1 s2 hy3
            go_wp2_with fail
            refine LN.mono ?_
            rintro _ w3 ⟨rfl, hw3⟩
            subst hw3
            clear LN
            go_wp2_with fail
            refine SE.mono ?_
            rintro _ w4 ⟨rfl, j4, -⟩
            have HJ4 : Hid _ := j4
            clear SE j4 hc0
            go_wp2_with fail
            go_roundw
            case rel => exact ⟨i + 1, _, by go_num, by omega, by omega, HJ4.out, HS2.out⟩
            case measure => simp [intOf]; omega
          · have HG : Hid (¬ (i < n ∧ i < j)) := hgo
            by_cases g1 : i < n
            · have g1' : (i : Int) < (n : Int) := by omega
              have g2' : ¬ ((i : Int) < (j : Int)) := by have := HG.out; omega
              clear hgo
              go_wp2_with fail
              refine LN.mono ?_
              rintro _ w3 ⟨rfl, hw3⟩
              subst hw3
              clear LN
              go_wp2_with fail
              go_meet
              exact ⟨T, HJ.out, HKI.out⟩
            · have g1' : ¬ ((i : Int) < (n : Int)) := by omega
              clear hgo LN
              go_wp2_with fail
              go_meet
              exact ⟨T, HJ.out, HKI.out⟩
      case rest =>
        clear HJ3
        obtain ⟨T, js, ki⟩ := hcut
        have HJ : Hid (Js w wc p j T) := js
        have HKI : Hid (KI j T) := ki
        have RD := js.ready
        clear js ki
        go_wp2_with fail
        refine RD.mono ?_
        rintro _ w3 ⟨o3, k3, c3, rfl, hk3, h3, n3, f3⟩
        have HO3 : Hid (OwnG elI w3 (.slice o3 k3 c3) (sel rdy T j)) := h3
        have HJ3 : Hid (Js w w3 p j T) := HJ.out.keep f3
        have hk12 : k3 ≤ 12 := by have := sel_len rdy T j; omega
        have HK3 : Hid (k3 = (sel rdy T j).length) := hk3
        have PK := HJ3.out.pick k
        clear RD h3 n3 f3 HJ hk3
        by_cases hz : k3 = 0
        · subst hz
          have h0 : sel rdy T j = [] := List.eq_nil_of_length_eq_zero HK3.out.symm
          rw [h0, show pkN [] k = 0 from pk_nil k, show pkO [] = false from rfl] at PK
          have SK := stuck_any HJ3.out.ps
          rw [HKI.out.stuck h0] at SK
          have LN := len_any HJ3.out.ps
          clear h0
          go_wp2_with fail
          refine PK.mono ?_
          rintro _ w4 ⟨rfl, f4⟩
          have SK := stuck_any (HJ3.out.keep f4).ps
          rw [HKI.out.stuck (List.eq_nil_of_length_eq_zero HK3.out.symm)] at SK
          have LN := len_any (HJ3.out.keep f4).ps
          have HF4 : Hid (Fr no w w4) := (HJ3.out.keep f4).fr
          clear PK f4
          go_wp2_with fail
          refine SK.mono ?_
          rintro _ w5 ⟨rfl, hw5⟩
          subst hw5
          clear SK
          go_wp2_with fail
          refine LN.mono ?_
          rintro _ w5 ⟨rfl, hw5⟩
          subst hw5
          clear LN
          go_wp2_with fail
          go_ret
          exact ⟨rfl, HF4.out⟩
        · have hz2 : 0 < k3 := by omega
          have hz' : (k3 : Int) > 0 := by omega
          have hpos : 0 < (sel rdy T j).length := by have := HK3.out; omega
          have hO : pkO (sel rdy T j) = true := by
            unfold pkO
            cases hs : sel rdy T j with
            | nil => rw [hs] at hpos; simp at hpos
            | cons _ _ => rfl
          have PK2 : Hid (∀ q w', Fr no w3 w' → Calls Try.prog 18 #[.pointer (some ⟨p, 0, none⟩), .int .i64 q] w' fun e w2 => e = .returned (.tuple #[.int .i64 (pkN (sel rdy T j) q), .bool true]) ∧ Fr no w3 w2) := fun q w' f => by
            have := (HJ3.out.keep f).pick q
            rw [hO] at this
            exact this.mono fun _ _ ⟨he, g⟩ => ⟨he, f.and g⟩
          obtain ⟨hst, hin⟩ : stA j T (pkN (sel rdy T j) k) = 1 ∧ In (pkN (sel rdy T j) k) := by
            rcases pk_state (k := k) hpos with h | h
            · exact h
            · omega
          have ST2 : Hid (∀ w', Fr no w3 w' → Calls Try.prog 27 #[.pointer (some ⟨p, 0, none⟩), .int .i64 (pkN (sel rdy T j) k)] w' fun e w2 => e = .returned (.int .i64 1) ∧ w2 = w') := fun w' f => by
            have := state_any (HJ3.out.keep f).ps _ hin
            rw [hst] at this
            exact this
          have P0 := PK2.out k w3 (Fr.refl _ _)
          have hmore : pkN (sel rdy T j) (k + (k3 : Int)) = pkN (sel rdy T j) k := by rw [HK3.out]; exact pk_more _ _
          have HME : Hid _ := hmore
          have HPL : Hid (∀ (i : Nat) x, (sel rdy T j)[i]? = some x → pkN (sel rdy T j) (i : Int) = x) := fun i x h => pk_place h
          clear PK hst hin hO hpos hmore
          generalize hpk : pkN (sel rdy T j) k = id0 at *
          go_wp2_with fail
          refine P0.mono ?_
          rintro _ w4 ⟨rfl, f4⟩
          have P1 := PK2.out (k + (k3 : Int)) w4 f4
          rw [HME.out] at P1
          clear P0 f4
          go_wp2_with fail
          refine P1.mono ?_
          rintro _ w5 ⟨rfl, f5⟩
          have S5 := ST2.out w5 f5
          have HF5 : Hid (Fr no w3 w5) := f5
          clear P1 f5
          go_wp2_with fail
          refine S5.mono ?_
          rintro _ w6 ⟨rfl, hw6⟩
          subst hw6
          clear S5
          go_wp2_with fail
          clear hpk
          go_loopw [17] (fun iv wr => ∃ i : Nat, iv = .int .i64 (i : Int) ∧ i ≤ k3 ∧ Fr no w3 wr) (fun iv _ => 20 - (intOf iv).toNat)
          case atStart => exact ⟨0, rfl, Nat.zero_le _, HF5.out⟩
          case round =>
            clear HF5
            obtain ⟨i, rfl, hi, hfr⟩ := hrel
            have HFR : Hid (Fr no w3 wr) := hfr
            clear hfr
            by_cases hik : i < k3
            · have hik' : (i : Int) < (k3 : Int) := by omega
              obtain ⟨x, hx⟩ : ∃ x, (sel rdy T j)[i]? = some x := ⟨_, List.getElem?_eq_getElem (by have := HK3.out; omega)⟩
              have P2 := PK2.out (i : Int) wr HFR.out
              rw [HPL.out i x hx] at P2
              have HX : Hid _ := hx
              clear hx
              go_wp2_with fail
              refine P2.mono ?_
              rintro _ w7 ⟨rfl, f7⟩
              obtain ⟨b0, off0, hov, hc0⟩ := ((HO3.out.keep f7).rd elI_ok).at1 (u := .int .i64 x) rfl rfl HX.out
              subst hov
              have HF7 : Hid _ := f7
              clear P2 f7
              go_wp2_with fail
              go_roundw
              case rel => exact ⟨i + 1, by go_num, by omega, HF7.out⟩
              case measure => simp [intOf]; omega
            · obtain rfl : i = k3 := by omega
              go_wp2_with fail
              go_ret
              exact ⟨rfl, HJ3.out.fr.and HFR.out⟩
end Go.Proofs.Ytancclmnliiijaa
