/- End. -/
import Derived.Test.YtancclmnliiijaaSe
namespace Go.Proofs.Ytancclmnliiijaa
open Go.ChangeShapes Go.WideShapes Go.ChangeAt Go.RowKit

/-- Whether a thread waits for this one's end. -/
def jn (id : Int) : Int × Int → Bool := fun x => x.1 == 4 && x.2 == id
def fre (id : Int) : Int × Int → Int × Int := fun x => if jn id x then (1, 0) else x

theorem jn_yes {id : Int} {x : Int × Int} (h : x.1 = 4) (h2 : x.2 = id) : jn id x = true := by simp [jn, h, h2]
theorem jn_no4 {id : Int} {x : Int × Int} (h : x.1 ≠ 4) : jn id x = false := by simp [jn, h]
theorem jn_noid {id : Int} {x : Int × Int} (h : x.2 ≠ id) : jn id x = false := by simp [jn, h]
theorem fre_no {id : Int} {x : Int × Int} (h : jn id x = false) : fre id x = x := by simp [fre, h]
theorem fre_yes {id : Int} {x : Int × Int} (h : jn id x = true) : fre id x = (1, 0) := by simp [fre, h]

def endQ (n : Nat) (T : List (Int × Int)) (id : Int) : Bool := stA n T id == 1
def end1 (T : List (Int × Int)) (id : Int) : List (Int × Int) := T.set (id - 1).toNat (5, (plc T id).2)
def endE (n : Nat) (T : List (Int × Int)) (id : Int) : Int := if endQ n T id then 0 else 140
def endL (n : Nat) (T : List (Int × Int)) (id : Int) : List Int := if endQ n T id then sel (jn id) (end1 T id) n else []
def endT (n : Nat) (T : List (Int × Int)) (id : Int) : List (Int × Int) := if endQ n T id then upto (fre id) n (end1 T id) else T

section
variable {w : World} {p n : Nat} {T : List (Int × Int)}

theorem PS.tk {w' : World} {c : Nat} (h : PS w p n T) (hf : Fr (Tk [29, 65] c w) w w') : PS w' p n T := ⟨h.len, h.le, hf.box h.cells (by decide)⟩

/-- At the label of End. -/
def EnAt (c : Nat) (w : World) (p n : Nat) (T : List (Int × Int)) (id : Int) (x : Act) (wr : World) : Prop :=
  ∃ (k : Nat) (z : Int) (lv : Value) (u2 u3 u8 u9 u10 u11 u12 u13 u14 u15 u16 u17 u18 u19 u20 u21 u22 u23 u24 u25 u26 u27 u28 u29 u30 u31 u32 u33 u34 u35 u36 u37 u38 u39 u40 u41 u42 u43 u44 u45 : Value), x = { tmps := #[.pointer (some ⟨p, 0, none⟩), .int .i64 id, u2, u3, .slice none 0 0, .int .i64 0, lv, .int .i64 z, u8, u9, u10, u11, u12, u13, u14, u15, u16, u17, u18, u19, u20, u21, u22, u23, u24, u25, u26, u27, u28, u29, u30, u31, u32, u33, u34, u35, u36, u37, u38, u39, u40, u41, u42, u43, u44, u45], defers := [] } ∧ z = (k : Int) ∧ k ≤ n ∧ PS wr p n (upto (fre id) k T) ∧ OwnG elI wr lv (sel (jn id) T k) ∧ NewV w lv ∧ Fr (Tk [63] c w) w wr

theorem PS.put12 (h : PS w p n T) {i : Nat} {x : Int × Int} (hx : T[i]? = some x) (s o : Int) : PS ((w.setCell ⟨p, 1 + i * 2, none⟩ (.int .i64 s)).setCell ⟨p, 1 + i * 2 + 1, none⟩ (.int .i64 o)) p n (T.set i (s, o)) := by
  have h2 := h.put1 hx s
  have hi := (List.getElem?_eq_some_iff.1 hx).1
  have h3 := h2.put2 (i := i) (x := (s, x.2)) (by rw [List.getElem?_set_self hi]) o
  rw [List.set_set] at h3
  exact h3

set_option maxRecDepth 100000 in
set_option maxHeartbeats 1000000 in
theorem end_any (h : PS w p n T) (id : Int) (hid : In id) {c : Nat} (hc : c ≤ p) : Calls Try.prog 15 #[.pointer (some ⟨p, 0, none⟩), .int .i64 id] w fun e w' => ∃ v, e = .returned (.tuple #[v, .int .i64 (endE n T id)]) ∧ OwnG elI w' v (endL n T id) ∧ NewV w v ∧ PS w' p n (endT n T id) ∧ Fr (Tk [63] c w) w w' := by
  have ST := state_any h id hid
  have hle := h.le
  by_cases h1 : stA n T id = 1
  · obtain ⟨i, x, rfl, hi, hx, hxs⟩ := stA_there (by rw [h.len]; exact hle) (id := id) (fun e => by omega)
    have HZ : Hid (endE n T ((i : Int) + 1) = 0 ∧ endL n T ((i : Int) + 1) = sel (jn ((i : Int) + 1)) (T.set i (5, x.2)) n ∧ endT n T ((i : Int) + 1) = upto (fre ((i : Int) + 1)) n (T.set i (5, x.2))) := by
      simp [Hid, endE, endL, endT, endQ, end1, h1, plc_eq hx]
    rw [h1] at ST
    have hz := h.thaw
    have HP1 : Hid _ := h.put1 hx 5
    have HF1 : Hid (Fr (Tk [63] c w) w (w.setCell ⟨p, 1 + i * 2, none⟩ (.int .i64 5))) := (Fr.refl _ w).setCell (fun _ => h.tp hc) _
    have HTP : Hid (Tk [63] c w p) := h.tp hc
    have hpl : p < w.heap.size := lt_of_heap h.cells
    obtain ⟨c0, -⟩ := h.at hx
    clear h hx h1 hxs
    generalize T.set i (5, x.2) = T1 at *
    generalize hide : (i : Int) + 1 = id at *
    go_enter Try.func15, Try.ntmps15
    go_wp2_with fail
    refine wp_label_one 0 (EnAt c w p n T1 id) (fun x _ => 100 - (intOf (x.tmps.getD 7 undef)).toNat) rfl ?_ ?_
    · intro K h0 hr hn
      subst hide
      go_wp2_with fail
      refine ST.mono ?_
      rintro _ w1 ⟨rfl, hw1⟩
      subst hw1
      clear ST
      go_wp2_with fail
      go_step3
      rename_i hk
      exact hk _ _ (h0 _ _ ⟨0, _, _, _, _, _, _, _, _, _, _, _, _, _, _, _, _, _, _, _, _, _, _, _, _, _, _, _, _, _, _, _, _, _, _, _, _, _, _, _, _, _, _, rfl, rfl, Nat.zero_le _, by rw [upto_zero]; exact HP1.out, OwnG.nil _ _, NewV.nil _, HF1.out⟩)
    · clear HP1 HF1 c0 hz ST hide
      rintro x2 wr ⟨k, z, lv, u2, u3, u8, u9, u10, u11, u12, u13, u14, u15, u16, u17, u18, u19, u20, u21, u22, u23, u24, u25, u26, u27, u28, u29, u30, u31, u32, u33, u34, u35, u36, u37, u38, u39, u40, u41, u42, u43, u44, u45, rfl, rfl, hk, hps, how, hnv, hfr⟩ K hj hr hn
      have AF := after_any hps k hk 4
      have HO : Hid (OwnG elI wr lv (sel (jn id) T1 k) ∧ NewV w lv ∧ Fr (Tk [63] c w) w wr) := ⟨how, hnv, hfr⟩
      have HPS : Hid (PS wr p n (upto (fre id) k T1)) := hps
      clear how hnv hfr hps
      go_wp2_with fail
      refine AF.mono ?_
      rintro _ w2 ⟨r, rfl, hA, hw2⟩
      subst hw2
      clear AF
      rcases hA with ⟨rfl, hno⟩ | ⟨j, x, rfl, hkj, hjn, hx, hxs, hno⟩
      · have HS : Hid (sel (jn id) T1 n = sel (jn id) T1 k ∧ upto (fre id) n T1 = upto (fre id) k T1) :=
          ⟨sel_skip hk (fun i x a b c => jn_no4 (hno i x a b (by rw [upto_get a]; exact c))), upto_skip hk (fun i x a b c => fre_no (jn_no4 (hno i x a b (by rw [upto_get a]; exact c))))⟩
        clear hno
        go_wp2_with fail
        refine hr _ _ ?_
        go_ret2
        exact ⟨_, by rw [HZ.out.1]; rfl, by rw [HZ.out.2.1, HS.out.1]; exact HO.out.1, HO.out.2.1, by rw [HZ.out.2.2, HS.out.2]; exact HPS.out, HO.out.2.2⟩
      · have hj0 : ((j : Int) + 1 == 0) = false := by simp; omega
        have hx' : T1[j]? = some x := by rw [← upto_get hkj]; exact hx
        obtain ⟨c0, c1⟩ := HPS.out.at hx
        have hsk : sel (jn id) T1 j = sel (jn id) T1 k := sel_skip hkj (fun i x a b c => jn_no4 (hno i x a b (by rw [upto_get a]; exact c)))
        have huk : upto (fre id) j T1 = upto (fre id) k T1 := upto_skip hkj (fun i x a b c => fre_no (jn_no4 (hno i x a b (by rw [upto_get a]; exact c))))
        by_cases hq : x.2 = id
        · have hqb : (x.2 == id) = true := by simpa using hq
          have HS : Hid (sel (jn id) T1 (j + 1) = sel (jn id) T1 k ++ [(j : Int) + 1]) := by rw [Hid, sel_yes hx' (jn_yes hxs hq), hsk]
          have HU : Hid (upto (fre id) (j + 1) T1 = (upto (fre id) k T1).set j (1, 0)) := by rw [Hid, upto_step hx', fre_yes (jn_yes hxs hq), huk]
          have hz := HPS.out.thaw
          have hz2 := (HPS.out.put1 hx 1).thaw
          have hP2 := HPS.out.put12 hx 1 0
          have hF2 : Fr (fun q => q = p) w2 ((w2.setCell ⟨p, 1 + j * 2, none⟩ (.int .i64 1)).setCell ⟨p, 1 + j * 2 + 1, none⟩ (.int .i64 0)) := ((Fr.refl (fun q => q = p) w2).setCell (p := ⟨p, 1 + j * 2, none⟩) (fun _ => rfl) _).setCell (p := ⟨p, 1 + j * 2 + 1, none⟩) (fun _ => rfl) _
          have hO2 : OwnG elI ((w2.setCell ⟨p, 1 + j * 2, none⟩ (.int .i64 1)).setCell ⟨p, 1 + j * 2 + 1, none⟩ (.int .i64 0)) lv (sel (jn id) T1 k) := HO.out.1.kept hF2 (fun q hq e => by
            subst e
            obtain ⟨cur, hc⟩ := HO.out.1.tag hq
            rw [HPS.out.cells] at hc
            simp [elI] at hc)
          have hFr2 : Fr (Tk [63] c w) w ((w2.setCell ⟨p, 1 + j * 2, none⟩ (.int .i64 1)).setCell ⟨p, 1 + j * 2 + 1, none⟩ (.int .i64 0)) := HO.out.2.2.trans hF2 (fun _ _ f => f) (fun q _ e => by rw [e]; exact HTP.out)
          have HN2 : Hid (NewV w lv) := HO.out.2.1
          have HQ : Hid (∀ W2 : World, (w2.setCell ⟨p, 1 + j * 2, none⟩ (.int .i64 1)).setCell ⟨p, 1 + j * 2 + 1, none⟩ (.int .i64 0) = W2 → PS W2 p n (upto (fre id) (j + 1) T1) ∧ OwnG elI W2 lv (sel (jn id) T1 k) ∧ Fr (Tk [63] c w) w W2) := fun W2 e => by
            subst e
            rw [HU.out]
            exact ⟨hP2, hO2, hFr2⟩
          have HL : Hid ((sel (jn id) T1 k).length + [(j : Int) + 1].length ≤ 1000000) := by
            have := sel_len (jn id) T1 k
            simp only [Hid, List.length_cons, List.length_nil]
            omega
          clear hno hx hxs hq hsk huk hx' hP2 hF2 hO2 hFr2 HPS HO HU
          go_upto_region 11 with fail
          generalize hW2 : (w2.setCell ⟨p, 1 + j * 2, none⟩ (.int .i64 1)).setCell ⟨p, 1 + j * 2 + 1, none⟩ (.int .i64 0) = W2 at *
          obtain ⟨q1, q2, q3⟩ := HQ.out W2 rfl
          have HQ1 : Hid (PS W2 p n (upto (fre id) (j + 1) T1)) := q1
          have HO1 : Hid (OwnG elI (W2.alloc (.cells (elI.f ((j : Int) + 1)).toArray elI.e)) lv (sel (jn id) T1 k)) := q2.keep ((Fr.refl no W2).alloc _ _)
          have HFR : Hid (Fr (Tk [63] c w) w (W2.alloc (.cells (elI.f ((j : Int) + 1)).toArray elI.e))) := q3.alloc _ _
          have HSR : Hid _ := srcG_one elI_ok W2 ((j : Int) + 1)
          have HPP : Hid (∀ v' w3, Sp lv (W2.alloc (.cells (elI.f ((j : Int) + 1)).toArray elI.e)) v' w3 → PS w3 p n (upto (fre id) (j + 1) T1)) := fun v' w3 s3 =>
            (q1.keep ((Fr.refl no W2).alloc _ _)).kept s3.1 (fun e => by
              obtain ⟨cur, hc⟩ := HO1.out.tag e
              rw [(q1.keep ((Fr.refl no W2).alloc _ _)).cells] at hc
              simp [elI] at hc)
          clear q1 q2 q3 HQ hW2
          go_wp2_with (at_builtin; refine wpList_apdG elI_ok _ rfl rfl _ _ rfl lv (sel (jn id) T1 k) rfl HO1.out _ rfl [(j : Int) + 1] HSR.out HL.out ?_; intro v' w3 o3 s3; have H3 : Hid (OwnG elI w3 v' (sel (jn id) T1 k ++ [(j : Int) + 1]) ∧ (NewV w v' ∧ Fr (Tk [63] c w) w w3) ∧ PS w3 p n (upto (fre id) (j + 1) T1)) := ⟨o3, HN2.out.step HFR.out s3, HPP.out v' w3 s3⟩; clear o3 s3)
          go_step3
          refine hj _ _ ⟨j + 1, _, _, _, _, _, _, _, _, _, _, _, _, _, _, _, _, _, _, _, _, _, _, _, _, _, _, _, _, _, _, _, _, _, _, _, _, _, _, _, _, _, _, rfl, by omega, by omega, H3.out.2.2, by rw [HS.out]; exact H3.out.1, H3.out.2.1⟩ ?_
          simp [intOf]
          omega
        · have hqb : (x.2 == id) = false := by simpa using hq
          have HS : Hid (sel (jn id) T1 (j + 1) = sel (jn id) T1 k) := by rw [Hid, sel_no hx' (jn_noid hq), hsk]
          have HU : Hid (upto (fre id) (j + 1) T1 = upto (fre id) k T1) := by rw [Hid, upto_same hx' (fre_no (jn_noid hq)), huk]
          clear hno hx hxs hq hsk huk hx'
          go_wp2_with fail
          go_step3
          refine hj _ _ ⟨j + 1, _, _, _, _, _, _, _, _, _, _, _, _, _, _, _, _, _, _, _, _, _, _, _, _, _, _, _, _, _, _, _, _, _, _, _, _, _, _, _, _, _, _, rfl, by omega, by omega, by rw [HU.out]; exact HPS.out, by rw [HS.out]; exact HO.out.1, HO.out.2⟩ ?_
          simp [intOf]
          omega
  · have g1 : (stA n T id != 1) = true := by simpa using h1
    have HZ : Hid (endE n T id = 140 ∧ endL n T id = [] ∧ PS w p n (endT n T id)) := by simp [Hid, endE, endL, endT, endQ, h1]; exact h
    clear h h1
    generalize stA n T id = sv at *
    go_enter Try.func15, Try.ntmps15
    go_wp2_with fail
    refine wp_label_one 0 (fun _ _ => False) (fun _ _ => 0) rfl ?_ (fun _ _ f => f.elim)
    intro K h0 hr hn
    clear h0 hn
    go_wp2_with fail
    refine ST.mono ?_
    rintro _ w1 ⟨rfl, hw1⟩
    subst hw1
    clear ST
    go_wp2_with fail
    go_ret2
    exact ⟨_, by rw [HZ.out.1]; rfl, by rw [HZ.out.2.1]; exact OwnG.nil _ _, NewV.nil _, HZ.out.2.2, Fr.refl _ _⟩
end
end Go.Proofs.Ytancclmnliiijaa
