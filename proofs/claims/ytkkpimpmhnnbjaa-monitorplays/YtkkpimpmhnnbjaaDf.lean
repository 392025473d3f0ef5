/- Enter of the document. -/
import Derived.Test.YtkkpimpmhnnbjaaDe
import Derived.Deep.CutBlock
import Derived.Deep.DeepCutAuto
namespace Go.Proofs.Ytkkpimpmhnnbjaa
open Go.ChangeShapes Go.WideShapes Go.ChangeAt Go.RowKit

def dIn (t : Int) (x : Lk) : Bool := x.entry.any (fun z => z.1 == t) || x.wait.any (fun z => z.1 == t)

def dStand (T : List (Int × Lk)) (t : Int) : Bool := T.any (fun p => dIn t p.2)

def dEnterAt (t : Int) (x : Lk) : Bool × Lk :=
  if x.owner = 0 then (true, { x with owner := t, count := 1 })
  else if x.owner = t then (true, { x with count := x.count + 1, fat := x.fat || decide (x.count + 1 > 3) })
  else (false, { x with fat := true, entry := x.entry ++ [(t, 1)] })

def dEnterP (a t : Int) (T : List (Int × Lk)) : Bool × Int × List (Int × Lk) :=
  if dStand T t = true then (false, 130, T)
  else if a < 1 ∨ t < 1 then (false, 130, T)
  else match fdT T a with
    | none => ((dEnterAt t lk0).1, 0, T ++ [(a, (dEnterAt t lk0).2)])
    | some i => match T[i]? with
      | none => (false, 0, T)
      | some x => ((dEnterAt t x.2).1, 0, T.set i (a, (dEnterAt t x.2).2))

/-- The table with the object's lock in it, where it is. -/
def dWith (a : Int) (T : List (Int × Lk)) : List (Int × Lk) := match fdT T a with | none => T ++ [(a, lk0)] | some _ => T
def dAt (a : Int) (T : List (Int × Lk)) : Nat := match fdT T a with | none => T.length | some i => i

theorem dWith_at (a : Int) (T : List (Int × Lk)) : ∃ x, (dWith a T)[dAt a T]? = some (a, x) ∧ ∀ t, 1 ≤ a → 1 ≤ t → dStand T t = false → dEnterP a t T = ((dEnterAt t x).1, 0, (dWith a T).set (dAt a T) (a, (dEnterAt t x).2)) := by
  unfold dWith dAt
  cases hf : fdT T a with
  | none =>
    refine ⟨lk0, by simp, fun t h1 h2 h3 => ?_⟩
    unfold dEnterP
    rw [if_neg (by rw [h3]; decide), if_neg (by omega), hf]
    simp
  | some i =>
    obtain ⟨x, hx, -⟩ := fdT_at hf
    refine ⟨x, hx, fun t h1 h2 h3 => ?_⟩
    unfold dEnterP
    rw [if_neg (by rw [h3]; decide), if_neg (by omega), hf]
    simp only [hx]

def d0 (a : Int) : Dl := ⟨a, lk0, .slice none 0 0, .slice none 0 0, rfl, rfl⟩

/-- A lock is appended to the document's table. -/
theorem DT.app {c : Nat} {w w3 : World} {q : Nat} {D : List Dl} {vl v' : Value} (h : DT c w q D) (hq : w.heap[q]? = some (.cells #[vl] 29 (0, 0))) (a : Int) (o3 : OwnG elK w3 v' (D ++ [d0 a])) (s3 : Sp vl w v' w3) :
    w3.cell? ⟨q, 0, none⟩ = some vl ∧ w3.frozen? ⟨q, 0, none⟩ = false ∧ DT c (w3.setCell ⟨q, 0, none⟩ v') q (D ++ [d0 a]) ∧ Fr (Td c w) w (w3.setCell ⟨q, 0, none⟩ v') := by
  obtain ⟨vl', h1, h2, h3⟩ := h.hd
  rw [hq] at h1
  simp only [Option.some.injEq, Obj.cells.injEq, Array.mk.injEq, List.cons.injEq, and_true, and_self] at h1
  subst h1
  have hqlt := lt_of_heap hq
  have hcq := h.cq
  have hnq : ∀ k, vl.ownBlock = some k → k ≠ q := fun k hk e => by
    obtain ⟨cur, hc⟩ := h2.tag hk
    rw [e, hq] at hc
    simp [elK] at hc
  have hq3 := s3.1.heap hq (fun e => hnq q e rfl)
  obtain ⟨g1, g2⟩ := cells1 hq3
  have hvq : ∀ k, v'.ownBlock = some k → k ≠ q := fun k hk e => by
    subst e
    exact hnq k (s3.2 k hqlt hk) rfl
  have fs := (Fr.refl (fun k => k = q) w3).setCell (p := ⟨q, 0, none⟩) (fun _ => rfl) v'
  have rk : ∀ {v : Value} {l : List (Int × Int)}, OwnG elD w v l → OwnG elD (w3.setCell ⟨q, 0, none⟩ v') v l := by
    intro v l ho
    refine (ho.kept s3.1 (fun k hk e => ?_)).kept fs (fun k hk e => ?_)
    · obtain ⟨cur, hc⟩ := ho.tag hk
      obtain ⟨cur2, hc2⟩ := h2.tag e
      rw [hc] at hc2
      simp [elD, elK] at hc2
    · obtain ⟨cur, hc⟩ := ho.tag hk
      rw [e, hq] at hc
      simp [elD] at hc
  refine ⟨g1, g2, ⟨hcq, ⟨v', ?_, o3.kept fs (fun k hk => hvq k hk), fun b hb => ?_⟩, fun d hd => ?_⟩, s3.1.trans fs (fun k _ e => ?_) (fun k _ e => ?_)⟩
  · unfold World.setCell
    simp [Array.getElem?_modify, hq3]
  · by_cases hlt : b < w.heap.size
    · exact h3 b (s3.2 b hlt hb)
    · omega
  · rcases List.mem_append.1 hd with hd | hd
    · exact ⟨rk (h.rows d hd).1, rk (h.rows d hd).2⟩
    · simp at hd
      subst hd
      exact ⟨OwnG.nil _ _, OwnG.nil _ _⟩
  · obtain ⟨cur, hc⟩ := h2.tag e
    exact ⟨h3 k e, cur, 72, hc, .inr rfl⟩
  · rw [e]
    exact ⟨hcq, _, 29, hq, .inl rfl⟩
theorem dEnterP_stand {a t : Int} {T : List (Int × Lk)} (h : dStand T t = true) : dEnterP a t T = (false, 130, T) := by
  unfold dEnterP
  rw [if_pos h]

theorem dEnterP_bad {a t : Int} {T : List (Int × Lk)} (h : a < 1 ∨ t < 1) : dEnterP a t T = (false, 130, T) := by
  unfold dEnterP
  by_cases h1 : dStand T t = true
  · rw [if_pos h1]
  · rw [if_neg h1, if_pos h]

theorem told_app (D : List Dl) (a : Int) : told (D ++ [d0 a]) = told D ++ [(a, lk0)] := by
  unfold told
  rw [List.map_append]
  rfl

theorem dWith_bd {a : Int} {T : List (Int × Lk)} (h : ∀ p ∈ T, p.2.entry.length ≤ 800000 ∧ p.2.wait.length ≤ 800000 ∧ 0 ≤ p.2.count ∧ p.2.count ≤ 1000000) : ∀ p ∈ dWith a T, p.2.entry.length ≤ 800000 ∧ p.2.wait.length ≤ 800000 ∧ 0 ≤ p.2.count ∧ p.2.count ≤ 1000000 := by
  intro p hp
  unfold dWith at hp
  split at hp
  · rcases List.mem_append.1 hp with hp | hp
    · exact h p hp
    · simp at hp
      subst hp
      exact ⟨by simp [lk0], by simp [lk0], by simp [lk0], by simp [lk0]⟩
  · exact h p hp

set_option maxRecDepth 100000 in
set_option maxHeartbeats 1000000 in
theorem dEnter_any {c : Nat} {w : World} {q : Nat} {T : List (Int × Lk)} (h : DB c w q T) (a t : Int) (hl : T.length ≤ 2000) (hb : ∀ p ∈ T, p.2.entry.length ≤ 800000 ∧ p.2.wait.length ≤ 800000 ∧ 0 ≤ p.2.count ∧ p.2.count ≤ 1000000) :
    Calls Try.prog 11 #[.pointer (some ⟨q, 0, none⟩), .int .i64 a, .int .i64 t] w fun e w' => e = .returned (.tuple #[.bool (dEnterP a t T).1, .int .i64 (dEnterP a t T).2.1]) ∧ DB c w' q (dEnterP a t T).2.2 ∧ Fr (Td c w) w w' := by
  obtain ⟨D, hD, rfl⟩ := h
  rw [told_length] at hl
  have FD := find_any hD a (by omega)
  obtain ⟨o, cap, k1, k2, -, hg⟩ := hD.get
  have HG : Hid (∀ i d, D[i]? = some d → ∃ b r, o = some ⟨b, r, none⟩ ∧ Dx c w q D i d b (r + i * 6)) := hg
  have HD : Hid (DT c w q D) := hD
  have HB : Hid (∀ p ∈ told D, p.2.entry.length ≤ 800000 ∧ p.2.wait.length ≤ 800000 ∧ 0 ≤ p.2.count ∧ p.2.count ≤ 1000000) := hb
  clear hg hD hb
  generalize hn : D.length = n at *
  go_enter Try.func11, Try.ntmps11
  go_upto_block 0 with fail
  go_cut [8] (fun _ wc => wc = w ∧ dStand (told D) t = false)
  case first =>
    go_wp2_with fail
    go_loop [8] (fun i => ∃ (k : Nat), i = .int .i64 (k : Int) ∧ k ≤ n ∧ ((told D).take k).any (fun p => dIn t p.2) = false) (fun i => n - (intOf i).toNat)
    case atStart => exact ⟨0, rfl, Nat.zero_le _, by simp⟩
    case round =>
      obtain ⟨k, rfl, hk, hall⟩ := hrel
      have HA : Hid (((told D).take k).any (fun p => dIn t p.2) = false) := hall
      clear hall FD
      by_cases hlt : k < n
      · obtain ⟨d, hx⟩ : ∃ x, D[k]? = some x := ⟨_, List.getElem?_eq_getElem (by omega)⟩
        obtain ⟨b, off, had, hdx⟩ := HG.out k d hx
        obtain ⟨-, -, -, -, c4, c5⟩ := hdx.cells
        obtain ⟨r1, r2⟩ := hdx.rows
        subst had
        have hx' : (told D)[k]? = some (d.at_, d.x) := by unfold told; rw [List.getElem?_map, hx]; rfl
        have hbb := HB.out _ (List.mem_of_getElem? hx')
        simp only [] at hbb
        have C1 := has_any w d.e d.x.entry (r1.rd elD_ok) t (by omega)
        have C2 := has_any w d.v d.x.wait (r2.rd elD_ok) t (by omega)
        have hlt' : (k : Int) < (n : Int) := by omega
        obtain ⟨oe, ce, hee⟩ := r1.form
        obtain ⟨ow, cw, hww⟩ := r2.form
        rw [hee] at c4 C1
        rw [hww] at c5 C2
        have HS : Hid (dIn t d.x = true → dStand (told D) t = true) := fun e => by
          unfold dStand
          rw [List.any_eq_true]
          exact ⟨_, List.mem_of_getElem? hx', e⟩
        have HN : Hid (dIn t d.x = false → ((told D).take (k + 1)).any (fun p => dIn t p.2) = false) := fun e => by
          rw [take_next _ k _ hx', List.any_append, HA.out]
          simpa using e
        have HI : Hid (dIn t d.x = (d.x.entry.any (fun z => z.1 == t) || d.x.wait.any (fun z => z.1 == t))) := rfl
        clear hdx r1 r2 hx hx' hbb hee hww
        generalize d.x.entry.length = le at *
        generalize d.x.wait.length = lw at *
        cases h1 : d.x.entry.any (fun z => z.1 == t) with
        | true =>
          rw [h1] at C1 HI
          have HS1 := HS.out HI.out
          have HZ : Hid (dEnterP a t (told D) = (false, 130, told D) ∧ DB c w q (told D)) := ⟨dEnterP_stand HS1, D, HD.out, rfl⟩
          clear C2 HS1 HS HN HI h1
          go_wp2_with fail
          refine C1.mono ?_
          rintro _ w ⟨rfl, rfl⟩
          clear C1
          go_wp2_with fail
          go_ret2
          rw [HZ.out.1]
          exact ⟨rfl, HZ.out.2, Fr.refl _ _⟩
        | false =>
          rw [h1] at C1 HI
          cases h2 : d.x.wait.any (fun z => z.1 == t) with
          | true =>
            rw [h2] at C2 HI
            have HS1 := HS.out HI.out
            have HZ : Hid (dEnterP a t (told D) = (false, 130, told D) ∧ DB c w q (told D)) := ⟨dEnterP_stand HS1, D, HD.out, rfl⟩
            clear HS1 HS HN HI h1 h2
            go_wp2_with fail
            refine C1.mono ?_
            rintro _ w ⟨rfl, rfl⟩
            clear C1
            go_wp2_with fail
            refine C2.mono ?_
            rintro _ w ⟨rfl, rfl⟩
            clear C2
            go_wp2_with fail
            go_ret2
            rw [HZ.out.1]
            exact ⟨rfl, HZ.out.2, Fr.refl _ _⟩
          | false =>
            rw [h2] at C2 HI
            have HN1 : Hid (((told D).take (k + 1)).any (fun p => dIn t p.2) = false) := HN.out HI.out
            clear HS HN HI h1 h2
            go_wp2_with fail
            refine C1.mono ?_
            rintro _ w ⟨rfl, rfl⟩
            clear C1
            go_wp2_with fail
            refine C2.mono ?_
            rintro _ w ⟨rfl, rfl⟩
            clear C2
            go_wp2_with fail
            go_round
            case rel => exact ⟨k + 1, by go_num, by omega, HN1.out⟩
            case measure => simp [intOf]; omega
      · have HF : Hid (dStand (told D) t = false) := by
          have := HA.out
          rw [List.take_of_length_le (by rw [told_length]; omega)] at this
          exact this
        have hlt' : ¬ ((k : Int) < (n : Int)) := by omega
        go_wp2_with fail
        go_meet
        exact ⟨rfl, HF.out⟩
  case rest =>
    obtain ⟨hwc, hst⟩ := hcut
    have hwc := hwc.symm
    subst hwc
    by_cases hbad : a < 1 ∨ t < 1
    · have HZ : Hid (dEnterP a t (told D) = (false, 130, told D) ∧ DB c w q (told D)) := ⟨dEnterP_bad hbad, D, HD.out, rfl⟩
      clear FD HG HB HD hst k1 k2
      by_cases ha1 : a < 1
      · go_wp2_with fail
        go_ret2
        rw [HZ.out.1]
        exact ⟨rfl, HZ.out.2, Fr.refl _ _⟩
      · have ht1 : t < 1 := by omega
        clear hbad
        go_wp2_with fail
        go_ret2
        rw [HZ.out.1]
        exact ⟨rfl, HZ.out.2, Fr.refl _ _⟩
    · have ha1 : ¬ a < 1 := by omega
      have ht1 : ¬ t < 1 := by omega
      have HST : Hid (dStand (told D) t = false) := hst
      clear hbad hst
      go_wp2_with fail
      refine FD.mono ?_
      rintro _ w ⟨rfl, rfl⟩
      clear FD
      go_upto_if 52 with fail
      go_cut [9] (fun v wx => v = .int .i64 ((dAt a (told D) : Nat) : Int) ∧ Fr (Td c w) w wx ∧ ∃ D1, DT c wx q D1 ∧ told D1 = dWith a (told D))
      case first =>
        cases hf : fdT (told D) a with
        | some i =>
          have e : fdA (some i) = (i : Int) := rfl
          have HM : Hid (dAt a (told D) = i ∧ dWith a (told D) = told D) := by unfold Hid dAt dWith; rw [hf]; exact ⟨rfl, rfl⟩
          rw [e]
          have hi0 : ¬ ((i : Int) < 0) := by omega
          clear hf e
          go_wp2_with fail
          go_meet
          exact ⟨by rw [HM.out.1], Fr.refl _ _, D, HD.out, HM.out.2.symm⟩
        | none =>
          have e : fdA none = -1 := rfl
          have HM : Hid (dAt a (told D) = n ∧ dWith a (told D) = told D ++ [(a, lk0)]) := by unfold Hid dAt dWith; rw [hf]; exact ⟨by rw [told_length]; exact hn, rfl⟩
          rw [e]
          obtain ⟨vl, g1, g2, g3⟩ := HD.out.hd
          have hvl : vl = .slice o n cap := by
            have := (cells1 g1).1
            rw [k1] at this
            exact (Option.some.inj this).symm
          subst hvl
          have fa : Fr no w (w.alloc (.cells (elK.f (d0 a)).toArray elK.e)) := (Fr.refl no w).alloc _ _
          have HO1 : Hid (OwnG elK (w.alloc (.cells (elK.f (d0 a)).toArray elK.e)) (.slice o n cap) D) := g2.keep fa
          have HSR : Hid (Src Try.prog elK.n elK.t (.slice (some ⟨w.heap.size, 0, none⟩) 1 1) [d0 a].length (cg elK [d0 a]) (w.alloc (.cells (elK.f (d0 a)).toArray elK.e))) := srcG_one elK_ok w (d0 a)
          have HSL : Hid (D.length + [d0 a].length ≤ 1000000) := by simp only [Hid, List.length_cons, List.length_nil]; omega
          have LEM : Hid (∀ v' w3, OwnG elK w3 v' (D ++ [d0 a]) → Sp (.slice o n cap) (w.alloc (.cells (elK.f (d0 a)).toArray elK.e)) v' w3 → ∃ ov lf cv, v' = .slice ov lf cv ∧ w3.cell? ⟨q, 0, none⟩ = some (.slice o n cap) ∧ w3.frozen? ⟨q, 0, none⟩ = false ∧ Hid (DT c (w3.setCell ⟨q, 0, none⟩ (.slice ov lf cv)) q (D ++ [d0 a]) ∧ Fr (Td c w) w (w3.setCell ⟨q, 0, none⟩ (.slice ov lf cv)))) := by
            intro v' w3 o3 s3
            obtain ⟨e1, e2, e3, e4⟩ := (HD.out.keep fa).app (fa.heap g1 (fun f => f)) a o3 s3
            obtain ⟨ov, cv, rfl⟩ := o3.form
            exact ⟨ov, _, cv, rfl, e1, e2, e3, fa.ofNo.td e4⟩
          clear hf e g1 g2 g3 fa HG HB
          go_wp2_with (at_builtin; refine wpList_apdG elK_ok _ rfl rfl _ _ rfl (.slice o n cap) D rfl HO1.out _ rfl [d0 a] HSR.out HSL.out ?_; intro v' w3 o3 s3; obtain ⟨ov, lf, cv, rfl, c3, z3, T4⟩ := LEM.out v' w3 o3 s3; clear o3 s3)
          go_meet
          exact ⟨by rw [HM.out.1], T4.out.2, _, T4.out.1, by rw [HM.out.2]; exact told_app D a⟩
      case rest =>
        obtain ⟨rfl, hfr, D1, hD1, hT1⟩ := hcut
        obtain ⟨x, hx, hP⟩ := dWith_at a (told D)
        have hbd := dWith_bd HB.out (a, x) (List.mem_of_getElem? hx)
        have hP1 := hP t (by omega) (by omega) HST.out
        rw [← hT1] at hx hP1
        obtain ⟨d, hd, hda, hdx⟩ := told_at hx
        subst hdx
        simp only [] at hbd
        obtain ⟨o1, cap1, j1, -, -, hg1⟩ := hD1.get
        obtain ⟨b, r, rfl, hX⟩ := hg1 _ d hd
        have hlt := (List.getElem?_eq_some_iff.1 hd).1
        have HP : Hid _ := hP1
        have HX : Hid (Dx c wc q D1 (dAt a (told D)) d b (r + dAt a (told D) * 6) ∧ Fr (Td c w) w wc) := ⟨hX, hfr⟩
        have hda' : Hid (d.at_ = a) := hda
        clear hP1 hP hg1 hx hD1 hT1 hX hfr HST HG HB HD hd k1 k2 hda
        generalize dAt a (told D) = i at *
        have hlt' : (i : Int) < (D1.length : Int) := by omega
        generalize D1.length = n1 at *
        go_upto_region 13 with fail
        generalize r + i * 6 = R at *
        obtain ⟨-, c1, c2, c3, c4, -⟩ := HX.out.1.cells
        obtain ⟨r1, r2⟩ := HX.out.1.rows
        by_cases h0 : d.x.owner = 0
        · have h0' : (d.x.owner == 0) = true := by simp [h0]
          have HE : Hid (dEnterAt t d.x = (true, { d.x with owner := t, count := 1 })) := by unfold Hid dEnterAt; rw [if_pos h0]
          have z1 := HX.out.1.thaw (R + 1)
          have z2 := HX.out.1.thaw (R + 2)
          obtain ⟨A1, f1⟩ := HX.out.1.set 1 (.int .i64 t) { d with x := { d.x with owner := t } } (by decide) rfl r1 r2
          obtain ⟨s1, s2⟩ := A1.rows
          obtain ⟨A2, f2⟩ := A1.set 2 (.int .i64 1) { d with x := { d.x with owner := t, count := 1 } } (by decide) rfl s1 s2
          rw [List.set_set] at A2
          have HZ : Hid (DB c ((wc.setCell ⟨b, R + 1, none⟩ (.int .i64 t)).setCell ⟨b, R + 2, none⟩ (.int .i64 1)) q ((told D1).set i (a, { d.x with owner := t, count := 1 })) ∧ Fr (Td c w) w ((wc.setCell ⟨b, R + 1, none⟩ (.int .i64 t)).setCell ⟨b, R + 2, none⟩ (.int .i64 1))) := ⟨by have := A2.db; simp only [hda'.out] at this; exact this, HX.out.2.td (f1.td f2)⟩
          clear A1 A2 f1 f2 s1 s2 r1 r2 HX c3 c4 j1
          go_wp2_with fail
          go_ret2
          rw [HP.out, HE.out]
          exact ⟨rfl, HZ.out⟩
        · have h0' : (d.x.owner == 0) = false := by simp [h0]
          by_cases h1 : d.x.owner = t
          · have h1' : (d.x.owner == t) = true := by simp [h1]
            have HE : Hid (dEnterAt t d.x = (true, { d.x with count := d.x.count + 1, fat := d.x.fat || decide (d.x.count + 1 > 3) })) := by unfold Hid dEnterAt; rw [if_neg h0, if_pos h1]
            have z2 := HX.out.1.thaw (R + 2)
            have hwr : IntKind.i64.wrap (d.x.count + 1) = d.x.count + 1 := by
              rw [IntKind.wrap_i64]
              omega
            obtain ⟨A1, f1⟩ := HX.out.1.set 2 (.int .i64 (d.x.count + 1)) { d with x := { d.x with count := d.x.count + 1 } } (by decide) rfl r1 r2
            have HA : Hid (Dx c (wc.setCell ⟨b, R + 2, none⟩ (.int .i64 (d.x.count + 1))) q (D1.set i { d with x := { d.x with count := d.x.count + 1 } }) i { d with x := { d.x with count := d.x.count + 1 } } b R ∧ Fr (Td c w) w (wc.setCell ⟨b, R + 2, none⟩ (.int .i64 (d.x.count + 1)))) := ⟨A1, HX.out.2.td f1⟩
            clear A1 f1 r1 r2 HX c3 c4 j1
            go_upto_region 21 with fail
            revert HA
            generalize wc.setCell ⟨b, R + 2, none⟩ (.int .i64 (d.x.count + 1)) = W
            intro HA
            clear c1 c2 z2
            obtain ⟨-, c1, c2, c3, -, -⟩ := HA.out.1.cells
            have z3 := HA.out.1.thaw (R + 3)
            simp only [] at c1 c2 c3
            have HZ : Hid (∀ fb : Bool, fb = (d.x.fat || decide (d.x.count + 1 > 3)) → DB c (W.setCell ⟨b, R + 3, none⟩ (.bool fb)) q ((told D1).set i (a, { d.x with count := d.x.count + 1, fat := d.x.fat || decide (d.x.count + 1 > 3) })) ∧ Fr (Td c w) w (W.setCell ⟨b, R + 3, none⟩ (.bool fb))) := by
              rintro fb rfl
              obtain ⟨A1, f1⟩ := HA.out.1.set 3 (.bool (d.x.fat || decide (d.x.count + 1 > 3))) { d with x := { d.x with count := d.x.count + 1, fat := d.x.fat || decide (d.x.count + 1 > 3) } } (by decide) rfl HA.out.1.rows.1 HA.out.1.rows.2
              rw [List.set_set] at A1
              refine ⟨?_, HA.out.2.td f1⟩
              have := A1.db
              simp only [hda'.out] at this
              exact this
            clear HA
            cases hfat : d.x.fat with
            | true =>
              have HY := HZ.out true (by rw [hfat]; rfl)
              have HY' : Hid _ := HY
              rw [hfat] at c3
              clear HY HZ
              go_wp2_with fail
              go_ret2
              rw [HP.out, HE.out]
              exact ⟨rfl, HY'.out⟩
            | false =>
              rw [hfat] at c3
              by_cases h3 : d.x.count + 1 > 3
              · have HY : Hid _ := HZ.out true (by rw [hfat, decide_eq_true h3]; rfl)
                clear HZ
                go_wp2_with fail
                go_ret2
                rw [HP.out, HE.out]
                exact ⟨rfl, HY.out⟩
              · have HY : Hid _ := HZ.out false (by rw [hfat, decide_eq_false h3]; rfl)
                clear HZ
                go_wp2_with fail
                go_ret2
                rw [HP.out, HE.out]
                exact ⟨rfl, HY.out⟩
          · have h1' : (d.x.owner == t) = false := by simp [h1]
            have HE : Hid (dEnterAt t d.x = (false, { d.x with fat := true, entry := d.x.entry ++ [(t, 1)] })) := by unfold Hid dEnterAt; rw [if_neg h0, if_neg h1]
            have z3 := HX.out.1.thaw (R + 3)
            obtain ⟨A1, f1⟩ := HX.out.1.set 3 (.bool true) { d with x := { d.x with fat := true } } (by decide) rfl r1 r2
            have HA : Hid (Dx c (wc.setCell ⟨b, R + 3, none⟩ (.bool true)) q (D1.set i { d with x := { d.x with fat := true } }) i { d with x := { d.x with fat := true } } b R ∧ Fr (Td c w) w (wc.setCell ⟨b, R + 3, none⟩ (.bool true))) := ⟨A1, HX.out.2.td f1⟩
            clear A1 f1 r1 r2 HX c2 c4 j1
            go_upto_region 15 with fail
            revert HA
            generalize wc.setCell ⟨b, R + 3, none⟩ (.bool true) = W
            intro HA
            clear c1 c3 z3
            obtain ⟨r1, r2⟩ := HA.out.1.rows
            simp only [] at r1 r2
            obtain ⟨oe, ce, hev⟩ := r1.form
            have hev' : Hid (d.e = .slice oe d.x.entry.length ce) := hev
            rename_i K0 h0x
            refine Code.wp_mono (Q := Exit.then K0 (fun _ _ _ => False)) (fun e a w h => by cases e <;> first | exact h | exact False.elim h) ?_
            refine dreg11 W b R d.x.entry.length ce oe d.x.entry t (by rw [← hev]; exact r1) (fun w' f => ?_) (by omega) K0 _ _ _ _ _ _ _ _ _ _ _ _ _ _ _ _ _ _ _ _ _ _ _ _ _ _ _ _ _ _ _ _ _ _ _ _ _ _ _ _ _ _ _ _ _ _ _ _ _ _ _ _ _ _ _ _ _ _ _ _ _ _ _ _ _ _ _ _ _ _ _ _ _ _ _ _ _ _ _ _ _ _ _ _ _ _ _ _ _ _ _ _ _ _ _ _ _ _ _ _ _ _ _ _ _ _ _ _ _ _ _ _ _ _ _ _ _ _ _ _ _ _ _ _ _ _ _ _ _ _ _ _ _ _ _ (fun ov lf cv w2 o2 f2 => ?_)
            · have A3 := HA.out.1.keep f
              obtain ⟨-, -, -, -, k4, -⟩ := A3.cells
              simp only [] at k4
              rw [hev'.out] at k4
              exact ⟨k4, A3.thaw _⟩
            · have HZ : Hid (DB c (w2.setCell ⟨b, R + 4, none⟩ (.slice ov lf cv)) q ((told D1).set i (a, { d.x with fat := true, entry := d.x.entry ++ [(t, 1)] })) ∧ Fr (Td c w) w (w2.setCell ⟨b, R + 4, none⟩ (.slice ov lf cv))) := by
                have A3 := HA.out.1.keep f2
                obtain ⟨A4, f4⟩ := A3.set 4 (.slice ov lf cv) { d with x := { d.x with fat := true, entry := d.x.entry ++ [(t, 1)] }, e := .slice ov lf cv, he := rfl } (by decide) rfl o2 A3.rows.2
                rw [List.set_set] at A4
                refine ⟨?_, (HA.out.2.td f2.ofNo).td f4⟩
                have := A4.db
                simp only [hda'.out] at this
                exact this
              revert HZ
              generalize w2.setCell ⟨b, R + 4, none⟩ (.slice ov lf cv) = V
              intro HZ
              clear o2 f2 HA r1 r2 hev hev'
              refine h0x _ _ ?_
              go_wp2_with fail
              go_ret2
              rw [HP.out, HE.out]
              exact ⟨rfl, HZ.out⟩
end Go.Proofs.Ytkkpimpmhnnbjaa
