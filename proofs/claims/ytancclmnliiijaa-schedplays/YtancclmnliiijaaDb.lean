/- The document's Spawn, Set, Join, End. -/
import Derived.Test.YtancclmnliiijaaDa
namespace Go.Proofs.Ytancclmnliiijaa
open Go.ChangeShapes Go.WideShapes Go.ChangeAt Go.RowKit

def fre' (id : Int) : Int × Int → Int × Int := fun x => if jn id x then (1, x.2) else x
theorem fre'_no {id : Int} {x : Int × Int} (h : jn id x = false) : fre' id x = x := by simp [fre', h]
theorem fre'_yes {id : Int} {x : Int × Int} (h : jn id x = true) : fre' id x = (1, x.2) := by simp [fre', h]
def endD (n : Nat) (T : List (Int × Int)) (id : Int) : List (Int × Int) := if endQ n T id then upto (fre' id) n (end1 T id) else T

section
variable {c : Nat} {w : World} {q : Nat} {L : List (Int × Int)} {o : Option Addr} {cap : Nat}

theorem set_tag {w : World} {g k : Nat} {u : Value} {a : Nat} {cs : Array Value} {t : TypeId} (h : w.heap[k]? = some (.cells cs t (0, 0))) (hg : g ≠ k) : (w.setCell ⟨g, a, none⟩ u).heap[k]? = some (.cells cs t (0, 0)) := by
  rw [Below.heap_setCell w ⟨g, a, none⟩ u k (fun e => hg e.symm)]
  exact h

theorem DX.bq {b r : Nat} (h : DX c w q L (some ⟨b, r, none⟩) cap) : b ≠ q := fun e => by
  obtain ⟨cur, hc⟩ := h.own.tag (k := b) rfl
  rw [e, h.blk] at hc
  simp [elD] at hc

theorem DX.put1 {b r : Nat} (h : DX c w q L (some ⟨b, r, none⟩) cap) {i : Nat} {x : Int × Int} (hx : L[i]? = some x) (s : Int) : DX c (w.setCell ⟨b, r + i * 2, none⟩ (.int .i64 s)) q (L.set i (s, x.2)) (some ⟨b, r, none⟩) cap := by
  refine ⟨h.cq, ?_, ?_, ?_, by simpa using h.le⟩
  · rw [List.length_set]
    exact set_tag h.blk h.bq
  · have := h.own.set elD_ok i 0 x (s, x.2) (.int .i64 s) hx (by decide) rfl
    rw [List.length_set]
    exact this
  · rw [List.length_set]
    exact h.cb

theorem DX.put2 {b r : Nat} (h : DX c w q L (some ⟨b, r, none⟩) cap) {i : Nat} {x : Int × Int} (hx : L[i]? = some x) (s : Int) : DX c (w.setCell ⟨b, r + i * 2 + 1, none⟩ (.int .i64 s)) q (L.set i (x.1, s)) (some ⟨b, r, none⟩) cap := by
  refine ⟨h.cq, ?_, ?_, ?_, by simpa using h.le⟩
  · rw [List.length_set]
    exact set_tag h.blk h.bq
  · have := h.own.set elD_ok i 1 x (x.1, s) (.int .i64 s) hx (by decide) rfl
    rw [List.length_set]
    exact this
  · rw [List.length_set]
    exact h.cb

theorem DX.put12 {b r : Nat} (h : DX c w q L (some ⟨b, r, none⟩) cap) {i : Nat} {x : Int × Int} (hx : L[i]? = some x) (s t : Int) : DX c ((w.setCell ⟨b, r + i * 2, none⟩ (.int .i64 s)).setCell ⟨b, r + i * 2 + 1, none⟩ (.int .i64 t)) q (L.set i (s, t)) (some ⟨b, r, none⟩) cap := by
  have h2 := h.put1 hx s
  have hi := (List.getElem?_eq_some_iff.1 hx).1
  have h3 := h2.put2 (i := i) (x := (s, x.2)) (by rw [List.getElem?_set_self hi]) t
  rw [List.set_set] at h3
  exact h3

theorem DX.tp {b r : Nat} (h : DX c w q L (some ⟨b, r, none⟩) cap) : Tk [29, 65] c w b := by
  obtain ⟨cur, hc⟩ := h.own.tag (k := b) rfl
  exact ⟨h.cb b rfl, cur, _, hc, by simp [elD]⟩

theorem DX.tq (h : DX c w q L o cap) : Tk [29, 65] c w q := ⟨h.cq, _, _, h.blk, by simp⟩

set_option maxRecDepth 100000 in
theorem dset_any (h : DS c w q L) (id s : Int) (hid : In id) (hr : 0 ≤ stA L.length L id ∧ stA L.length L id ≤ 5) : Calls Try.prog 12 #[.pointer (some ⟨q, 0, none⟩), .int .i64 id, .int .i64 s] w fun e w' => e = .returned (.int .i64 (setE L.length L id s)) ∧ DS c w' q (setT L.length L id s) ∧ Fr (Tk [29, 65] c w) w w' := by
  have ST := dstate_any h id hid
  have bad : ∀ (sv : Int), stA L.length L id = sv → ((sv == 0) = true ∨ (sv == 5) = true ∨ (sv == 4) = true ∨ s < 1 ∨ 3 < s) → Calls Try.prog 12 #[.pointer (some ⟨q, 0, none⟩), .int .i64 id, .int .i64 s] w fun e w' => e = .returned (.int .i64 140) ∧ w' = w := by
    intro sv he hcs
    rw [he] at ST
    clear h he
    by_cases h0 : sv = 0
    · subst h0
      clear hcs
      go_enter Try.func12, Try.ntmps12
      go_wp2_with fail
      refine ST.mono ?_
      rintro _ w1 ⟨rfl, hw⟩
      subst hw
      go_wp2_with fail
      go_ret
      exact ⟨rfl, rfl⟩
    have g0 : (sv == 0) = false := by simpa using h0
    by_cases h5 : sv = 5
    · subst h5
      clear hcs
      go_enter Try.func12, Try.ntmps12
      go_wp2_with fail
      refine ST.mono ?_
      rintro _ w1 ⟨rfl, hw⟩
      subst hw
      go_wp2_with fail
      go_ret
      exact ⟨rfl, rfl⟩
    have g5 : (sv == 5) = false := by simpa using h5
    by_cases h4 : sv = 4
    · subst h4
      clear hcs
      go_enter Try.func12, Try.ntmps12
      go_wp2_with fail
      refine ST.mono ?_
      rintro _ w1 ⟨rfl, hw⟩
      subst hw
      go_wp2_with fail
      go_ret
      exact ⟨rfl, rfl⟩
    have g4 : (sv == 4) = false := by simpa using h4
    rw [g0, g5, g4] at hcs
    clear h0 h5 h4
    by_cases h1 : s < 1
    · clear hcs
      go_enter Try.func12, Try.ntmps12
      go_wp2_with fail
      refine ST.mono ?_
      rintro _ w1 ⟨rfl, hw⟩
      subst hw
      go_wp2_with fail
      go_ret
      exact ⟨rfl, rfl⟩
    have h3 : s > 3 := by
      rcases hcs with e | e | e | e | e
      · exact absurd e (by decide)
      · exact absurd e (by decide)
      · exact absurd e (by decide)
      · exact absurd e h1
      · exact e
    clear hcs
    go_enter Try.func12, Try.ntmps12
    go_wp2_with fail
    refine ST.mono ?_
    rintro _ w1 ⟨rfl, hw⟩
    subst hw
    go_wp2_with fail
    go_ret
    exact ⟨rfl, rfl⟩
  by_cases hq : setQ L.length L id s = true
  · have hq' := hq
    simp only [setQ, Bool.and_eq_true, sbl, decide_eq_true_eq] at hq'
    obtain ⟨i, x, rfl, hi, hx, hxs⟩ := stA_there (Nat.le_refl L.length) (id := id) (fun e => by omega)
    have HZ : Hid (setE L.length L ((i : Int) + 1) s = 0 ∧ setT L.length L ((i : Int) + 1) s = L.set i (s, x.2)) := by simp [Hid, setE, setT, hq, plc_eq hx]
    obtain ⟨o, cap, k⟩ := h.get
    have hc := k.cell
    obtain ⟨b, r, rfl, c0, -, hz⟩ := k.at hx
    have HP : Hid _ := (k.put1 hx s).ds
    have HF : Hid (Fr (Tk [29, 65] c w) w (w.setCell ⟨b, r + i * 2, none⟩ (.int .i64 s))) := (Fr.refl _ w).setCell (fun _ => k.tp) _
    have hle := k.le
    have hil : (i : Int) < (L.length : Int) := by omega
    obtain ⟨d1, d2⟩ := hq'
    have g0 : (stA L.length L ((i : Int) + 1) == 0) = false := by simp only [beq_eq_false_iff_ne]; omega
    have g5 : (stA L.length L ((i : Int) + 1) == 5) = false := by simp only [beq_eq_false_iff_ne]; omega
    have g4 : (stA L.length L ((i : Int) + 1) == 4) = false := by simp only [beq_eq_false_iff_ne]; omega
    have g1 : ¬ (s < 1) := by omega
    have g3 : ¬ (s > 3) := by omega
    clear h k bad hq hxs d1 d2 hx
    generalize stA L.length L ((i : Int) + 1) = sv at *
    go_enter Try.func12, Try.ntmps12
    generalize L.length = n at hc hil hle hi HZ ⊢
    go_wp2_with fail
    refine ST.mono ?_
    rintro _ w1 ⟨rfl, hw⟩
    subst hw
    clear ST
    go_wp2_with fail
    go_ret
    exact ⟨by rw [HZ.out.1]; rfl, by rw [HZ.out.2]; exact HP.out, HF.out⟩
  · have HE : setE L.length L id s = 140 ∧ setT L.length L id s = L := by simp [setE, setT, hq]
    rw [HE.1, HE.2]
    refine (bad _ rfl ?_).mono (fun _ _ ⟨he, hw⟩ => ⟨he, by rw [hw]; exact h, by rw [hw]; exact Fr.refl _ _⟩)
    have hq' : ¬ ((stA L.length L id = 1 ∨ stA L.length L id = 2 ∨ stA L.length L id = 3) ∧ (s = 1 ∨ s = 2 ∨ s = 3)) := by simpa [setQ, sbl] using hq
    simp only [beq_iff_eq]
    omega

set_option maxRecDepth 100000 in
theorem djoin_any (h : DS c w q L) (id o : Int) (hid : In id) (ho : In o) : Calls Try.prog 14 #[.pointer (some ⟨q, 0, none⟩), .int .i64 id, .int .i64 o] w fun e w' => e = .returned (.tuple #[.bool (joinR L.length L id o), .int .i64 (joinE L.length L id o)]) ∧ DS c w' q (joinT L.length L id o) ∧ Fr (Tk [29, 65] c w) w w' := by
  have ST := dstate_any h id hid
  have SO := dstate_any h o ho
  by_cases h1 : stA L.length L id = 1
  · rw [h1] at ST
    by_cases h0 : stA L.length L o = 0
    · have HZ : Hid (joinE L.length L id o = 140 ∧ joinR L.length L id o = false ∧ DS c w q (joinT L.length L id o)) := by simp [Hid, joinE, joinR, joinT, joinQ, h0]; exact h
      rw [h0] at SO
      clear h h1 h0
      go_enter Try.func14, Try.ntmps14
      go_wp2_with fail
      refine ST.mono ?_
      rintro _ w1 ⟨rfl, hw⟩
      subst hw
      clear ST
      go_wp2_with fail
      refine SO.mono ?_
      rintro _ w1 ⟨rfl, hw⟩
      subst hw
      go_wp2_with fail
      go_ret2
      exact ⟨by rw [HZ.out.1, HZ.out.2.1]; rfl, HZ.out.2.2, Fr.refl _ _⟩
    · have g0 : (stA L.length L o == 0) = false := by simpa using h0
      by_cases h5 : stA L.length L o = 5
      · have HZ : Hid (joinE L.length L id o = 0 ∧ joinR L.length L id o = true ∧ DS c w q (joinT L.length L id o)) := by simp [Hid, joinE, joinR, joinT, joinQ, h5, h1]; exact h
        rw [h5] at SO
        clear h h1 h0 h5 g0
        go_enter Try.func14, Try.ntmps14
        go_wp2_with fail
        refine ST.mono ?_
        rintro _ w1 ⟨rfl, hw⟩
        subst hw
        clear ST
        go_wp2_with fail
        refine SO.mono ?_
        rintro _ w1 ⟨rfl, hw⟩
        subst hw
        go_wp2_with fail
        refine SO.mono ?_
        rintro _ w1 ⟨rfl, hw⟩
        subst hw
        go_wp2_with fail
        go_ret2
        exact ⟨by rw [HZ.out.1, HZ.out.2.1]; rfl, HZ.out.2.2, Fr.refl _ _⟩
      · have g5 : (stA L.length L o == 5) = false := by simpa using h5
        obtain ⟨i, x, rfl, hi, hx, hxs⟩ := stA_there (Nat.le_refl L.length) (id := id) (fun e => by omega)
        have HZ : Hid (joinE L.length L ((i : Int) + 1) o = 0 ∧ joinR L.length L ((i : Int) + 1) o = false ∧ joinT L.length L ((i : Int) + 1) o = L.set i (4, o)) := by simp [Hid, joinE, joinR, joinT, joinQ, h1, g5, h0, h5]
        obtain ⟨ad, cap, k⟩ := h.get
        have hc := k.cell
        obtain ⟨b, r, rfl, c0, c1, hz⟩ := k.at hx
        have hz2 := fun j => (frozen_setCell w ⟨b, r + i * 2, none⟩ (.int .i64 4) ⟨b, j, none⟩).trans (hz j)
        have HP : Hid _ := (k.put12 hx 4 o).ds
        have HF : Hid (Fr (Tk [29, 65] c w) w ((w.setCell ⟨b, r + i * 2, none⟩ (.int .i64 4)).setCell ⟨b, r + i * 2 + 1, none⟩ (.int .i64 o))) := ((Fr.refl _ w).setCell (fun _ => k.tp) _).setCell (fun _ => k.tp) _
        have hle := k.le
        have hil : (i : Int) < (L.length : Int) := by omega
        clear h k h1 h0 h5 hx hxs
        generalize stA L.length L o = sv at *
        go_enter Try.func14, Try.ntmps14
        generalize L.length = n at hc hil hle hi HZ ⊢
        go_wp2_with fail
        refine ST.mono ?_
        rintro _ w1 ⟨rfl, hw⟩
        subst hw
        clear ST
        go_wp2_with fail
        refine SO.mono ?_
        rintro _ w1 ⟨rfl, hw⟩
        subst hw
        go_wp2_with fail
        refine SO.mono ?_
        rintro _ w1 ⟨rfl, hw⟩
        subst hw
        clear SO
        go_wp2_with fail
        go_ret2
        exact ⟨by rw [HZ.out.1, HZ.out.2.1]; rfl, by rw [HZ.out.2.2]; exact HP.out, HF.out⟩
  · have g1 : (stA L.length L id != 1) = true := by simpa using h1
    have HZ : Hid (joinE L.length L id o = 140 ∧ joinR L.length L id o = false ∧ DS c w q (joinT L.length L id o)) := by simp [Hid, joinE, joinR, joinT, joinQ, h1]; exact h
    clear h h1 SO
    generalize stA L.length L id = sv at *
    go_enter Try.func14, Try.ntmps14
    go_wp2_with fail
    refine ST.mono ?_
    rintro _ w1 ⟨rfl, hw⟩
    subst hw
    clear ST
    go_wp2_with fail
    go_ret2
    exact ⟨by rw [HZ.out.1, HZ.out.2.1]; rfl, HZ.out.2.2, Fr.refl _ _⟩

theorem dfull_any (h : DS c w q L) (hn : L.length = 12) : Calls Try.prog 10 #[.pointer (some ⟨q, 0, none⟩)] w fun e w' => e = .returned (.tuple #[.int .i64 0, .int .i64 140]) ∧ w' = w := by
  obtain ⟨o, cap, k⟩ := h.get
  have hc := k.cell
  rw [hn] at hc
  clear h k hn
  go_enter Try.func10, Try.ntmps10
  go_wp2_with fail
  go_ret2
  exact ⟨rfl, rfl⟩

set_option maxRecDepth 100000 in
theorem dspawn_any (h : DS c w q L) (hn : L.length < 12) (hcw : c ≤ w.heap.size) : Calls Try.prog 10 #[.pointer (some ⟨q, 0, none⟩)] w fun e w' => e = .returned (.tuple #[.int .i64 ((L.length : Int) + 1), .int .i64 0]) ∧ DS c w' q (L ++ [(1, 0)]) ∧ Fr (Tk [29, 65] c w) w w' := by
  obtain ⟨o, cap, k⟩ := h.get
  have hc := k.cell
  have hz := k.thaw
  have HX : Hid (DX c w q L o cap) := k
  have HSR : Hid _ := srcG_one elD_ok w (1, 0)
  have HL : Hid (L.length + [((1, 0) : Int × Int)].length ≤ 1000000) := by simp only [Hid, List.length_cons, List.length_nil]; omega
  have HO1 : Hid (OwnG elD (w.alloc (.cells (elD.f (1, 0)).toArray elD.e)) (.slice o L.length cap) L) := k.own.keep ((Fr.refl no w).alloc _ _)
  have HAP : Hid (∀ v' w3, OwnG elD w3 v' (L ++ [(1, 0)]) → Sp (.slice o L.length cap) (w.alloc (.cells (elD.f (1, 0)).toArray elD.e)) v' w3 → w3.frozen? ⟨q, 0, none⟩ = false ∧ w3.cell? ⟨q, 0, none⟩ = some (.slice o L.length cap) ∧ ∃ o' cap', v' = .slice o' (L.length + 1) cap' ∧ DX c (w3.setCell ⟨q, 0, none⟩ v') q (L ++ [(1, 0)]) o' cap' ∧ Fr (Tk [29, 65] c w) w (w3.setCell ⟨q, 0, none⟩ v')) := fun v' w3 o3 s3 => by
    have fa : Fr no w (w.alloc (.cells (elD.f (1, 0)).toArray elD.e)) := (Fr.refl no w).alloc _ _
    have k1 := HX.out.keep fa
    have hq : w3.heap[q]? = some (.cells #[.slice o L.length cap] 29 (0, 0)) := s3.1.heap k1.blk (fun e => by
      obtain ⟨cur, hc⟩ := k1.own.tag e
      rw [k1.blk] at hc
      simp [elD] at hc)
    have f3 : Fr (Tk [29, 65] c w) w w3 := fa.up.trans s3.1 (fun _ _ f => f) (fun i hi e => by
      obtain ⟨cur, hc⟩ := HX.out.own.tag e
      exact ⟨HX.out.cb i e, cur, _, hc, by simp [elD]⟩)
    obtain ⟨o', cap', e⟩ := o3.form
    rw [List.length_append] at e
    subst e
    have hbq : ∀ b, Value.ownBlock (.slice o' (L.length + [((1, 0) : Int × Int)].length) cap') = some b → c ≤ b ∧ b ≠ q := fun b hb => by
      obtain ⟨cur, hc⟩ := o3.tag hb
      refine ⟨?_, fun e => by rw [e, hq] at hc; simp [elD] at hc⟩
      by_cases hlt : b < (w.alloc (.cells (elD.f (1, 0)).toArray elD.e)).heap.size
      · exact HX.out.cb b (s3.2 b hlt hb)
      · have : w.heap.size ≤ (w.alloc (.cells (elD.f (1, 0)).toArray elD.e)).heap.size := fa.size
        omega
    refine ⟨by simp [World.frozen?, hq], by simp [World.cell?, hq], o', cap', rfl, ⟨HX.out.cq, ?_, ?_, fun b hb => (hbq b (by simpa using hb)).1, by rw [List.length_append]; simp; omega⟩, f3.setCell (fun _ => HX.out.tq) _⟩
    · rw [List.length_append]
      unfold World.setCell
      simp [Array.getElem?_modify, hq]
    · have hf : Fr (fun j => j = q) w3 (w3.setCell ⟨q, 0, none⟩ (.slice o' (L.length + [((1, 0) : Int × Int)].length) cap')) := (Fr.refl (fun j => j = q) w3).setCell (p := ⟨q, 0, none⟩) (fun _ => rfl) _
      have := o3.kept hf (fun b hb e => (hbq b hb).2 e)
      rw [List.length_append]
      exact this
  have hle := k.le
  clear h k HX
  go_enter Try.func10, Try.ntmps10
  generalize hnn : L.length = n at *
  go_wp2_with (at_builtin; refine wpList_apdG elD_ok _ rfl rfl _ _ rfl (.slice o n cap) L rfl HO1.out _ rfl [(1, 0)] HSR.out (by rw [hnn]; exact HL.out) ?_; intro v' w3 o3 s3; obtain ⟨z3, y3, o', cap', e', x3, f3⟩ := HAP.out v' w3 o3 s3; subst e'; have HX3 : Hid _ := x3; have HF3 : Hid _ := f3; have c3 := x3.cell; rw [List.length_append, hnn, show n + [((1, 0) : Int × Int)].length = n + 1 from rfl] at c3; clear o3 s3 x3 f3)
  go_ret2
  exact ⟨rfl, HX3.out.ds, HF3.out⟩
end
end Go.Proofs.Ytancclmnliiijaa
