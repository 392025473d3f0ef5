/- What is printed has the same tokens. -/
import Derived.Test.YtmpahllkbpofnaaKt
namespace Go.Proofs.Ytmpahllkbpofnaa
open Go.ChangeShapes Go.WideShapes Go.ChangeAt Go.RowKit

theorem sameR_bare : ∀ {l m : List Tk}, l.map Y.bare = m.map Y.bare → sameR false l m = true
  | [], [], _ => rfl
  | [], _ :: _, h => by simp at h
  | _ :: _, [], h => by simp at h
  | x :: l, y :: m, h => by
    simp only [List.map_cons, List.cons.injEq] at h
    show (tkSame false x y && sameR false l m) = true
    rw [sameR_bare h.2, Bool.and_true]
    have h1 := h.1
    unfold Y.bare at h1
    simp only [Prod.mk.injEq] at h1
    unfold tkSame cEq
    rw [h1.1, h1.2.1, h1.2.2.1, h1.2.2.2.1, h1.2.2.2.2]
    simp

/-- Where a token stands, and the one behind it. -/
def StepOk (s : ByteArray) (L : List Tk) (k : Nat) : Prop := ∃ (x y : Tk) (a b : Nat), L[k]? = some x ∧ L[k + 1]? = some y ∧ x.at_ = (a : Int) ∧ y.at_ = (b : Int) ∧ a + x.text.size ≤ s.size ∧ s.extract a (a + x.text.size) = x.text ∧ a + x.text.size ≤ b

theorem ord_get {N : Nat} : ∀ {ts : List Y.T0} {a : Nat}, Y.Ord a N ts → ∀ (k : Nat) (t : Y.T0), ts[k]? = some t → a ≤ t.2.1 ∧ t.2.1 + t.2.2.length ≤ N ∧ Y.Ord (t.2.1 + t.2.2.length) N (ts.drop (k + 1))
  | [], _, _, k, t, h => by simp at h
  | u :: ts, a, h, 0, t, ht => by
    simp only [List.getElem?_cons_zero, Option.some.injEq] at ht
    subst ht
    exact ⟨h.1, h.2.le, h.2⟩
  | u :: ts, a, h, k + 1, t, ht => by
    obtain ⟨h1, h2, h3⟩ := ord_get h.2 k t (by simpa using ht)
    have := h.1
    exact ⟨by omega, h2, by simpa using h3⟩

theorem steps_ok {s : ByteArray} {ts : List Y.T0} (h : Y.Ord 0 s.size ts) (hx : ∀ t ∈ ts, s.extract t.2.1 (t.2.1 + t.2.2.length) = Y.bytes t.2.2) (k : Nat) (hk : k < ts.length) : StepOk s (Y.mkAll ts ++ [Y.endT s]) k := by
  obtain ⟨t, ht⟩ : ∃ t, ts[k]? = some t := ⟨_, List.getElem?_eq_getElem hk⟩
  obtain ⟨h1, h2, h3⟩ := ord_get h k t ht
  have e := hx t (List.mem_of_getElem? ht)
  have hat : ∀ k a x, (Y.mk k a x).at_ = (a : Int) := fun k a x => by
    unfold Y.mk
    split
    · rfl
    · split
      · split <;> rfl
      · rfl
  have hL : (Y.mkAll ts ++ [Y.endT s])[k]? = some (Y.mk t.1 t.2.1 t.2.2) := by
    rw [List.getElem?_append_left (by rw [mkAll_len]; exact hk), mkAll_get, ht]
    rfl
  have hz : (Y.mk t.1 t.2.1 t.2.2).text = Y.bytes t.2.2 := mk_text _ _ _
  have hsz : (Y.mk t.1 t.2.1 t.2.2).text.size = t.2.2.length := by rw [hz, Y.size_bytes]
  by_cases hk1 : k + 1 < ts.length
  · obtain ⟨u, hu⟩ : ∃ u, ts[k + 1]? = some u := ⟨_, List.getElem?_eq_getElem hk1⟩
    have h4 := (ord_get h3 0 u (by rw [List.getElem?_drop]; exact hu)).1
    refine ⟨_, Y.mk u.1 u.2.1 u.2.2, t.2.1, u.2.1, hL, ?_, hat _ _ _, hat _ _ _, by omega, by rw [hsz, e, hz], by omega⟩
    rw [List.getElem?_append_left (by rw [mkAll_len]; exact hk1), mkAll_get, hu]
    rfl
  · refine ⟨_, Y.endT s, t.2.1, s.size, hL, ?_, hat _ _ _, rfl, by omega, by rw [hsz, e, hz], by omega⟩
    rw [List.getElem?_append_right (by rw [mkAll_len]; omega), mkAll_len, show k + 1 - ts.length = 0 by omega]
    rfl

/-- All that is asked of a text that has tokens. -/
theorem back_pure (s : ByteArray) (h : (lexR s).2.2 = 0) (hs : s.size ≤ 3000) : ∃ (n : Nat) (L M : List Tk) (p : ByteArray), lexR s = (0, L, 0) ∧ prT ⟨#[]⟩ L = p ∧ lexR p = (0, M, 0) ∧ prT ⟨#[]⟩ M = p ∧ sameR false L M = true ∧ L.length = n + 1 ∧ n ≤ 3000 ∧ (∃ x, L[n]? = some x ∧ x.kind = 6 ∧ x.at_ = (s.size : Int)) ∧ ∀ k, k < n → StepOk s L k := by
  obtain ⟨ts, ts2, p, e1, e2, e3, e4, e5, e6, e7, e8, e9⟩ := Y.lex_back s h hs
  refine ⟨ts.length, _, _, p, e1, e2, e4, e6, sameR_bare ?_, ?_, ?_, ⟨Y.endT s, ?_, rfl, rfl⟩, fun k hk => steps_ok e7 e9 k hk⟩
  · rw [List.map_append, List.map_append, e5]
    rfl
  · rw [List.length_append, mkAll_len]
    rfl
  · have := (e7.sum e8)
    have hl : (Y.texts ts).length = ts.length := List.length_map _
    omega
  · rw [List.getElem?_append_right (by rw [mkAll_len]; omega), mkAll_len, Nat.sub_self]
    rfl

set_option maxRecDepth 100000 in
set_option maxHeartbeats 4000000 in
theorem back_all (w : World) (s : ByteArray) : Calls Try.prog 4 #[.string s] w fun e w' => e = .returned (.bool true) ∧ Fr no w w' := by
  have KN := known_any w
  by_cases h3 : 3000 < s.size
  · have h3' : (3000 : Int) < (s.size : Int) := by omega
    go_enter Try.func4, Try.ntmps4
    go_wp2_with fail
    refine KN.mono ?_
    rintro _ w1 ⟨rfl, f1⟩
    have HF : Hid (Fr no w w1) := f1
    clear f1
    go_wp2_with fail
    go_ret
    exact ⟨rfl, HF.out⟩
  · have h3' : ¬ (3000 : Int) < (s.size : Int) := by omega
    have PA := fun w => pAll w s
    by_cases h0 : (lexR s).2.2 = 0
    · have hT := toks_ok s
      obtain ⟨n, L, M, p, e1, e2, e3, e4, e5, e6, e7, ⟨z, hz, hz6, hza⟩, e8⟩ := back_pure s h0 (by omega)
      have hT2 := toks_ok p
      have PB := fun w => pAll w p
      rw [e1] at PA hT
      rw [e3] at PB hT2
      simp only at PA hT PB hT2
      have PP := fun w v hv => pPrint w v L hv (by omega) hT.2
      have PQ := fun w v hv => pPrint w v M hv (by omega) hT2.2
      have SA := fun w v u hv hu => same_any w v u L M false hv hu (by omega)
      rw [e2] at PP
      rw [e4] at PQ
      rw [e5] at SA
      have HST : Hid (∀ k, k < n → StepOk s L k) := e8
      have hMl : M.length ≤ 8001 := hT2.1
      clear e1 e2 e3 e4 e5 e8 hT hT2 h0
      have HLN : Hid (L.length = n + 1) := e6
      go_enter Try.func4, Try.ntmps4
      go_wp2_with fail
      refine KN.mono ?_
      rintro _ w1 ⟨rfl, f1⟩
      go_wp2_with fail
      refine (PA _).mono ?_
      rintro _ w2 ⟨v2, rfl, ⟨o2, -⟩, f2⟩
      obtain ⟨oo, cc, rfl⟩ := o2.form
      rw [e6] at *
      clear e6
      have HO : Hid (SlG elK w2 (.slice oo (n + 1) cc) L ∧ Fr no w w2) := ⟨o2.sl, f1.and f2⟩
      clear o2 f1 f2
      go_wp2_with fail
      refine (PP _ _ HO.out.1).mono ?_
      rintro _ w3 ⟨rfl, f3⟩
      go_wp2_with fail
      refine (PB _).mono ?_
      rintro _ w4 ⟨v4, rfl, ⟨o4, -⟩, f4⟩
      have HP : Hid (SlG elK w4 (.slice oo (n + 1) cc) L ∧ SlG elK w4 v4 M ∧ Fr no w w4) := ⟨(HO.out.1.keep f3).keep f4, o4.sl, (HO.out.2.and f3).and f4⟩
      clear HO f3 f4 o4
      go_wp2_with fail
      refine (SA _ _ _ HP.out.1 HP.out.2.1).mono ?_
      rintro _ w5 ⟨rfl, f5⟩
      go_wp2_with fail
      refine (PQ _ _ (HP.out.2.1.keep f5)).mono ?_
      rintro _ w6 ⟨rfl, f6⟩
      have HQ : Hid (SlG elK w6 (.slice oo (n + 1) cc) L ∧ Fr no w w6) := ⟨(HP.out.1.keep f5).keep f6, (HP.out.2.2.and f5).and f6⟩
      clear HP f5 f6
      obtain ⟨b, off, rfl, hc⟩ := tk_at HQ.out.1 hz
      have c0 := hc 0 _ rfl
      have c1 := hc 1 _ rfl
      rw [hz6, Nat.add_zero] at c0
      rw [hza] at c1
      clear hc hz hz6 hza
      have n0 : (0 : Int) ≤ (n : Int) := by omega
      have nz : ((n : Int) + 1 == 0) = false := by simp; omega
      go_wp2_with fail
      go_loopw [10] (fun iv wr => ∃ k : Nat, iv = .int .i64 (k : Int) ∧ k ≤ n ∧ Fr no w6 wr) (fun iv _ => n - (intOf iv).toNat)
      case atStart => exact ⟨0, rfl, Nat.zero_le _, Fr.refl _ _⟩
      case round =>
        obtain ⟨k, rfl, hk, hF⟩ := hrel
        have HF : Hid (Fr no w6 wr) := hF
        clear c0 c1
        have k0 : (0 : Int) ≤ (k : Int) := by omega
        by_cases hlt : k < n
        · have hlt' : (k : Int) < (n : Int) := by omega
          have hlt2 : (k : Int) < (n : Int) + 1 := by omega
          obtain ⟨x, y, p1, p2, hx, hy, hxa, hya, hle, hex, hge⟩ := HST.out k hlt
          obtain ⟨b', off', hb, hc⟩ := tk_at (HQ.out.1.keep hF) hx
          obtain ⟨b2, off2, hb2, hd⟩ := tk_at (HQ.out.1.keep hF) hy
          simp only [Option.some.injEq, Addr.mk.injEq] at hb hb2
          obtain ⟨rfl, rfl, _⟩ := hb
          obtain ⟨rfl, rfl, _⟩ := hb2
          have c1 := hc 1 _ rfl
          have c2 := hc 2 _ rfl
          have d1 := hd 1 _ rfl
          rw [hxa] at c1
          rw [hya] at d1
          have q0 : (0 : Int) ≤ (p1 : Int) := by omega
          have q1 : (p1 : Int) + (x.text.size : Int) ≤ (s.size : Int) := by omega
          have q2 : (p1 : Int) + (x.text.size : Int) ≤ (p2 : Int) := by omega
          have q3 : ¬ (s.size : Int) < (p1 : Int) + (x.text.size : Int) := by omega
          have q4 : ¬ (p2 : Int) < (p1 : Int) + (x.text.size : Int) := by omega
          have q5 : ¬ (p1 : Int) < 0 := by omega
          have hw : IntKind.i64.wrap ((p1 : Int) + (x.text.size : Int)) = (p1 : Int) + (x.text.size : Int) := by rw [IntKind.wrap_i64]; omega
          have q6 : (decide ((p1 : Int) < 0) || decide ((s.size : Int) < IntKind.i64.wrap ((p1 : Int) + (x.text.size : Int)))) = false := by rw [hw]; simp; omega
          have q7 : (p1 : Int) ≤ (p1 : Int) + (x.text.size : Int) := by omega
          have q8 : ¬ (p1 : Int) + (x.text.size : Int) < (p1 : Int) := by omega
          have hn : ((p1 : Int) + (x.text.size : Int)).toNat = p1 + x.text.size := by omega
          have q9 : (decide ((p1 : Int) < 0) || decide ((s.size : Int) < (p1 : Int) + (x.text.size : Int)) || !(s.extract p1 (p1 + x.text.size)).toList == x.text.toList) = false := by rw [hex]; simp; omega
          have hw2 : IntKind.i64.wrap ((k : Int) + 1) = (k : Int) + 1 := by rw [IntKind.wrap_i64]; omega
          have hn2 : ((k : Int) + 1).toNat = k + 1 := by omega
          have k1 : (0 : Int) ≤ (k : Int) + 1 := by omega
          have HEX : Hid _ := hex
          clear hc hd hx hy hxa hya hex hF
          go_wp2_with fail
          go_quiet (fail)
          generalize hwq : World.drewN wr nq = wq
          have HG : Hid (Fr no w6 wq) := by rw [Hid, ← hwq]; exact HF.out.drewN _
          clear hwq
          go_wp2_with fail
          go_roundw
          case rel => exact ⟨k + 1, by congr 1, by omega, HG.out⟩
          case measure => simp [intOf]; omega
        · obtain rfl : k = n := by omega
          have hlt' : ¬ (k : Int) < (k : Int) := by omega
          clear hlt hk
          go_wp2_with fail
          go_ret
          exact ⟨rfl, HQ.out.2.and HF.out⟩
    · obtain ⟨h1, h2⟩ := Y.lexR_err s h0 (by omega)
      generalize lexR s = Z at *
      obtain ⟨r1, r2, r3⟩ := Z
      simp only at PA h0 h1 h2
      subst h2
      have hne : ((r3 : Int) != 0) = true := by simp; omega
      have g1 : (0 : Int) ≤ (r1 : Int) := by omega
      have g2 : (r1 : Int) < (s.size : Int) := by omega
      clear h0 h1
      go_enter Try.func4, Try.ntmps4
      go_wp2_with fail
      refine KN.mono ?_
      rintro _ w1 ⟨rfl, f1⟩
      go_wp2_with fail
      refine (PA _).mono ?_
      rintro _ w2 ⟨v2, rfl, ⟨o2, -⟩, f2⟩
      obtain ⟨oo, cc, rfl⟩ := o2.form
      have HF : Hid (Fr no w w2) := f1.and f2
      clear o2 f1 f2
      go_wp2_with fail
      go_ret
      exact ⟨rfl, HF.out⟩
end Go.Proofs.Ytmpahllkbpofnaa
