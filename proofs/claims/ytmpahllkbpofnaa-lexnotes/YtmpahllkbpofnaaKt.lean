/- Every text has the document's tokens. -/
import Derived.Test.YtmpahllkbpofnaaKn
namespace Go.Proofs.Ytmpahllkbpofnaa
open Go.ChangeShapes Go.WideShapes Go.ChangeAt Go.RowKit

theorem mkAll_len (ts : List Y.T0) : (Y.mkAll ts).length = ts.length := List.length_map _
theorem mkAll_get (ts : List Y.T0) (k : Nat) : (Y.mkAll ts)[k]? = (ts[k]?).map fun t => Y.mk t.1 t.2.1 t.2.2 := List.getElem?_map
theorem le_sum {x : List Nat} : ∀ {xs : List (List Nat)}, x ∈ xs → x.length ≤ (xs.map List.length).sum
  | [], h => by simp at h
  | y :: xs, h => by
    rw [List.map_cons, List.sum_cons]
    rcases List.mem_cons.1 h with rfl | h
    · omega
    · have := le_sum h
      omega
/-- What a text's tokens are like. -/
theorem toks_of {s : ByteArray} {ts : List Y.T0} (h : Y.Lx (nl s) 0 ts) : ts.length ≤ s.size ∧ ∀ t ∈ ts, Y.Shape t.1 t.2.2 ∧ t.2.2.length ≤ s.size := by
  obtain ⟨o1, o2, -⟩ := h.ord
  rw [Nat.zero_add, nl_length] at o1
  obtain ⟨h1, h2⟩ := o1.sum o2
  have hl : (Y.texts ts).length = ts.length := List.length_map _
  refine ⟨by omega, fun t ht => ⟨o2 t ht, ?_⟩⟩
  have := le_sum (xs := Y.texts ts) (List.mem_map.2 ⟨t, ht, rfl⟩)
  omega
theorem toks_ok (s : ByteArray) : (lexR s).2.1.length ≤ 8001 ∧ ∀ (k : Nat) (h : k < (lexR s).2.1.length), (lexR s).2.1[k].text.size ≤ 8000 ∧ (¬ (lexR s).2.1[k].kind = 6 → 0 < (lexR s).2.1[k].text.size) := by
  by_cases h0 : (lexR s).2.2 = 0
  · obtain ⟨h8, ts, h1, h2⟩ := Y.lexR_ok s h0
    obtain ⟨h3, h4⟩ := toks_of h1
    rw [h2]
    simp only
    refine ⟨by rw [List.length_append, mkAll_len]; simp; omega, fun k h => ?_⟩
    by_cases hk : k < ts.length
    · rw [List.getElem_append_left (by rw [mkAll_len]; exact hk)]
      have e : (Y.mkAll ts)[k]'(by rw [mkAll_len]; exact hk) = Y.mk ts[k].1 ts[k].2.1 ts[k].2.2 := List.getElem_map _
      rw [e, mk_text, Y.size_bytes]
      obtain ⟨a, b⟩ := h4 ts[k] (List.getElem_mem hk)
      exact ⟨by omega, fun _ => a.pos⟩
    · have hk2 : k = ts.length := by
        rw [List.length_append, mkAll_len] at h
        simp at h
        omega
      subst hk2
      rw [List.getElem_append_right (by rw [mkAll_len]; omega)]
      simp only [mkAll_len, Nat.sub_self, List.getElem_cons_zero]
      exact ⟨Nat.zero_le _, fun h => absurd rfl h⟩
  · by_cases h8 : 8000 < s.size
    · have e : lexR s = (0, [], 32) := if_pos h8
      rw [e]
      exact ⟨by simp, fun k h => by simp at h⟩
    · have e := (Y.lexR_err s h0 (by omega)).2
      rw [e]
      exact ⟨by simp, fun k h => by simp at h⟩
theorem tkSame_self (p : Bool) (x : Tk) : tkSame p x x = true := by
  unfold tkSame cEq
  simp
theorem sameR_self (p : Bool) : ∀ l : List Tk, sameR p l l = true
  | [] => rfl
  | x :: l => by
    show (tkSame p x x && sameR p l l) = true
    rw [tkSame_self, sameR_self p l]
    rfl

set_option maxRecDepth 100000 in
set_option maxHeartbeats 4000000 in
theorem tells_all (w : World) (s wd : ByteArray) : Calls Try.prog 3 #[.string s, .string wd] w fun e w' => e = .returned (.bool true) ∧ Fr no w w' := by
  have KN := known_any w
  by_cases h9 : 9000 < s.size
  · have h9' : (9000 : Int) < (s.size : Int) := by omega
    go_enter Try.func3, Try.ntmps3
    go_wp2_with fail
    refine KN.mono ?_
    rintro _ w1 ⟨rfl, f1⟩
    have HF : Hid (Fr no w w1) := f1
    clear f1
    go_wp2_with fail
    go_ret
    exact ⟨rfl, HF.out⟩
  · have h9' : ¬ (9000 : Int) < (s.size : Int) := by omega
    by_cases h1 : 100 < wd.size
    · have h1' : (100 : Int) < (wd.size : Int) := by omega
      go_enter Try.func3, Try.ntmps3
      go_wp2_with fail
      refine KN.mono ?_
      rintro _ w1 ⟨rfl, f1⟩
      have HF : Hid (Fr no w w1) := f1
      clear f1
      go_wp2_with fail
      go_ret
      exact ⟨rfl, HF.out⟩
    · have h1' : ¬ (100 : Int) < (wd.size : Int) := by omega
      have PA := fun w => pAll w s
      have LA := fun w => lex_any w s
      have PW := fun w => pWord w wd
      have WA := fun w => word_any w wd
      obtain ⟨hlen, htx⟩ := toks_ok s
      have HS : Hid (sameR true (lexR s).2.1 (lexR s).2.1 = true) := sameR_self true _
      have SA := fun w v u hv hu => same_any w v u (lexR s).2.1 (lexR s).2.1 true hv hu (by omega)
      have PP := fun w v hv => pPrint w v (lexR s).2.1 hv (by omega) htx
      have RP := fun w v hv => print_any w v (lexR s).2.1 hv (by omega) (fun k h => (htx k h).1)
      rw [HS.out] at SA
      generalize prT ⟨#[]⟩ (lexR s).2.1 = T at *
      clear htx hlen HS
      generalize isWord wd = b at *
      generalize lexR s = R at *
      obtain ⟨r1, r2, r3⟩ := R
      simp only at *
      go_enter Try.func3, Try.ntmps3
      go_wp2_with fail
      refine KN.mono ?_
      rintro _ w1 ⟨rfl, f1⟩
      go_wp2_with fail
      refine (PA _).mono ?_
      rintro _ w2 ⟨v2, rfl, ⟨o2, -⟩, f2⟩
      go_wp2_with fail
      refine (LA _).mono ?_
      rintro _ w3 ⟨v3, rfl, ⟨o3, -⟩, f3⟩
      have HO : Hid (SlG elK w3 v2 r2 ∧ SlG elK w3 v3 r2 ∧ Fr no w w3) := ⟨(o2.keep f3).sl, o3.sl, (f1.and f2).and f3⟩
      clear o2 o3 f1 f2 f3
      go_wp2_with fail
      refine (SA _ _ _ HO.out.1 HO.out.2.1).mono ?_
      rintro _ w4 ⟨rfl, f4⟩
      go_wp2_with fail
      refine (PW _).mono ?_
      rintro _ w4 ⟨rfl, rfl⟩
      go_wp2_with fail
      refine (WA _).mono ?_
      rintro _ w5 ⟨rfl, f5⟩
      have HP : Hid (SlG elK w5 v3 r2 ∧ Fr no w w5) := ⟨(HO.out.2.1.keep f4).keep f5, (HO.out.2.2.and f4).and f5⟩
      clear HO f4 f5
      go_wp2_with fail
      refine (PP _ _ HP.out.1).mono ?_
      rintro _ w6 ⟨rfl, f6⟩
      have HQ : Hid (SlG elK w6 v3 r2 ∧ Fr no w w6) := ⟨HP.out.1.keep f6, HP.out.2.and f6⟩
      clear HP f6
      go_wp2_with fail
      refine (RP _ _ HQ.out.1).mono ?_
      rintro _ w6 ⟨rfl, rfl⟩
      go_wp2_with fail
      go_ret
      exact ⟨rfl, HQ.out.2⟩
end Go.Proofs.Ytmpahllkbpofnaa
