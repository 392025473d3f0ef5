/- The document's lexer, of whatever text; its print. -/
import Derived.Test.YtmpahllkbpofnaaXd
import Derived.Laws.Concat
namespace Go.Proofs.Ytmpahllkbpofnaa
open Go.ChangeShapes Go.WideShapes Go.ChangeAt Go.RowKit

theorem lex_any (w : World) (s : ByteArray) :
    Calls Try.prog 10 #[.string s] w fun e w' => ∃ v, e = .returned (.tuple #[v, .int .i64 ((lexR s).1 : Nat), .int .i64 ((lexR s).2.2 : Nat)]) ∧ (OwnG elK w' v (lexR s).2.1 ∧ NewV w v) ∧ Fr no w w' := by
  by_cases h : 8000 < s.size
  · have h' : (8000 : Int) < (s.size : Int) := by omega
    have HR : lexR s = (0, [], 32) := if_pos h
    rw [HR]
    clear HR
    go_enter Try.func10, Try.ntmps10
    go_wp2_with fail
    refine bodyPost_ret (results_tmp3 rfl _ _ _) rfl ?_
    exact ⟨_, rfl, ⟨OwnG.nil _ _, NewV.nil _⟩, Fr.refl _ _⟩
  · have HR : lexR s = lexF s (s.size + 1) 0 [] := if_neg h
    rw [HR]
    exact all_any w s (by omega)

theorem sl_tk {w : World} {o : Option Addr} {n c : Nat} {l : List Tk} (h : SlG elK w (.slice o n c) l) {k : Nat} (hk : k < l.length) :
    ∃ b off, o = some ⟨b, off, none⟩ ∧ ∀ (j : Nat) (u : Value), (tkL l[k])[j]? = some u → w.cell? ⟨b, off + k * 5 + j, none⟩ = some u := by
  obtain ⟨ad, cap, e, h1, h2, h0, h3⟩ := h
  cases ad with
  | none =>
    have := (h0 rfl).1
    subst this
    simp at hk
  | some a =>
    obtain ⟨b, off, sp⟩ := a
    obtain ⟨h4, h3⟩ := h3 _ rfl
    simp only [] at h4
    subst h4
    simp only [Value.slice.injEq] at e
    refine ⟨b, off, e.1, fun j u hj => ?_⟩
    rw [Nat.add_assoc]
    refine h3 (k * 5 + j) u ?_
    exact cg_get elK_ok l k l[k] (List.getElem?_eq_getElem hk) j u hj

theorem prT_end {a : ByteArray} {l : List Tk} {k : Nat} {R : ByteArray} (h : prT a (l.drop k) = R) (hk : ¬ k < l.length) : R = a := by
  rw [← h, List.drop_eq_nil_of_le (by omega)]
  rfl
theorem prT_skip {a : ByteArray} {l : List Tk} {k : Nat} {R : ByteArray} (h : prT a (l.drop k) = R) (hk : k < l.length) (h6 : l[k].kind = 6) : prT a (l.drop (k + 1)) = R := by
  rw [← h, List.drop_eq_getElem_cons hk, prT, if_pos h6]
theorem prT_take {a : ByteArray} {l : List Tk} {k : Nat} {R : ByteArray} (h : prT a (l.drop k) = R) (hk : k < l.length) (h6 : ¬ l[k].kind = 6) : prT ((if a.toList.isEmpty then a else a ++ ⟨#[32]⟩) ++ l[k].text) (l.drop (k + 1)) = R := by
  rw [← h, List.drop_eq_getElem_cons hk, prT, if_neg h6]


set_option maxRecDepth 100000 in
set_option maxHeartbeats 4000000 in
theorem print_any (w : World) (v : Value) (l : List Tk) (hv : SlG elK w v l) (hl : l.length ≤ 100000) (hT : ∀ (k : Nat) (h : k < l.length), l[k].text.size ≤ 8000) :
    Calls Try.prog 15 #[v] w fun e w' => e = .returned (.string (prT ⟨#[]⟩ l)) ∧ w' = w := by
  generalize hR : prT ⟨#[]⟩ l = R
  have HR : Hid (prT ⟨#[]⟩ l = R) := hR
  have HTX : Hid (∀ (k : Nat) (h : k < l.length), l[k].text.size ≤ 8000) := hT
  clear hR hT
  obtain ⟨oo, cc, rfl⟩ := hv.form
  have HV : Hid (SlG elK w (.slice oo l.length cc) l) := hv
  clear hv
  go_enter Try.func15, Try.ntmps15
  go_wp2_with fail
  go_loopw [3, 4] (fun sv iv wr => wr = w ∧ ∃ (k : Nat) (a : ByteArray), iv = .int .i64 (k : Int) ∧ sv = .string a ∧ k ≤ l.length ∧ a.size ≤ 8001 * k ∧ Hid (prT a (l.drop k) = R)) (fun _ iv _ => l.length - (intOf iv).toNat)
  case atStart => exact ⟨rfl, 0, ⟨#[]⟩, rfl, rfl, by omega, Nat.le_refl _, HR.out⟩
  case round =>
    obtain ⟨hwr, k, a, rfl, rfl, hk, hsz, HK⟩ := hrel
    subst hwr
    have hk0 : (0 : Int) ≤ (k : Int) := by omega
    by_cases hlt : k < l.length
    · have hlt' : (k : Int) < (l.length : Int) := by omega
      obtain ⟨b, off, ho, hc⟩ := sl_tk HV.out hlt
      subst ho
      have c0 := hc 0 _ rfl
      rw [Nat.add_zero] at c0
      have c2 := hc 2 _ rfl
      have HTS := HTX.out k hlt
      clear hc
      by_cases h6 : l[k].kind = 6
      · have h6' : (l[k].kind == 6) = true := by simp [h6]
        have HG : Hid _ := prT_skip HK.out hlt h6
        go_wp2_with fail
        go_roundw
        case rel => exact ⟨trivial, k + 1, a, by congr 1, rfl, by omega, by omega, HG.out⟩
        case measure => simp [intOf]; omega
      · have h6' : (l[k].kind == 6) = false := by simp [h6]
        have HG0 := prT_take HK.out hlt h6
        cases he : a.toList.isEmpty
        · rw [he] at HG0
          have HG : Hid _ := HG0
          clear HG0
          have hs1 : a.size + 1 ≤ 9223372036854775807 := by omega
          have hs2 : a.size + 1 + l[k].text.size ≤ 9223372036854775807 := by omega
          go_wp2_with fail
          refine ⟨⟨trivial, k + 1, _, by congr 1, rfl, by omega, ?_, HG.out⟩, by simp [intOf]; omega⟩
          have e32 : (⟨#[32]⟩ : ByteArray).size = 1 := rfl
          simp [Nat.mul_add]
          omega
        · rw [he] at HG0
          have HG : Hid _ := HG0
          clear HG0
          have hs2 : a.size + l[k].text.size ≤ 9223372036854775807 := by omega
          go_wp2_with fail
          refine ⟨⟨trivial, k + 1, _, by congr 1, rfl, by omega, ?_, HG.out⟩, by simp [intOf]; omega⟩
          simp [Nat.mul_add]
          omega
    · have hlt' : ¬ (k : Int) < (l.length : Int) := by omega
      have hRa := prT_end HK.out hlt
      subst hRa
      go_wp2_with fail
      go_ret
      exact ⟨rfl, rfl⟩

end Go.Proofs.Ytmpahllkbpofnaa
