/- The document's answers: what is below what, what two have in common; rows of texts that are alike, or short. -/
import Derived.Test.YtabiagheflkiaaaRef
namespace Go.Proofs.Ytabiagheflkiaaa
open Go.ChangeShapes Go.WideShapes Go.ChangeAt Go.RowKit

/-- What the document's classes must be for the calls below. -/
structure RC (w : World) (p : Nat) (N S : List ByteArray) (A : List Nat) : Prop where
  rb : RB w p N S
  fine : Fine N.length A
  ra : RA N S A
  len : N.length ≤ 1000
  ring : ∀ i, i < N.length → (up A N.length i).2 = true

theorem RC.keep {w w' : World} {p : Nat} {N S : List ByteArray} {A : List Nat} (h : RC w p N S A) (hf : Fr no w w') : RC w' p N S A := ⟨h.rb.keep hf, h.fine, h.ra, h.len, h.ring⟩
theorem RC.anc {w : World} {p : Nat} {N S : List ByteArray} {A : List Nat} (h : RC w p N S A) (s : ByteArray) : Calls Try.prog 18 #[.pointer (some ⟨p, 0, none⟩), .string s] w fun e w' => ∃ v, e = .returned v ∧ OwnG elS w' v (Go.Proofs.Ytabiagheflkiaaa.anc N A s) ∧ NewV w v ∧ Fr no w w' := docAnc_any w p N S A h.rb h.fine h.ra h.len h.ring s

set_option maxRecDepth 100000 in
theorem docSub_any (w : World) (p : Nat) (N S : List ByteArray) (A : List Nat) (h : RC w p N S A) (s t : ByteArray) :
    Calls Try.prog 20 #[.pointer (some ⟨p, 0, none⟩), .string s, .string t] w fun e w' => e = .returned (.bool (inL t (anc N A s))) ∧ Fr no w w' := by
  have C := h.anc s
  clear h
  generalize anc N A s = l at *
  go_enter Try.func20, Try.ntmps20
  go_wp2_with fail
  refine C.mono ?_
  rintro e w1 ⟨v, rfl, o1, -, f1⟩
  have F1 : Hid (Fr no w w1) := f1
  obtain ⟨ad, cp, rfl, hcap, hmx, -, hit⟩ := o1.sl
  unfold maxLen at hmx
  have HI : Hid (∀ (i : Nat) (x : ByteArray), l[i]? = some x → ∃ b off, ad = some ⟨b, off, none⟩ ∧ w1.cell? ⟨b, off + i, none⟩ = some (.string x)) := hit
  clear hit o1 f1 C
  go_wp2_with fail
  go_loop [8] (fun i => ∃ (k : Nat), i = .int .i64 (k : Int) ∧ k ≤ l.length ∧ inL t (l.take k) = false) (fun i => l.length - (intOf i).toNat)
  case atStart => exact ⟨0, rfl, by omega, rfl⟩
  case round =>
    obtain ⟨k, rfl, hk, hall⟩ := hrel
    have HA : Hid (inL t (l.take k) = false) := hall
    clear hall
    by_cases hlt : k < l.length
    · obtain ⟨x, hx⟩ : ∃ x, l[k]? = some x := ⟨_, List.getElem?_eq_getElem hlt⟩
      obtain ⟨b, off, rfl, hc⟩ := HI.out k x hx
      have HX : Hid (l[k]? = some x) := hx
      clear hx
      have hlt' : (k : Int) < (l.length : Int) := by omega
      have hq := streq x t
      by_cases hn : x = t
      · rw [decide_eq_true hn] at hq
        have HT : Hid (inL t l = true) := inL_iff.2 (hn ▸ List.mem_of_getElem? HX.out)
        clear hn
        go_wp2_with fail
        go_ret
        rw [HT.out]
        exact ⟨rfl, F1.out⟩
      · rw [decide_eq_false hn] at hq
        have HT : Hid (inL t (l.take (k + 1)) = false) := by
          show _ = _
          rw [take_next l k x HX.out]
          have := HA.out
          unfold inL at this ⊢
          rw [List.any_append, this]
          simp [hn]
        clear hn
        go_wp2_with fail
        go_round
        case rel => exact ⟨k + 1, by go_num, by omega, HT.out⟩
        case measure => simp [intOf]; omega
    · have hkl : k = l.length := by omega
      subst hkl
      have HT : Hid (inL t l = false) := by
        have := HA.out
        rwa [List.take_length] at this
      go_wp2_with fail
      go_ret
      rw [HT.out]
      exact ⟨rfl, F1.out⟩

set_option maxRecDepth 100000 in
theorem docCommon_any (w : World) (p : Nat) (N S : List ByteArray) (A : List Nat) (h : RC w p N S A) (s t : ByteArray) :
    Calls Try.prog 22 #[.pointer (some ⟨p, 0, none⟩), .string s, .string t] w fun e w' => e = .returned (.string (shared (anc N A s) (anc N A t))) ∧ Fr no w w' := by
  have HC : Hid (∀ w', Fr no w w' → ∀ x, Calls Try.prog 20 #[.pointer (some ⟨p, 0, none⟩), .string t, .string x] w' fun e w'' => e = .returned (.bool (inL x (anc N A t))) ∧ Fr no w' w'') := fun w' f x => docSub_any w' p N S A (h.keep f) t x
  have C := h.anc s
  clear h
  generalize anc N A s = l at *
  generalize anc N A t = m at *
  go_enter Try.func22, Try.ntmps22
  go_wp2_with fail
  refine C.mono ?_
  rintro e w1 ⟨v, rfl, o1, -, f1⟩
  have F1 : Hid (Fr no w w1) := f1
  have O1 : Hid (OwnG elS w1 v l) := o1
  obtain ⟨ad, cp, hvf, hcap, hmx, -, -⟩ := o1.sl
  unfold maxLen at hmx
  subst hvf
  clear o1 f1 C
  generalize hll : l.length = n at *
  go_wp2_with fail
  go_loopw [8] (fun i wr => ∃ (k : Nat), i = .int .i64 (k : Int) ∧ k ≤ n ∧ Fr no w1 wr ∧ ∀ x ∈ l.take k, inL x m = false) (fun i _ => n - (intOf i).toNat)
  case atStart => exact ⟨0, rfl, by omega, Fr.refl _ _, fun x hx => by simp at hx⟩
  case round =>
    obtain ⟨k, rfl, hk, hf, hall⟩ := hrel
    have HA : Hid (∀ x ∈ l.take k, inL x m = false) := hall
    have F2 : Hid (Fr no w1 wr) := hf
    clear hall
    by_cases hlt : k < n
    · obtain ⟨x, hx⟩ : ∃ x, l[k]? = some x := ⟨_, List.getElem?_eq_getElem (by omega)⟩
      obtain ⟨ad', cp', e', -, -, -, hit⟩ := (O1.out.keep hf).sl
      simp only [Value.slice.injEq] at e'
      obtain ⟨rfl, -, -⟩ := e'
      obtain ⟨b, off, rfl, hc⟩ := hit k x hx
      have hc' : wr.cell? ⟨b, off + k, none⟩ = some (.string x) := hc
      have HX : Hid (l[k]? = some x) := hx
      have I := HC.out wr (F1.out.and hf) x
      have HC2 : Hid (∀ w', Fr no w1 w' → w'.cell? ⟨b, off + k, none⟩ = some (.string x)) := fun w' f => by
        obtain ⟨ad', cp', e', -, -, -, hit⟩ := (O1.out.keep f).sl
        simp only [Value.slice.injEq] at e'
        obtain ⟨e1, -, -⟩ := e'
        obtain ⟨b', off', e2, hc⟩ := hit k x HX.out
        rw [← e1] at e2
        simp only [Option.some.injEq, Addr.mk.injEq, and_true] at e2
        obtain ⟨rfl, rfl⟩ := e2
        exact hc
      clear hx hit hc hf
      have hlt' : (k : Int) < (n : Int) := by omega
      by_cases hin : inL x m = true
      · rw [hin] at I
        have HT : Hid (shared l m = x) := shared_at HX.out HA.out hin
        clear hin
        go_wp2_with fail
        refine I.mono ?_
        rintro e w3 ⟨rfl, f3⟩
        have F3 : Hid (Fr no w w3) := F1.out.and (F2.out.and f3)
        have d1 := HC2.out w3 (F2.out.and f3)
        clear f3
        go_wp2_with fail
        go_ret
        rw [HT.out]
        exact ⟨rfl, F3.out⟩
      · have hin' : inL x m = false := by simpa using hin
        rw [hin'] at I
        have HT : Hid (∀ y ∈ l.take (k + 1), inL y m = false) := by
          intro y hy
          rw [take_next l k x HX.out, List.mem_append] at hy
          rcases hy with hy | hy
          · exact HA.out y hy
          · simp only [List.mem_singleton] at hy
            rw [hy]; exact hin'
        clear hin hin'
        go_wp2_with fail
        refine I.mono ?_
        rintro e w3 ⟨rfl, f3⟩
        have F3 : Hid (Fr no w1 w3) := F2.out.and f3
        clear f3
        go_wp2_with fail
        go_roundw
        case rel => exact ⟨k + 1, by go_num, by omega, F3.out, HT.out⟩
        case measure => simp [intOf]; omega
    · have hkl : k = n := by omega
      subst hkl
      have HT : Hid (shared l m = ByteArray.empty) := by
        refine shared_none ?_
        have := HA.out
        rwa [← hll, List.take_length] at this
      clear hf
      go_wp2_with fail
      go_ret
      rw [HT.out]
      exact ⟨rfl, F1.out.and F2.out⟩

set_option maxRecDepth 100000 in
theorem texts_any (w : World) (v u : Value) (l : List ByteArray) (h : SlG elS w v l) (h' : SlG elS w u l) :
    Calls Try.prog 13 #[v, u] w fun e w' => e = .returned (.bool true) ∧ Fr no w w' := by
  obtain ⟨ad, cp, rfl, hcap, hmx, -, hit⟩ := h
  obtain ⟨ad', cp', rfl, hcap', hmx', -, hit'⟩ := h'
  unfold maxLen at hmx hmx'
  have HI : Hid (∀ (i : Nat) (x : ByteArray), l[i]? = some x → ∃ b off, ad = some ⟨b, off, none⟩ ∧ w.cell? ⟨b, off + i, none⟩ = some (.string x)) := hit
  have HI' : Hid (∀ (i : Nat) (x : ByteArray), l[i]? = some x → ∃ b off, ad' = some ⟨b, off, none⟩ ∧ w.cell? ⟨b, off + i, none⟩ = some (.string x)) := hit'
  clear hit hit'
  generalize hll : l.length = n at *
  go_enter Try.func13, Try.ntmps13
  go_wp2_with fail
  go_loopw [5] (fun i wr => ∃ (k : Nat), i = .int .i64 (k : Int) ∧ k ≤ n ∧ Fr no w wr) (fun i _ => n - (intOf i).toNat)
  case atStart => exact ⟨0, rfl, by omega, Fr.refl _ _⟩
  case round =>
    obtain ⟨k, rfl, hk, hf⟩ := hrel
    have F1 : Hid (Fr no w wr) := hf
    by_cases hlt : k < n
    · obtain ⟨x, hx⟩ : ∃ x, l[k]? = some x := ⟨_, List.getElem?_eq_getElem (by omega)⟩
      obtain ⟨b, off, rfl, hc⟩ := HI.out k x hx
      obtain ⟨b', off', rfl, hc'⟩ := HI'.out k x hx
      have d1 := hf.cell hc (fun f => f)
      have d2 := hf.cell hc' (fun f => f)
      have hlt' : (k : Int) < (n : Int) := by omega
      have hq := streq x x
      rw [decide_eq_true rfl] at hq
      clear hx hc hc' hf
      go_wp2_with fail
      go_region
      go_wp2_with fail
      go_roundw
      case rel => exact ⟨k + 1, by go_num, by omega, F1.out.drew⟩
      case measure => simp [intOf]; omega
    · have hkl : k = n := by omega
      subst hkl
      clear hf
      go_wp2_with fail
      go_ret
      exact ⟨rfl, F1.out⟩

/-- Few texts, none of them long. -/
def brief (l : List ByteArray) : Bool := decide (∀ x ∈ l, x.size ≤ 40) && decide (l.length ≤ 24)

set_option maxRecDepth 100000 in
theorem short_any (w : World) (v : Value) (l : List ByteArray) (h : SlG elS w v l) :
    Calls Try.prog 10 #[v] w fun e w' => e = .returned (.bool (brief l)) ∧ w' = w := by
  obtain ⟨ad, cp, rfl, hcap, hmx, -, hit⟩ := h
  unfold maxLen at hmx
  have HI : Hid (∀ (i : Nat) (x : ByteArray), l[i]? = some x → ∃ b off, ad = some ⟨b, off, none⟩ ∧ w.cell? ⟨b, off + i, none⟩ = some (.string x)) := hit
  clear hit
  generalize hll : l.length = n at *
  go_enter Try.func10, Try.ntmps10
  go_wp2_with fail
  go_loop [3] (fun i => ∃ (k : Nat), i = .int .i64 (k : Int) ∧ k ≤ n ∧ ∀ x ∈ l.take k, x.size ≤ 40) (fun i => n - (intOf i).toNat)
  case atStart => exact ⟨0, rfl, by omega, fun x hx => by simp at hx⟩
  case round =>
    obtain ⟨k, rfl, hk, hall⟩ := hrel
    have HA : Hid (∀ x ∈ l.take k, x.size ≤ 40) := hall
    clear hall
    by_cases hlt : k < n
    · obtain ⟨x, hx⟩ : ∃ x, l[k]? = some x := ⟨_, List.getElem?_eq_getElem (by omega)⟩
      obtain ⟨b, off, rfl, hc⟩ := HI.out k x hx
      have HX : Hid (l[k]? = some x) := hx
      have hlt' : (k : Int) < (n : Int) := by omega
      clear hx
      by_cases hb : 40 < x.size
      · have HT : Hid (brief l = false) := by
          show _ = _
          unfold brief
          rw [decide_eq_false (fun h => by have := h x (List.mem_of_getElem? HX.out); omega)]
          rfl
        have hb' : (40 : Int) < (x.size : Int) := by omega
        go_wp2_with fail
        go_ret
        rw [HT.out]
        exact ⟨rfl, rfl⟩
      · have HT : Hid (∀ y ∈ l.take (k + 1), y.size ≤ 40) := by
          intro y hy
          rw [take_next l k x HX.out, List.mem_append] at hy
          rcases hy with hy | hy
          · exact HA.out y hy
          · simp only [List.mem_singleton] at hy
            rw [hy]; omega
        have hb' : ¬ (40 : Int) < (x.size : Int) := by omega
        go_wp2_with fail
        go_round
        case rel => exact ⟨k + 1, by go_num, by omega, HT.out⟩
        case measure => simp [intOf]; omega
    · have hkl : k = n := by omega
      subst hkl
      have HT : Hid (brief l = decide (k ≤ 24)) := by
        have := HA.out
        rw [← hll, List.take_length] at this
        show _ = _
        unfold brief
        rw [decide_eq_true this, hll]
        rfl
      go_wp2_with fail
      go_ret
      rw [HT.out]
      exact ⟨by simp; omega, rfl⟩
end Go.Proofs.Ytabiagheflkiaaa
