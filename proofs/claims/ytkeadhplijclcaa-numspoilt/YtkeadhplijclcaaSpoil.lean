/- Plain facts that the statement NumSpoilt leans on: an integer's text with a nought, a sign or a blank ahead, or something behind, is no integer's text. -/
import Derived.Test.YtkeadhplijclcaaBack
namespace Go.Proofs.Ytkeadhplijclcaa
open Go.RowKit

theorem nl_append (s t : ByteArray) : nl (s ++ t) = nl s ++ nl t := by
  unfold nl
  rw [ByteArray.data_append, Array.toList_append, List.map_append]

theorem tx_ne (m : Int) : tx m ≠ [] := by
  unfold tx
  intro h
  have := (List.append_eq_nil_iff.1 h).2
  exact digs_ne m.natAbs (by simpa using this)

theorem tx_last {m : Int} {l : List Nat} {c : Nat} (h : l ++ [c] = tx m) : 48 ≤ c ∧ c ≤ 57 := by
  obtain ⟨es, d, e⟩ : ∃ es d, digs m.natAbs = es ++ [d] := ⟨(digs m.natAbs).dropLast, (digs m.natAbs).getLast (digs_ne _), (List.dropLast_concat_getLast (digs_ne _)).symm⟩
  have hd := digs_lt m.natAbs d (by rw [e]; simp)
  unfold tx at h
  rw [e, List.map_append, ← List.append_assoc] at h
  have := (List.append_inj' h rfl).2
  simp at this
  omega

theorem tx_first {m : Int} {l : List Nat} {c : Nat} (h : c :: l = tx m) : c = 45 ∨ 48 ≤ c := by
  unfold tx at h
  by_cases hm : m < 0
  · rw [if_pos hm] at h
    simp at h
    omega
  · rw [if_neg hm] at h
    cases hc : digs m.natAbs with
    | nil => exact absurd hc (digs_ne _)
    | cons d ds => rw [hc] at h; simp at h; omega

theorem nl_lit (c : UInt8) : nl ⟨#[c]⟩ = [c.toNat] := rfl

theorem spoilt_nought (n : Int) : pok (⟨#[48]⟩ ++ bstr (tx n)) = false ∧ pv (⟨#[48]⟩ ++ bstr (tx n)) = 0 := by
  have e : nl (⟨#[48]⟩ ++ bstr (tx n)) = 48 :: tx n := by rw [nl_append, nl_bstr _ (tx_lt n)]; rfl
  have := parsed_no (no_zero (neg := false) (body := 48 :: tx n) (by rw [e]; rfl) rfl (fun _ h => tx_ne n (by simpa using h)))
  exact ⟨this.2, this.1⟩

theorem spoilt_ahead (n : Int) (c : UInt8) (h : c.toNat < 45) : pok (⟨#[c]⟩ ++ bstr (tx n)) = false ∧ pv (⟨#[c]⟩ ++ bstr (tx n)) = 0 := by
  have e : nl (⟨#[c]⟩ ++ bstr (tx n)) = c.toNat :: tx n := by rw [nl_append, nl_bstr _ (tx_lt n)]; rfl
  have := parsed_no (s := ⟨#[c]⟩ ++ bstr (tx n)) (fun m _ hm => by
    rw [e] at hm
    have := tx_first hm
    omega)
  exact ⟨this.2, this.1⟩

theorem spoilt_behind (n : Int) (c : UInt8) (h : c.toNat < 48 ∨ 57 < c.toNat) : pok (bstr (tx n) ++ ⟨#[c]⟩) = false ∧ pv (bstr (tx n) ++ ⟨#[c]⟩) = 0 := by
  have e : nl (bstr (tx n) ++ ⟨#[c]⟩) = tx n ++ [c.toNat] := by rw [nl_append, nl_bstr _ (tx_lt n)]; rfl
  have := parsed_no (s := bstr (tx n) ++ ⟨#[c]⟩) (fun m _ hm => by
    rw [e] at hm
    have := tx_last hm
    omega)
  exact ⟨this.2, this.1⟩

theorem spoilt_fits (n : Int) (hn : rng n) (c : UInt8) : (⟨#[c]⟩ ++ bstr (tx n)).size ≤ maxLen ∧ (bstr (tx n) ++ ⟨#[c]⟩).size ≤ maxLen := by
  have := bstr_tx_size n hn
  have e : ByteArray.size ⟨#[c]⟩ = 1 := rfl
  rw [ByteArray.size_append, ByteArray.size_append, e]
  unfold maxLen
  omega
end Go.Proofs.Ytkeadhplijclcaa
