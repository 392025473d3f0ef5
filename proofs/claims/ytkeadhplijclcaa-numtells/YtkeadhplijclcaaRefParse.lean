/- What the document's own reading of a text answers (the reference of the statement NumTells): the same as package num's. -/
import Derived.Test.YtkeadhplijclcaaRef
namespace Go.Proofs.Ytkeadhplijclcaa
open Go.ChangeShapes Go.WideShapes Go.ChangeAt Go.RowKit

/-- One letter more: digits count, modulo 2 to the 64; others are passed by. -/
def rstep (u c : Nat) : Nat := if 48 ≤ c ∧ c ≤ 57 then (10 * u + (c - 48)) % 18446744073709551616 else u
def rval (L : List Nat) : Nat := L.foldl rstep 0

theorem rstep_lt (u c : Nat) (h : u < 18446744073709551616) : rstep u c < 18446744073709551616 := by
  unfold rstep; split <;> omega

theorem rval_lt (L : List Nat) : rval L < 18446744073709551616 := by
  unfold rval
  suffices h : ∀ (L : List Nat) (u : Nat), u < 18446744073709551616 → L.foldl rstep u < 18446744073709551616 from h L 0 (by omega)
  intro L
  induction L with
  | nil => intro u hu; exact hu
  | cons c L ih => intro u hu; exact ih _ (rstep_lt u c hu)

theorem rval_take (L : List Nat) (k : Nat) (h : k < L.length) : rval (L.take (k + 1)) = rstep (rval (L.take k)) L[k] := by
  unfold rval
  rw [List.take_succ_eq_append_getElem h, List.foldl_append]
  rfl

theorem rfold_digits : ∀ (ds : List Nat) (a : Nat), (∀ d ∈ ds, d < 10) → (ds.map (48 + ·)).foldl rstep (a % 18446744073709551616) = (ds.foldl (fun a d => a * 10 + d) a) % 18446744073709551616
  | [], a, _ => rfl
  | d :: ds, a, h => by
    have hd := h d (by simp)
    rw [List.map_cons, List.foldl_cons, List.foldl_cons, ← rfold_digits ds (a * 10 + d) (fun x hx => h x (by simp [hx]))]
    congr 1
    unfold rstep
    rw [if_pos (by omega)]
    omega

theorem rval_tx (m : Int) (hr : rng m) : rval (tx m) = m.natAbs := by
  have h1 := rfold_digits (digs m.natAbs) 0 (digs_lt _)
  have h2 := worth_digs m.natAbs
  unfold worth at h2
  rw [h2] at h1
  have e : rval (tx m) = m.natAbs % 18446744073709551616 := by
    unfold rval tx
    by_cases h : m < 0
    · rw [if_pos h, List.foldl_append, ← h1]; rfl
    · rw [if_neg h, List.nil_append, ← h1]
  rw [e]
  unfold rng at hr
  omega

/-- The integer that the reference holds against the text. -/
def rint (s : ByteArray) : Int := if signed s then wrap64 (-wrap64 (rval (nl s) : Int)) else wrap64 (rval (nl s) : Int)

theorem rint_rng (s : ByteArray) : rng (rint s) := by unfold rint; split <;> exact rng_w64 _

theorem rint_tx {s : ByteArray} {m : Int} (hr : rng m) (h : nl s = tx m) : rint s = m := by
  unfold rint signed
  rw [h, rval_tx m hr]
  have hr' := hr
  unfold rng at hr'
  by_cases hm : m < 0
  · have e : (tx m).head? = some 45 := by unfold tx; rw [if_pos hm]; rfl
    rw [e, if_pos (by rfl)]
    unfold wrap64
    omega
  · have e : ((tx m).head? == some 45) = false := by have := tx_head m (by omega); simpa using this
    rw [e, if_neg (by simp)]
    unfold wrap64
    omega

theorem rint_yes {s : ByteArray} (h : ((bstr (tx (rint s))).toList == s.toList) = true) : pv s = rint s ∧ pok s = true := by
  refine parsed_yes (rint_rng s) ?_
  rw [beq_iff_eq, ByteArray.toList_eq, ByteArray.toList_eq] at h
  rw [← nl_bstr _ (tx_lt (rint s))]
  unfold nl
  rw [h]

theorem rint_no {s : ByteArray} (h : ((bstr (tx (rint s))).toList == s.toList) = false) : pv s = 0 ∧ pok s = false := by
  refine parsed_no (fun m hr hm => ?_)
  rw [beq_eq_false_iff_ne] at h
  apply h
  rw [rint_tx hr hm, ← hm, bstr_nl]

set_option maxHeartbeats 1000000 in
theorem refparse_any (s : ByteArray) (hs : s.size ≤ 100) (w : World) : Calls Try.prog 14 #[.string s] w fun e w' => e = .returned (.tuple #[.int .i64 (pv s), .bool (pok s)]) ∧ Grown w w' := by
  have hrr := rint_rng s
  have hlt := rval_lt (nl s)
  go_enter Try.func14, Try.ntmps14
  go_wp2
  go_loop [4, 5] (fun u i => ∃ k : Nat, k ≤ s.size ∧ i = .int .i64 (k : Int) ∧ u = .int .u64 ((rval ((nl s).take k) : Nat) : Int)) (fun _ i => s.size - (intOf i).toNat)
  case atStart => exact ⟨0, Nat.zero_le _, rfl, rfl⟩
  case round =>
    obtain ⟨k, hk, rfl, rfl⟩ := hrel
    by_cases hks : k < s.size
    · have hrl := rval_lt ((nl s).take k)
      have ht := rval_take (nl s) k (by rw [nl_length]; exact hks)
      have hg := nl_get s k hks
      rw [List.getElem?_eq_getElem (by rw [nl_length]; exact hks)] at hg
      rw [Option.some.inj hg] at ht
      have HT : Hid (rval ((nl s).take (k + 1)) = rstep (rval ((nl s).take k)) s[k].toNat) := ht
      clear ht hg
      by_cases hc1 : 48 ≤ ((s[k].toNat : Nat) : Int)
      · by_cases hc2 : ((s[k].toNat : Nat) : Int) ≤ 57
        · have HE : Hid (IntKind.u64.wrap (IntKind.u64.wrap (10 * ((rval ((nl s).take k) : Nat) : Int)) + (((s[k].toNat : Nat) : Int) - 48)) = ((rval ((nl s).take (k + 1)) : Nat) : Int)) := by
            show _ = _
            rw [HT.out, rstep, if_pos (by omega), u64_wrap, u64_wrap]
            omega
          go_wp2
          go_round
          case rel => exact ⟨k + 1, by omega, by go_num, by rw [HE.out]⟩
          case measure => simp [intOf]; omega
        · have HE : Hid (rval ((nl s).take k) = rval ((nl s).take (k + 1))) := by
            show _ = _
            rw [HT.out, rstep, if_neg (by omega)]
          go_wp2
          go_round
          case rel => exact ⟨k + 1, by omega, by go_num, by rw [HE.out]⟩
          case measure => simp [intOf]; omega
      · have HE : Hid (rval ((nl s).take k) = rval ((nl s).take (k + 1))) := by
          show _ = _
          rw [HT.out, rstep, if_neg (by omega)]
        go_wp2
        go_round
        case rel => exact ⟨k + 1, by omega, by go_num, by rw [HE.out]⟩
        case measure => simp [intOf]; omega
    · have etk : (nl s).take k = nl s := List.take_of_length_le (by rw [nl_length]; omega)
      rw [etk]
      clear etk
      by_cases hz : s.size = 0
      · have hsg : signed s = false := by
          have h2 := nl_length s
          unfold signed
          rw [List.length_eq_zero_iff.1 (by omega : (nl s).length = 0)]; rfl
        have hri : rint s = wrap64 (rval (nl s) : Int) := by unfold rint; rw [hsg, if_neg (by simp)]
        clear hsg
        rw [hri] at hrr
        by_cases heq : ((bstr (tx (rint s))).toList == s.toList) = true
        · obtain ⟨e1, e2⟩ := rint_yes heq
          have E : Hid (pv s = rint s ∧ pok s = true) := ⟨e1, e2⟩
          clear e1 e2
          rw [hri] at heq E
          clear hri
          go_wp2_with fail
          refine (refprint_any _ hrr _).mono ?_
          rintro e w' ⟨rfl, hg⟩
          go_wp2_with fail
          go_ret2
          exact ⟨by rw [E.out.1, E.out.2]; rfl, hg⟩
        · have heq' : ((bstr (tx (rint s))).toList == s.toList) = false := by simpa using heq
          clear heq
          obtain ⟨e1, e2⟩ := rint_no heq'
          have E : Hid (pv s = 0 ∧ pok s = false) := ⟨e1, e2⟩
          clear e1 e2
          rw [hri] at heq'
          clear hri
          go_wp2_with fail
          refine (refprint_any _ hrr _).mono ?_
          rintro e w' ⟨rfl, hg⟩
          go_wp2_with fail
          go_ret2
          exact ⟨by rw [E.out.1, E.out.2]; rfl, hg⟩
      · have hpos : 0 < s.size := by omega
        have hsg := signed_at hpos
        clear hz
        by_cases hb : signed s = true
        · have hri : rint s = wrap64 (-wrap64 (rval (nl s) : Int)) := by unfold rint; rw [hb, if_pos rfl]
          rw [hb] at hsg
          clear hb
          rw [hri] at hrr
          by_cases heq : ((bstr (tx (rint s))).toList == s.toList) = true
          · obtain ⟨e1, e2⟩ := rint_yes heq
            have E : Hid (pv s = rint s ∧ pok s = true) := ⟨e1, e2⟩
            clear e1 e2
            rw [hri] at heq E
            clear hri
            go_wp2_with fail
            refine (refsub_any _ _ _).mono ?_
            rintro e w' ⟨rfl, rfl⟩
            go_wp2_with fail
            refine (refprint_any _ hrr _).mono ?_
            rintro e w' ⟨rfl, hg⟩
            go_wp2_with fail
            go_ret2
            exact ⟨by rw [E.out.1, E.out.2]; rfl, hg⟩
          · have heq' : ((bstr (tx (rint s))).toList == s.toList) = false := by simpa using heq
            clear heq
            obtain ⟨e1, e2⟩ := rint_no heq'
            have E : Hid (pv s = 0 ∧ pok s = false) := ⟨e1, e2⟩
            clear e1 e2
            rw [hri] at heq'
            clear hri
            go_wp2_with fail
            refine (refsub_any _ _ _).mono ?_
            rintro e w' ⟨rfl, rfl⟩
            go_wp2_with fail
            refine (refprint_any _ hrr _).mono ?_
            rintro e w' ⟨rfl, hg⟩
            go_wp2_with fail
            go_ret2
            exact ⟨by rw [E.out.1, E.out.2]; rfl, hg⟩
        · have hb' : signed s = false := by simpa using hb
          have hri : rint s = wrap64 (rval (nl s) : Int) := by unfold rint; rw [hb', if_neg (by simp)]
          rw [hb'] at hsg
          clear hb hb'
          rw [hri] at hrr
          by_cases heq : ((bstr (tx (rint s))).toList == s.toList) = true
          · obtain ⟨e1, e2⟩ := rint_yes heq
            have E : Hid (pv s = rint s ∧ pok s = true) := ⟨e1, e2⟩
            clear e1 e2
            rw [hri] at heq E
            clear hri
            go_wp2_with fail
            refine (refprint_any _ hrr _).mono ?_
            rintro e w' ⟨rfl, hg⟩
            go_wp2_with fail
            go_ret2
            exact ⟨by rw [E.out.1, E.out.2]; rfl, hg⟩
          · have heq' : ((bstr (tx (rint s))).toList == s.toList) = false := by simpa using heq
            clear heq
            obtain ⟨e1, e2⟩ := rint_no heq'
            have E : Hid (pv s = 0 ∧ pok s = false) := ⟨e1, e2⟩
            clear e1 e2
            rw [hri] at heq'
            clear hri
            go_wp2_with fail
            refine (refprint_any _ hrr _).mono ?_
            rintro e w' ⟨rfl, hg⟩
            go_wp2_with fail
            go_ret2
            exact ⟨by rw [E.out.1, E.out.2]; rfl, hg⟩
end Go.Proofs.Ytkeadhplijclcaa
