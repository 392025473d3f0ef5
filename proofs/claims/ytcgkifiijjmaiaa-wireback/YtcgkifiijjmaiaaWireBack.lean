/- For every row of items the statement WireBack returns true, and its argument reads as before. -/
import Derived.Test.YtcgkifiijjmaiaaRows
import Derived.Test.YtcgkifiijjmaiaaItems
import Derived.WalkKit
import Derived.ProofKit
import Derived.OpenShut
import Derived.ShutString
namespace Go.Proofs.Ytcgkifiijjmaiaa.wireBack
open Go.ChangeShapes Go.WideShapes Go.ChangeAt Go.RowKit

theorem own : ownKnob Try.prog.godebug = none := by kernel_rfl

/-- A number's 64 bits as an integer. -/
def sg (n : Nat) : Int := wrap64 (n : Int)

theorem sg_lo (n : Nat) : -9223372036854775808 ≤ sg n ∧ sg n ≤ 9223372036854775807 := by
  unfold sg wrap64
  omega

/-- The bytes of an item. -/
def itB (x : It) : List Nat := enc x.n ++ (enc (fo (sg x.n)) ++ ((enc x.s.size ++ nl x.s) ++ [x.n % 256]))

theorem itB_length (x : It) (h : x.s.size ≤ 300) : (itB x).length ≤ 331 := by
  have h1 := enc_length x.n
  have h2 := enc_length (fo (sg x.n))
  have h3 := enc_length x.s.size
  unfold itB
  simp only [List.length_append, nl_length, List.length_cons, List.length_nil]
  omega

theorem itB_byte (x : It) : ∀ c ∈ itB x, c < 256 := by
  unfold itB
  refine bytes_append (bytes_enc _) (bytes_append (bytes_enc _) (bytes_append (bytes_append (bytes_enc _) (nl_lt _)) ?_))
  intro c hc
  simp at hc
  omega

/-- The bytes of items. -/
def itsB : List It → List Nat
  | [] => []
  | x :: xs => itB x ++ itsB xs

theorem itsB_append (a b : List It) : itsB (a ++ b) = itsB a ++ itsB b := by
  induction a with
  | nil => rfl
  | cons x xs ih => rw [List.cons_append, itsB, itsB, ih, List.append_assoc]

theorem itsB_byte (a : List It) : ∀ c ∈ itsB a, c < 256 := by
  induction a with
  | nil => intro c hc; simp [itsB] at hc
  | cons x xs ih => exact bytes_append (itB_byte x) ih

theorem itsB_length (a : List It) (h : ∀ x ∈ a, x.s.size ≤ 300) : (itsB a).length ≤ a.length * 331 := by
  induction a with
  | nil => simp [itsB]
  | cons x xs ih =>
    have h1 := itB_length x (h x (by simp))
    have h2 := ih (fun y hy => h y (by simp [hy]))
    rw [itsB, List.length_append, List.length_cons]
    omega

theorem take_next {L : List It} {k : Nat} {x : It} (h : L[k]? = some x) : L.take (k + 1) = L.take k ++ [x] := by
  rw [List.take_add_one, h]
  rfl

theorem drop_next {L : List It} {k : Nat} {x : It} (h : L[k]? = some x) : L.drop k = x :: L.drop (k + 1) := by
  obtain ⟨hlt, e⟩ := List.getElem?_eq_some_iff.1 h
  rw [List.drop_eq_getElem_cons hlt, e]

set_option maxRecDepth 100000 in
set_option maxHeartbeats 2000000 in
theorem walk (v : Value) (L : List It) (w : World) (h : IsItems w v L) : Calls Try.prog 5 #[v] w fun e w' => e = .returned (.bool true) ∧ Fr no w w' := by
  obtain ⟨ad, cap, rfl, hcap, hmx, hit⟩ := h
  unfold maxLen at hmx
  have HI : Hid (∀ (i : Nat) (x : It), L[i]? = some x → ∃ b off, ad = some ⟨b, off, none⟩ ∧ ItemAt w b (off + i * 6) x) := hit
  clear hit
  by_cases h40 : 40 < L.length
  · go_enter Try.func5, Try.ntmps5
    go_wp2_with fail
    refine (known_any w).mono ?_
    rintro e w1 ⟨rfl, f1⟩
    go_wp2_with fail
    go_ret
    exact ⟨rfl, f1⟩
  · go_enter Try.func5, Try.ntmps5
    go_wp2_with fail
    refine (known_any w).mono ?_
    rintro e w1 ⟨rfl, f1⟩
    go_wp2_with fail
    refine (wb_new w w1 f1).mono ?_
    rintro e w2 ⟨p, rfl, h2⟩
    go_wp2_with fail
    go_loopw [4] (fun i wr => ∃ (k : Nat), i = .int .i64 (k : Int) ∧ k ≤ L.length ∧ WB w wr p (itsB (L.take k)) ∧ Hid (∀ x ∈ L.take k, x.s.size ≤ 300)) (fun i _ => L.length - (intOf i).toNat)
    case atStart => exact ⟨0, rfl, Nat.zero_le _, by simpa [itsB] using h2, fun x hx => by simp at hx⟩
    case round =>
      obtain ⟨k, rfl, hk, hwb, hall⟩ := hrel
      by_cases hlt : k < L.length
      · obtain ⟨x, hx⟩ : ∃ x, L[k]? = some x := ⟨_, List.getElem?_eq_getElem hlt⟩
        have HX : Hid (L[k]? = some x) := hx
        obtain ⟨b, off, rfl, hi⟩ := HI.out k x hx
        have hbl := itsB_length _ hall.out
        rw [List.length_take] at hbl
        clear hx
        have i0 := hi.kept hwb.fr
        have c1 := i0.c1
        have c2 := i0.c2
        by_cases h300 : 300 < x.s.size
        · have f := hwb.fr
          clear i0 hi
          go_wp2_with fail
          go_ret
          exact ⟨rfl, f⟩
        · go_wp2_with fail
          refine (wb_uint w wr p _ hwb (by omega) x.n hi.n64).mono ?_
          rintro e w3 ⟨rfl, h3⟩
          have i3 := hi.kept h3.fr
          have d1 := i3.c1
          have d2 := i3.c2
          clear c1 c2 i0 i3
          go_wp2_with fail
          have hsg := sg_lo x.n
          have l1 := enc_length x.n
          refine (wb_int w w3 p _ h3 (by rw [List.length_append]; omega) (sg x.n) hsg.1 hsg.2).mono ?_
          rintro e w4 ⟨rfl, h4⟩
          have i4 := hi.kept h4.fr
          have g1 := i4.c1
          have g2 := i4.c2
          have l2 := enc_length (fo (sg x.n))
          clear d1 d2 i4 h3
          go_wp2_with fail
          refine (wb_text w w4 p _ h4 x.s (by rw [List.length_append, List.length_append]; omega)).mono ?_
          rintro e w5 ⟨rfl, h5⟩
          have i5 := hi.kept h5.fr
          have k1 := i5.c1
          have k2 := i5.c2
          have l3 := enc_length x.s.size
          clear g1 g2 i5 h4
          go_wp2_with fail
          refine (wb_byte w w5 p _ h5 (by rw [List.length_append, List.length_append, List.length_append, List.length_append, nl_length]; omega) (x.n % 256)).mono ?_
          rintro e w6 ⟨rfl, h6⟩
          have e6 : itsB (L.take k) ++ enc x.n ++ enc (fo (sg x.n)) ++ (enc x.s.size ++ nl x.s) ++ [x.n % 256] = itsB (L.take (k + 1)) := by
            rw [take_next HX.out, itsB_append]
            simp [itsB, itB]
          rw [e6] at h6
          clear k1 k2 h5 e6
          go_wp2_with fail
          go_roundw
          case rel =>
            refine ⟨k + 1, by go_num, by omega, h6, fun y hy => ?_⟩
            rw [take_next HX.out] at hy
            rcases List.mem_append.1 hy with h | h
            · exact hall.out y h
            · simp at h
              subst h
              omega
          case measure => simp [intOf]; omega
      · have hkl : k = L.length := by omega
        subst hkl
        rw [List.take_length] at hwb hall
        have hbl := itsB_length _ hall.out
        have hby := itsB_byte L
        go_wp2_with fail
        refine (wb_bytes w wr p _ hwb (by omega)).mono ?_
        rintro e w3 ⟨v3, rfl, o3, h3, _, _⟩
        go_wp2_with fail
        refine (rb_open w w3 h3.fr v3 _ o3.sl (by omega)).mono ?_
        rintro e w4 ⟨q, rfl, h4⟩
        clear hwb o3 h3
        go_wp2_with fail
        go_loopw [6] (fun i wr => ∃ (k : Nat), i = .int .i64 (k : Int) ∧ k ≤ L.length ∧ RB w wr q (itsB (L.drop k))) (fun i _ => L.length - (intOf i).toNat)
        case atStart => exact ⟨0, rfl, Nat.zero_le _, by simpa using h4⟩
        case round =>
          obtain ⟨k, rfl, hk, hrb⟩ := hrel
          by_cases hlt2 : k < L.length
          · obtain ⟨x, hx⟩ : ∃ x, L[k]? = some x := ⟨_, List.getElem?_eq_getElem hlt2⟩
            have HX : Hid (L[k]? = some x) := hx
            obtain ⟨b, off, rfl, hi⟩ := HI.out k x hx
            have h300 := hall.out x (List.mem_of_getElem? hx)
            have hR := itsB_length (L.drop (k + 1)) (fun y hy => hall.out y (List.mem_of_mem_drop hy))
            rw [List.length_drop] at hR
            have hRb := itsB_byte (L.drop (k + 1))
            have l0 := itB_length x h300
            have l1 := enc_length x.n
            have l2 := enc_length (fo (sg x.n))
            have l3 := enc_length x.s.size
            have hsg := sg_lo x.n
            rw [drop_next hx, itsB] at hrb
            obtain ⟨R, hRd⟩ : ∃ R, itsB (L.drop (k + 1)) = R := ⟨_, rfl⟩
            rw [hRd] at hrb hR hRb
            have HRD : Hid (itsB (L.drop (k + 1)) = R) := hRd
            clear hRd
            clear hx
            have b4 : ∀ c ∈ [x.n % 256] ++ R, c < 256 := bytes_append (fun c hc => by simp at hc; omega) hRb
            have b3 : ∀ c ∈ enc x.s.size ++ (nl x.s ++ ([x.n % 256] ++ R)), c < 256 := bytes_append (bytes_enc _) (bytes_append (nl_lt _) b4)
            have b2 : ∀ c ∈ enc (fo (sg x.n)) ++ (enc x.s.size ++ (nl x.s ++ ([x.n % 256] ++ R))), c < 256 := bytes_append (bytes_enc _) b3
            have b1 : ∀ c ∈ enc x.n ++ (enc (fo (sg x.n)) ++ (enc x.s.size ++ (nl x.s ++ ([x.n % 256] ++ R)))), c < 256 := bytes_append (bytes_enc _) b2
            have hex : itB x ++ R = enc x.n ++ (enc (fo (sg x.n)) ++ (enc x.s.size ++ (nl x.s ++ ([x.n % 256] ++ R)))) := by unfold itB; simp
            rw [hex] at hrb
            have t1 := rd_enc x.n (enc (fo (sg x.n)) ++ (enc x.s.size ++ (nl x.s ++ ([x.n % 256] ++ R)))) hi.n64
            have t2 := rd_enc (fo (sg x.n)) (enc x.s.size ++ (nl x.s ++ ([x.n % 256] ++ R))) (fo_lt _ hsg.1 hsg.2)
            have t3 := tx_fits (nl x.s) ([x.n % 256] ++ R) 300 (by rw [nl_length]; omega) (by rw [nl_length]; omega)
            rw [nl_length] at t3
            have q1 : (enc x.n ++ (enc (fo (sg x.n)) ++ (enc x.s.size ++ (nl x.s ++ ([x.n % 256] ++ R))))).length ≤ 1099511627776 := by simp only [List.length_append, nl_length, List.length_cons, List.length_nil]; omega
            have q2 : (enc (fo (sg x.n)) ++ (enc x.s.size ++ (nl x.s ++ ([x.n % 256] ++ R)))).length ≤ 1099511627776 := by simp only [List.length_append, nl_length, List.length_cons, List.length_nil]; omega
            have q3 : (enc x.s.size ++ (nl x.s ++ ([x.n % 256] ++ R))).length ≤ 1099511627776 := by simp only [List.length_append, nl_length, List.length_cons, List.length_nil]; omega
            have U1 := rb_uint w wr q _ hrb b1 q1
            rw [t1] at U1
            have T2 : Hid (rd (enc (fo (sg x.n)) ++ (enc x.s.size ++ (nl x.s ++ ([x.n % 256] ++ R)))) 0 0 = (fo (sg x.n), 0, (enc (fo (sg x.n))).length)) := t2
            have T3 : Hid (tx (enc x.s.size ++ (nl x.s ++ ([x.n % 256] ++ R))) 300 = (nl x.s, 0, (enc x.s.size).length + x.s.size)) := t3
            have Q2 : Hid ((enc (fo (sg x.n)) ++ (enc x.s.size ++ (nl x.s ++ ([x.n % 256] ++ R)))).length ≤ 1099511627776) := q2
            have Q3 : Hid ((enc x.s.size ++ (nl x.s ++ ([x.n % 256] ++ R))).length ≤ 1099511627776) := q3
            have B2 : Hid (∀ c ∈ enc (fo (sg x.n)) ++ (enc x.s.size ++ (nl x.s ++ ([x.n % 256] ++ R))), c < 256) := b2
            have B3 : Hid (∀ c ∈ enc x.s.size ++ (nl x.s ++ ([x.n % 256] ++ R)), c < 256) := b3
            clear hrb b1 b2 b3 b4 hex t1 t2 t3 q1 q2 q3 hRb hR l0 l1 l2 l3
            go_wp2_with fail
            refine U1.mono ?_
            rintro e w5 ⟨rfl, h5⟩
            simp only [List.drop_left] at h5
            clear U1
            go_wp2_with fail
            refine (rb_int w w5 q _ h5 B2.out Q2.out).mono ?_
            rw [T2.out, unf_fo]
            rintro e w6 ⟨rfl, h6⟩
            simp only [List.drop_left] at h6
            clear h5
            go_wp2_with fail
            refine (rb_text w w6 q _ h6 B3.out Q3.out 300 (by omega) (by omega)).mono ?_
            rw [T3.out, bstr_nl]
            rintro e w7 ⟨rfl, h7⟩
            simp only [] at h7
            have e7 : (enc x.s.size ++ (nl x.s ++ ([x.n % 256] ++ R))).drop ((enc x.s.size).length + x.s.size) = [x.n % 256] ++ R := by
              rw [← List.drop_drop, List.drop_left, ← nl_length x.s, List.drop_left]
            rw [e7] at h7
            clear h6 e7
            go_wp2_with fail
            refine (rb_byte w w7 q _ h7).mono ?_
            rintro e w8 ⟨rfl, h8⟩
            have e8 : by1 ([x.n % 256] ++ R) = (x.n % 256, 0, 1) := rfl
            rw [e8] at h8 ⊢
            simp only [List.cons_append, List.nil_append, List.drop_succ_cons, List.drop_zero] at h8
            have i8 := hi.kept h8.2.2
            have c1 := i8.c1
            have c2 := i8.c2
            have HS : sg x.n = wrap64 (x.n : Int) := rfl
            clear h7 i8 e8
            go_wp2_with fail
            go_roundw
            case rel => exact ⟨k + 1, by go_num, by omega, by rw [HRD.out]; exact h8⟩
            case measure => simp [intOf]; omega
          · have hkl : k = L.length := by omega
            subst hkl
            rw [List.drop_length, itsB] at hrb
            go_wp2_with fail
            refine (rb_byte w wr q _ hrb).mono ?_
            rintro e w5 ⟨rfl, h5⟩
            have e8 : by1 [] = (0, 30, 0) := rfl
            rw [e8] at h5 ⊢
            rw [List.drop_nil] at h5
            clear hrb e8
            go_wp2_with fail
            refine (left_any w5 q _ h5.1).mono ?_
            rintro e w6 ⟨rfl, rfl⟩
            have f5 := h5.2.2
            clear h5
            go_wp2_with fail
            go_ret
            exact ⟨rfl, f5⟩

set_option maxRecDepth 100000 in
theorem lifted (os : Os) (started : os.Started) (H : Type) (enc : TypeId × Value → H) :
    ReturnsInHanded {} Try.checked os 5 .any (Rows.wireBackSpec.pre6 enc Try.prog Try.f5 Rows.wireBackRow.domain false) (Rows.wireBackSpec.post enc Try.prog Try.f5 false true false false) := by
  refine returnsInHanded_of_change (C := Try.checked) own started (by kernel_rfl) Try.func5
    (ChangeSpec.witness6 (enc := enc) (C := Try.checked) false ⟨#[], #[.slice none 0 0], []⟩ 8 (by kernel_rfl) (by kernel_rfl) (by kernel_rfl) (by kernel_rfl)) ?_
  intro W base args ds gs before hval0 hW hcnd _
  have hval : ∀ (j : Nat) t v, Try.f5.params[j]? = some t → args[j]? = some v → Value.okWide Try.prog W .any base t v := hval0
  have hW' := hW
  obtain ⟨p, q, hA0, hV, rfl, hfz, hnd⟩ := hW
  have hA : DataW.TrodAll enc Try.prog W 0 (fun _ => true) true Try.f5.params.toList args.toList ds p := hA0
  rw [Try.params5] at hA hval
  obtain ⟨v0, vs0, d0, ds0, p0, q0, hargs, rfl, rfl, h0, r0⟩ := trodAll_cons hA
  obtain ⟨rfl, rfl, rfl⟩ := trodAll_nil r0
  obtain rfl : args = #[v0] := by cases args; simp_all
  obtain ⟨rfl, rfl⟩ := trodVars_none hV
  obtain ⟨L, hL⟩ := open_items (okWide_slice Try.underlying22 (hval 0 22 v0 rfl rfl)) h0
  clear hA0 hval0
  simp only [List.append_nil] at hW'
  refine (walk v0 L W hL).mono fun e W' ⟨he, hg⟩ => ?_
  subst he
  have hlt : ∀ x ∈ p0, x.block < W.heap.size := fun x hx => hW'.lt x hx
  exact ⟨_, rfl, post_of_same (pa := p0 ++ []) (pv := []) hW' (fun _ _ _ => (trodAll_cons_mk (shut_bool Try.underlying4 _) trodAll_mk0)) (fun sp hsp => (trodAll_cons_mk (trod_after (by kernel_rfl) (of_decide_eq_true (by kernel_rfl)) h0 hg hlt (fun x hx => hsp x (by simpa using hx))) trodAll_mk0)) (fun _ _ => rfl) (by simp)
    (hg.toGrown.frame _) hg.toGrown.2.1 (ok_one (by kernel_rfl) rfl (okWide_bool_mk Try.underlying4 _))⟩

theorem over : Rows.wireBackRow.holds Try.pinned (OpenSpec.ofChange Rows.wireBackSpec) :=
  OpenClaim.holds_of_wide 5 Try.f5 rfl rfl rfl rfl rfl rfl rfl ⟨rfl, rfl, rfl, rfl, rfl⟩ rfl rfl rfl rfl rfl (by kernel_rfl) Try.func5 (by kernel_rfl)
    (of_decide_eq_true (by kernel_rfl)) (by unfold Func.isWrapper; first | (rw [if_pos (by decide +kernel)]; kernel_rfl) | (rw [if_neg (by decide +kernel)]; exact ⟨rfl, rfl⟩))
    (fun os started H enc _ => lifted os started H enc)

theorem proved : Rows.WireBackSaid :=
  over
#print axioms proved
end Go.Proofs.Ytcgkifiijjmaiaa.wireBack
