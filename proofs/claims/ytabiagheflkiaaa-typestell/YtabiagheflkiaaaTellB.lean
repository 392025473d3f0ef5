/- The statement that holds the program against the document's own words: it returns true. -/
import Derived.Test.YtabiagheflkiaaaTell0
namespace Go.Proofs.Ytabiagheflkiaaa
open Go.ChangeShapes Go.WideShapes Go.ChangeAt Go.RowKit

set_option maxRecDepth 100000 in
set_option maxHeartbeats 4000000 in
theorem tell_false (w : World) (v0 : Value) (l0 : List ByteArray) (s0 : SlG elS w v0 l0) (v1 : Value) (l1 : List ByteArray) (s1 : SlG elS w v1 l1) (a b : ByteArray) (s t : Ty) (hyp : (ix a (newH l0 l1).2.1).isSome = false) :
    Calls Try.prog 3 #[v0, v1, .string a, .string b, tyV s, tyV t] w fun e w' => e = .returned (.bool true) ∧ Fr no w w' := by
  obtain ⟨ka, ca⟩ := s
  obtain ⟨kb, cb⟩ := t
  unfold tyV
  simp only []
  have HY : Hid ((ix a (newH l0 l1).2.1).isSome = false) := hyp
  clear hyp
  have HS0 : Hid (SlG elS w v0 l0) := s0
  have HS1 : Hid (SlG elS w v1 l1) := s1
  have F3 : Hid (Fr no w ((w.alloc (.cells #[.int .i64 ka, .string ca] 24)).alloc (.cells #[.int .i64 kb, .string cb] 24))) := ((Fr.refl no w).alloc _ _).alloc _ _
  have KN := known_any ((w.alloc (.cells #[.int .i64 ka, .string ca] 24)).alloc (.cells #[.int .i64 kb, .string cb] 24))
  have BOX : Hid (∀ w', Fr no ((w.alloc (.cells #[.int .i64 ka, .string ca] 24)).alloc (.cells #[.int .i64 kb, .string cb] 24)) w' → (w'.cell? ⟨w.heap.size, 0, none⟩ = some (.int .i64 ka) ∧ w'.cell? ⟨w.heap.size, 1, none⟩ = some (.string ca)) ∧ (w'.cell? ⟨w.heap.size + 1, 0, none⟩ = some (.int .i64 kb) ∧ w'.cell? ⟨w.heap.size + 1, 1, none⟩ = some (.string cb))) := fun w' f => by
    have f1 : ((w.alloc (.cells #[.int .i64 ka, .string ca] 24)).alloc (.cells #[.int .i64 kb, .string cb] 24)).heap[w.heap.size]? = some (.cells #[.int .i64 ka, .string ca] 24 (0, 0)) := ((Fr.refl no (w.alloc (.cells #[.int .i64 ka, .string ca] 24))).alloc _ _).heap (heap_alloc_new w _) (fun f => f)
    have f2 : ((w.alloc (.cells #[.int .i64 ka, .string ca] 24)).alloc (.cells #[.int .i64 kb, .string cb] 24)).heap[w.heap.size + 1]? = some (.cells #[.int .i64 kb, .string cb] 24 (0, 0)) := by
      have h := heap_alloc_new (w.alloc (.cells #[.int .i64 ka, .string ca] 24)) (.cells #[.int .i64 kb, .string cb] 24)
      have e : (w.alloc (.cells #[.int .i64 ka, .string ca] 24)).heap.size = w.heap.size + 1 := by simp
      rw [e] at h
      exact h
    have k1 := two_cells (f.heap f1 (fun f => f))
    have k2 := two_cells (f.heap f2 (fun f => f))
    exact ⟨⟨k1.1, k1.2.1⟩, ⟨k2.1, k2.2.1⟩⟩
  have SH0 : Hid (∀ w', Fr no ((w.alloc (.cells #[.int .i64 ka, .string ca] 24)).alloc (.cells #[.int .i64 kb, .string cb] 24)) w' → Calls Try.prog 10 #[v0] w' fun e w'' => e = .returned (.bool (brief l0)) ∧ w'' = w') := fun w' f => short_any w' v0 l0 (HS0.out.keep (F3.out.and f))
  have SH1 : Hid (∀ w', Fr no ((w.alloc (.cells #[.int .i64 ka, .string ca] 24)).alloc (.cells #[.int .i64 kb, .string cb] 24)) w' → Calls Try.prog 10 #[v1] w' fun e w'' => e = .returned (.bool (brief l1)) ∧ w'' = w') := fun w' f => short_any w' v1 l1 (HS1.out.keep (F3.out.and f))
  clear s0 s1
  cases b0 : brief l0 with
  | false =>
    rw [b0] at SH0
    clear b0 HS0 HS1 BOX SH1
    go_enter Try.func3, Try.ntmps3
    go_wp2_with fail
    refine KN.mono ?_
    rintro e w1 ⟨rfl, f1⟩
    have G1 : Hid (Fr no ((w.alloc (.cells #[.int .i64 ka, .string ca] 24)).alloc (.cells #[.int .i64 kb, .string cb] 24)) w1) := f1
    have C0 := SH0.out w1 f1
    clear f1 KN
    go_wp2_with fail
    refine C0.mono ?_
    rintro e w1' ⟨rfl, rfl⟩
    go_wp2_with fail
    go_ret
    exact ⟨rfl, F3.out.and G1.out⟩
  | true =>
    rw [b0] at SH0
    cases b1 : brief l1 with
    | false =>
      rw [b1] at SH1
      clear b0 b1 HS0 HS1 BOX
      go_enter Try.func3, Try.ntmps3
      go_wp2_with fail
      refine KN.mono ?_
      rintro e w1 ⟨rfl, f1⟩
      have G1 : Hid (Fr no ((w.alloc (.cells #[.int .i64 ka, .string ca] 24)).alloc (.cells #[.int .i64 kb, .string cb] 24)) w1) := f1
      have C0 := SH0.out w1 f1
      have C1 := SH1.out w1 f1
      clear f1 KN
      go_wp2_with fail
      refine C0.mono ?_
      rintro e w1' ⟨rfl, rfl⟩
      go_wp2_with fail
      refine C1.mono ?_
      rintro e w1' ⟨rfl, rfl⟩
      go_wp2_with fail
      go_ret
      exact ⟨rfl, F3.out.and G1.out⟩
    | true =>
      rw [b1] at SH1
      by_cases zs : 40 < a.size
      · have zs' : (40 : Int) < (a.size : Int) := by omega
        clear b0 b1 HS0 HS1
        go_enter Try.func3, Try.ntmps3
        go_wp2_with fail
        refine KN.mono ?_
        rintro e w1 ⟨rfl, f1⟩
        have G1 : Hid (Fr no ((w.alloc (.cells #[.int .i64 ka, .string ca] 24)).alloc (.cells #[.int .i64 kb, .string cb] 24)) w1) := f1
        have C0 := SH0.out w1 f1
        have C1 := SH1.out w1 f1
        obtain ⟨⟨a0, a1⟩, ⟨d0, d1⟩⟩ := BOX.out w1 f1
        clear f1 KN
        go_wp2_with fail
        refine C0.mono ?_
        rintro e w1' ⟨rfl, rfl⟩
        go_wp2_with fail
        refine C1.mono ?_
        rintro e w1' ⟨rfl, rfl⟩
        go_wp2_with fail
        go_ret
        exact ⟨rfl, F3.out.and G1.out⟩
      have zs' : ¬ (40 : Int) < (a.size : Int) := by omega
      by_cases zt : 40 < b.size
      · have zt' : (40 : Int) < (b.size : Int) := by omega
        clear b0 b1 HS0 HS1
        go_enter Try.func3, Try.ntmps3
        go_wp2_with fail
        refine KN.mono ?_
        rintro e w1 ⟨rfl, f1⟩
        have G1 : Hid (Fr no ((w.alloc (.cells #[.int .i64 ka, .string ca] 24)).alloc (.cells #[.int .i64 kb, .string cb] 24)) w1) := f1
        have C0 := SH0.out w1 f1
        have C1 := SH1.out w1 f1
        obtain ⟨⟨a0, a1⟩, ⟨d0, d1⟩⟩ := BOX.out w1 f1
        clear f1 KN
        go_wp2_with fail
        refine C0.mono ?_
        rintro e w1' ⟨rfl, rfl⟩
        go_wp2_with fail
        refine C1.mono ?_
        rintro e w1' ⟨rfl, rfl⟩
        go_wp2_with fail
        go_ret
        exact ⟨rfl, F3.out.and G1.out⟩
      have zt' : ¬ (40 : Int) < (b.size : Int) := by omega
      by_cases za : 40 < ca.size
      · have za' : (40 : Int) < (ca.size : Int) := by omega
        clear b0 b1 HS0 HS1
        go_enter Try.func3, Try.ntmps3
        go_wp2_with fail
        refine KN.mono ?_
        rintro e w1 ⟨rfl, f1⟩
        have G1 : Hid (Fr no ((w.alloc (.cells #[.int .i64 ka, .string ca] 24)).alloc (.cells #[.int .i64 kb, .string cb] 24)) w1) := f1
        have C0 := SH0.out w1 f1
        have C1 := SH1.out w1 f1
        obtain ⟨⟨a0, a1⟩, ⟨d0, d1⟩⟩ := BOX.out w1 f1
        clear f1 KN
        go_wp2_with fail
        refine C0.mono ?_
        rintro e w1' ⟨rfl, rfl⟩
        go_wp2_with fail
        refine C1.mono ?_
        rintro e w1' ⟨rfl, rfl⟩
        go_wp2_with fail
        go_ret
        exact ⟨rfl, F3.out.and G1.out⟩
      have za' : ¬ (40 : Int) < (ca.size : Int) := by omega
      by_cases zb : 40 < cb.size
      · have zb' : (40 : Int) < (cb.size : Int) := by omega
        clear b0 b1 HS0 HS1
        go_enter Try.func3, Try.ntmps3
        go_wp2_with fail
        refine KN.mono ?_
        rintro e w1 ⟨rfl, f1⟩
        have G1 : Hid (Fr no ((w.alloc (.cells #[.int .i64 ka, .string ca] 24)).alloc (.cells #[.int .i64 kb, .string cb] 24)) w1) := f1
        have C0 := SH0.out w1 f1
        have C1 := SH1.out w1 f1
        obtain ⟨⟨a0, a1⟩, ⟨d0, d1⟩⟩ := BOX.out w1 f1
        clear f1 KN
        go_wp2_with fail
        refine C0.mono ?_
        rintro e w1' ⟨rfl, rfl⟩
        go_wp2_with fail
        refine C1.mono ?_
        rintro e w1' ⟨rfl, rfl⟩
        go_wp2_with fail
        go_ret
        exact ⟨rfl, F3.out.and G1.out⟩
      have zb' : ¬ (40 : Int) < (cb.size : Int) := by omega
      obtain ⟨t0, n0⟩ := brief_spec b0
      obtain ⟨t1, n1⟩ := brief_spec b1
      have NW : Hid (∀ w' u0 u1, SlG elS w' u0 l0 → SlG elS w' u1 l1 → Calls Try.prog 11 #[u0, u1] w' fun e w'' => ∃ q, e = .returned (.tuple #[.pointer q, .int .i64 (newH l0 l1).1]) ∧ NewAt w' w'' (newH l0 l1) q ∧ Fr no w' w'') :=
        fun w' u0 u1 k0 k1 => new_any w' u0 u1 l0 l1 k0 k1 (fun x hx => by have := t0 x hx; omega) (fun x hx => by have := t1 x hx; omega) (by omega) (by omega)
      have DW : Hid (∀ w', Fr no ((w.alloc (.cells #[.int .i64 ka, .string ca] 24)).alloc (.cells #[.int .i64 kb, .string cb] 24)) w' → Calls Try.prog 12 #[v0, v1] w' fun e w'' => ∃ q, e = .returned (.tuple #[.pointer q, .int .i64 (newH l0 l1).1]) ∧ DocAt w'' l1 (newH l0 l1) q ∧ Fr no w' w'') :=
        fun w' f => docNew_any w' v0 v1 l0 l1 (HS0.out.keep (F3.out.and f)) (HS1.out.keep (F3.out.and f)) (fun x hx => by have := t0 x hx; omega) (by omega) (by omega)
      have n0' : l0.length ≤ 1000000 := by omega
      have n1' : l1.length ≤ 1000000 := by omega
      have N0 : Hid (l0.length ≤ 1000000) := n0'
      have N1 : Hid (l1.length ≤ 1000000) := n1'
      clear b0 b1 t0 t1 n0 n1 n0' n1'
      generalize newH l0 l1 = R at *
      have ys : a.size ≤ 1099511627776 := by omega
      have yt : b.size ≤ 1099511627776 := by omega
      have ya : ca.size ≤ 1099511627776 := by omega
      have yb : cb.size ≤ 1099511627776 := by omega
      clear zs zt za zb
      go_enter Try.func3, Try.ntmps3
      go_wp2_with fail
      refine KN.mono ?_
      rintro e w1 ⟨rfl, f1⟩
      have G1 : Hid (Fr no ((w.alloc (.cells #[.int .i64 ka, .string ca] 24)).alloc (.cells #[.int .i64 kb, .string cb] 24)) w1) := f1
      have C0 := SH0.out w1 f1
      have C1 := SH1.out w1 f1
      obtain ⟨⟨a0, a1⟩, ⟨d0, d1⟩⟩ := BOX.out w1 f1
      clear f1 KN
      go_wp2_with fail
      refine C0.mono ?_
      rintro e w1' ⟨rfl, rfl⟩
      go_wp2_with fail
      refine C1.mono ?_
      rintro e w1' ⟨rfl, rfl⟩
      have Q0 : Hid (SlG elS w1' v0 l0) := HS0.out.keep (F3.out.and G1.out)
      have APP : Hid (∀ u w2, OwnG elS w2 u ([] ++ l0) → Sp (.slice none 0 0) w1' u w2 → Hid (SlG elS w2 u l0) ∧ Hid (SlG elS w2 v1 l1) ∧ Hid (Fr no ((w.alloc (.cells #[.int .i64 ka, .string ca] 24)).alloc (.cells #[.int .i64 kb, .string cb] 24)) w2) ∧
          (∀ u' w3, OwnG elS w3 u' ([] ++ l1) → Sp (.slice none 0 0) w2 u' w3 → Hid (Calls Try.prog 11 #[u, u'] w3 fun e w'' => ∃ q, e = .returned (.tuple #[.pointer q, .int .i64 R.1]) ∧ NewAt w3 w'' R q ∧ Fr no w3 w'') ∧ Hid (Fr no ((w.alloc (.cells #[.int .i64 ka, .string ca] 24)).alloc (.cells #[.int .i64 kb, .string cb] 24)) w3))) := fun u w2 o2 s2 => by
        have g2 : Fr no w1' w2 := s2.1.mono (fun i _ e => by cases e)
        refine ⟨o2.sl, HS1.out.keep (F3.out.and (G1.out.and g2)), G1.out.and g2, fun u' w3 o3 s3 => ?_⟩
        have g3 : Fr no w2 w3 := s3.1.mono (fun i _ e => by cases e)
        exact ⟨NW.out w3 u u' (o2.sl.keep g3) o3.sl, G1.out.and (g2.and g3)⟩
      clear NW SH0 SH1 C0 C1
      go_wp2_with (first | (at_builtin; refine wpList_apdG elS_ok _ rfl rfl _ _ rfl (.slice none 0 0) [] rfl (OwnG.nil elS _) _ rfl l0 (Q0.out.src elS_ok) (by simpa using N0.out) ?_; intro u w2 o2 s2; obtain ⟨P0, P1, G2, NX⟩ := APP.out u w2 o2 s2; clear o2 s2 Q0 APP) | (at_builtin; refine wpList_apdG elS_ok _ rfl rfl _ _ rfl (.slice none 0 0) [] rfl (OwnG.nil elS _) _ rfl l1 (P1.out.src elS_ok) (by simpa using N1.out) ?_; intro u' w3 o3 s3; obtain ⟨CN, G3⟩ := NX u' w3 o3 s3; clear NX o3 s3 P0 P1 G2))
      refine CN.out.mono ?_
      rintro e w4 ⟨q, rfl, h4, f4⟩
      have G4 : Hid (Fr no ((w.alloc (.cells #[.int .i64 ka, .string ca] 24)).alloc (.cells #[.int .i64 kb, .string cb] 24)) w4) := G3.out.and f4
      have H4 : Hid (NewAt w3 w4 R q) := h4
      have C5 := DW.out w4 G4.out
      clear h4 f4 CN G3 G1 HS0 HS1 N0 N1 DW
      go_wp2_with fail
      refine C5.mono ?_
      rintro e w5 ⟨r, rfl, h5, f5⟩
      have G5 : Hid (Fr no ((w.alloc (.cells #[.int .i64 ka, .string ca] 24)).alloc (.cells #[.int .i64 kb, .string cb] 24)) w5) := G4.out.and f5
      have K5 : Hid (Fr no w4 w5) := f5
      clear C5 f5 G4
      by_cases hr : R.1 = 0
      case neg =>
        obtain rfl := H4.out.1 hr
        have hrq : (R.1 == 0) = false := by simpa using hr
        clear hr h5 H4
        generalize R.1 = r1 at *
        go_wp2_with fail
        go_ret
        exact ⟨rfl, F3.out.and G5.out⟩
      obtain ⟨p, rfl, hb, fi, hl⟩ := H4.out.2 hr
      obtain ⟨d, rfl, hc⟩ := h5.2 hr
      rw [hr]
      have HBK : Hid (HB w3.heap.size w5 p R.2.1 R.2.2) := hb.keep K5.out
      have HRC : Hid (RC w5 d R.2.1 (supS l1) R.2.2) := hc
      have FI : Hid (Fine R.2.1.length R.2.2) := fi
      have HLN : Hid (R.2.1.length ≤ 1000) := by show _ ≤ _; omega
      clear h5 hb fi hl hr hc H4 K5
      generalize R.2.1 = N at *
      generalize R.2.2 = A at *
      generalize supS l1 = S at *
      obtain ⟨vn, vs, hcd, onn, -⟩ := HRC.out.rb
      have OD : Hid (SlG elS w5 vn N) := onn.sl
      have CD : Hid (w5.heap[d]? = some (.cells #[vn, vs] 37 (0, 0))) := hcd
      clear hcd onn
      have NM : Hid (∀ w', Fr no w5 w' → Calls Try.prog 14 #[.pointer (some ⟨p, 0, none⟩)] w' fun e w'' => ∃ v, e = .returned v ∧ Hid (SlG elS w'' v N) ∧ Fr no w5 w'') := fun w' f => (names_any w' p N A (HBK.out.keep f) HLN.out).mono (by rintro e w'' ⟨v, rfl, o, g⟩; exact ⟨v, rfl, o.sl, f.and g⟩)
      have TA : Hid (∀ w' v, Fr no w5 w' → Hid (SlG elS w' v N) → Calls Try.prog 13 #[v, vn] w' fun e w'' => e = .returned (.bool true) ∧ Fr no w5 w'') := fun w' v f o => (texts_any w' v vn N o.out (OD.out.keep f)).mono (by rintro e w'' ⟨rfl, g⟩; exact ⟨rfl, f.and g⟩)
      have HS : Hid (∀ w', Fr no w5 w' → Calls Try.prog 15 #[.pointer (some ⟨p, 0, none⟩), .string a] w' fun e w'' => e = .returned (.bool (ix a N).isSome) ∧ Fr no w5 w'') := fun w' f => (has_any w' p N A (HBK.out.keep f) a ys).mono (by rintro e w'' ⟨rfl, rfl⟩; exact ⟨rfl, f⟩)
      have AT : Hid (∀ w', Fr no w5 w' → Calls Try.prog 16 #[.pointer (some ⟨d, 0, none⟩), .string a] w' fun e w'' => e = .returned (.int .i64 (plc N a)) ∧ Fr no w5 w'') := fun w' f => (at_any w' d N S (HRC.out.keep f).rb a).mono (by rintro e w'' ⟨rfl, rfl⟩; exact ⟨rfl, f⟩)
      have AN : Hid (∀ w', Fr no w5 w' → Calls Try.prog 17 #[.pointer (some ⟨p, 0, none⟩), .string a] w' fun e w'' => ∃ v, e = .returned v ∧ Hid (SlG elS w'' v (anc N A a)) ∧ Fr no w5 w'') := fun w' f => (ancestors_any w' p N A (HBK.out.keep f) FI.out HLN.out a ys).mono (by rintro e w'' ⟨v, rfl, o, -, g⟩; exact ⟨v, rfl, o.sl, f.and g⟩)
      have DA : Hid (∀ w' u, Fr no w5 w' → Hid (SlG elS w' u (anc N A a)) → Calls Try.prog 18 #[.pointer (some ⟨d, 0, none⟩), .string a] w' fun e w'' => ∃ v, e = .returned v ∧ Hid (SlG elS w'' u (anc N A a)) ∧ Hid (SlG elS w'' v (anc N A a)) ∧ Fr no w5 w'') := fun w' u f ou => ((HRC.out.keep f).anc a).mono (by rintro e w'' ⟨v, rfl, o, -, g⟩; exact ⟨v, rfl, ou.out.keep g, o.sl, f.and g⟩)
      have TB : Hid (∀ w' u v, Fr no w5 w' → Hid (SlG elS w' u (anc N A a)) → Hid (SlG elS w' v (anc N A a)) → Calls Try.prog 13 #[u, v] w' fun e w'' => e = .returned (.bool true) ∧ Fr no w5 w'') := fun w' u v f o o' => (texts_any w' u v _ o.out o'.out).mono (by rintro e w'' ⟨rfl, g⟩; exact ⟨rfl, f.and g⟩)
      have SU : Hid (∀ w', Fr no w5 w' → Calls Try.prog 19 #[.pointer (some ⟨p, 0, none⟩), .string a, .string b] w' fun e w'' => e = .returned (.bool (inL b (anc N A a))) ∧ Fr no w5 w'') := fun w' f => (sub_any w' p N A (HBK.out.keep f) FI.out HLN.out a b ys).mono (by rintro e w'' ⟨rfl, g⟩; exact ⟨rfl, f.and g⟩)
      have DS : Hid (∀ w', Fr no w5 w' → Calls Try.prog 20 #[.pointer (some ⟨d, 0, none⟩), .string a, .string b] w' fun e w'' => e = .returned (.bool (inL b (anc N A a))) ∧ Fr no w5 w'') := fun w' f => (docSub_any w' d N S A (HRC.out.keep f) a b).mono (by rintro e w'' ⟨rfl, g⟩; exact ⟨rfl, f.and g⟩)
      have CO : Hid (∀ w', Fr no w5 w' → Calls Try.prog 21 #[.pointer (some ⟨p, 0, none⟩), .string a, .string b] w' fun e w'' => e = .returned (.string (shared (anc N A a) (anc N A b))) ∧ Fr no w5 w'') := fun w' f => (common_any w' p N A (HBK.out.keep f) FI.out HLN.out a b ys yt).mono (by rintro e w'' ⟨rfl, g⟩; exact ⟨rfl, f.and g⟩)
      have DC : Hid (∀ w', Fr no w5 w' → Calls Try.prog 22 #[.pointer (some ⟨d, 0, none⟩), .string a, .string b] w' fun e w'' => e = .returned (.string (shared (anc N A a) (anc N A b))) ∧ Fr no w5 w'') := fun w' f => (docCommon_any w' d N S A (HRC.out.keep f) a b).mono (by rintro e w'' ⟨rfl, g⟩; exact ⟨rfl, f.and g⟩)
      have FT : Hid (∀ w', Fr no w5 w' → Calls Try.prog 23 #[.pointer (some ⟨p, 0, none⟩), .agg #[.int .i64 ka, .string ca], .agg #[.int .i64 kb, .string cb]] w' fun e w'' => e = .returned (.bool (fits N A ⟨ka, ca⟩ ⟨kb, cb⟩)) ∧ Fr no w5 w'') := fun w' f => (fits_any w' p N A (HBK.out.keep f) FI.out HLN.out ⟨ka, ca⟩ ⟨kb, cb⟩ ya).mono (by rintro e w'' ⟨rfl, g⟩; exact ⟨rfl, f.and g⟩)
      have DF : Hid (∀ w', Fr no w5 w' → Calls Try.prog 24 #[.pointer (some ⟨d, 0, none⟩), .agg #[.int .i64 ka, .string ca], .agg #[.int .i64 kb, .string cb]] w' fun e w'' => e = .returned (.bool (fits N A ⟨ka, ca⟩ ⟨kb, cb⟩)) ∧ Fr no w5 w'') := fun w' f => (docFits_any w' d N S A (HRC.out.keep f) ⟨ka, ca⟩ ⟨kb, cb⟩).mono (by rintro e w'' ⟨rfl, g⟩; exact ⟨rfl, f.and g⟩)
      have MG : Hid (∀ w', Fr no w5 w' → Calls Try.prog 25 #[.pointer (some ⟨p, 0, none⟩), .agg #[.int .i64 ka, .string ca], .agg #[.int .i64 kb, .string cb]] w' fun e w'' => e = .returned (.agg #[.int .i64 (merge N A ⟨ka, ca⟩ ⟨kb, cb⟩).k, .string (merge N A ⟨ka, ca⟩ ⟨kb, cb⟩).c]) ∧ Fr no w5 w'') := fun w' f => (merge_any w' p N A (HBK.out.keep f) FI.out HLN.out ⟨ka, ca⟩ ⟨kb, cb⟩ ya yb).mono (by rintro e w'' ⟨rfl, g⟩; exact ⟨rfl, f.and g⟩)
      have DM : Hid (∀ w', Fr no w5 w' → Calls Try.prog 26 #[.pointer (some ⟨d, 0, none⟩), .agg #[.int .i64 ka, .string ca], .agg #[.int .i64 kb, .string cb]] w' fun e w'' => e = .returned (.agg #[.int .i64 (merge N A ⟨ka, ca⟩ ⟨kb, cb⟩).k, .string (merge N A ⟨ka, ca⟩ ⟨kb, cb⟩).c]) ∧ Fr no w5 w'') := fun w' f => (docMerge_any w' d N S A (HRC.out.keep f) ka kb ca cb).mono (by rintro e w'' ⟨rfl, g⟩; exact ⟨rfl, f.and g⟩)
      have WO : Hid (∀ w', Fr no w5 w' → Calls Try.prog 27 #[.agg #[.int .i64 ka, .string ca]] w' fun e w'' => e = .returned (.int .i64 (words ⟨ka, ca⟩)) ∧ Fr no w5 w'') := fun w' f => (words_any w' ⟨ka, ca⟩).mono (by rintro e w'' ⟨rfl, g⟩; exact ⟨rfl, f.and g⟩)
      have DO : Hid (∀ w', Fr no w5 w' → Calls Try.prog 28 #[.agg #[.int .i64 ka, .string ca]] w' fun e w'' => e = .returned (.int .i64 (words ⟨ka, ca⟩)) ∧ Fr no w5 w'') := fun w' f => (docWords_any w' ⟨ka, ca⟩).mono (by rintro e w'' ⟨rfl, g⟩; exact ⟨rfl, f.and g⟩)
      have KS : Hid (∀ w', Fr no w5 w' → Fr no w5 w' ∧ ((w'.cell? ⟨w.heap.size, 0, none⟩ = some (.int .i64 ka) ∧ w'.cell? ⟨w.heap.size, 1, none⟩ = some (.string ca)) ∧ (w'.cell? ⟨w.heap.size + 1, 0, none⟩ = some (.int .i64 kb) ∧ w'.cell? ⟨w.heap.size + 1, 1, none⟩ = some (.string cb))) ∧ w'.cell? ⟨d, 0, none⟩ = some vn) := fun w' f => ⟨f, BOX.out w' (G5.out.and f), (two_cells (f.heap CD.out (fun f => f))).1⟩
      have KD : Hid (Fr no w5 w5.drew) := (Fr.refl no _).drew
      have FIN : Hid (∀ w', Fr no w5 w' → Fr no w w') := fun w' f => F3.out.and (G5.out.and f)
      have hz : Hid ((ix a N).isSome = false → plc N a = -1) := by show _ → _; unfold plc; cases ix a N <;> simp
      generalize (ix a N).isSome = bo at *
      generalize plc N a = z at *
      generalize inL b (anc N A a) = bs at *
      generalize shared (anc N A a) (anc N A b) = sh at *
      generalize anc N A a = la at *
      generalize fits N A ⟨ka, ca⟩ ⟨kb, cb⟩ = ft at *
      generalize (merge N A ⟨ka, ca⟩ ⟨kb, cb⟩).k = km at *
      generalize (merge N A ⟨ka, ca⟩ ⟨kb, cb⟩).c = cm at *
      generalize words ⟨ka, ca⟩ = wo at *
      have heq := ty_same
      clear HBK HRC FI HLN OD CD BOX G5 F3
      clear a0 a1 d0 d1
      clear ys yt ya yb
      go_wp2_with fail
      dsimp only [List.append]
      have eb := HY.out
      subst eb
      have hz' := hz.out rfl
      subst hz'
      clear hz HY
      go_region_held3 (fun w' => Fr no w5 w' ∧ ((w'.cell? ⟨w.heap.size, 0, none⟩ = some (.int .i64 ka) ∧ w'.cell? ⟨w.heap.size, 1, none⟩ = some (.string ca)) ∧ (w'.cell? ⟨w.heap.size + 1, 0, none⟩ = some (.int .i64 kb) ∧ w'.cell? ⟨w.heap.size + 1, 1, none⟩ = some (.string cb))) ∧ w'.cell? ⟨d, 0, none⟩ = some vn) (first | exact KS.out _ KD.out | exact KS.out _ (by assumption)) (first
        | (go_at_call 14; refine (NM.out _ KD.out).mono ?_; rintro e w6 ⟨v6, rfl, o6, f6⟩)
        | (go_at_call 13; refine (TA.out _ _ f6 o6).mono ?_; rintro e w7 ⟨rfl, f7⟩; clear f6 o6)
        | (go_at_call 15; refine (HS.out _ f7).mono ?_; rintro e w8 ⟨rfl, f8⟩; clear f7)
        | (go_at_call 16; refine (AT.out _ f8).mono ?_; rintro e w9 ⟨rfl, f9⟩; clear f8)
        | (go_at_call 17; refine (AN.out _ f9).mono ?_; rintro e w10 ⟨v10, rfl, o10, f10⟩; clear f9)
        | (go_at_call 18; refine (DA.out _ _ f10 o10).mono ?_; rintro e w11 ⟨v11, rfl, o11, q11, f11⟩; clear f10 o10)
        | (go_at_call 13; refine (TB.out _ _ _ f11 o11 q11).mono ?_; rintro e w12 ⟨rfl, f12⟩; clear f11 o11 q11)
        | (go_at_call 19; refine (SU.out _ f12).mono ?_; rintro e w13 ⟨rfl, f13⟩; clear f12)
        | (go_at_call 20; refine (DS.out _ f13).mono ?_; rintro e w14 ⟨rfl, f14⟩; clear f13)
        | (go_at_call 21; refine (CO.out _ f14).mono ?_; rintro e w15 ⟨rfl, f15⟩; clear f14)
        | (go_at_call 22; refine (DC.out _ f15).mono ?_; rintro e w16 ⟨rfl, f16⟩; clear f15)
        | (go_at_call 23; refine (FT.out _ f16).mono ?_; rintro e w17 ⟨rfl, f17⟩; clear f16)
        | (go_at_call 24; refine (DF.out _ f17).mono ?_; rintro e w18 ⟨rfl, f18⟩; clear f17)
        | (go_at_call 25; refine (MG.out _ f18).mono ?_; rintro e w19 ⟨rfl, f19⟩; clear f18)
        | (go_at_call 26; refine (DM.out _ f19).mono ?_; rintro e w20 ⟨rfl, f20⟩; clear f19)
        | (go_at_call 27; refine (WO.out _ f20).mono ?_; rintro e w21 ⟨rfl, f21⟩; clear f20)
        | (go_at_call 28; refine (DO.out _ f21).mono ?_; rintro e w22 ⟨rfl, f22⟩; clear f21))
      all_goals
        have R22 := FIN.out w22 f22
        go_wp2_with fail
        go_ret
        exact ⟨rfl, R22⟩
end Go.Proofs.Ytabiagheflkiaaa
