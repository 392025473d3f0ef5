/- The statement on what two types are both: it returns true. -/
import Derived.Test.YtabiagheflkiaaaReal
import Derived.Test.YtabiagheflkiaaaKnown
import Derived.Deep.RegionHeld3
namespace Go.Proofs.Ytabiagheflkiaaa
open Go.ChangeShapes Go.WideShapes Go.ChangeAt Go.RowKit

theorem addN_mem : ∀ (l N : List ByteArray) (x : ByteArray), x ∈ (addN N l).2 → x ∈ N ∨ x ∈ l
  | [], N, x, h => .inl h
  | y :: l, N, x, h => by
    unfold addN at h
    split at h
    · exact .inl h
    · split at h
      · exact .inl h
      · rcases addN_mem l (N ++ [y]) x h with h | h
        · rw [List.mem_append] at h
          rcases h with h | h
          · exact .inl h
          · exact .inr (by simp at h; simp [h])
        · exact .inr (by simp [h])

theorem newH_small {names supers : List ByteArray} (hs : ∀ x ∈ names, x.size ≤ 40) : ∀ x ∈ (newH names supers).2.1, x.size ≤ 1099511627776 := by
  intro x hx
  unfold newH at hx
  split at hx
  · simp at hx
  split at hx
  · simp at hx
  split at hx
  · simp at hx
  split at hx
  · simp at hx
  split at hx
  · simp at hx
  rcases addN_mem names [obj, fault] x hx with h | h
  · simp at h
    rcases h with rfl | rfl <;> decide
  · have := hs x h
    omega

theorem met_small {N : List ByteArray} (hN : ∀ x ∈ N, x.size ≤ 1099511627776) {t : Ty} (h : Met N t) : t.c.size ≤ 1099511627776 := by
  cases h with
  | ref c hc => exact hN c hc
  | _ => decide

theorem brief_spec {l : List ByteArray} (h : brief l = true) : (∀ x ∈ l, x.size ≤ 40) ∧ l.length ≤ 24 := by
  unfold brief at h
  simp only [Bool.and_eq_true, decide_eq_true_eq] at h
  exact h

theorem ty_ne (k : Int) (c : ByteArray) (w : World) : (binOp .neq 24 (.agg #[.int .i64 k, .string c]) (.agg #[.int .i64 k, .string c])).run Try.prog w = .ok (.bool false) w := by
  simp [go_sem]

set_option maxRecDepth 100000 in
set_option maxHeartbeats 4000000 in
theorem least_any (w : World) (v0 : Value) (l0 : List ByteArray) (s0 : SlG elS w v0 l0) (v1 : Value) (l1 : List ByteArray) (s1 : SlG elS w v1 l1) (a b c : Ty) :
    Calls Try.prog 4 #[v0, v1, tyV a, tyV b, tyV c] w fun e w' => e = .returned (.bool true) ∧ Fr no w w' := by
  obtain ⟨ka, ca⟩ := a
  obtain ⟨kb, cb⟩ := b
  obtain ⟨kc, cc⟩ := c
  unfold tyV
  simp only []
  have HS0 : Hid (SlG elS w v0 l0) := s0
  have HS1 : Hid (SlG elS w v1 l1) := s1
  have F3 : Hid (Fr no w (((w.alloc (.cells #[.int .i64 ka, .string ca] 24)).alloc (.cells #[.int .i64 kb, .string cb] 24)).alloc (.cells #[.int .i64 kc, .string cc] 24))) := (((Fr.refl no w).alloc _ _).alloc _ _).alloc _ _
  have KN := known_any (((w.alloc (.cells #[.int .i64 ka, .string ca] 24)).alloc (.cells #[.int .i64 kb, .string cb] 24)).alloc (.cells #[.int .i64 kc, .string cc] 24))
  have BOX : Hid (∀ w', Fr no (((w.alloc (.cells #[.int .i64 ka, .string ca] 24)).alloc (.cells #[.int .i64 kb, .string cb] 24)).alloc (.cells #[.int .i64 kc, .string cc] 24)) w' → (w'.cell? ⟨w.heap.size, 0, none⟩ = some (.int .i64 ka) ∧ w'.cell? ⟨w.heap.size, 1, none⟩ = some (.string ca)) ∧ (w'.cell? ⟨w.heap.size + 1, 0, none⟩ = some (.int .i64 kb) ∧ w'.cell? ⟨w.heap.size + 1, 1, none⟩ = some (.string cb)) ∧ (w'.cell? ⟨w.heap.size + 1 + 1, 0, none⟩ = some (.int .i64 kc) ∧ w'.cell? ⟨w.heap.size + 1 + 1, 1, none⟩ = some (.string cc))) := fun w' f => by
    have f1 : (((w.alloc (.cells #[.int .i64 ka, .string ca] 24)).alloc (.cells #[.int .i64 kb, .string cb] 24)).alloc (.cells #[.int .i64 kc, .string cc] 24)).heap[w.heap.size]? = some (.cells #[.int .i64 ka, .string ca] 24 (0, 0)) := ((Fr.refl no (w.alloc (.cells #[.int .i64 ka, .string ca] 24))).alloc _ _ |>.alloc _ _).heap (heap_alloc_new w _) (fun f => f)
    have f2 : (((w.alloc (.cells #[.int .i64 ka, .string ca] 24)).alloc (.cells #[.int .i64 kb, .string cb] 24)).alloc (.cells #[.int .i64 kc, .string cc] 24)).heap[w.heap.size + 1]? = some (.cells #[.int .i64 kb, .string cb] 24 (0, 0)) := by
      have h := heap_alloc_new (w.alloc (.cells #[.int .i64 ka, .string ca] 24)) (.cells #[.int .i64 kb, .string cb] 24)
      have e : (w.alloc (.cells #[.int .i64 ka, .string ca] 24)).heap.size = w.heap.size + 1 := by simp
      rw [e] at h
      exact ((Fr.refl no _).alloc _ _).heap h (fun f => f)
    have k1 := two_cells (f.heap f1 (fun f => f))
    have k2 := two_cells (f.heap f2 (fun f => f))
    have k3 := two_cells (f.heap (third w _ _ _) (fun f => f))
    exact ⟨⟨k1.1, k1.2.1⟩, ⟨k2.1, k2.2.1⟩, ⟨k3.1, k3.2.1⟩⟩
  have SH0 : Hid (∀ w', Fr no (((w.alloc (.cells #[.int .i64 ka, .string ca] 24)).alloc (.cells #[.int .i64 kb, .string cb] 24)).alloc (.cells #[.int .i64 kc, .string cc] 24)) w' → Calls Try.prog 10 #[v0] w' fun e w'' => e = .returned (.bool (brief l0)) ∧ w'' = w') := fun w' f => short_any w' v0 l0 (HS0.out.keep (F3.out.and f))
  have SH1 : Hid (∀ w', Fr no (((w.alloc (.cells #[.int .i64 ka, .string ca] 24)).alloc (.cells #[.int .i64 kb, .string cb] 24)).alloc (.cells #[.int .i64 kc, .string cc] 24)) w' → Calls Try.prog 10 #[v1] w' fun e w'' => e = .returned (.bool (brief l1)) ∧ w'' = w') := fun w' f => short_any w' v1 l1 (HS1.out.keep (F3.out.and f))
  clear s0 s1
  cases b0 : brief l0 with
  | false =>
    rw [b0] at SH0
    clear b0 HS0 HS1 BOX SH1
    go_enter Try.func4, Try.ntmps4
    go_wp2_with fail
    refine KN.mono ?_
    rintro e w1 ⟨rfl, f1⟩
    have G1 : Hid (Fr no (((w.alloc (.cells #[.int .i64 ka, .string ca] 24)).alloc (.cells #[.int .i64 kb, .string cb] 24)).alloc (.cells #[.int .i64 kc, .string cc] 24)) w1) := f1
    have C0 := SH0.out w1 f1
    clear f1 KN
    go_wp2_with fail
    refine C0.mono ?_
    rintro e w1' ⟨rfl, rfl⟩
    go_wp2_with fail
    go_ret
    exact ⟨rfl, F3.out.and G1.out⟩
  | true =>
    rw [b0] at SH0
    cases b1 : brief l1 with
    | false =>
      rw [b1] at SH1
      clear b0 b1 HS0 HS1 BOX
      go_enter Try.func4, Try.ntmps4
      go_wp2_with fail
      refine KN.mono ?_
      rintro e w1 ⟨rfl, f1⟩
      have G1 : Hid (Fr no (((w.alloc (.cells #[.int .i64 ka, .string ca] 24)).alloc (.cells #[.int .i64 kb, .string cb] 24)).alloc (.cells #[.int .i64 kc, .string cc] 24)) w1) := f1
      have C0 := SH0.out w1 f1
      have C1 := SH1.out w1 f1
      clear f1 KN
      go_wp2_with fail
      refine C0.mono ?_
      rintro e w1' ⟨rfl, rfl⟩
      go_wp2_with fail
      refine C1.mono ?_
      rintro e w1' ⟨rfl, rfl⟩
      go_wp2_with fail
      go_ret
      exact ⟨rfl, F3.out.and G1.out⟩
    | true =>
      rw [b1] at SH1
      by_cases za : 40 < ca.size
      · have za' : (40 : Int) < (ca.size : Int) := by omega
        clear b0 b1 HS0 HS1
        go_enter Try.func4, Try.ntmps4
        go_wp2_with fail
        refine KN.mono ?_
        rintro e w1 ⟨rfl, f1⟩
        have G1 : Hid (Fr no (((w.alloc (.cells #[.int .i64 ka, .string ca] 24)).alloc (.cells #[.int .i64 kb, .string cb] 24)).alloc (.cells #[.int .i64 kc, .string cc] 24)) w1) := f1
        have C0 := SH0.out w1 f1
        have C1 := SH1.out w1 f1
        obtain ⟨⟨a0, a1⟩, ⟨d0, d1⟩, ⟨e0, e1⟩⟩ := BOX.out w1 f1
        clear f1 KN
        go_wp2_with fail
        refine C0.mono ?_
        rintro e w1' ⟨rfl, rfl⟩
        go_wp2_with fail
        refine C1.mono ?_
        rintro e w1' ⟨rfl, rfl⟩
        go_wp2_with fail
        go_ret
        exact ⟨rfl, F3.out.and G1.out⟩
      have za' : ¬ (40 : Int) < (ca.size : Int) := by omega
      by_cases zb : 40 < cb.size
      · have zb' : (40 : Int) < (cb.size : Int) := by omega
        clear b0 b1 HS0 HS1
        go_enter Try.func4, Try.ntmps4
        go_wp2_with fail
        refine KN.mono ?_
        rintro e w1 ⟨rfl, f1⟩
        have G1 : Hid (Fr no (((w.alloc (.cells #[.int .i64 ka, .string ca] 24)).alloc (.cells #[.int .i64 kb, .string cb] 24)).alloc (.cells #[.int .i64 kc, .string cc] 24)) w1) := f1
        have C0 := SH0.out w1 f1
        have C1 := SH1.out w1 f1
        obtain ⟨⟨a0, a1⟩, ⟨d0, d1⟩, ⟨e0, e1⟩⟩ := BOX.out w1 f1
        clear f1 KN
        go_wp2_with fail
        refine C0.mono ?_
        rintro e w1' ⟨rfl, rfl⟩
        go_wp2_with fail
        refine C1.mono ?_
        rintro e w1' ⟨rfl, rfl⟩
        go_wp2_with fail
        go_ret
        exact ⟨rfl, F3.out.and G1.out⟩
      have zb' : ¬ (40 : Int) < (cb.size : Int) := by omega
      by_cases zc : 40 < cc.size
      · have zc' : (40 : Int) < (cc.size : Int) := by omega
        clear b0 b1 HS0 HS1
        go_enter Try.func4, Try.ntmps4
        go_wp2_with fail
        refine KN.mono ?_
        rintro e w1 ⟨rfl, f1⟩
        have G1 : Hid (Fr no (((w.alloc (.cells #[.int .i64 ka, .string ca] 24)).alloc (.cells #[.int .i64 kb, .string cb] 24)).alloc (.cells #[.int .i64 kc, .string cc] 24)) w1) := f1
        have C0 := SH0.out w1 f1
        have C1 := SH1.out w1 f1
        obtain ⟨⟨a0, a1⟩, ⟨d0, d1⟩, ⟨e0, e1⟩⟩ := BOX.out w1 f1
        clear f1 KN
        go_wp2_with fail
        refine C0.mono ?_
        rintro e w1' ⟨rfl, rfl⟩
        go_wp2_with fail
        refine C1.mono ?_
        rintro e w1' ⟨rfl, rfl⟩
        go_wp2_with fail
        go_ret
        exact ⟨rfl, F3.out.and G1.out⟩
      have zc' : ¬ (40 : Int) < (cc.size : Int) := by omega
      obtain ⟨t0, n0⟩ := brief_spec b0
      obtain ⟨t1, n1⟩ := brief_spec b1
      have NW : Hid (∀ w', Fr no (((w.alloc (.cells #[.int .i64 ka, .string ca] 24)).alloc (.cells #[.int .i64 kb, .string cb] 24)).alloc (.cells #[.int .i64 kc, .string cc] 24)) w' → Calls Try.prog 11 #[v0, v1] w' fun e w'' => ∃ q, e = .returned (.tuple #[.pointer q, .int .i64 (newH l0 l1).1]) ∧ NewAt w' w'' (newH l0 l1) q ∧ Fr no w' w'') :=
        fun w' f => new_any w' v0 v1 l0 l1 (HS0.out.keep (F3.out.and f)) (HS1.out.keep (F3.out.and f)) (fun x hx => by have := t0 x hx; omega) (fun x hx => by have := t1 x hx; omega) (by omega) (by omega)
      have TR : Hid ((newH l0 l1).1 = 0 → Tree (newH l0 l1).2.1 (newH l0 l1).2.2) := tree_of
      have SM : Hid (∀ x ∈ (newH l0 l1).2.1, x.size ≤ 1099511627776) := newH_small t0
      clear b0 b1 t0 t1 n0 n1 HS0 HS1
      generalize newH l0 l1 = R at *
      have ya : ca.size ≤ 1099511627776 := by omega
      have yb : cb.size ≤ 1099511627776 := by omega
      have yc : cc.size ≤ 1099511627776 := by omega
      clear za zb zc
      go_enter Try.func4, Try.ntmps4
      go_wp2_with fail
      refine KN.mono ?_
      rintro e w1 ⟨rfl, f1⟩
      have G1 : Hid (Fr no (((w.alloc (.cells #[.int .i64 ka, .string ca] 24)).alloc (.cells #[.int .i64 kb, .string cb] 24)).alloc (.cells #[.int .i64 kc, .string cc] 24)) w1) := f1
      have C0 := SH0.out w1 f1
      have C1 := SH1.out w1 f1
      obtain ⟨⟨a0, a1⟩, ⟨d0, d1⟩, ⟨e0, e1⟩⟩ := BOX.out w1 f1
      clear f1 KN
      go_wp2_with fail
      refine C0.mono ?_
      rintro e w1' ⟨rfl, rfl⟩
      go_wp2_with fail
      refine C1.mono ?_
      rintro e w1' ⟨rfl, rfl⟩
      have C2 := NW.out _ G1.out
      clear NW SH0 SH1 C0 C1
      go_wp2_with fail
      refine C2.mono ?_
      rintro e w2 ⟨q, rfl, h2, f2⟩
      have G2 : Hid (Fr no (((w.alloc (.cells #[.int .i64 ka, .string ca] 24)).alloc (.cells #[.int .i64 kb, .string cb] 24)).alloc (.cells #[.int .i64 kc, .string cc] 24)) w2) := G1.out.and f2
      obtain ⟨⟨a0, a1⟩, ⟨d0, d1⟩, ⟨e0, e1⟩⟩ := BOX.out w2 G2.out
      clear C2 f2
      by_cases hr : R.1 = 0
      case neg =>
        obtain rfl := h2.1 hr
        have hrq : (R.1 == 0) = false := by simpa using hr
        clear hr h2
        generalize R.1 = r1 at *
        go_wp2_with fail
        go_ret
        exact ⟨rfl, F3.out.and G2.out⟩
      obtain ⟨p, rfl, hb, fi, hl⟩ := h2.2 hr
      have TREE := TR.out hr
      rw [hr]
      have HBK : Hid (HB w1'.heap.size w2 p R.2.1 R.2.2) := hb
      have FI : Hid (Fine R.2.1.length R.2.2) := fi
      have HLN : Hid (R.2.1.length ≤ 1000) := by show _ ≤ _; omega
      have HTR : Hid (Tree R.2.1 R.2.2) := TREE
      clear h2 hb fi hl TREE TR hr
      generalize R.2.1 = N at *
      generalize R.2.2 = A at *
      have RL : Hid (∀ w', Fr no w2 w' → ∀ k c, c.size ≤ 1099511627776 → Calls Try.prog 29 #[.pointer (some ⟨p, 0, none⟩), .agg #[.int .i64 k, .string c]] w' fun e w'' => e = .returned (.bool (realT N ⟨k, c⟩)) ∧ Fr no w' w'') := fun w' f k c hc => real_any w' p N A (HBK.out.keep f) ⟨k, c⟩ hc
      have R1 := RL.out w2 (Fr.refl _ _) ka ca ya
      cases ra : realT N ⟨ka, ca⟩ with
      | false =>
        rw [ra] at R1
        clear ra
        go_wp2_with fail
        refine R1.mono ?_
        rintro e w3 ⟨rfl, f3⟩
        have G3 : Hid (Fr no (((w.alloc (.cells #[.int .i64 ka, .string ca] 24)).alloc (.cells #[.int .i64 kb, .string cb] 24)).alloc (.cells #[.int .i64 kc, .string cc] 24)) w3) := G2.out.and f3
        clear f3
        go_wp2_with fail
        go_ret
        exact ⟨rfl, F3.out.and G3.out⟩
      | true =>
        rw [ra] at R1
        go_wp2_with fail
        refine R1.mono ?_
        rintro e w3 ⟨rfl, f3⟩
        have K3 : Hid (Fr no w2 w3) := f3
        have G3 : Hid (Fr no (((w.alloc (.cells #[.int .i64 ka, .string ca] 24)).alloc (.cells #[.int .i64 kb, .string cb] 24)).alloc (.cells #[.int .i64 kc, .string cc] 24)) w3) := G2.out.and f3
        clear a0 a1 d0 d1 e0 e1
        obtain ⟨⟨a0, a1⟩, ⟨d0, d1⟩, ⟨e0, e1⟩⟩ := BOX.out w3 G3.out
        have R2 := RL.out w3 f3 kb cb yb
        clear f3 R1
        cases rb : realT N ⟨kb, cb⟩ with
        | false =>
          rw [rb] at R2
          clear ra rb
          go_wp2_with fail
          refine R2.mono ?_
          rintro e w4 ⟨rfl, f4⟩
          have G4 : Hid (Fr no (((w.alloc (.cells #[.int .i64 ka, .string ca] 24)).alloc (.cells #[.int .i64 kb, .string cb] 24)).alloc (.cells #[.int .i64 kc, .string cc] 24)) w4) := G3.out.and f4
          clear f4
          go_wp2_with fail
          go_ret
          exact ⟨rfl, F3.out.and G4.out⟩
        | true =>
          rw [rb] at R2
          go_wp2_with fail
          refine R2.mono ?_
          rintro e w4 ⟨rfl, f4⟩
          have K4 : Hid (Fr no w2 w4) := K3.out.and f4
          have G4 : Hid (Fr no (((w.alloc (.cells #[.int .i64 ka, .string ca] 24)).alloc (.cells #[.int .i64 kb, .string cb] 24)).alloc (.cells #[.int .i64 kc, .string cc] 24)) w4) := G3.out.and f4
          clear a0 a1 d0 d1 e0 e1
          obtain ⟨⟨a0, a1⟩, ⟨d0, d1⟩, ⟨e0, e1⟩⟩ := BOX.out w4 G4.out
          have R3 := RL.out w4 K4.out kc cc yc
          clear f4 R2 G3 K3
          cases rc : realT N ⟨kc, cc⟩ with
          | false =>
            rw [rc] at R3
            clear ra rb rc
            go_wp2_with fail
            refine R3.mono ?_
            rintro e w5 ⟨rfl, f5⟩
            have G5 : Hid (Fr no (((w.alloc (.cells #[.int .i64 ka, .string ca] 24)).alloc (.cells #[.int .i64 kb, .string cb] 24)).alloc (.cells #[.int .i64 kc, .string cc] 24)) w5) := G4.out.and f5
            clear f5
            go_wp2_with fail
            go_ret
            exact ⟨rfl, F3.out.and G5.out⟩
          | true =>
            rw [rc] at R3
            have ma := met_of ra
            have mb := met_of rb
            have mc := met_of rc
            have mm := merge_met HTR.out ma mb
            have mbc := merge_met HTR.out mb mc
            obtain ⟨L1, L2, L3⟩ := merge_lub HTR.out ma mb
            have L3' := L3 _ mc
            have zm := met_small SM.out mm
            have zr := met_small SM.out mbc
            have MG0 : ∀ w', Fr no w2 w' → ∀ k1 c1 k2 c2, c1.size ≤ 1099511627776 → c2.size ≤ 1099511627776 → Calls Try.prog 25 #[.pointer (some ⟨p, 0, none⟩), .agg #[.int .i64 k1, .string c1], .agg #[.int .i64 k2, .string c2]] w' fun e w'' => e = .returned (.agg #[.int .i64 (merge N A ⟨k1, c1⟩ ⟨k2, c2⟩).k, .string (merge N A ⟨k1, c1⟩ ⟨k2, c2⟩).c]) ∧ Fr no w' w'' := fun w' f k1 c1 k2 c2 h1 h2 => merge_any w' p N A (HBK.out.keep f) FI.out HLN.out ⟨k1, c1⟩ ⟨k2, c2⟩ h1 h2
            have FT0 : ∀ w', Fr no w2 w' → ∀ k1 c1 k2 c2, c1.size ≤ 1099511627776 → Calls Try.prog 23 #[.pointer (some ⟨p, 0, none⟩), .agg #[.int .i64 k1, .string c1], .agg #[.int .i64 k2, .string c2]] w' fun e w'' => e = .returned (.bool (fits N A ⟨k1, c1⟩ ⟨k2, c2⟩)) ∧ Fr no w' w'' := fun w' f k1 c1 k2 c2 h1 => fits_any w' p N A (HBK.out.keep f) FI.out HLN.out ⟨k1, c1⟩ ⟨k2, c2⟩ h1
            have PK : ∃ (mk : Int → ByteArray → Int → ByteArray → Int) (mc : Int → ByteArray → Int → ByteArray → ByteArray) (ft : Int → ByteArray → Int → ByteArray → Bool) (pm pr pq : Int) (qm qr qq : ByteArray),
                Hid (∀ w', Fr no w2 w' → ∀ k1 c1 k2 c2, c1.size ≤ 1099511627776 → c2.size ≤ 1099511627776 → Calls Try.prog 25 #[.pointer (some ⟨p, 0, none⟩), .agg #[.int .i64 k1, .string c1], .agg #[.int .i64 k2, .string c2]] w' fun e w'' => e = .returned (.agg #[.int .i64 (mk k1 c1 k2 c2), .string (mc k1 c1 k2 c2)]) ∧ Fr no w' w'') ∧
                Hid (∀ w', Fr no w2 w' → ∀ k1 c1 k2 c2, c1.size ≤ 1099511627776 → Calls Try.prog 23 #[.pointer (some ⟨p, 0, none⟩), .agg #[.int .i64 k1, .string c1], .agg #[.int .i64 k2, .string c2]] w' fun e w'' => e = .returned (.bool (ft k1 c1 k2 c2)) ∧ Fr no w' w'') ∧
                (mk ka ca kb cb = pm ∧ mc ka ca kb cb = qm) ∧ (mk kb cb ka ca = pm ∧ mc kb cb ka ca = qm) ∧ (mk ka ca ka ca = ka ∧ mc ka ca ka ca = ca) ∧ (mk kb cb kc cc = pr ∧ mc kb cb kc cc = qr) ∧
                (mk pm qm kc cc = pq ∧ mc pm qm kc cc = qq) ∧ (mk ka ca pr qr = pq ∧ mc ka ca pr qr = qq) ∧ ft ka ca pm qm = true ∧ ft kb cb pm qm = true ∧ (ft ka ca kc cc = true → ft kb cb kc cc = true → ft pm qm kc cc = true) ∧ qm.size ≤ 1099511627776 ∧ qr.size ≤ 1099511627776 := by
              refine ⟨fun k1 c1 k2 c2 => (merge N A ⟨k1, c1⟩ ⟨k2, c2⟩).k, fun k1 c1 k2 c2 => (merge N A ⟨k1, c1⟩ ⟨k2, c2⟩).c, fun k1 c1 k2 c2 => fits N A ⟨k1, c1⟩ ⟨k2, c2⟩, (merge N A ⟨ka, ca⟩ ⟨kb, cb⟩).k, (merge N A ⟨kb, cb⟩ ⟨kc, cc⟩).k, (merge N A (merge N A ⟨ka, ca⟩ ⟨kb, cb⟩) ⟨kc, cc⟩).k, (merge N A ⟨ka, ca⟩ ⟨kb, cb⟩).c, (merge N A ⟨kb, cb⟩ ⟨kc, cc⟩).c, (merge N A (merge N A ⟨ka, ca⟩ ⟨kb, cb⟩) ⟨kc, cc⟩).c, MG0, FT0, ⟨rfl, rfl⟩, ?_, ?_, ⟨rfl, rfl⟩, ⟨rfl, rfl⟩, ?_, L1, L2, L3', zm, zr⟩
              · have e := merge_comm HTR.out mb ma
                exact ⟨congrArg Ty.k e, congrArg Ty.c e⟩
              · have e : merge N A ⟨ka, ca⟩ ⟨ka, ca⟩ = ⟨ka, ca⟩ := merge_eq ⟨rfl, rfl⟩
                exact ⟨congrArg Ty.k e, congrArg Ty.c e⟩
              · have e := (merge_assoc HTR.out ma mb mc).symm
                exact ⟨congrArg Ty.k e, congrArg Ty.c e⟩
            obtain ⟨mk, mcx, ft, pm, pr, pq, qm, qr, qq, MG, FT, ⟨i1, i2⟩, ⟨i3, i4⟩, ⟨i5, i6⟩, ⟨i7, i8⟩, ⟨i9, i10⟩, ⟨i11, i12⟩, j1, j2, j3, zqm, zqr⟩ := PK
            have J3 : Hid (ft ka ca kc cc = true → ft kb cb kc cc = true → ft pm qm kc cc = true) := j3
            clear ma mb mc mm mbc L1 L2 L3 L3' zm zr MG0 FT0 j3 ra rb rc HBK FI HLN HTR RL SM
            go_wp2_with fail
            refine R3.mono ?_
            rintro e w5 ⟨rfl, f5⟩
            have K5 : Hid (Fr no w2 w5) := K4.out.and f5
            have G5 : Hid (Fr no (((w.alloc (.cells #[.int .i64 ka, .string ca] 24)).alloc (.cells #[.int .i64 kb, .string cb] 24)).alloc (.cells #[.int .i64 kc, .string cc] 24)) w5) := G4.out.and f5
            clear a0 a1 d0 d1 e0 e1
            obtain ⟨⟨a0, a1⟩, ⟨d0, d1⟩, ⟨e0, e1⟩⟩ := BOX.out w5 G5.out
            have M1 := MG.out w5 K5.out ka ca kb cb ya yb
            rw [i1, i2] at M1
            clear f5 R3 G4 K4
            go_wp2_with fail
            refine M1.mono ?_
            rintro e w6 ⟨rfl, f6⟩
            have K6 : Hid (Fr no w2 w6) := K5.out.and f6
            have G6 : Hid (Fr no (((w.alloc (.cells #[.int .i64 ka, .string ca] 24)).alloc (.cells #[.int .i64 kb, .string cb] 24)).alloc (.cells #[.int .i64 kc, .string cc] 24)) w6) := G5.out.and f6
            have AL : Hid (Fr no w6 (w6.alloc (.cells #[.int .i64 pm, .string qm] 24))) := (Fr.refl no w6).alloc _ _
            have BM : Hid ((w6.alloc (.cells #[.int .i64 pm, .string qm] 24)).heap[w6.heap.size]? = some (.cells #[.int .i64 pm, .string qm] 24 (0, 0))) := heap_alloc_new w6 _
            have KS : Hid (∀ w', Fr no (w6.alloc (.cells #[.int .i64 pm, .string qm] 24)) w' → Fr no (w6.alloc (.cells #[.int .i64 pm, .string qm] 24)) w' ∧ ((w'.cell? ⟨w.heap.size, 0, none⟩ = some (.int .i64 ka) ∧ w'.cell? ⟨w.heap.size, 1, none⟩ = some (.string ca)) ∧ (w'.cell? ⟨w.heap.size + 1, 0, none⟩ = some (.int .i64 kb) ∧ w'.cell? ⟨w.heap.size + 1, 1, none⟩ = some (.string cb)) ∧ (w'.cell? ⟨w.heap.size + 1 + 1, 0, none⟩ = some (.int .i64 kc) ∧ w'.cell? ⟨w.heap.size + 1 + 1, 1, none⟩ = some (.string cc))) ∧ w'.cell? ⟨w6.heap.size, 0, none⟩ = some (.int .i64 pm) ∧ w'.cell? ⟨w6.heap.size, 1, none⟩ = some (.string qm)) := fun w' f => by
              have k1 := two_cells (f.heap BM.out (fun f => f))
              exact ⟨f, BOX.out w' (G6.out.and (AL.out.and f)), k1.1, k1.2.1⟩
            have MG2 : Hid (∀ w', Fr no (w6.alloc (.cells #[.int .i64 pm, .string qm] 24)) w' → ∀ k1 c1 k2 c2, c1.size ≤ 1099511627776 → c2.size ≤ 1099511627776 → Calls Try.prog 25 #[.pointer (some ⟨p, 0, none⟩), .agg #[.int .i64 k1, .string c1], .agg #[.int .i64 k2, .string c2]] w' fun e w'' => e = .returned (.agg #[.int .i64 (mk k1 c1 k2 c2), .string (mcx k1 c1 k2 c2)]) ∧ Fr no (w6.alloc (.cells #[.int .i64 pm, .string qm] 24)) w'') := fun w' f k1 c1 k2 c2 h1 h2 => (MG.out w' (K6.out.and (AL.out.and f)) k1 c1 k2 c2 h1 h2).mono (by rintro e w'' ⟨rfl, g⟩; exact ⟨rfl, f.and g⟩)
            have FT2 : Hid (∀ w', Fr no (w6.alloc (.cells #[.int .i64 pm, .string qm] 24)) w' → ∀ k1 c1 k2 c2, c1.size ≤ 1099511627776 → Calls Try.prog 23 #[.pointer (some ⟨p, 0, none⟩), .agg #[.int .i64 k1, .string c1], .agg #[.int .i64 k2, .string c2]] w' fun e w'' => e = .returned (.bool (ft k1 c1 k2 c2)) ∧ Fr no (w6.alloc (.cells #[.int .i64 pm, .string qm] 24)) w'') := fun w' f k1 c1 k2 c2 h1 => (FT.out w' (K6.out.and (AL.out.and f)) k1 c1 k2 c2 h1).mono (by rintro e w'' ⟨rfl, g⟩; exact ⟨rfl, f.and g⟩)
            have KD : Hid (Fr no (w6.alloc (.cells #[.int .i64 pm, .string qm] 24)) (w6.alloc (.cells #[.int .i64 pm, .string qm] 24)).drew) := (Fr.refl no _).drew
            have FIN : Hid (∀ w', Fr no (w6.alloc (.cells #[.int .i64 pm, .string qm] 24)) w' → Fr no w w') := fun w' f => F3.out.and (G6.out.and (AL.out.and f))
            have hne := ty_ne
            clear f6 M1 G5 K5 a0 a1 d0 d1 e0 e1 MG FT BOX G6 K6 AL BM G1 G2 F3
            go_wp2_with fail
            go_region_held3 (fun w' => Fr no (w6.alloc (.cells #[.int .i64 pm, .string qm] 24)) w' ∧ ((w'.cell? ⟨w.heap.size, 0, none⟩ = some (.int .i64 ka) ∧ w'.cell? ⟨w.heap.size, 1, none⟩ = some (.string ca)) ∧ (w'.cell? ⟨w.heap.size + 1, 0, none⟩ = some (.int .i64 kb) ∧ w'.cell? ⟨w.heap.size + 1, 1, none⟩ = some (.string cb)) ∧ (w'.cell? ⟨w.heap.size + 1 + 1, 0, none⟩ = some (.int .i64 kc) ∧ w'.cell? ⟨w.heap.size + 1 + 1, 1, none⟩ = some (.string cc))) ∧ w'.cell? ⟨w6.heap.size, 0, none⟩ = some (.int .i64 pm) ∧ w'.cell? ⟨w6.heap.size, 1, none⟩ = some (.string qm)) (first | exact KS.out _ KD.out | exact KS.out _ (by assumption)) (first | (go_at_call 25; refine (MG2.out _ (by first | assumption | exact KD.out) _ _ _ _ (by assumption) (by assumption)).mono ?_; rintro e w7 ⟨rfl, f7⟩) | (go_at_call 23; refine (FT2.out _ (by first | assumption | exact KD.out) _ _ _ _ (by assumption)).mono ?_; rintro e w7 ⟨rfl, f7⟩))
            all_goals
              obtain ⟨-, ⟨⟨a0, a1⟩, ⟨d0, d1⟩, ⟨e0, e1⟩⟩, m0, m1⟩ := KS.out w7 f7
              have X1 := FT2.out w7 f7 ka ca kc cc ya
              cases xa : ft ka ca kc cc with
              | false =>
                rw [xa] at X1
                clear xa
                go_wp2_with fail
                refine X1.mono ?_
                rintro e w8 ⟨rfl, f8⟩
                have R8 : Hid (Fr no w w8) := FIN.out w8 f8
                clear f8
                go_wp2_with fail
                go_ret
                exact ⟨rfl, R8.out⟩
              | true =>
                rw [xa] at X1
                go_wp2_with fail
                refine X1.mono ?_
                rintro e w8 ⟨rfl, f8⟩
                clear a0 a1 d0 d1 e0 e1 m0 m1
                obtain ⟨-, ⟨⟨a0, a1⟩, ⟨d0, d1⟩, ⟨e0, e1⟩⟩, m0, m1⟩ := KS.out w8 f8
                have X2 := FT2.out w8 f8 kb cb kc cc yb
                cases xb : ft kb cb kc cc with
                | false =>
                  rw [xb] at X2
                  clear xa xb
                  go_wp2_with fail
                  refine X2.mono ?_
                  rintro e w9 ⟨rfl, f9⟩
                  have R9 : Hid (Fr no w w9) := FIN.out w9 f9
                  clear f9
                  go_wp2_with fail
                  go_ret
                  exact ⟨rfl, R9.out⟩
                | true =>
                  rw [xb] at X2
                  have X30 := J3.out xa xb
                  clear xa xb
                  go_wp2_with fail
                  refine X2.mono ?_
                  rintro e w9 ⟨rfl, f9⟩
                  clear a0 a1 d0 d1 e0 e1 m0 m1
                  obtain ⟨-, ⟨⟨a0, a1⟩, ⟨d0, d1⟩, ⟨e0, e1⟩⟩, m0, m1⟩ := KS.out w9 f9
                  have X3 := FT2.out w9 f9 pm qm kc cc zqm
                  rw [X30] at X3
                  go_wp2_with fail
                  refine X3.mono ?_
                  rintro e w10 ⟨rfl, f10⟩
                  have R10 : Hid (Fr no w w10) := FIN.out w10 f10
                  clear f10
                  go_wp2_with fail
                  go_ret
                  exact ⟨rfl, R10.out⟩
end Go.Proofs.Ytabiagheflkiaaa
