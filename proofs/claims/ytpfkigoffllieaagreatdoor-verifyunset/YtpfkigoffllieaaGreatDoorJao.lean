/- The first error of a list. -/
import Derived.Test.YtpfkigoffllieaaGreatDoorJah
import Derived.Test.YtpfkigoffllieaaGreatDoorJan
import Derived.Test.YtpfkigoffllieaaGreatDoorJak
namespace Go.Proofs.YtpfkigoffllieaaGreatDoor
open Go.ChangeShapes Go.WideShapes Go.ChangeAt Go.RowKit

theorem firstN_step (e : Nat → Nat) (k n : Nat) (h : k < n) : firstN e (List.range' k (n - k)) = if e k ≠ 0 then e k else firstN e (List.range' (k + 1) (n - (k + 1))) := by
  obtain ⟨d, hd⟩ : ∃ d, n - k = d + 1 := ⟨n - k - 1, by omega⟩
  rw [hd, show n - (k + 1) = d by omega, List.range'_succ]
  rfl
theorem firstN_end (e : Nat → Nat) (n : Nat) : firstN e (List.range' n (n - n)) = 0 := by rw [Nat.sub_self]; rfl
theorem firstN_list {α : Type} (f : α → Nat) (g : Nat → Nat) : ∀ (l : List α) (k : Nat), (∀ i x, l[i]? = some x → g (k + i) = f x) → firstN g (List.range' k l.length) = firstN f l
  | [], _, _ => rfl
  | x :: l, k, h => by
    rw [List.length_cons, List.range'_succ]
    unfold firstN
    rw [show g k = f x from h 0 x rfl, firstN_list f g l (k + 1) (fun i y hy => by rw [show k + 1 + i = k + (i + 1) by omega]; exact h (i + 1) y (by simpa using hy))]

def FirstKsC (w0 : World) (v fv : Value) (e : Nat → Nat) (n : Nat) (a : Act) (w : World) : Prop :=
  ∃ (k : Nat) (u2 u3 u4 u5 u6 u7 u8 u9 u10 u11 u12 u13 u14 u15 u16 u17 u18 u19 u20 u21 : Value), a = { tmps := #[v, fv, u2, u3, u4, u5, u6, u7, u8, u9, u10, u11, u12, u13, u14, u15, u16, u17, u18, u19, u20, u21], defers := [] } ∧ u5 = .int .i64 (k : Int) ∧ Fr no w0 w ∧ k ≤ n ∧ firstN e (List.range' k (n - k)) = firstN e (List.range' 0 n)

set_option maxRecDepth 100000 in
set_option maxHeartbeats 2000000 in
theorem firstKsC_any (w : World) (v : Value) (l : List Ks) (h : SlG elKs w v l) (e : Nat → Nat) (ASK : ∀ (w' : World) (k : Nat) (x : Ks), Fr no w w' → l[k]? = some x → Calls Tryz.prog 25 #[.agg #[.string x.name, .string x.super, .slice x.p.a x.p.n x.p.c, .slice x.f.a x.f.n x.f.c, .slice x.m.a x.m.n x.m.c]] w' fun r w2 => r = .returned (.int .i64 (e k : Int)) ∧ Fr no w' w2) :
    Calls Tryz.prog 24 #[v, .func (.func 25) #[] #[]] w fun r w' => r = .returned (.int .i64 (firstN e (List.range' 0 l.length) : Int)) ∧ Fr no w w' := by
  obtain ⟨ad, cp, rfl, hcap, hmx, hit⟩ := h
  unfold maxLen at hmx
  have HI : Hid (∀ (i : Nat) (x : Ks), l[i]? = some x → ∃ b off, ad = some ⟨b, off, none⟩ ∧ ∀ (j : Nat) (u : Value), (elKs.f x)[j]? = some u → w.cell? ⟨b, off + i * 5 + j, none⟩ = some u) := hit
  have HASK : Hid (_) := ASK
  have HL : Hid (∀ k, k < l.length → ∃ x, l[k]? = some x) := fun k hk => ⟨_, List.getElem?_eq_getElem hk⟩
  clear hit ASK
  generalize hn : l.length = n at *
  go_enter Tryz.func24, Tryz.ntmps24
  go_wp2_with fail
  refine wp_label_one 0 (FirstKsC w (.slice ad n cp) (.func (.func 25) #[] #[]) e n) (fun a' _ => n - (intOf (a'.tmps.getD 5 undef)).toNat) rfl ?_ ?_
  · intro K h0 hr hn'
    go_wp2_with fail
    go_step3
    rename_i hk
    exact hk _ _ (h0 _ _ ⟨0, _, _, _, _, _, _, _, _, _, _, _, _, _, _, _, _, _, _, _, _, rfl, rfl, Fr.refl _ _, by omega, rfl⟩)
  · rintro a' w' ⟨k, u2, u3, u4, u5, u6, u7, u8, u9, u10, u11, u12, u13, u14, u15, u16, u17, u18, u19, u20, u21, rfl, rfl, hw, hk, hF⟩ K hj hr hn'
    have HFE : Hid (firstN e (List.range' k (n - k)) = firstN e (List.range' 0 n)) := hF
    clear hF
    by_cases hend : k = n
    · subst hend
      have HE : Hid (firstN e (List.range' 0 k) = 0) := by
        show _ = _
        rw [← HFE.out, firstN_end]
      go_wp2_with fail
      refine hr _ _ ?_
      go_ret
      rw [HE.out]
      exact ⟨rfl, hw⟩
    · have hlt : k < n := by omega
      have hne : ((k : Int) == (n : Int)) = false := by simp; omega
      have hki : (k : Int) < (n : Int) := by omega
      obtain ⟨x, hx⟩ := HL.out k hlt
      obtain ⟨b, off, rfl, hc⟩ := HI.out k x hx
      have c0 : w'.cell? ⟨b, off + k * 5, none⟩ = some (.string x.name) := hw.cell (hc 0 _ rfl) (fun f => f)
      have c1 : w'.cell? ⟨b, off + k * 5 + 1, none⟩ = some (.string x.super) := hw.cell (hc 1 _ rfl) (fun f => f)
      have c2 : w'.cell? ⟨b, off + k * 5 + 2, none⟩ = some (.slice x.p.a x.p.n x.p.c) := hw.cell (hc 2 _ rfl) (fun f => f)
      have c3 : w'.cell? ⟨b, off + k * 5 + 3, none⟩ = some (.slice x.f.a x.f.n x.f.c) := hw.cell (hc 3 _ rfl) (fun f => f)
      have c4 : w'.cell? ⟨b, off + k * 5 + 4, none⟩ = some (.slice x.m.a x.m.n x.m.c) := hw.cell (hc 4 _ rfl) (fun f => f)
      have A := HASK.out w' k x hw hx
      have HW : Hid (Fr no w w') := hw
      have HN : Hid (firstN e (List.range' 0 n) = if e k ≠ 0 then e k else firstN e (List.range' (k + 1) (n - (k + 1)))) := by
        show _ = _
        rw [← HFE.out, firstN_step e k n hlt]
      clear hx hc hw
      generalize hask : e k = err at *
      by_cases h0 : err = 0
      · subst h0
        go_wp2_with fail
        refine A.mono ?_
        rintro r w2 ⟨rfl, f2⟩
        go_wp2_with fail
        go_step3
        refine hj _ _ ⟨k + 1, _, _, _, _, _, _, _, _, _, _, _, _, _, _, _, _, _, _, _, _, rfl, by go_num, HW.out.new f2 (fun _ _ f => f), by omega, ?_⟩ ?_
        · rw [HN.out, if_neg (by simp)]
        · simp [intOf]
          omega
      · have h0' : ((err : Int) == 0) = false := by simp; omega
        have HE : Hid (firstN e (List.range' 0 n) = err) := by show _ = _; rw [HN.out, if_pos h0]
        go_wp2_with fail
        refine A.mono ?_
        rintro r w2 ⟨rfl, f2⟩
        go_wp2_with fail
        refine hr _ _ ?_
        go_ret
        rw [HE.out]
        exact ⟨rfl, HW.out.new f2 (fun _ _ f => f)⟩

def FirstLkM (w0 : World) (v fv : Value) (e : Nat → Nat) (n : Nat) (a : Act) (w : World) : Prop :=
  ∃ (k : Nat) (u2 u3 u4 u5 u6 u7 u8 u9 u10 u11 u12 u13 u14 u15 u16 u17 u18 u19 u20 u21 : Value), a = { tmps := #[v, fv, u2, u3, u4, u5, u6, u7, u8, u9, u10, u11, u12, u13, u14, u15, u16, u17, u18, u19, u20, u21], defers := [] } ∧ u5 = .int .i64 (k : Int) ∧ Fr no w0 w ∧ k ≤ n ∧ firstN e (List.range' k (n - k)) = firstN e (List.range' 0 n)

set_option maxRecDepth 100000 in
set_option maxHeartbeats 2000000 in
theorem firstLkM_any (w : World) (v : Value) (l : List Lk) (h : SlG elLk w v l) (q : Nat) (e : Nat → Nat) (ASK : ∀ (w' : World) (k : Nat) (x : Lk), Fr no w w' → l[k]? = some x → Calls Tryz.prog 55 #[.pointer (some ⟨q, 0, none⟩), .agg #[.string x.k.name, .string x.k.super, .slice x.k.p.a x.k.p.n x.k.p.c, .slice x.k.f.a x.k.f.n x.k.f.c, .slice x.k.m.a x.k.m.n x.k.m.c, .slice x.s.a x.s.n x.s.c, .int .i64 x.wd, .map (some x.fm), .map (some x.mm)]] w' fun r w2 => r = .returned (.int .i64 (e k : Int)) ∧ Fr no w' w2) :
    Calls Tryz.prog 54 #[v, .func (.func 55) #[.pointer (some ⟨q, 0, none⟩)] #[]] w fun r w' => r = .returned (.int .i64 (firstN e (List.range' 0 l.length) : Int)) ∧ Fr no w w' := by
  obtain ⟨ad, cp, rfl, hcap, hmx, hit⟩ := h
  unfold maxLen at hmx
  have HI : Hid (∀ (i : Nat) (x : Lk), l[i]? = some x → ∃ b off, ad = some ⟨b, off, none⟩ ∧ ∀ (j : Nat) (u : Value), (elLk.f x)[j]? = some u → w.cell? ⟨b, off + i * 9 + j, none⟩ = some u) := hit
  have HASK : Hid (_) := ASK
  have HL : Hid (∀ k, k < l.length → ∃ x, l[k]? = some x) := fun k hk => ⟨_, List.getElem?_eq_getElem hk⟩
  clear hit ASK
  generalize hn : l.length = n at *
  go_enter Tryz.func54, Tryz.ntmps54
  go_wp2_with fail
  refine wp_label_one 0 (FirstLkM w (.slice ad n cp) (.func (.func 55) #[.pointer (some ⟨q, 0, none⟩)] #[]) e n) (fun a' _ => n - (intOf (a'.tmps.getD 5 undef)).toNat) rfl ?_ ?_
  · intro K h0 hr hn'
    go_wp2_with fail
    go_step3
    rename_i hk
    exact hk _ _ (h0 _ _ ⟨0, _, _, _, _, _, _, _, _, _, _, _, _, _, _, _, _, _, _, _, _, rfl, rfl, Fr.refl _ _, by omega, rfl⟩)
  · rintro a' w' ⟨k, u2, u3, u4, u5, u6, u7, u8, u9, u10, u11, u12, u13, u14, u15, u16, u17, u18, u19, u20, u21, rfl, rfl, hw, hk, hF⟩ K hj hr hn'
    have HFE : Hid (firstN e (List.range' k (n - k)) = firstN e (List.range' 0 n)) := hF
    clear hF
    by_cases hend : k = n
    · subst hend
      have HE : Hid (firstN e (List.range' 0 k) = 0) := by
        show _ = _
        rw [← HFE.out, firstN_end]
      go_wp2_with fail
      refine hr _ _ ?_
      go_ret
      rw [HE.out]
      exact ⟨rfl, hw⟩
    · have hlt : k < n := by omega
      have hne : ((k : Int) == (n : Int)) = false := by simp; omega
      have hki : (k : Int) < (n : Int) := by omega
      obtain ⟨x, hx⟩ := HL.out k hlt
      obtain ⟨b, off, rfl, hc⟩ := HI.out k x hx
      have c0 : w'.cell? ⟨b, off + k * 9, none⟩ = some (.string x.k.name) := hw.cell (hc 0 _ rfl) (fun f => f)
      have c1 : w'.cell? ⟨b, off + k * 9 + 1, none⟩ = some (.string x.k.super) := hw.cell (hc 1 _ rfl) (fun f => f)
      have c2 : w'.cell? ⟨b, off + k * 9 + 2, none⟩ = some (.slice x.k.p.a x.k.p.n x.k.p.c) := hw.cell (hc 2 _ rfl) (fun f => f)
      have c3 : w'.cell? ⟨b, off + k * 9 + 3, none⟩ = some (.slice x.k.f.a x.k.f.n x.k.f.c) := hw.cell (hc 3 _ rfl) (fun f => f)
      have c4 : w'.cell? ⟨b, off + k * 9 + 4, none⟩ = some (.slice x.k.m.a x.k.m.n x.k.m.c) := hw.cell (hc 4 _ rfl) (fun f => f)
      have c5 : w'.cell? ⟨b, off + k * 9 + 5, none⟩ = some (.slice x.s.a x.s.n x.s.c) := hw.cell (hc 5 _ rfl) (fun f => f)
      have c6 : w'.cell? ⟨b, off + k * 9 + 6, none⟩ = some (.int .i64 x.wd) := hw.cell (hc 6 _ rfl) (fun f => f)
      have c7 : w'.cell? ⟨b, off + k * 9 + 7, none⟩ = some (.map (some x.fm)) := hw.cell (hc 7 _ rfl) (fun f => f)
      have c8 : w'.cell? ⟨b, off + k * 9 + 8, none⟩ = some (.map (some x.mm)) := hw.cell (hc 8 _ rfl) (fun f => f)
      have A := HASK.out w' k x hw hx
      have HW : Hid (Fr no w w') := hw
      have HN : Hid (firstN e (List.range' 0 n) = if e k ≠ 0 then e k else firstN e (List.range' (k + 1) (n - (k + 1)))) := by
        show _ = _
        rw [← HFE.out, firstN_step e k n hlt]
      clear hx hc hw
      generalize hask : e k = err at *
      by_cases h0 : err = 0
      · subst h0
        go_wp2_with fail
        refine A.mono ?_
        rintro r w2 ⟨rfl, f2⟩
        go_wp2_with fail
        go_step3
        refine hj _ _ ⟨k + 1, _, _, _, _, _, _, _, _, _, _, _, _, _, _, _, _, _, _, _, _, rfl, by go_num, HW.out.new f2 (fun _ _ f => f), by omega, ?_⟩ ?_
        · rw [HN.out, if_neg (by simp)]
        · simp [intOf]
          omega
      · have h0' : ((err : Int) == 0) = false := by simp; omega
        have HE : Hid (firstN e (List.range' 0 n) = err) := by show _ = _; rw [HN.out, if_pos h0]
        go_wp2_with fail
        refine A.mono ?_
        rintro r w2 ⟨rfl, f2⟩
        go_wp2_with fail
        refine hr _ _ ?_
        go_ret
        rw [HE.out]
        exact ⟨rfl, HW.out.new f2 (fun _ _ f => f)⟩

def FirstLkP (w0 : World) (v fv : Value) (e : Nat → Nat) (n : Nat) (a : Act) (w : World) : Prop :=
  ∃ (k : Nat) (u2 u3 u4 u5 u6 u7 u8 u9 u10 u11 u12 u13 u14 u15 u16 u17 u18 u19 u20 u21 : Value), a = { tmps := #[v, fv, u2, u3, u4, u5, u6, u7, u8, u9, u10, u11, u12, u13, u14, u15, u16, u17, u18, u19, u20, u21], defers := [] } ∧ u5 = .int .i64 (k : Int) ∧ Fr no w0 w ∧ k ≤ n ∧ firstN e (List.range' k (n - k)) = firstN e (List.range' 0 n)

set_option maxRecDepth 100000 in
set_option maxHeartbeats 2000000 in
theorem firstLkP_any (w : World) (v : Value) (l : List Lk) (h : SlG elLk w v l) (q : Nat) (e : Nat → Nat) (ASK : ∀ (w' : World) (k : Nat) (x : Lk), Fr no w w' → l[k]? = some x → Calls Tryz.prog 56 #[.pointer (some ⟨q, 0, none⟩), .agg #[.string x.k.name, .string x.k.super, .slice x.k.p.a x.k.p.n x.k.p.c, .slice x.k.f.a x.k.f.n x.k.f.c, .slice x.k.m.a x.k.m.n x.k.m.c, .slice x.s.a x.s.n x.s.c, .int .i64 x.wd, .map (some x.fm), .map (some x.mm)]] w' fun r w2 => r = .returned (.int .i64 (e k : Int)) ∧ Fr no w' w2) :
    Calls Tryz.prog 54 #[v, .func (.func 56) #[.pointer (some ⟨q, 0, none⟩)] #[]] w fun r w' => r = .returned (.int .i64 (firstN e (List.range' 0 l.length) : Int)) ∧ Fr no w w' := by
  obtain ⟨ad, cp, rfl, hcap, hmx, hit⟩ := h
  unfold maxLen at hmx
  have HI : Hid (∀ (i : Nat) (x : Lk), l[i]? = some x → ∃ b off, ad = some ⟨b, off, none⟩ ∧ ∀ (j : Nat) (u : Value), (elLk.f x)[j]? = some u → w.cell? ⟨b, off + i * 9 + j, none⟩ = some u) := hit
  have HASK : Hid (_) := ASK
  have HL : Hid (∀ k, k < l.length → ∃ x, l[k]? = some x) := fun k hk => ⟨_, List.getElem?_eq_getElem hk⟩
  clear hit ASK
  generalize hn : l.length = n at *
  go_enter Tryz.func54, Tryz.ntmps54
  go_wp2_with fail
  refine wp_label_one 0 (FirstLkP w (.slice ad n cp) (.func (.func 56) #[.pointer (some ⟨q, 0, none⟩)] #[]) e n) (fun a' _ => n - (intOf (a'.tmps.getD 5 undef)).toNat) rfl ?_ ?_
  · intro K h0 hr hn'
    go_wp2_with fail
    go_step3
    rename_i hk
    exact hk _ _ (h0 _ _ ⟨0, _, _, _, _, _, _, _, _, _, _, _, _, _, _, _, _, _, _, _, _, rfl, rfl, Fr.refl _ _, by omega, rfl⟩)
  · rintro a' w' ⟨k, u2, u3, u4, u5, u6, u7, u8, u9, u10, u11, u12, u13, u14, u15, u16, u17, u18, u19, u20, u21, rfl, rfl, hw, hk, hF⟩ K hj hr hn'
    have HFE : Hid (firstN e (List.range' k (n - k)) = firstN e (List.range' 0 n)) := hF
    clear hF
    by_cases hend : k = n
    · subst hend
      have HE : Hid (firstN e (List.range' 0 k) = 0) := by
        show _ = _
        rw [← HFE.out, firstN_end]
      go_wp2_with fail
      refine hr _ _ ?_
      go_ret
      rw [HE.out]
      exact ⟨rfl, hw⟩
    · have hlt : k < n := by omega
      have hne : ((k : Int) == (n : Int)) = false := by simp; omega
      have hki : (k : Int) < (n : Int) := by omega
      obtain ⟨x, hx⟩ := HL.out k hlt
      obtain ⟨b, off, rfl, hc⟩ := HI.out k x hx
      have c0 : w'.cell? ⟨b, off + k * 9, none⟩ = some (.string x.k.name) := hw.cell (hc 0 _ rfl) (fun f => f)
      have c1 : w'.cell? ⟨b, off + k * 9 + 1, none⟩ = some (.string x.k.super) := hw.cell (hc 1 _ rfl) (fun f => f)
      have c2 : w'.cell? ⟨b, off + k * 9 + 2, none⟩ = some (.slice x.k.p.a x.k.p.n x.k.p.c) := hw.cell (hc 2 _ rfl) (fun f => f)
      have c3 : w'.cell? ⟨b, off + k * 9 + 3, none⟩ = some (.slice x.k.f.a x.k.f.n x.k.f.c) := hw.cell (hc 3 _ rfl) (fun f => f)
      have c4 : w'.cell? ⟨b, off + k * 9 + 4, none⟩ = some (.slice x.k.m.a x.k.m.n x.k.m.c) := hw.cell (hc 4 _ rfl) (fun f => f)
      have c5 : w'.cell? ⟨b, off + k * 9 + 5, none⟩ = some (.slice x.s.a x.s.n x.s.c) := hw.cell (hc 5 _ rfl) (fun f => f)
      have c6 : w'.cell? ⟨b, off + k * 9 + 6, none⟩ = some (.int .i64 x.wd) := hw.cell (hc 6 _ rfl) (fun f => f)
      have c7 : w'.cell? ⟨b, off + k * 9 + 7, none⟩ = some (.map (some x.fm)) := hw.cell (hc 7 _ rfl) (fun f => f)
      have c8 : w'.cell? ⟨b, off + k * 9 + 8, none⟩ = some (.map (some x.mm)) := hw.cell (hc 8 _ rfl) (fun f => f)
      have A := HASK.out w' k x hw hx
      have HW : Hid (Fr no w w') := hw
      have HN : Hid (firstN e (List.range' 0 n) = if e k ≠ 0 then e k else firstN e (List.range' (k + 1) (n - (k + 1)))) := by
        show _ = _
        rw [← HFE.out, firstN_step e k n hlt]
      clear hx hc hw
      generalize hask : e k = err at *
      by_cases h0 : err = 0
      · subst h0
        go_wp2_with fail
        refine A.mono ?_
        rintro r w2 ⟨rfl, f2⟩
        go_wp2_with fail
        go_step3
        refine hj _ _ ⟨k + 1, _, _, _, _, _, _, _, _, _, _, _, _, _, _, _, _, _, _, _, _, rfl, by go_num, HW.out.new f2 (fun _ _ f => f), by omega, ?_⟩ ?_
        · rw [HN.out, if_neg (by simp)]
        · simp [intOf]
          omega
      · have h0' : ((err : Int) == 0) = false := by simp; omega
        have HE : Hid (firstN e (List.range' 0 n) = err) := by show _ = _; rw [HN.out, if_pos h0]
        go_wp2_with fail
        refine A.mono ?_
        rintro r w2 ⟨rfl, f2⟩
        go_wp2_with fail
        refine hr _ _ ?_
        go_ret
        rw [HE.out]
        exact ⟨rfl, HW.out.new f2 (fun _ _ f => f)⟩

def FirstCsC (w0 : World) (v fv : Value) (e : Nat → Nat) (n : Nat) (a : Act) (w : World) : Prop :=
  ∃ (k : Nat) (u2 u3 u4 u5 u6 u7 u8 u9 u10 u11 u12 u13 u14 u15 u16 u17 u18 u19 u20 u21 : Value), a = { tmps := #[v, fv, u2, u3, u4, u5, u6, u7, u8, u9, u10, u11, u12, u13, u14, u15, u16, u17, u18, u19, u20, u21], defers := [] } ∧ u5 = .int .i64 (k : Int) ∧ Fr no w0 w ∧ k ≤ n ∧ firstN e (List.range' k (n - k)) = firstN e (List.range' 0 n)

set_option maxRecDepth 100000 in
set_option maxHeartbeats 2000000 in
theorem firstCsC_any (w : World) (v : Value) (l : List Cs) (h : SlG elCs w v l) (q : Nat) (e : Nat → Nat) (ASK : ∀ (w' : World) (k : Nat) (x : Cs), Fr no w w' → l[k]? = some x → Calls Tryz.prog 94 #[.pointer (some ⟨q, 0, none⟩), .agg #[.int .i64 x.k, .int .i64 x.n, .complex .f64 x.re x.im, .string x.c, .string x.m]] w' fun r w2 => r = .returned (.int .i64 (e k : Int)) ∧ Fr no w' w2) :
    Calls Tryz.prog 93 #[v, .func (.func 94) #[.pointer (some ⟨q, 0, none⟩)] #[]] w fun r w' => r = .returned (.int .i64 (firstN e (List.range' 0 l.length) : Int)) ∧ Fr no w w' := by
  obtain ⟨ad, cp, rfl, hcap, hmx, hit⟩ := h
  unfold maxLen at hmx
  have HI : Hid (∀ (i : Nat) (x : Cs), l[i]? = some x → ∃ b off, ad = some ⟨b, off, none⟩ ∧ ∀ (j : Nat) (u : Value), (elCs.f x)[j]? = some u → w.cell? ⟨b, off + i * 5 + j, none⟩ = some u) := hit
  have HASK : Hid (_) := ASK
  have HL : Hid (∀ k, k < l.length → ∃ x, l[k]? = some x) := fun k hk => ⟨_, List.getElem?_eq_getElem hk⟩
  clear hit ASK
  generalize hn : l.length = n at *
  go_enter Tryz.func93, Tryz.ntmps93
  go_wp2_with fail
  refine wp_label_one 0 (FirstCsC w (.slice ad n cp) (.func (.func 94) #[.pointer (some ⟨q, 0, none⟩)] #[]) e n) (fun a' _ => n - (intOf (a'.tmps.getD 5 undef)).toNat) rfl ?_ ?_
  · intro K h0 hr hn'
    go_wp2_with fail
    go_step3
    rename_i hk
    exact hk _ _ (h0 _ _ ⟨0, _, _, _, _, _, _, _, _, _, _, _, _, _, _, _, _, _, _, _, _, rfl, rfl, Fr.refl _ _, by omega, rfl⟩)
  · rintro a' w' ⟨k, u2, u3, u4, u5, u6, u7, u8, u9, u10, u11, u12, u13, u14, u15, u16, u17, u18, u19, u20, u21, rfl, rfl, hw, hk, hF⟩ K hj hr hn'
    have HFE : Hid (firstN e (List.range' k (n - k)) = firstN e (List.range' 0 n)) := hF
    clear hF
    by_cases hend : k = n
    · subst hend
      have HE : Hid (firstN e (List.range' 0 k) = 0) := by
        show _ = _
        rw [← HFE.out, firstN_end]
      go_wp2_with fail
      refine hr _ _ ?_
      go_ret
      rw [HE.out]
      exact ⟨rfl, hw⟩
    · have hlt : k < n := by omega
      have hne : ((k : Int) == (n : Int)) = false := by simp; omega
      have hki : (k : Int) < (n : Int) := by omega
      obtain ⟨x, hx⟩ := HL.out k hlt
      obtain ⟨b, off, rfl, hc⟩ := HI.out k x hx
      have c0 : w'.cell? ⟨b, off + k * 5, none⟩ = some (.int .i64 x.k) := hw.cell (hc 0 _ rfl) (fun f => f)
      have c1 : w'.cell? ⟨b, off + k * 5 + 1, none⟩ = some (.int .i64 x.n) := hw.cell (hc 1 _ rfl) (fun f => f)
      have c2 : w'.cell? ⟨b, off + k * 5 + 2, none⟩ = some (.complex .f64 x.re x.im) := hw.cell (hc 2 _ rfl) (fun f => f)
      have c3 : w'.cell? ⟨b, off + k * 5 + 3, none⟩ = some (.string x.c) := hw.cell (hc 3 _ rfl) (fun f => f)
      have c4 : w'.cell? ⟨b, off + k * 5 + 4, none⟩ = some (.string x.m) := hw.cell (hc 4 _ rfl) (fun f => f)
      have A := HASK.out w' k x hw hx
      have HW : Hid (Fr no w w') := hw
      have HN : Hid (firstN e (List.range' 0 n) = if e k ≠ 0 then e k else firstN e (List.range' (k + 1) (n - (k + 1)))) := by
        show _ = _
        rw [← HFE.out, firstN_step e k n hlt]
      clear hx hc hw
      generalize hask : e k = err at *
      by_cases h0 : err = 0
      · subst h0
        go_wp2_with fail
        refine A.mono ?_
        rintro r w2 ⟨rfl, f2⟩
        go_wp2_with fail
        go_step3
        refine hj _ _ ⟨k + 1, _, _, _, _, _, _, _, _, _, _, _, _, _, _, _, _, _, _, _, _, rfl, by go_num, HW.out.new f2 (fun _ _ f => f), by omega, ?_⟩ ?_
        · rw [HN.out, if_neg (by simp)]
        · simp [intOf]
          omega
      · have h0' : ((err : Int) == 0) = false := by simp; omega
        have HE : Hid (firstN e (List.range' 0 n) = err) := by show _ = _; rw [HN.out, if_pos h0]
        go_wp2_with fail
        refine A.mono ?_
        rintro r w2 ⟨rfl, f2⟩
        go_wp2_with fail
        refine hr _ _ ?_
        go_ret
        rw [HE.out]
        exact ⟨rfl, HW.out.new f2 (fun _ _ f => f)⟩
end Go.Proofs.YtpfkigoffllieaaGreatDoor

/- The method that is called. -/
namespace Go.Proofs.YtpfkigoffllieaaGreatDoor
open Go.ChangeShapes Go.WideShapes Go.ChangeAt Go.RowKit
open H (ky Owns MapOf ix up nameAt anc Fine obj fault)

/-- The places of methods are places of methods of that name. -/
def MmOk (Cs : List Cl) (y : Li) : Prop := ∀ n q, y.mm n = some q → q.1 < Cs.length ∧ ∃ m, methAt Cs q = some m ∧ m.name = n
theorem mmOk_0 (Cs : List Cl) (c : Cl) : MmOk Cs (li0 c) := fun n k h => by simp [li0] at h
theorem mmOk_fs {Cs : List Cl} (cn : ByteArray) : ∀ (l : List Fd) {y : Li}, MmOk Cs y → MmOk Cs (takeFs cn y l)
  | [], _, h => h
  | _ :: r, _, h => mmOk_fs cn r h
theorem mmOk_ms {Cs : List Cl} (num : Nat) (hn : num < Cs.length) : ∀ (l : List Mt) (a : Nat) {y : Li}, MmOk Cs y → (∀ i m, l[i]? = some m → (clsAt Cs num).methods[a + i]? = some m) → MmOk Cs (takeMs num a y l)
  | [], _, _, h, _ => h
  | m :: r, a, y, h, hl => by
    refine mmOk_ms num hn r (a + 1) (y := takeM num a y m) (fun n q hq => ?_) (fun i m' hi => ?_)
    · simp only [takeM] at hq
      split at hq
      · rename_i e
        simp only [Option.some.injEq] at hq
        subst hq
        exact ⟨hn, m, hl 0 m rfl, e⟩
      · exact h n q hq
    · have := hl (i + 1) m' (by simpa using hi)
      rw [show a + 1 + i = a + (i + 1) by omega]
      exact this
theorem mmOk_n (Cs : List Cl) : ∀ (l : List Nat) {y : Li}, (∀ j ∈ l, j < Cs.length) → MmOk Cs y → MmOk Cs (layN Cs y l)
  | [], _, _, h => h
  | j :: r, _, hl, h => mmOk_n Cs r (fun k hk => hl k (by simp [hk])) (mmOk_ms j (hl j (by simp)) _ 0 (mmOk_fs _ _ h) (fun i m hi => by simpa using hi))
theorem mmOk_lay (Cs : List Cl) (A : List Nat) (hA : Fine Cs.length A) (i : Nat) (hi : i < Cs.length) : MmOk Cs (lay Cs A i) :=
  mmOk_n _ _ (fun j hj => H.up_lt hA _ i hi j (List.mem_reverse.1 hj)) (mmOk_0 _ _)

theorem findOf_ok {Cs : List Cl} {A : List Nat} (hA : Fine Cs.length A) {cl s : ByteArray} {q : Nat × Nat} (h : findOf (namesOf Cs) (layAll Cs A) cl s = some q) : q.1 < Cs.length ∧ ∃ m, methAt Cs q = some m ∧ m.name = s := by
  unfold findOf at h
  cases hi : ix cl (namesOf Cs) with
  | none => rw [hi] at h; simp at h
  | some i =>
    have hil : i < Cs.length := by have := H.ix_lt hi; simpa [namesOf] using this
    rw [hi] at h
    simp only [layAll_get hil] at h
    exact mmOk_lay Cs A hA i hil s q h

def zMs : Ms := ⟨⟨#[]⟩, ⟨none, 0, 0⟩, ⟨0, ⟨#[]⟩⟩, 0, 0, ⟨none, 0, 0⟩, ⟨none, 0, 0⟩⟩

theorem results_11 (w : World) (r : Nat) (y x0 x1 x2 x3 x4 x5 x6 x7 z : Value) (h : w.heap[r]? = some (.cells #[x0, x1, x2, x3, x4, x5, x6, x7] 64 (0, 0))) (tmps : Array Value) (h1 : tmps.getD 6 undef = y) (h2 : tmps.getD 7 undef = .pointer (some ⟨r, 0, none⟩)) (h3 : tmps.getD 8 undef = z) :
    (results Tryz.f35 tmps).run Tryz.prog w = .ok (.tuple #[y, .agg #[x0, x1, x2, x3, x4, x5, x6, x7], z]) w := by
  have hl : (loadVar 64 ⟨r, 0, none⟩).run Tryz.prog w = .ok (.agg #[x0, x1, x2, x3, x4, x5, x6, x7]) w := run_loadVar_row (P := Tryz.prog) w r 64 64 #[x0, x1, x2, x3, x4, x5, x6, x7] (0, 0) _ h Tryz.underlying64 rfl (by kernel_rfl)
  have h1' : tmps[6]?.getD undef = y := by simpa using h1
  have h2' : tmps[7]?.getD undef = .pointer (some ⟨r, 0, none⟩) := by simpa using h2
  have h3' : tmps[8]?.getD undef = z := by simpa using h3
  simp [results, asAddr, h1', h2', h3', hl]

/-- What Method tells. -/
def MethAt (w' : World) (Cs : List Cl) (r : Option (Nat × Nat)) (e : Ending) : Prop :=
  (r = none → e = .returned (.tuple #[.string ⟨#[]⟩, msV zMs, .bool false])) ∧ ∀ q, r = some q → ∃ s' m, methAt Cs q = some m ∧ e = .returned (.tuple #[.string (clsAt Cs q.1).name, msV s', .bool true]) ∧ MtOwn w' s' m

set_option maxRecDepth 100000 in
set_option maxHeartbeats 4000000 in
theorem method_any (w : World) (p : Nat) (Cs : List Cl) (A : List Nat) (h : Prg w p Cs A) (hsm : ∀ c ∈ Cs, SmallC c) (cl s : ByteArray) (hcl : cl.size ≤ 1099511627776) (hs : s.size ≤ 1099511627776) :
    Calls Tryz.prog 35 #[.pointer (some ⟨p, 0, none⟩), .string cl, .string s] w fun e w' => MethAt w' Cs (findOf (namesOf Cs) (layAll Cs A) cl s) e ∧ Fr no w w' := by
  have G0 : Fr no w (w.alloc (.cells #[.string ⟨#[]⟩, .slice none 0 0, .int .i64 0, .string ⟨#[]⟩, .int .i64 0, .int .i64 0, .slice none 0 0, .slice none 0 0] 64)) := (Fr.refl no w).alloc _ _
  have E0 : (w.alloc (.cells #[.string ⟨#[]⟩, .slice none 0 0, .int .i64 0, .string ⟨#[]⟩, .int .i64 0, .int .i64 0, .slice none 0 0, .slice none 0 0] 64)).heap[w.heap.size]? = some (.cells #[.string ⟨#[]⟩, .slice none 0 0, .int .i64 0, .string ⟨#[]⟩, .int .i64 0, .int .i64 0, .slice none 0 0, .slice none 0 0] 64 (0, 0)) := heap_alloc_new w _
  have FI := find_any _ p Cs A (h.keep G0) cl s hcl hs
  have HP : Hid (∀ w', Fr no w w' → Prg w' p Cs A) := fun w' hf => h.keep hf
  have HQ : Hid (∀ q, findOf (namesOf Cs) (layAll Cs A) cl s = some q → q.1 < Cs.length ∧ ∃ m, methAt Cs q = some m ∧ m.name = s) := fun q hq => findOf_ok h.fine hq
  have HE : Hid (_ ∧ _) := ⟨E0, G0⟩
  clear h G0 E0
  generalize hW : w.alloc (.cells #[.string ⟨#[]⟩, .slice none 0 0, .int .i64 0, .string ⟨#[]⟩, .int .i64 0, .int .i64 0, .slice none 0 0, .slice none 0 0] 64) = W at *
  generalize hr : findOf (namesOf Cs) (layAll Cs A) cl s = r at *
  cases r with
  | none =>
    simp only [Option.isSome_none] at FI
    go_enter Tryz.func35, Tryz.ntmps35
    go_wp2_with fail
    refine FI.mono ?_
    rintro e w1 ⟨a, b, rfl, -, f1⟩
    have E1 := f1.heap HE.out.1 (fun f => f)
    have G2 : Fr no w1 (w1.alloc (.cells #[.int .i64 a, .int .i64 b] 128)) := (Fr.refl no w1).alloc _ _
    have E2 := G2.heap E1 (fun f => f)
    obtain ⟨b0, b1, b2, b3, b4, b5, b6, b7⟩ := box8 E2
    have fb := fun o => frozen_at (o := o) E2
    have HC : Hid (_) := chain8 E2 (.string ⟨#[]⟩) (.slice none 0 0) (.int .i64 0) (.string ⟨#[]⟩) (.int .i64 0) (.int .i64 0) (.slice none 0 0) (.slice none 0 0)
    have HFC : Hid (_) := frc8 (w1.alloc (.cells #[.int .i64 a, .int .i64 b] 128)) w.heap.size (.string ⟨#[]⟩) (.slice none 0 0) (.int .i64 0) (.string ⟨#[]⟩) (.int .i64 0) (.int .i64 0) (.slice none 0 0) (.slice none 0 0)
    have HG : Hid (Fr no w (w1.alloc (.cells #[.int .i64 a, .int .i64 b] 128))) := (HE.out.2.new f1 (fun _ _ f => f)).new G2 (fun _ _ f => f)
    clear E1 G2 E2 FI f1
    generalize hW2 : w1.alloc (.cells #[.int .i64 a, .int .i64 b] 128) = W2 at *
    go_wp2_with fail
    generalize hV : (((((((W2.setCell ⟨w.heap.size, 0, none⟩ (.string ⟨#[]⟩)).setCell ⟨w.heap.size, 1, none⟩ (.slice none 0 0)).setCell ⟨w.heap.size, 2, none⟩ (.int .i64 0)).setCell ⟨w.heap.size, 3, none⟩ (.string ⟨#[]⟩)).setCell ⟨w.heap.size, 4, none⟩ (.int .i64 0)).setCell ⟨w.heap.size, 5, none⟩ (.int .i64 0)).setCell ⟨w.heap.size, 6, none⟩ (.slice none 0 0)).setCell ⟨w.heap.size, 7, none⟩ (.slice none 0 0) = V at *
    refine bodyPost_ret (results_11 V w.heap.size (.string ⟨#[]⟩) (.string ⟨#[]⟩) (.slice none 0 0) (.int .i64 0) (.string ⟨#[]⟩) (.int .i64 0) (.int .i64 0) (.slice none 0 0) (.slice none 0 0) (.bool false) HC.out _ rfl rfl rfl) rfl ?_
    exact ⟨⟨fun _ => rfl, fun q hq => by simp at hq⟩, HG.out.new HFC.out (fun i hi e => by omega)⟩
  | some q =>
    simp only [Option.isSome_some] at FI
    obtain ⟨hq1, m, hm, -⟩ := HQ.out q rfl
    have HMEM : Hid (clsAt Cs q.1 ∈ Cs) := by
      show _ ∈ _
      unfold clsAt
      rw [List.getD_eq_getElem?_getD, List.getElem?_eq_getElem hq1]
      exact List.getElem_mem hq1
    go_enter Tryz.func35, Tryz.ntmps35
    go_wp2_with fail
    refine FI.mono ?_
    rintro e w1 ⟨a, b, rfl, hab, f1⟩
    obtain ⟨rfl, rfl⟩ := hab q rfl
    have g1 : Fr no w w1 := HE.out.2.new f1 (fun _ _ f => f)
    have G2 : Fr no w1 (w1.alloc (.cells #[.int .i64 (q.1 : Int), .int .i64 (q.2 : Int)] 128)) := (Fr.refl no w1).alloc _ _
    have g2 := g1.new G2 (fun _ _ f => f)
    have E2 := G2.heap (f1.heap HE.out.1 (fun f => f)) (fun f => f)
    have B2 : (w1.alloc (.cells #[.int .i64 (q.1 : Int), .int .i64 (q.2 : Int)] 128)).heap[w1.heap.size]? = some (.cells #[.int .i64 (q.1 : Int), .int .i64 (q.2 : Int)] 128 (0, 0)) := heap_alloc_new _ _
    obtain ⟨w0, hp, mp, v, X, ch, P, -⟩ := (HP.out _ g2).ex
    obtain ⟨x, y, hx, hy, L⟩ := P.get (i := q.1) (by rw [layAll_len]; exact hq1)
    have hyc : y.c = clsAt Cs q.1 := by
      rw [layAll_get hq1] at hy
      simp only [Option.some.injEq] at hy
      rw [← hy, lay_cls]
    obtain ⟨qv, cv, rfl⟩ := P.form
    rw [layAll_len] at P
    obtain ⟨g, rfl⟩ := P.row.some_of (fun e => by rw [e] at hx; simp at hx)
    obtain ⟨-, -, b2⟩ := cells3 P.pb
    have d : ∀ j u, (lkC x)[j]? = some u → _ := fun j u hj => P.row.cell okLk hx hj
    have d0 := d 0 _ rfl
    have d1 := d 1 _ rfl
    have d2 := d 2 _ rfl
    have d3 := d 3 _ rfl
    have d4 := d 4 _ rfl
    simp only [elLk, Nat.add_zero] at d0 d1 d2 d3 d4
    have y0 := cell_at (o := 0) B2
    have y1 := cell_at (o := 1) B2
    simp only [List.getElem?_toArray, List.getElem?_cons_zero, List.getElem?_cons_succ] at y0 y1
    have hqi : (q.1 : Int) < (Cs.length : Int) := by omega
    have HK : Hid (_ ∧ _ ∧ _ ∧ _ ∧ _) := ⟨E2, B2, g2, L.k, hyc⟩
    clear P L hx hy d E2 B2 g2 G2 g1 f1 FI hyc hab
    generalize hW2 : w1.alloc (.cells #[.int .i64 (q.1 : Int), .int .i64 (q.2 : Int)] 128) = W2 at *
    generalize hcl2 : Cs.length = n at *
    go_wp2_with fail
    have HS0 : Hid (Fr no W2 W2.drew) := (Fr.refl no W2).drew
    have F3 : Hid (Fr no W2 (W2.drew.alloc (.cells #[.string ⟨#[]⟩, .string ⟨#[]⟩, .slice none 0 0, .slice none 0 0, .slice none 0 0] 68))) := (Fr.refl no W2).drew.alloc _ _
    obtain ⟨W4, hst4, hb4, F4⟩ := store_mid (W2.drew.alloc (.cells #[.string ⟨#[]⟩, .string ⟨#[]⟩, .slice none 0 0, .slice none 0 0, .slice none 0 0] 68)) W2.heap.size 0 68 68 #[.string ⟨#[]⟩, .string ⟨#[]⟩, .slice none 0 0, .slice none 0 0, .slice none 0 0] #[.string x.k.name, .string x.k.super, .slice x.k.p.a x.k.p.n x.k.p.c, .slice x.k.f.a x.k.f.n x.k.f.c, .slice x.k.m.a x.k.m.n x.k.m.c] (heap_alloc_new W2.drew _) (Nat.le_refl 5) (by kernel_rfl) (by kernel_rfl)
    have hb4' : W4.heap[W2.heap.size]? = some (.cells #[.string x.k.name, .string x.k.super, .slice x.k.p.a x.k.p.n x.k.p.c, .slice x.k.f.a x.k.f.n x.k.f.c, .slice x.k.m.a x.k.m.n x.k.m.c] 68 (0, 0)) := hb4
    refine late_begin (S := fun w' => Fr no W2 w') (g := 10) (by kernel_rfl) ?_
    refine late_pure 0 (.pointer (some ⟨p, 0, none⟩)) rfl (by kernel_rfl) (by kernel_rfl) (by kernel_rfl) (fun _ _ _ h => h) (by decide) (yields rfl (fun _ _ => ev_move 0 _ rfl (by kernel_rfl))) (fun _ => HS0.out) ?_
    refine late_pure 1 (.pointer (some ⟨p, 0, none⟩)) rfl (by kernel_rfl) (by kernel_rfl) (by kernel_rfl) (fun _ _ _ h => h) (by decide) (yields rfl (fun _ _ => ev_nil 22 ⟨p, 0, none⟩ rfl (by kernel_rfl))) (fun _ => HS0.out) ?_
    refine late_pure 2 (.pointer (some ⟨p, 2, none⟩)) rfl (by kernel_rfl) (by kernel_rfl) (by kernel_rfl) (fun _ _ _ h => h) (by decide) (yields rfl (fun _ _ => ev_field 111 23 2 (.pointer (some ⟨p, 0, none⟩)) _ rfl (by kernel_rfl) (by kernel_rfl))) (fun _ => HS0.out) ?_
    refine late_take 3 (.slice (some ⟨g, 0, none⟩) n cv) rfl (by kernel_rfl) (by kernel_rfl) (by kernel_rfl) (fun _ _ _ h => h) (waits_of (by kernel_rfl)) (by decide) (by kernel_rfl) (yields rfl (fun w' hS => ev_load 109 24 (.pointer (some ⟨p, 2, none⟩)) _ rfl (by kernel_rfl) (by simp [go_sem, hS.cell b2 (fun f => f)]))) HS0.out ?_
    refine late_pure 4 (.pointer (some ⟨w1.heap.size, 0, none⟩)) rfl (by kernel_rfl) (by kernel_rfl) (by kernel_rfl) (fun _ _ _ h => h) (by decide) (yields rfl (fun _ _ => ev_field 128 9 0 (.pointer (some ⟨w1.heap.size, 0, none⟩)) _ rfl (by kernel_rfl) (by kernel_rfl))) (fun _ => HS0.out) ?_
    refine late_take 5 (.int .i64 (q.1 : Int)) rfl (by kernel_rfl) (by kernel_rfl) (by kernel_rfl) (fun _ _ _ h => h) (waits_of (by kernel_rfl)) (by decide) (by kernel_rfl) (yields rfl (fun w' hS => ev_load 3 26 (.pointer (some ⟨w1.heap.size, 0, none⟩)) _ rfl (by kernel_rfl) (by simp [go_sem, hS.cell y0 (fun f => f)]))) HS0.out ?_
    refine late_pure 6 (.pointer (some ⟨g, q.1 * 9, none⟩)) rfl (by kernel_rfl) (by kernel_rfl) (by kernel_rfl) (fun _ _ _ h => h) (by decide) (yields rfl (fun _ _ => ev_index 109 25 27 (.slice (some ⟨g, 0, none⟩) n cv) (.int .i64 (q.1 : Int)) _ rfl (by kernel_rfl) (by kernel_rfl) (by simp [go_sem, hqi]))) (fun _ => HS0.out) ?_
    refine late_pure 7 (.pointer (some ⟨g, q.1 * 9, none⟩)) rfl (by kernel_rfl) (by kernel_rfl) (by kernel_rfl) (fun _ _ _ h => h) (by decide) (yields rfl (fun _ _ => ev_field 119 28 0 (.pointer (some ⟨g, q.1 * 9, none⟩)) _ rfl (by kernel_rfl) (by kernel_rfl))) (fun _ => HS0.out) ?_
    refine late_take 8 (.agg #[.string x.k.name, .string x.k.super, .slice x.k.p.a x.k.p.n x.k.p.c, .slice x.k.f.a x.k.f.n x.k.f.c, .slice x.k.m.a x.k.m.n x.k.m.c]) rfl (by kernel_rfl) (by kernel_rfl) (by kernel_rfl) (fun _ _ _ h => h) (waits_of (by kernel_rfl)) (by decide) (by kernel_rfl) (yields rfl (fun w' hS => ev_load 68 29 (.pointer (some ⟨g, q.1 * 9, none⟩)) _ rfl (by kernel_rfl) (run_loadAt_mid (P := Tryz.prog) w' g (q.1 * 9) 68 [.string x.k.name, .string x.k.super, .slice x.k.p.a x.k.p.n x.k.p.c, .slice x.k.f.a x.k.f.n x.k.f.c, .slice x.k.m.a x.k.m.n x.k.m.c] _ (fun j v hv => by match j, hv with | 0, hv => exact (Option.some.inj hv) ▸ hS.cell d0 (fun f => f) | 1, hv => exact (Option.some.inj hv) ▸ hS.cell d1 (fun f => f) | 2, hv => exact (Option.some.inj hv) ▸ hS.cell d2 (fun f => f) | 3, hv => exact (Option.some.inj hv) ▸ hS.cell d3 (fun f => f) | 4, hv => exact (Option.some.inj hv) ▸ hS.cell d4 (fun f => f) | n + 5, hv => simp at hv) Tryz.underlying68 rfl (by kernel_rfl)))) HS0.out ?_
    refine late_all [9] (by kernel_rfl) (by simp) (fun j hj => ?_)
    obtain rfl := one_of hj
    refine late_op (v := .pointer (some ⟨W2.heap.size, 0, none⟩)) (w' := W2.drew.alloc (.cells #[.string ⟨#[]⟩, .string ⟨#[]⟩, .slice none 0 0, .slice none 0 0, .slice none 0 0] 68)) rfl rfl (by kernel_rfl) ⟨fun _ => F3.out, ?_⟩
    refine late_all [10] (by kernel_rfl) (by simp) (fun j hj => ?_)
    obtain rfl := one_of hj
    refine late_skip rfl rfl (ev_store 68 11 30 _ _ _ rfl (by kernel_rfl) (by kernel_rfl) hst4) ⟨(fun h => Bool.noConfusion (show true = false from h)), ?_⟩
    refine late_done (by kernel_rfl) ?_
    have g4 : Fr no W2 W4 := F3.out.new F4 (fun i hi e => by omega)
    obtain ⟨E2, B2, g2, Lk, hyc⟩ := HK.out
    have E4 := g4.heap E2 (fun f => f)
    have B4 := g4.heap B2 (fun f => f)
    have C4 := Lk.keep g4
    obtain ⟨ls, ml1, ml2, ml3⟩ := C4.m
    have hmg : (clsAt Cs q.1).methods[q.2]? = some m := hm
    rw [← hyc] at hmg
    have hq2 : q.2 < y.c.methods.length := (List.getElem?_eq_some_iff.1 hmg).1
    obtain ⟨sx, hsx⟩ : ∃ sx, ls[q.2]? = some sx := ⟨_, List.getElem?_eq_getElem (by omega)⟩
    have mo := ml3 q.2 sx m hsx hmg
    obtain ⟨mq, mc, hmf⟩ := ml1.form
    simp only [Value.slice.injEq] at hmf
    obtain ⟨-, hmn, -⟩ := hmf
    obtain ⟨mg, hmgq⟩ := ml1.some_of (fun e => by rw [e] at hsx; simp at hsx)
    rw [hmgq] at ml1 hb4'
    have dm : ∀ w', Fr no W4 w' → ∀ j u, (msC sx)[j]? = some u → w'.cell? ⟨mg, q.2 * 8 + j, none⟩ = some u := fun w' hf j u hj => hf.cell (ml1.cell okMs hsx hj) (fun f => f)
    have hq2i : (q.2 : Int) < (x.k.m.n : Int) := by omega
    have HDM : Hid (_) := dm
    have CM := copyMethod_any W4.drew sx m (mo.at'.kept (Fr.refl no W4).drew) ((hsm _ HMEM.out).ms m (List.mem_of_getElem? hm))
    unfold msV at CM
    have hnm : x.k.name = (clsAt Cs q.1).name := by rw [Lk.name, hyc]
    have HT : Hid (_ ∧ _ ∧ _ ∧ _) := ⟨hb4', B4, E4, g2.new g4 (fun _ _ f => f)⟩
    clear dm E4 B4 C4 ml1 ml2 ml3 mo hb4 hst4 F3 F4 g4 hsx Lk E2 B2 g2 hb4' d0 d1 d2 d3 d4 y0 y1 b2 HS0 HK
    go_wp2_with fail
    have HS1 : Hid (Fr no W4 W4.drew) := (Fr.refl no W4).drew
    refine late_begin (S := fun w' => Fr no W4 w') (g := 10) (by kernel_rfl) ?_
    refine late_pure 0 (.pointer (some ⟨W2.heap.size, 0, none⟩)) rfl (by kernel_rfl) (by kernel_rfl) (by kernel_rfl) (fun _ _ _ h => h) (by decide) (yields rfl (fun _ _ => ev_field 68 11 0 (.pointer (some ⟨W2.heap.size, 0, none⟩)) _ rfl (by kernel_rfl) (by kernel_rfl))) (fun _ => HS1.out) ?_
    refine late_take 1 (.string x.k.name) rfl (by kernel_rfl) (by kernel_rfl) (by kernel_rfl) (fun _ _ _ h => h) (waits_of (by kernel_rfl)) (by decide) (by kernel_rfl) (yields rfl (fun w' hS => ev_load 9 31 (.pointer (some ⟨W2.heap.size, 0, none⟩)) _ rfl (by kernel_rfl) (by simp [go_sem, (box5 (hS.heap HT.out.1 (fun f => f))).1]))) HS1.out ?_
    refine late_pure 2 (.pointer (some ⟨W2.heap.size, 4, none⟩)) rfl (by kernel_rfl) (by kernel_rfl) (by kernel_rfl) (fun _ _ _ h => h) (by decide) (yields rfl (fun _ _ => ev_field 68 11 4 (.pointer (some ⟨W2.heap.size, 0, none⟩)) _ rfl (by kernel_rfl) (by kernel_rfl))) (fun _ => HS1.out) ?_
    refine late_take 3 (.slice (some ⟨mg, 0, none⟩) x.k.m.n x.k.m.c) rfl (by kernel_rfl) (by kernel_rfl) (by kernel_rfl) (fun _ _ _ h => h) (waits_of (by kernel_rfl)) (by decide) (by kernel_rfl) (yields rfl (fun w' hS => ev_load 65 33 (.pointer (some ⟨W2.heap.size, 4, none⟩)) _ rfl (by kernel_rfl) (by simp [go_sem, (box5 (hS.heap HT.out.1 (fun f => f))).2.2.2.2]))) HS1.out ?_
    refine late_pure 4 (.pointer (some ⟨w1.heap.size, 1, none⟩)) rfl (by kernel_rfl) (by kernel_rfl) (by kernel_rfl) (fun _ _ _ h => h) (by decide) (yields rfl (fun _ _ => ev_field 128 9 1 (.pointer (some ⟨w1.heap.size, 0, none⟩)) _ rfl (by kernel_rfl) (by kernel_rfl))) (fun _ => HS1.out) ?_
    refine late_take 5 (.int .i64 (q.2 : Int)) rfl (by kernel_rfl) (by kernel_rfl) (by kernel_rfl) (fun _ _ _ h => h) (waits_of (by kernel_rfl)) (by decide) (by kernel_rfl) (yields rfl (fun w' hS => ev_load 3 35 (.pointer (some ⟨w1.heap.size, 1, none⟩)) _ rfl (by kernel_rfl) (by simp [go_sem, cell_at (o := 1) (hS.heap HT.out.2.1 (fun f => f))]))) HS1.out ?_
    refine late_pure 6 (.pointer (some ⟨mg, q.2 * 8, none⟩)) rfl (by kernel_rfl) (by kernel_rfl) (by kernel_rfl) (fun _ _ _ h => h) (by decide) (yields rfl (fun _ _ => ev_index 65 34 36 (.slice (some ⟨mg, 0, none⟩) x.k.m.n x.k.m.c) (.int .i64 (q.2 : Int)) _ rfl (by kernel_rfl) (by kernel_rfl) (by simp [go_sem, hq2i]))) (fun _ => HS1.out) ?_
    refine late_take 7 (.agg #[.string sx.name, .slice sx.p.a sx.p.n sx.p.c, .int .i64 sx.ret.k, .string sx.ret.c, .int .i64 sx.lo, .int .i64 sx.st, .slice sx.c.a sx.c.n sx.c.c, .slice sx.h.a sx.h.n sx.h.c]) rfl (by kernel_rfl) (by kernel_rfl) (by kernel_rfl) (fun _ _ _ h => h) (waits_of (by kernel_rfl)) (by decide) (by kernel_rfl) (yields rfl (fun w' hS => ev_load 64 37 (.pointer (some ⟨mg, q.2 * 8, none⟩)) _ rfl (by kernel_rfl) (run_loadAt_mid (P := Tryz.prog) w' mg (q.2 * 8) 64 [.string sx.name, .slice sx.p.a sx.p.n sx.p.c, .int .i64 sx.ret.k, .string sx.ret.c, .int .i64 sx.lo, .int .i64 sx.st, .slice sx.c.a sx.c.n sx.c.c, .slice sx.h.a sx.h.n sx.h.c] _ (fun j v hv => HDM.out w' hS j v hv) Tryz.underlying64 rfl (by kernel_rfl)))) HS1.out ?_
    refine late_all [8] (by kernel_rfl) (by simp) (fun j hj => ?_)
    obtain rfl := one_of hj
    refine late_call (f := 61) rfl rfl (by kernel_rfl) (R := fun v w' => ∃ s', v = msV s' ∧ MtOwn w' s' m ∧ Fr no W4.drew w') (CM.mono (fun e w' ⟨s', h1, h2, h3⟩ => ⟨_, h1, s', rfl, h2, h3⟩)) (fun v w5 hv => ?_)
    obtain ⟨s', rfl, o5, f5⟩ := hv
    have g5 : Fr no W4 w5 := (Fr.refl no W4).drew.new f5 (fun _ _ f => f)
    refine ⟨fun _ => g5, ?_⟩
    have E5 := g5.heap HT.out.2.2.1 (fun f => f)
    obtain ⟨w6, hst6, hb6, F6⟩ := store_mid w5 w.heap.size 0 64 64 #[.string ⟨#[]⟩, .slice none 0 0, .int .i64 0, .string ⟨#[]⟩, .int .i64 0, .int .i64 0, .slice none 0 0, .slice none 0 0] #[.string s'.name, .slice s'.p.a s'.p.n s'.p.c, .int .i64 s'.ret.k, .string s'.ret.c, .int .i64 s'.lo, .int .i64 s'.st, .slice s'.c.a s'.c.n s'.c.c, .slice s'.h.a s'.h.n s'.h.c] E5 (Nat.le_refl 8) (by kernel_rfl) (by kernel_rfl)
    have hb6' : w6.heap[w.heap.size]? = some (.cells #[.string s'.name, .slice s'.p.a s'.p.n s'.p.c, .int .i64 s'.ret.k, .string s'.ret.c, .int .i64 s'.lo, .int .i64 s'.st, .slice s'.c.a s'.c.n s'.c.c, .slice s'.h.a s'.h.n s'.h.c] 64 (0, 0)) := hb6
    refine late_pure 9 (.string x.k.name) rfl (by kernel_rfl) (by kernel_rfl) (by kernel_rfl) (fun _ _ _ h => h) (by decide) (yields rfl (fun _ _ => ev_assign 32 _ rfl (by kernel_rfl))) (fun _ => g5) ?_
    refine late_all [10] (by kernel_rfl) (by simp) (fun j hj => ?_)
    obtain rfl := one_of hj
    unfold msV
    refine late_skip rfl rfl (ev_store 64 7 39 _ _ _ rfl (by kernel_rfl) (by kernel_rfl) hst6) ⟨(fun h => Bool.noConfusion (show true = false from h)), ?_⟩
    refine late_pure 11 (.bool true) rfl (by kernel_rfl) (by kernel_rfl) (by kernel_rfl) (fun _ _ _ h => h) (by decide) (yields rfl (fun _ _ => by kernel_rfl)) (fun h => Bool.noConfusion (show true = false from h)) ?_
    refine late_done (by kernel_rfl) ?_
    have HZ : Hid (_ ∧ _ ∧ _) := ⟨hb6', o5.kept F6 (fun k hk cu e hc => by
      rw [hk, E5] at hc
      simp only [Option.some.injEq, Obj.cells.injEq] at hc
      rw [← hc.2.1]
      decide), (HT.out.2.2.2.new g5 (fun _ _ f => f)).new F6 (fun i hi e => by omega)⟩
    clear hst6 hb6 hb6' F6 E5 o5 f5 g5
    go_wp2_with fail
    refine bodyPost_ret (results_11 w6 w.heap.size (.string x.k.name) (.string s'.name) (.slice s'.p.a s'.p.n s'.p.c) (.int .i64 s'.ret.k) (.string s'.ret.c) (.int .i64 s'.lo) (.int .i64 s'.st) (.slice s'.c.a s'.c.n s'.c.c) (.slice s'.h.a s'.h.n s'.h.c) (.bool true) HZ.out.1 _ (by kernel_rfl) (by kernel_rfl) (by kernel_rfl)) rfl ?_
    refine ⟨⟨fun e => by simp at e, fun q' hq' => ?_⟩, HZ.out.2.2⟩
    simp only [Option.some.injEq] at hq'
    subst hq'
    exact ⟨s', m, hm, by rw [hnm]; rfl, HZ.out.2.1⟩
end Go.Proofs.YtpfkigoffllieaaGreatDoor

/- Whether classes fit together: constants, the method to begin with. -/
namespace Go.Proofs.YtpfkigoffllieaaGreatDoor
open Go.ChangeShapes Go.WideShapes Go.ChangeAt Go.RowKit
open H (ky Owns MapOf ix up nameAt anc Fine obj fault)

set_option maxRecDepth 100000 in
theorem checkPool_any (w : World) (p : Nat) (Cs : List Cl) (A : List Nat) (h : Prg w p Cs A) (i : Nat) (x : Lk) (hx : ClAt w x.k (clsAt Cs i)) (hfit : FitC (clsAt Cs i)) :
    Calls Tryz.prog 56 #[.pointer (some ⟨p, 0, none⟩), .agg #[.string x.k.name, .string x.k.super, .slice x.k.p.a x.k.p.n x.k.p.c, .slice x.k.f.a x.k.f.n x.k.f.c, .slice x.k.m.a x.k.m.n x.k.m.c, .slice x.s.a x.s.n x.s.c, .int .i64 x.wd, .map (some x.fm), .map (some x.mm)]] w fun e w' => e = .returned (.int .i64 (poolE Cs (layAll Cs A) i : Int)) ∧ Fr no w w' := by
  have G0 : Fr no w (w.alloc (.cells #[.string x.k.name, .string x.k.super, .slice x.k.p.a x.k.p.n x.k.p.c, .slice x.k.f.a x.k.f.n x.k.f.c, .slice x.k.m.a x.k.m.n x.k.m.c, .slice x.s.a x.s.n x.s.c, .int .i64 x.wd, .map (some x.fm), .map (some x.mm)] 119)) := (Fr.refl no w).alloc _ _
  have E0 : (w.alloc (.cells #[.string x.k.name, .string x.k.super, .slice x.k.p.a x.k.p.n x.k.p.c, .slice x.k.f.a x.k.f.n x.k.f.c, .slice x.k.m.a x.k.m.n x.k.m.c, .slice x.s.a x.s.n x.s.c, .int .i64 x.wd, .map (some x.fm), .map (some x.mm)] 119)).heap[w.heap.size]? = some (.cells #[.string x.k.name, .string x.k.super, .slice x.k.p.a x.k.p.n x.k.p.c, .slice x.k.f.a x.k.f.n x.k.f.c, .slice x.k.m.a x.k.m.n x.k.m.c, .slice x.s.a x.s.n x.s.c, .int .i64 x.wd, .map (some x.fm), .map (some x.mm)] 119 (0, 0)) := heap_alloc_new w _
  have d2 := cell_at (o := 2) E0
  simp only [List.getElem?_toArray, List.getElem?_cons_zero, List.getElem?_cons_succ] at d2
  have FC := firstCsC_any _ _ (clsAt Cs i).pool (hx.p.kept G0) p (fun k => match (clsAt Cs i).pool[k]? with | some y => constE (namesOf Cs) (layAll Cs A) y | none => 0) (fun w' k y hf hy => by
    have := checkConstP_any w' p y (hfit.pool y (List.mem_of_getElem? hy)).1 (hfit.pool y (List.mem_of_getElem? hy)).2 Cs A ((h.keep G0).keep hf)
    simp only [hy]
    exact this)
  rw [firstN_list (constE (namesOf Cs) (layAll Cs A)) _ (clsAt Cs i).pool 0 (fun i y hy => by rw [Nat.zero_add]; simp only [hy])] at FC
  have HE : Hid (poolE Cs (layAll Cs A) i = firstN (constE (namesOf Cs) (layAll Cs A)) (clsAt Cs i).pool) := rfl
  have HG : Hid (_) := G0
  clear h hx hfit G0 E0
  generalize hW : w.alloc (.cells #[.string x.k.name, .string x.k.super, .slice x.k.p.a x.k.p.n x.k.p.c, .slice x.k.f.a x.k.f.n x.k.f.c, .slice x.k.m.a x.k.m.n x.k.m.c, .slice x.s.a x.s.n x.s.c, .int .i64 x.wd, .map (some x.fm), .map (some x.mm)] 119) = W at *
  generalize firstN (constE (namesOf Cs) (layAll Cs A)) (clsAt Cs i).pool = r at *
  go_enter Tryz.func56, Tryz.ntmps56
  go_wp2_with fail
  refine FC.mono ?_
  rintro e w1 ⟨rfl, f1⟩
  go_wp2_with fail
  go_ret
  rw [HE.out]
  exact ⟨rfl, HG.out.new f1 (fun _ _ f => f)⟩

set_option maxRecDepth 100000 in
set_option maxHeartbeats 2000000 in
theorem checkMain_any (w : World) (p : Nat) (Cs : List Cl) (A : List Nat) (h : Prg w p Cs A) (hsm : ∀ c ∈ Cs, SmallC c) :
    Calls Tryz.prog 57 #[.pointer (some ⟨p, 0, none⟩)] w fun e w' => e = .returned (.int .i64 (mainE Cs (layAll Cs A) : Int)) ∧ Fr no w w' := by
  have M := method_any w p Cs A h hsm sMain smain (by decide) (by decide)
  have HQ : Hid (∀ q, findOf (namesOf Cs) (layAll Cs A) sMain smain = some q → q.1 < Cs.length ∧ ∃ m, methAt Cs q = some m ∧ m.name = smain) := fun q hq => findOf_ok h.fine hq
  have HE : Hid (mainE Cs (layAll Cs A) = match findOf (namesOf Cs) (layAll Cs A) sMain smain with
  | none => 74
  | some q => match methAt Cs q with
    | none => 74
    | some m => if m.params = [] ∧ m.ret.k = 0 then 0 else 74) := rfl
  clear h
  generalize hr : findOf (namesOf Cs) (layAll Cs A) sMain smain = r at *
  unfold sMain smain at M
  cases r with
  | none =>
    have HN : Hid (mainE Cs (layAll Cs A) = 74) := HE.out
    go_enter Tryz.func57, Tryz.ntmps57
    go_wp2_with fail
    refine M.mono ?_
    rintro e w1 ⟨⟨hm, -⟩, f1⟩
    obtain rfl := hm rfl
    unfold msV zMs
    go_wp2_with fail
    go_ret
    rw [HN.out]
    exact ⟨rfl, f1.alloc _ _⟩
  | some q =>
    obtain ⟨-, m, hm, -⟩ := HQ.out q rfl
    have HN0 : Hid (mainE Cs (layAll Cs A) = if m.params = [] ∧ m.ret.k = 0 then 0 else 74) := by
      show _ = _
      rw [HE.out]
      simp only [hm]
    go_enter Tryz.func57, Tryz.ntmps57
    go_wp2_with fail
    refine M.mono ?_
    rintro e w1 ⟨⟨-, hmm⟩, f1⟩
    obtain ⟨s', m', hm', rfl, mo⟩ := hmm q rfl
    rw [hm] at hm'
    simp only [Option.some.injEq] at hm'
    subst hm'
    unfold msV
    obtain ⟨pq, pc, hpf⟩ := mo.p.form
    simp only [Value.slice.injEq] at hpf
    have hpn : s'.p.n = m.params.length := hpf.2.1
    have hrk : s'.ret.k = m.ret.k := by rw [mo.ret]
    have E1 : (w1.alloc (.cells #[.string s'.name, .slice s'.p.a s'.p.n s'.p.c, .int .i64 s'.ret.k, .string s'.ret.c, .int .i64 s'.lo, .int .i64 s'.st, .slice s'.c.a s'.c.n s'.c.c, .slice s'.h.a s'.h.n s'.h.c] 64)).heap[w1.heap.size]? = some (.cells #[.string s'.name, .slice s'.p.a s'.p.n s'.p.c, .int .i64 s'.ret.k, .string s'.ret.c, .int .i64 s'.lo, .int .i64 s'.st, .slice s'.c.a s'.c.n s'.c.c, .slice s'.h.a s'.h.n s'.h.c] 64 (0, 0)) := heap_alloc_new w1 _
    obtain ⟨e0, e1, e2, e3, e4, e5, e6, e7⟩ := box8 E1
    have HG : Hid (Fr no w (w1.alloc (.cells #[.string s'.name, .slice s'.p.a s'.p.n s'.p.c, .int .i64 s'.ret.k, .string s'.ret.c, .int .i64 s'.lo, .int .i64 s'.st, .slice s'.c.a s'.c.n s'.c.c, .slice s'.h.a s'.h.n s'.h.c] 64))) := f1.alloc _ _
    clear hmm M mo E1 f1 hpf
    generalize hW2 : w1.alloc (.cells #[.string s'.name, .slice s'.p.a s'.p.n s'.p.c, .int .i64 s'.ret.k, .string s'.ret.c, .int .i64 s'.lo, .int .i64 s'.st, .slice s'.c.a s'.c.n s'.c.c, .slice s'.h.a s'.h.n s'.h.c] 64) = W2 at *
    generalize s'.p.n = sn at *
    generalize s'.ret.k = sk at *
    by_cases hp0 : sn = 0
    · have hpl : m.params = [] := List.eq_nil_of_length_eq_zero (by omega)
      by_cases hr0 : sk = 0
      · have HN : Hid (mainE Cs (layAll Cs A) = 0) := by show _ = _; rw [HN0.out, if_pos ⟨hpl, by omega⟩]
        subst hp0 hr0
        clear hpn hrk
        go_wp2_with fail
        go_ret
        rw [HN.out]
        exact ⟨rfl, HG.out⟩
      · have HN : Hid (mainE Cs (layAll Cs A) = 74) := by show _ = _; rw [HN0.out, if_neg (fun e => hr0 (by omega))]
        have hr0' : (sk == 0) = false := by simpa using hr0
        subst hp0
        clear hpn hrk
        go_wp2_with fail
        go_ret
        rw [HN.out]
        exact ⟨rfl, HG.out⟩
    · have HN : Hid (mainE Cs (layAll Cs A) = 74) := by
        show _ = _
        rw [HN0.out, if_neg (fun e => hp0 (by rw [hpn, e.1]; rfl))]
      have hp0' : (0 : Int) < (sn : Int) := by omega
      clear hpn hrk
      go_wp2_with fail
      go_ret
      rw [HN.out]
      exact ⟨rfl, HG.out⟩
end Go.Proofs.YtpfkigoffllieaaGreatDoor
