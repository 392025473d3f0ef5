/- What 'each' answers: the first error of a list (constants, fields, types). -/
import Derived.Test.YthncdbobjeeeaaaGreatDoorAsk2
import Derived.Deep.RegionHeld3
namespace Go.Proofs.YthncdbobjeeeaaaGreatDoor
open Go.ChangeShapes Go.WideShapes Go.ChangeAt Go.RowKit

def EachCsAt (w0 : World) (v : Value) (most : Int) (fv : Value) (ask : Cs → List Cs → Nat) (l : List Cs) (a : Act) (w : World) : Prop :=
  ∃ (k : Nat) (u3 u4 u5 u6 u7 u8 u9 u10 u11 u12 u13 u14 u15 u16 u17 u18 u19 u20 u21 u22 u23 u24 u25 u26 u27 u28 u29 u30 : Value), a = { tmps := #[v, .int .i64 most, fv, u3, u4, u5, u6, u7, u8, u9, u10, u11, u12, u13, u14, u15, u16, u17, u18, u19, u20, u21, u22, u23, u24, u25, u26, u27, u28, u29, u30], defers := [] } ∧ u7 = .int .i64 (k : Int) ∧ Fr no w0 w ∧ k ≤ l.length ∧ l.length ≤ most.toNat ∧ firstE ask (l.take k) (l.drop k) = firstE ask [] l

set_option maxRecDepth 100000 in
set_option maxHeartbeats 2000000 in
theorem eachCs_any (w : World) (v : Value) (l : List Cs) (h : SlG elCs w v l) (most : Nat) (hmost : most ≤ 1000) (ask : Cs → List Cs → Nat)
    (ASK : ∀ w' v' k x, Fr no w w' → l[k]? = some x → SlG elCs w' v' (l.take k) → Calls Tryz.prog 51 #[.agg #[.int .i64 x.k, .int .i64 x.n, .complex .f64 x.re x.im, .string x.c, .string x.m], v'] w' fun e w2 => e = .returned (.int .i64 (ask x (l.take k) : Int)) ∧ Fr no w' w2) :
    Calls Tryz.prog 50 #[v, .int .i64 (most : Int), .func (.func 51) #[] #[]] w fun e w' => e = .returned (.int .i64 (eachE most ask l : Int)) ∧ Fr no w w' := by
  have H0 := h
  obtain ⟨ad, cp, rfl, hcap, hmx, hit⟩ := h
  unfold maxLen at hmx
  have HI : Hid (∀ (i : Nat) (x : Cs), l[i]? = some x → ∃ b off, ad = some ⟨b, off, none⟩ ∧ ∀ (j : Nat) (u : Value), (elCs.f x)[j]? = some u → w.cell? ⟨b, off + i * elCs.n + j, none⟩ = some u) := hit
  have HS : Hid (SlG elCs w (.slice ad l.length cp) l) := H0
  have HASK : Hid (∀ w' v' k x, Fr no w w' → l[k]? = some x → SlG elCs w' v' (l.take k) → Calls Tryz.prog 51 #[.agg #[.int .i64 x.k, .int .i64 x.n, .complex .f64 x.re x.im, .string x.c, .string x.m], v'] w' fun e w2 => e = .returned (.int .i64 (ask x (l.take k) : Int)) ∧ Fr no w' w2) := ASK
  clear hit H0 ASK
  go_enter Tryz.func50, Tryz.ntmps50
  go_wp2_with fail
  refine wp_label_one 0 (EachCsAt w (.slice ad l.length cp) (most : Int) (.func (.func 51) #[] #[]) ask l) (fun a' _ => l.length - (intOf (a'.tmps.getD 7 undef)).toNat) rfl ?_ ?_
  · intro K h0 hr hn'
    by_cases hbig : most < l.length
    · have HE : Hid (eachE most ask l = 32) := by show _ = _; unfold eachE; rw [if_pos hbig]
      go_wp2_with fail
      refine hr _ _ ?_
      go_ret
      rw [HE.out]
      exact ⟨rfl, Fr.refl _ _⟩
    · have hbig' : ¬ (most : Int) < (l.length : Int) := by omega
      go_wp2_with fail
      go_step3
      rename_i hk
      exact hk _ _ (h0 _ _ ⟨0, _, _, _, _, _, _, _, _, _, _, _, _, _, _, _, _, _, _, _, _, _, _, _, _, _, _, _, _, rfl, rfl, Fr.refl _ _, by omega, by omega, rfl⟩)
  · rintro a' w' ⟨k, u3, u4, u5, u6, u7, u8, u9, u10, u11, u12, u13, u14, u15, u16, u17, u18, u19, u20, u21, u22, u23, u24, u25, u26, u27, u28, u29, u30, rfl, rfl, hw, hk, hlm, hF⟩ K hj hr hn'
    have HFE : Hid (firstE ask (l.take k) (l.drop k) = firstE ask [] l) := hF
    have HEE : Hid (eachE most ask l = firstE ask [] l) := by show _ = _; unfold eachE; rw [if_neg (by omega)]
    clear hF
    by_cases hend : k = l.length
    · subst hend
      have HE : Hid (eachE most ask l = 0) := by
        show _ = _
        rw [HEE.out, ← HFE.out, List.drop_length]
        rfl
      go_wp2_with fail
      refine hr _ _ ?_
      go_ret
      rw [HE.out]
      exact ⟨rfl, hw⟩
    · have hlt : k < l.length := by omega
      have hne : ((k : Int) == (l.length : Int)) = false := by simp; omega
      have hkc : (k : Int) ≤ (cp : Int) := by omega
      have hk0 : (0 : Int) ≤ (k : Int) := by omega
      obtain ⟨x, hx⟩ : ∃ x, l[k]? = some x := ⟨_, List.getElem?_eq_getElem hlt⟩
      obtain ⟨b, off, rfl, hc0⟩ := HI.out k x hx
      have hc : ∀ (j : Nat) (u : Value), (elCs.f x)[j]? = some u → w.cell? ⟨b, off + k * 5 + j, none⟩ = some u := hc0
      clear hc0
      have c0 : w'.cell? ⟨b, off + k * 5, none⟩ = some (.int .i64 x.k) := hw.cell (hc 0 _ rfl) (fun f => f)
      have c1 : w'.cell? ⟨b, off + k * 5 + 1, none⟩ = some (.int .i64 x.n) := hw.cell (hc 1 _ rfl) (fun f => f)
      have c2 : w'.cell? ⟨b, off + k * 5 + 2, none⟩ = some (.complex .f64 x.re x.im) := hw.cell (hc 2 _ rfl) (fun f => f)
      have c3 : w'.cell? ⟨b, off + k * 5 + 3, none⟩ = some (.string x.c) := hw.cell (hc 3 _ rfl) (fun f => f)
      have c4 : w'.cell? ⟨b, off + k * 5 + 4, none⟩ = some (.string x.m) := hw.cell (hc 4 _ rfl) (fun f => f)
      have HW : Hid (Fr no w w') := hw
      have A := fun w2 (f2 : Fr no w' w2) => HASK.out w2 (.slice (some ⟨b, off, none⟩) k cp) k x (hw.new f2 (fun _ _ f => f)) hx ((HS.out.kept (hw.new f2 (fun _ _ f => f))).take (by omega))
      have KS : ∀ w2, Fr no w' w2 → Fr no w' w2 ∧ w2.cell? ⟨b, off + k * 5, none⟩ = some (.int .i64 x.k) ∧ w2.cell? ⟨b, off + k * 5 + 1, none⟩ = some (.int .i64 x.n) ∧ w2.cell? ⟨b, off + k * 5 + 2, none⟩ = some (.complex .f64 x.re x.im) ∧ w2.cell? ⟨b, off + k * 5 + 3, none⟩ = some (.string x.c) ∧ w2.cell? ⟨b, off + k * 5 + 4, none⟩ = some (.string x.m) := fun w2 f2 => ⟨f2, f2.cell c0 (fun f => f), f2.cell c1 (fun f => f), f2.cell c2 (fun f => f), f2.cell c3 (fun f => f), f2.cell c4 (fun f => f)⟩
      have HX : Hid (l[k]? = some x) := hx
      have hdrop : l.drop k = x :: l.drop (k + 1) := by
        have := List.drop_eq_getElem_cons hlt
        rw [this]
        have e : l[k] = x := by
          rw [List.getElem?_eq_getElem hlt] at hx
          exact Option.some.inj hx
        rw [e]
      have HN : Hid (firstE ask [] l = if ask x (l.take k) ≠ 0 then ask x (l.take k) else firstE ask (l.take (k + 1)) (l.drop (k + 1))) := by
        show _ = _
        rw [← HFE.out, hdrop, firstE, take_next l k x hx]
      clear hx hc hw hdrop
      generalize hask : ask x (l.take k) = err at *
      by_cases h0 : err = 0
      · subst h0
        go_wp2_with fail
        go_region_held3 (fun w2 => Fr no w' w2 ∧ w2.cell? ⟨b, off + k * 5, none⟩ = some (.int .i64 x.k) ∧ w2.cell? ⟨b, off + k * 5 + 1, none⟩ = some (.int .i64 x.n) ∧ w2.cell? ⟨b, off + k * 5 + 2, none⟩ = some (.complex .f64 x.re x.im) ∧ w2.cell? ⟨b, off + k * 5 + 3, none⟩ = some (.string x.c) ∧ w2.cell? ⟨b, off + k * 5 + 4, none⟩ = some (.string x.m)) (first | exact KS _ (Fr.refl no _).drew | exact KS _ f3') (first | (go_at_call 51; refine (A _ (Fr.refl no _).drew).mono ?_; rintro e w3 ⟨rfl, f3⟩; have f3' := (Fr.refl no w').drew.new f3 (fun _ _ f => f)))
        go_wp2_with fail
        go_step3
        refine hj _ _ ⟨k + 1, _, _, _, _, _, _, _, _, _, _, _, _, _, _, _, _, _, _, _, _, _, _, _, _, _, _, _, _, rfl, by go_num, HW.out.new f3' (fun _ _ f => f), by omega, by omega, ?_⟩ ?_
        · rw [HN.out, if_neg (by simp)]
        · simp [intOf]
          omega
      · have h0' : ((err : Int) == 0) = false := by simp; omega
        have HE : Hid (eachE most ask l = err) := by show _ = _; rw [HEE.out, HN.out, if_pos h0]
        go_wp2_with fail
        go_region_held3 (fun w2 => Fr no w' w2 ∧ w2.cell? ⟨b, off + k * 5, none⟩ = some (.int .i64 x.k) ∧ w2.cell? ⟨b, off + k * 5 + 1, none⟩ = some (.int .i64 x.n) ∧ w2.cell? ⟨b, off + k * 5 + 2, none⟩ = some (.complex .f64 x.re x.im) ∧ w2.cell? ⟨b, off + k * 5 + 3, none⟩ = some (.string x.c) ∧ w2.cell? ⟨b, off + k * 5 + 4, none⟩ = some (.string x.m)) (first | exact KS _ (Fr.refl no _).drew | exact KS _ f3') (first | (go_at_call 51; refine (A _ (Fr.refl no _).drew).mono ?_; rintro e w3 ⟨rfl, f3⟩; have f3' := (Fr.refl no w').drew.new f3 (fun _ _ f => f)))
        go_wp2_with fail
        refine hr _ _ ?_
        go_ret
        rw [HE.out]
        exact ⟨rfl, HW.out.new f3' (fun _ _ f => f)⟩

def EachFdAt (w0 : World) (v : Value) (most : Int) (fv : Value) (ask : Fd → List Fd → Nat) (l : List Fd) (a : Act) (w : World) : Prop :=
  ∃ (k : Nat) (u3 u4 u5 u6 u7 u8 u9 u10 u11 u12 u13 u14 u15 u16 u17 u18 u19 u20 u21 u22 u23 u24 u25 u26 u27 u28 u29 u30 : Value), a = { tmps := #[v, .int .i64 most, fv, u3, u4, u5, u6, u7, u8, u9, u10, u11, u12, u13, u14, u15, u16, u17, u18, u19, u20, u21, u22, u23, u24, u25, u26, u27, u28, u29, u30], defers := [] } ∧ u7 = .int .i64 (k : Int) ∧ Fr no w0 w ∧ k ≤ l.length ∧ l.length ≤ most.toNat ∧ firstE ask (l.take k) (l.drop k) = firstE ask [] l

set_option maxRecDepth 100000 in
set_option maxHeartbeats 2000000 in
theorem eachFd_any (w : World) (v : Value) (l : List Fd) (h : SlG elFd w v l) (most : Nat) (hmost : most ≤ 1000) (ask : Fd → List Fd → Nat)
    (ASK : ∀ w' v' k x, Fr no w w' → l[k]? = some x → SlG elFd w' v' (l.take k) → Calls Tryz.prog 53 #[.agg #[.string x.name, .int .i64 x.ty.k, .string x.ty.c, .bool x.vol], v'] w' fun e w2 => e = .returned (.int .i64 (ask x (l.take k) : Int)) ∧ Fr no w' w2) :
    Calls Tryz.prog 52 #[v, .int .i64 (most : Int), .func (.func 53) #[] #[]] w fun e w' => e = .returned (.int .i64 (eachE most ask l : Int)) ∧ Fr no w w' := by
  have H0 := h
  obtain ⟨ad, cp, rfl, hcap, hmx, hit⟩ := h
  unfold maxLen at hmx
  have HI : Hid (∀ (i : Nat) (x : Fd), l[i]? = some x → ∃ b off, ad = some ⟨b, off, none⟩ ∧ ∀ (j : Nat) (u : Value), (elFd.f x)[j]? = some u → w.cell? ⟨b, off + i * elFd.n + j, none⟩ = some u) := hit
  have HS : Hid (SlG elFd w (.slice ad l.length cp) l) := H0
  have HASK : Hid (∀ w' v' k x, Fr no w w' → l[k]? = some x → SlG elFd w' v' (l.take k) → Calls Tryz.prog 53 #[.agg #[.string x.name, .int .i64 x.ty.k, .string x.ty.c, .bool x.vol], v'] w' fun e w2 => e = .returned (.int .i64 (ask x (l.take k) : Int)) ∧ Fr no w' w2) := ASK
  clear hit H0 ASK
  go_enter Tryz.func52, Tryz.ntmps52
  go_wp2_with fail
  refine wp_label_one 0 (EachFdAt w (.slice ad l.length cp) (most : Int) (.func (.func 53) #[] #[]) ask l) (fun a' _ => l.length - (intOf (a'.tmps.getD 7 undef)).toNat) rfl ?_ ?_
  · intro K h0 hr hn'
    by_cases hbig : most < l.length
    · have HE : Hid (eachE most ask l = 32) := by show _ = _; unfold eachE; rw [if_pos hbig]
      go_wp2_with fail
      refine hr _ _ ?_
      go_ret
      rw [HE.out]
      exact ⟨rfl, Fr.refl _ _⟩
    · have hbig' : ¬ (most : Int) < (l.length : Int) := by omega
      go_wp2_with fail
      go_step3
      rename_i hk
      exact hk _ _ (h0 _ _ ⟨0, _, _, _, _, _, _, _, _, _, _, _, _, _, _, _, _, _, _, _, _, _, _, _, _, _, _, _, _, rfl, rfl, Fr.refl _ _, by omega, by omega, rfl⟩)
  · rintro a' w' ⟨k, u3, u4, u5, u6, u7, u8, u9, u10, u11, u12, u13, u14, u15, u16, u17, u18, u19, u20, u21, u22, u23, u24, u25, u26, u27, u28, u29, u30, rfl, rfl, hw, hk, hlm, hF⟩ K hj hr hn'
    have HFE : Hid (firstE ask (l.take k) (l.drop k) = firstE ask [] l) := hF
    have HEE : Hid (eachE most ask l = firstE ask [] l) := by show _ = _; unfold eachE; rw [if_neg (by omega)]
    clear hF
    by_cases hend : k = l.length
    · subst hend
      have HE : Hid (eachE most ask l = 0) := by
        show _ = _
        rw [HEE.out, ← HFE.out, List.drop_length]
        rfl
      go_wp2_with fail
      refine hr _ _ ?_
      go_ret
      rw [HE.out]
      exact ⟨rfl, hw⟩
    · have hlt : k < l.length := by omega
      have hne : ((k : Int) == (l.length : Int)) = false := by simp; omega
      have hkc : (k : Int) ≤ (cp : Int) := by omega
      have hk0 : (0 : Int) ≤ (k : Int) := by omega
      obtain ⟨x, hx⟩ : ∃ x, l[k]? = some x := ⟨_, List.getElem?_eq_getElem hlt⟩
      obtain ⟨b, off, rfl, hc0⟩ := HI.out k x hx
      have hc : ∀ (j : Nat) (u : Value), (elFd.f x)[j]? = some u → w.cell? ⟨b, off + k * 4 + j, none⟩ = some u := hc0
      clear hc0
      have c0 : w'.cell? ⟨b, off + k * 4, none⟩ = some (.string x.name) := hw.cell (hc 0 _ rfl) (fun f => f)
      have c1 : w'.cell? ⟨b, off + k * 4 + 1, none⟩ = some (.int .i64 x.ty.k) := hw.cell (hc 1 _ rfl) (fun f => f)
      have c2 : w'.cell? ⟨b, off + k * 4 + 2, none⟩ = some (.string x.ty.c) := hw.cell (hc 2 _ rfl) (fun f => f)
      have c3 : w'.cell? ⟨b, off + k * 4 + 3, none⟩ = some (.bool x.vol) := hw.cell (hc 3 _ rfl) (fun f => f)
      have HW : Hid (Fr no w w') := hw
      have A := fun w2 (f2 : Fr no w' w2) => HASK.out w2 (.slice (some ⟨b, off, none⟩) k cp) k x (hw.new f2 (fun _ _ f => f)) hx ((HS.out.kept (hw.new f2 (fun _ _ f => f))).take (by omega))
      have KS : ∀ w2, Fr no w' w2 → Fr no w' w2 ∧ w2.cell? ⟨b, off + k * 4, none⟩ = some (.string x.name) ∧ w2.cell? ⟨b, off + k * 4 + 1, none⟩ = some (.int .i64 x.ty.k) ∧ w2.cell? ⟨b, off + k * 4 + 2, none⟩ = some (.string x.ty.c) ∧ w2.cell? ⟨b, off + k * 4 + 3, none⟩ = some (.bool x.vol) := fun w2 f2 => ⟨f2, f2.cell c0 (fun f => f), f2.cell c1 (fun f => f), f2.cell c2 (fun f => f), f2.cell c3 (fun f => f)⟩
      have HX : Hid (l[k]? = some x) := hx
      have hdrop : l.drop k = x :: l.drop (k + 1) := by
        have := List.drop_eq_getElem_cons hlt
        rw [this]
        have e : l[k] = x := by
          rw [List.getElem?_eq_getElem hlt] at hx
          exact Option.some.inj hx
        rw [e]
      have HN : Hid (firstE ask [] l = if ask x (l.take k) ≠ 0 then ask x (l.take k) else firstE ask (l.take (k + 1)) (l.drop (k + 1))) := by
        show _ = _
        rw [← HFE.out, hdrop, firstE, take_next l k x hx]
      clear hx hc hw hdrop
      generalize hask : ask x (l.take k) = err at *
      by_cases h0 : err = 0
      · subst h0
        go_wp2_with fail
        go_region_held3 (fun w2 => Fr no w' w2 ∧ w2.cell? ⟨b, off + k * 4, none⟩ = some (.string x.name) ∧ w2.cell? ⟨b, off + k * 4 + 1, none⟩ = some (.int .i64 x.ty.k) ∧ w2.cell? ⟨b, off + k * 4 + 2, none⟩ = some (.string x.ty.c) ∧ w2.cell? ⟨b, off + k * 4 + 3, none⟩ = some (.bool x.vol)) (first | exact KS _ (Fr.refl no _).drew | exact KS _ f3') (first | (go_at_call 53; refine (A _ (Fr.refl no _).drew).mono ?_; rintro e w3 ⟨rfl, f3⟩; have f3' := (Fr.refl no w').drew.new f3 (fun _ _ f => f)))
        go_wp2_with fail
        go_step3
        refine hj _ _ ⟨k + 1, _, _, _, _, _, _, _, _, _, _, _, _, _, _, _, _, _, _, _, _, _, _, _, _, _, _, _, _, rfl, by go_num, HW.out.new f3' (fun _ _ f => f), by omega, by omega, ?_⟩ ?_
        · rw [HN.out, if_neg (by simp)]
        · simp [intOf]
          omega
      · have h0' : ((err : Int) == 0) = false := by simp; omega
        have HE : Hid (eachE most ask l = err) := by show _ = _; rw [HEE.out, HN.out, if_pos h0]
        go_wp2_with fail
        go_region_held3 (fun w2 => Fr no w' w2 ∧ w2.cell? ⟨b, off + k * 4, none⟩ = some (.string x.name) ∧ w2.cell? ⟨b, off + k * 4 + 1, none⟩ = some (.int .i64 x.ty.k) ∧ w2.cell? ⟨b, off + k * 4 + 2, none⟩ = some (.string x.ty.c) ∧ w2.cell? ⟨b, off + k * 4 + 3, none⟩ = some (.bool x.vol)) (first | exact KS _ (Fr.refl no _).drew | exact KS _ f3') (first | (go_at_call 53; refine (A _ (Fr.refl no _).drew).mono ?_; rintro e w3 ⟨rfl, f3⟩; have f3' := (Fr.refl no w').drew.new f3 (fun _ _ f => f)))
        go_wp2_with fail
        refine hr _ _ ?_
        go_ret
        rw [HE.out]
        exact ⟨rfl, HW.out.new f3' (fun _ _ f => f)⟩

def EachTyAt (w0 : World) (v : Value) (most : Int) (fv : Value) (ask : Ty → List Ty → Nat) (l : List Ty) (a : Act) (w : World) : Prop :=
  ∃ (k : Nat) (u3 u4 u5 u6 u7 u8 u9 u10 u11 u12 u13 u14 u15 u16 u17 u18 u19 u20 u21 u22 u23 u24 u25 u26 u27 u28 u29 u30 : Value), a = { tmps := #[v, .int .i64 most, fv, u3, u4, u5, u6, u7, u8, u9, u10, u11, u12, u13, u14, u15, u16, u17, u18, u19, u20, u21, u22, u23, u24, u25, u26, u27, u28, u29, u30], defers := [] } ∧ u7 = .int .i64 (k : Int) ∧ Fr no w0 w ∧ k ≤ l.length ∧ l.length ≤ most.toNat ∧ firstE ask (l.take k) (l.drop k) = firstE ask [] l

set_option maxRecDepth 100000 in
set_option maxHeartbeats 2000000 in
theorem eachTy_any (w : World) (v : Value) (l : List Ty) (h : SlG elTy w v l) (most : Nat) (hmost : most ≤ 1000) (ask : Ty → List Ty → Nat)
    (ASK : ∀ w' v' k x, Fr no w w' → l[k]? = some x → SlG elTy w' v' (l.take k) → Calls Tryz.prog 108 #[.agg #[.int .i64 x.k, .string x.c], v'] w' fun e w2 => e = .returned (.int .i64 (ask x (l.take k) : Int)) ∧ Fr no w' w2) :
    Calls Tryz.prog 107 #[v, .int .i64 (most : Int), .func (.func 108) #[] #[]] w fun e w' => e = .returned (.int .i64 (eachE most ask l : Int)) ∧ Fr no w w' := by
  have H0 := h
  obtain ⟨ad, cp, rfl, hcap, hmx, hit⟩ := h
  unfold maxLen at hmx
  have HI : Hid (∀ (i : Nat) (x : Ty), l[i]? = some x → ∃ b off, ad = some ⟨b, off, none⟩ ∧ ∀ (j : Nat) (u : Value), (elTy.f x)[j]? = some u → w.cell? ⟨b, off + i * elTy.n + j, none⟩ = some u) := hit
  have HS : Hid (SlG elTy w (.slice ad l.length cp) l) := H0
  have HASK : Hid (∀ w' v' k x, Fr no w w' → l[k]? = some x → SlG elTy w' v' (l.take k) → Calls Tryz.prog 108 #[.agg #[.int .i64 x.k, .string x.c], v'] w' fun e w2 => e = .returned (.int .i64 (ask x (l.take k) : Int)) ∧ Fr no w' w2) := ASK
  clear hit H0 ASK
  go_enter Tryz.func107, Tryz.ntmps107
  go_wp2_with fail
  refine wp_label_one 0 (EachTyAt w (.slice ad l.length cp) (most : Int) (.func (.func 108) #[] #[]) ask l) (fun a' _ => l.length - (intOf (a'.tmps.getD 7 undef)).toNat) rfl ?_ ?_
  · intro K h0 hr hn'
    by_cases hbig : most < l.length
    · have HE : Hid (eachE most ask l = 32) := by show _ = _; unfold eachE; rw [if_pos hbig]
      go_wp2_with fail
      refine hr _ _ ?_
      go_ret
      rw [HE.out]
      exact ⟨rfl, Fr.refl _ _⟩
    · have hbig' : ¬ (most : Int) < (l.length : Int) := by omega
      go_wp2_with fail
      go_step3
      rename_i hk
      exact hk _ _ (h0 _ _ ⟨0, _, _, _, _, _, _, _, _, _, _, _, _, _, _, _, _, _, _, _, _, _, _, _, _, _, _, _, _, rfl, rfl, Fr.refl _ _, by omega, by omega, rfl⟩)
  · rintro a' w' ⟨k, u3, u4, u5, u6, u7, u8, u9, u10, u11, u12, u13, u14, u15, u16, u17, u18, u19, u20, u21, u22, u23, u24, u25, u26, u27, u28, u29, u30, rfl, rfl, hw, hk, hlm, hF⟩ K hj hr hn'
    have HFE : Hid (firstE ask (l.take k) (l.drop k) = firstE ask [] l) := hF
    have HEE : Hid (eachE most ask l = firstE ask [] l) := by show _ = _; unfold eachE; rw [if_neg (by omega)]
    clear hF
    by_cases hend : k = l.length
    · subst hend
      have HE : Hid (eachE most ask l = 0) := by
        show _ = _
        rw [HEE.out, ← HFE.out, List.drop_length]
        rfl
      go_wp2_with fail
      refine hr _ _ ?_
      go_ret
      rw [HE.out]
      exact ⟨rfl, hw⟩
    · have hlt : k < l.length := by omega
      have hne : ((k : Int) == (l.length : Int)) = false := by simp; omega
      have hkc : (k : Int) ≤ (cp : Int) := by omega
      have hk0 : (0 : Int) ≤ (k : Int) := by omega
      obtain ⟨x, hx⟩ : ∃ x, l[k]? = some x := ⟨_, List.getElem?_eq_getElem hlt⟩
      obtain ⟨b, off, rfl, hc0⟩ := HI.out k x hx
      have hc : ∀ (j : Nat) (u : Value), (elTy.f x)[j]? = some u → w.cell? ⟨b, off + k * 2 + j, none⟩ = some u := hc0
      clear hc0
      have c0 : w'.cell? ⟨b, off + k * 2, none⟩ = some (.int .i64 x.k) := hw.cell (hc 0 _ rfl) (fun f => f)
      have c1 : w'.cell? ⟨b, off + k * 2 + 1, none⟩ = some (.string x.c) := hw.cell (hc 1 _ rfl) (fun f => f)
      have HW : Hid (Fr no w w') := hw
      have A := fun w2 (f2 : Fr no w' w2) => HASK.out w2 (.slice (some ⟨b, off, none⟩) k cp) k x (hw.new f2 (fun _ _ f => f)) hx ((HS.out.kept (hw.new f2 (fun _ _ f => f))).take (by omega))
      have KS : ∀ w2, Fr no w' w2 → Fr no w' w2 ∧ w2.cell? ⟨b, off + k * 2, none⟩ = some (.int .i64 x.k) ∧ w2.cell? ⟨b, off + k * 2 + 1, none⟩ = some (.string x.c) := fun w2 f2 => ⟨f2, f2.cell c0 (fun f => f), f2.cell c1 (fun f => f)⟩
      have HX : Hid (l[k]? = some x) := hx
      have hdrop : l.drop k = x :: l.drop (k + 1) := by
        have := List.drop_eq_getElem_cons hlt
        rw [this]
        have e : l[k] = x := by
          rw [List.getElem?_eq_getElem hlt] at hx
          exact Option.some.inj hx
        rw [e]
      have HN : Hid (firstE ask [] l = if ask x (l.take k) ≠ 0 then ask x (l.take k) else firstE ask (l.take (k + 1)) (l.drop (k + 1))) := by
        show _ = _
        rw [← HFE.out, hdrop, firstE, take_next l k x hx]
      clear hx hc hw hdrop
      generalize hask : ask x (l.take k) = err at *
      by_cases h0 : err = 0
      · subst h0
        go_wp2_with fail
        go_region_held3 (fun w2 => Fr no w' w2 ∧ w2.cell? ⟨b, off + k * 2, none⟩ = some (.int .i64 x.k) ∧ w2.cell? ⟨b, off + k * 2 + 1, none⟩ = some (.string x.c)) (first | exact KS _ (Fr.refl no _).drew | exact KS _ f3') (first | (go_at_call 108; refine (A _ (Fr.refl no _).drew).mono ?_; rintro e w3 ⟨rfl, f3⟩; have f3' := (Fr.refl no w').drew.new f3 (fun _ _ f => f)))
        go_wp2_with fail
        go_step3
        refine hj _ _ ⟨k + 1, _, _, _, _, _, _, _, _, _, _, _, _, _, _, _, _, _, _, _, _, _, _, _, _, _, _, _, _, rfl, by go_num, HW.out.new f3' (fun _ _ f => f), by omega, by omega, ?_⟩ ?_
        · rw [HN.out, if_neg (by simp)]
        · simp [intOf]
          omega
      · have h0' : ((err : Int) == 0) = false := by simp; omega
        have HE : Hid (eachE most ask l = err) := by show _ = _; rw [HEE.out, HN.out, if_pos h0]
        go_wp2_with fail
        go_region_held3 (fun w2 => Fr no w' w2 ∧ w2.cell? ⟨b, off + k * 2, none⟩ = some (.int .i64 x.k) ∧ w2.cell? ⟨b, off + k * 2 + 1, none⟩ = some (.string x.c)) (first | exact KS _ (Fr.refl no _).drew | exact KS _ f3') (first | (go_at_call 108; refine (A _ (Fr.refl no _).drew).mono ?_; rintro e w3 ⟨rfl, f3⟩; have f3' := (Fr.refl no w').drew.new f3 (fun _ _ f => f)))
        go_wp2_with fail
        refine hr _ _ ?_
        go_ret
        rw [HE.out]
        exact ⟨rfl, HW.out.new f3' (fun _ _ f => f)⟩
end Go.Proofs.YthncdbobjeeeaaaGreatDoor
