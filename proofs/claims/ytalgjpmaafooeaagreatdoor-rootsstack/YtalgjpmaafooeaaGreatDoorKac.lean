/- The first error of a list, of other kinds. -/
import Derived.Test.YtalgjpmaafooeaaGreatDoorKab
namespace Go.Proofs.YtalgjpmaafooeaaGreatDoor
open Go.ChangeShapes Go.WideShapes Go.ChangeAt Go.RowKit
def elIn : El (Int × Int) := { t := 24, e := 27, n := 2, z := .agg #[.int .i64 0, .int .i64 0], b := 16, f := fun x => [.int .i64 x.1, .int .i64 x.2] }
theorem SlI.g {w : World} {v : Value} {l : List (Int × Int)} (h : SlI w v l) : SlG elIn w v l := by
 obtain ⟨ad, cap, rfl, h1, h2, h3⟩ := h
 refine ⟨ad, cap, rfl, h1, h2, fun i x hx => ?_⟩
 obtain ⟨b, off, rfl, c0, c1⟩ := h3 i x hx
 refine ⟨b, off, rfl, fun j u hj => ?_⟩
 match j, hj with
 | 0, hj => simp [elIn] at hj; subst hj; exact c0
 | 1, hj => simp [elIn] at hj; subst hj; exact c1
 | n + 2, hj => simp [elIn] at hj
def EachInAt (w0 : World) (v : Value) (most : Int) (fv : Value) (ask : (Int × Int) → List (Int × Int) → Nat) (l : List (Int × Int)) (a : Act) (w : World) : Prop :=
 ∃ (k : Nat) (u3 u4 u5 u6 u7 u8 u9 u10 u11 u12 u13 u14 u15 u16 u17 u18 u19 u20 u21 u22 u23 u24 u25 u26 u27 u28 u29 u30 : Value), a = { tmps := #[v, .int .i64 most, fv, u3, u4, u5, u6, u7, u8, u9, u10, u11, u12, u13, u14, u15, u16, u17, u18, u19, u20, u21, u22, u23, u24, u25, u26, u27, u28, u29, u30], defers := [] } ∧ u7 = .int .i64 (k : Int) ∧ Fr no w0 w ∧ k ≤ l.length ∧ l.length ≤ most.toNat ∧ firstE ask (l.take k) (l.drop k) = firstE ask [] l
set_option maxRecDepth 100000 in
set_option maxHeartbeats 2000000 in
theorem eachIn_any (w : World) (v : Value) (l : List (Int × Int)) (h : SlG elIn w v l) (most : Nat) (hmost : most ≤ 1000) (q r : Nat) (ask : (Int × Int) → List (Int × Int) → Nat)
 (ASK : ∀ w' v' k x, Fr no w w' → l[k]? = some x → SlG elIn w' v' (l.take k) → Calls Tryz.prog 73 #[.agg #[.int .i64 x.1, .int .i64 x.2], v', .pointer (some ⟨q, 0, none⟩), .pointer (some ⟨r, 0, none⟩)] w' fun e w2 => e = .returned (.int .i64 (ask x (l.take k) : Int)) ∧ Fr no w' w2) :
 Calls Tryz.prog 72 #[v, .int .i64 (most : Int), .func (.func 73) #[] #[.pointer (some ⟨q, 0, none⟩), .pointer (some ⟨r, 0, none⟩)]] w fun e w' => e = .returned (.int .i64 (eachE most ask l : Int)) ∧ Fr no w w' := by
 have H0 := h
 obtain ⟨ad, cp, rfl, hcap, hmx, hit⟩ := h
 unfold maxLen at hmx
 have HI : Hid (∀ (i : Nat) (x : (Int × Int)), l[i]? = some x → ∃ b off, ad = some ⟨b, off, none⟩ ∧ ∀ (j : Nat) (u : Value), (elIn.f x)[j]? = some u → w.cell? ⟨b, off + i * elIn.n + j, none⟩ = some u) := hit
 have HS : Hid (SlG elIn w (.slice ad l.length cp) l) := H0
 have HASK : Hid (∀ w' v' k x, Fr no w w' → l[k]? = some x → SlG elIn w' v' (l.take k) → Calls Tryz.prog 73 #[.agg #[.int .i64 x.1, .int .i64 x.2], v', .pointer (some ⟨q, 0, none⟩), .pointer (some ⟨r, 0, none⟩)] w' fun e w2 => e = .returned (.int .i64 (ask x (l.take k) : Int)) ∧ Fr no w' w2) := ASK
 clear hit H0 ASK
 go_enter Tryz.func72, Tryz.ntmps72
 go_wp2_with fail
 refine wp_label_one 0 (EachInAt w (.slice ad l.length cp) (most : Int) (.func (.func 73) #[] #[.pointer (some ⟨q, 0, none⟩), .pointer (some ⟨r, 0, none⟩)]) ask l) (fun a' _ => l.length - (intOf (a'.tmps.getD 7 undef)).toNat) rfl ?_ ?_
 · intro K h0 hr hn'
   by_cases hbig : most < l.length
   · have HE : Hid (eachE most ask l = 32) := by show _ = _; unfold eachE; rw [if_pos hbig]
     go_wp2_with fail
     refine hr _ _ ?_
     go_ret
     rw [HE.out]
     exact ⟨rfl, Fr.refl _ _⟩
   · have hbig' : ¬ (most : Int) < (l.length : Int) := by omega
     go_wp2_with fail
     go_step3
     rename_i hk
     exact hk _ _ (h0 _ _ ⟨0, _, _, _, _, _, _, _, _, _, _, _, _, _, _, _, _, _, _, _, _, _, _, _, _, _, _, _, _, rfl, rfl, Fr.refl _ _, by omega, by omega, rfl⟩)
 · rintro a' w' ⟨k, u3, u4, u5, u6, u7, u8, u9, u10, u11, u12, u13, u14, u15, u16, u17, u18, u19, u20, u21, u22, u23, u24, u25, u26, u27, u28, u29, u30, rfl, rfl, hw, hk, hlm, hF⟩ K hj hr hn'
   have HFE : Hid (firstE ask (l.take k) (l.drop k) = firstE ask [] l) := hF
   have HEE : Hid (eachE most ask l = firstE ask [] l) := by show _ = _; unfold eachE; rw [if_neg (by omega)]
   clear hF
   by_cases hend : k = l.length
   · subst hend
     have HE : Hid (eachE most ask l = 0) := by
      show _ = _
      rw [HEE.out, ← HFE.out, List.drop_length]
      rfl
     go_wp2_with fail
     refine hr _ _ ?_
     go_ret
     rw [HE.out]
     exact ⟨rfl, hw⟩
   · have hlt : k < l.length := by omega
     have hne : ((k : Int) == (l.length : Int)) = false := by simp; omega
     have hkc : (k : Int) ≤ (cp : Int) := by omega
     have hk0 : (0 : Int) ≤ (k : Int) := by omega
     obtain ⟨x, hx⟩ : ∃ x, l[k]? = some x := ⟨_, List.getElem?_eq_getElem hlt⟩
     obtain ⟨b, off, rfl, hc0⟩ := HI.out k x hx
     have hc : ∀ (j : Nat) (u : Value), (elIn.f x)[j]? = some u → w.cell? ⟨b, off + k * 2 + j, none⟩ = some u := hc0
     clear hc0
     have c0 : w'.cell? ⟨b, off + k * 2, none⟩ = some (.int .i64 x.1) := hw.cell (hc 0 _ rfl) (fun f => f)
     have c1 : w'.cell? ⟨b, off + k * 2 + 1, none⟩ = some (.int .i64 x.2) := hw.cell (hc 1 _ rfl) (fun f => f)
     have HW : Hid (Fr no w w') := hw
     have A := fun w2 (f2 : Fr no w' w2) => HASK.out w2 (.slice (some ⟨b, off, none⟩) k cp) k x (hw.new f2 (fun _ _ f => f)) hx ((HS.out.kept (hw.new f2 (fun _ _ f => f))).take (by omega))
     have KS : ∀ w2, Fr no w' w2 → Fr no w' w2 ∧ w2.cell? ⟨b, off + k * 2, none⟩ = some (.int .i64 x.1) ∧ w2.cell? ⟨b, off + k * 2 + 1, none⟩ = some (.int .i64 x.2) := fun w2 f2 => ⟨f2, f2.cell c0 (fun f => f), f2.cell c1 (fun f => f)⟩
     have HX : Hid (l[k]? = some x) := hx
     have hdrop : l.drop k = x :: l.drop (k + 1) := by
      have := List.drop_eq_getElem_cons hlt
      rw [this]
      have e : l[k] = x := by
       rw [List.getElem?_eq_getElem hlt] at hx
       exact Option.some.inj hx
      rw [e]
     have HN : Hid (firstE ask [] l = if ask x (l.take k) ≠ 0 then ask x (l.take k) else firstE ask (l.take (k + 1)) (l.drop (k + 1))) := by
      show _ = _
      rw [← HFE.out, hdrop, firstE, take_next l k x hx]
     clear hx hc hw hdrop
     generalize hask : ask x (l.take k) = err at *
     by_cases h0 : err = 0
     · subst h0
       go_wp2_with fail
       go_region_held3 (fun w2 => Fr no w' w2 ∧ w2.cell? ⟨b, off + k * 2, none⟩ = some (.int .i64 x.1) ∧ w2.cell? ⟨b, off + k * 2 + 1, none⟩ = some (.int .i64 x.2)) (first | exact KS _ (Fr.refl no _).drew | exact KS _ f3') (first | (go_at_call 73; refine (A _ (Fr.refl no _).drew).mono ?_; rintro e w3 ⟨rfl, f3⟩; have f3' := (Fr.refl no w').drew.new f3 (fun _ _ f => f)))
       go_wp2_with fail
       go_step3
       refine hj _ _ ⟨k + 1, _, _, _, _, _, _, _, _, _, _, _, _, _, _, _, _, _, _, _, _, _, _, _, _, _, _, _, _, rfl, by go_num, HW.out.new f3' (fun _ _ f => f), by omega, by omega, ?_⟩ ?_
       · rw [HN.out, if_neg (by simp)]
       · simp [intOf]
         omega
     · have h0' : ((err : Int) == 0) = false := by simp; omega
       have HE : Hid (eachE most ask l = err) := by show _ = _; rw [HEE.out, HN.out, if_pos h0]
       go_wp2_with fail
       go_region_held3 (fun w2 => Fr no w' w2 ∧ w2.cell? ⟨b, off + k * 2, none⟩ = some (.int .i64 x.1) ∧ w2.cell? ⟨b, off + k * 2 + 1, none⟩ = some (.int .i64 x.2)) (first | exact KS _ (Fr.refl no _).drew | exact KS _ f3') (first | (go_at_call 73; refine (A _ (Fr.refl no _).drew).mono ?_; rintro e w3 ⟨rfl, f3⟩; have f3' := (Fr.refl no w').drew.new f3 (fun _ _ f => f)))
       go_wp2_with fail
       refine hr _ _ ?_
       go_ret
       rw [HE.out]
       exact ⟨rfl, HW.out.new f3' (fun _ _ f => f)⟩
def EachHdAt (w0 : World) (v : Value) (most : Int) (fv : Value) (ask : Hd → List Hd → Nat) (l : List Hd) (a : Act) (w : World) : Prop :=
 ∃ (k : Nat) (u3 u4 u5 u6 u7 u8 u9 u10 u11 u12 u13 u14 u15 u16 u17 u18 u19 u20 u21 u22 u23 u24 u25 u26 u27 u28 u29 u30 : Value), a = { tmps := #[v, .int .i64 most, fv, u3, u4, u5, u6, u7, u8, u9, u10, u11, u12, u13, u14, u15, u16, u17, u18, u19, u20, u21, u22, u23, u24, u25, u26, u27, u28, u29, u30], defers := [] } ∧ u7 = .int .i64 (k : Int) ∧ Fr no w0 w ∧ k ≤ l.length ∧ l.length ≤ most.toNat ∧ firstE ask (l.take k) (l.drop k) = firstE ask [] l
set_option maxRecDepth 100000 in
set_option maxHeartbeats 2000000 in
theorem eachHd_any (w : World) (v : Value) (l : List Hd) (h : SlG elHd w v l) (most : Nat) (hmost : most ≤ 1000) (q r : Nat) (ask : Hd → List Hd → Nat)
 (ASK : ∀ w' v' k x, Fr no w w' → l[k]? = some x → SlG elHd w' v' (l.take k) → Calls Tryz.prog 77 #[.agg #[.int .i64 x.fr, .int .i64 x.to, .int .i64 x.tg, .int .i64 x.cl, .int .i64 x.dp], v', .pointer (some ⟨q, 0, none⟩), .pointer (some ⟨r, 0, none⟩)] w' fun e w2 => e = .returned (.int .i64 (ask x (l.take k) : Int)) ∧ Fr no w' w2) :
 Calls Tryz.prog 76 #[v, .int .i64 (most : Int), .func (.func 77) #[] #[.pointer (some ⟨q, 0, none⟩), .pointer (some ⟨r, 0, none⟩)]] w fun e w' => e = .returned (.int .i64 (eachE most ask l : Int)) ∧ Fr no w w' := by
 have H0 := h
 obtain ⟨ad, cp, rfl, hcap, hmx, hit⟩ := h
 unfold maxLen at hmx
 have HI : Hid (∀ (i : Nat) (x : Hd), l[i]? = some x → ∃ b off, ad = some ⟨b, off, none⟩ ∧ ∀ (j : Nat) (u : Value), (elHd.f x)[j]? = some u → w.cell? ⟨b, off + i * elHd.n + j, none⟩ = some u) := hit
 have HS : Hid (SlG elHd w (.slice ad l.length cp) l) := H0
 have HASK : Hid (∀ w' v' k x, Fr no w w' → l[k]? = some x → SlG elHd w' v' (l.take k) → Calls Tryz.prog 77 #[.agg #[.int .i64 x.fr, .int .i64 x.to, .int .i64 x.tg, .int .i64 x.cl, .int .i64 x.dp], v', .pointer (some ⟨q, 0, none⟩), .pointer (some ⟨r, 0, none⟩)] w' fun e w2 => e = .returned (.int .i64 (ask x (l.take k) : Int)) ∧ Fr no w' w2) := ASK
 clear hit H0 ASK
 go_enter Tryz.func76, Tryz.ntmps76
 go_wp2_with fail
 refine wp_label_one 0 (EachHdAt w (.slice ad l.length cp) (most : Int) (.func (.func 77) #[] #[.pointer (some ⟨q, 0, none⟩), .pointer (some ⟨r, 0, none⟩)]) ask l) (fun a' _ => l.length - (intOf (a'.tmps.getD 7 undef)).toNat) rfl ?_ ?_
 · intro K h0 hr hn'
   by_cases hbig : most < l.length
   · have HE : Hid (eachE most ask l = 32) := by show _ = _; unfold eachE; rw [if_pos hbig]
     go_wp2_with fail
     refine hr _ _ ?_
     go_ret
     rw [HE.out]
     exact ⟨rfl, Fr.refl _ _⟩
   · have hbig' : ¬ (most : Int) < (l.length : Int) := by omega
     go_wp2_with fail
     go_step3
     rename_i hk
     exact hk _ _ (h0 _ _ ⟨0, _, _, _, _, _, _, _, _, _, _, _, _, _, _, _, _, _, _, _, _, _, _, _, _, _, _, _, _, rfl, rfl, Fr.refl _ _, by omega, by omega, rfl⟩)
 · rintro a' w' ⟨k, u3, u4, u5, u6, u7, u8, u9, u10, u11, u12, u13, u14, u15, u16, u17, u18, u19, u20, u21, u22, u23, u24, u25, u26, u27, u28, u29, u30, rfl, rfl, hw, hk, hlm, hF⟩ K hj hr hn'
   have HFE : Hid (firstE ask (l.take k) (l.drop k) = firstE ask [] l) := hF
   have HEE : Hid (eachE most ask l = firstE ask [] l) := by show _ = _; unfold eachE; rw [if_neg (by omega)]
   clear hF
   by_cases hend : k = l.length
   · subst hend
     have HE : Hid (eachE most ask l = 0) := by
      show _ = _
      rw [HEE.out, ← HFE.out, List.drop_length]
      rfl
     go_wp2_with fail
     refine hr _ _ ?_
     go_ret
     rw [HE.out]
     exact ⟨rfl, hw⟩
   · have hlt : k < l.length := by omega
     have hne : ((k : Int) == (l.length : Int)) = false := by simp; omega
     have hkc : (k : Int) ≤ (cp : Int) := by omega
     have hk0 : (0 : Int) ≤ (k : Int) := by omega
     obtain ⟨x, hx⟩ : ∃ x, l[k]? = some x := ⟨_, List.getElem?_eq_getElem hlt⟩
     obtain ⟨b, off, rfl, hc0⟩ := HI.out k x hx
     have hc : ∀ (j : Nat) (u : Value), (elHd.f x)[j]? = some u → w.cell? ⟨b, off + k * 5 + j, none⟩ = some u := hc0
     clear hc0
     have c0 : w'.cell? ⟨b, off + k * 5, none⟩ = some (.int .i64 x.fr) := hw.cell (hc 0 _ rfl) (fun f => f)
     have c1 : w'.cell? ⟨b, off + k * 5 + 1, none⟩ = some (.int .i64 x.to) := hw.cell (hc 1 _ rfl) (fun f => f)
     have c2 : w'.cell? ⟨b, off + k * 5 + 2, none⟩ = some (.int .i64 x.tg) := hw.cell (hc 2 _ rfl) (fun f => f)
     have c3 : w'.cell? ⟨b, off + k * 5 + 3, none⟩ = some (.int .i64 x.cl) := hw.cell (hc 3 _ rfl) (fun f => f)
     have c4 : w'.cell? ⟨b, off + k * 5 + 4, none⟩ = some (.int .i64 x.dp) := hw.cell (hc 4 _ rfl) (fun f => f)
     have HW : Hid (Fr no w w') := hw
     have A := fun w2 (f2 : Fr no w' w2) => HASK.out w2 (.slice (some ⟨b, off, none⟩) k cp) k x (hw.new f2 (fun _ _ f => f)) hx ((HS.out.kept (hw.new f2 (fun _ _ f => f))).take (by omega))
     have KS : ∀ w2, Fr no w' w2 → Fr no w' w2 ∧ w2.cell? ⟨b, off + k * 5, none⟩ = some (.int .i64 x.fr) ∧ w2.cell? ⟨b, off + k * 5 + 1, none⟩ = some (.int .i64 x.to) ∧ w2.cell? ⟨b, off + k * 5 + 2, none⟩ = some (.int .i64 x.tg) ∧ w2.cell? ⟨b, off + k * 5 + 3, none⟩ = some (.int .i64 x.cl) ∧ w2.cell? ⟨b, off + k * 5 + 4, none⟩ = some (.int .i64 x.dp) := fun w2 f2 => ⟨f2, f2.cell c0 (fun f => f), f2.cell c1 (fun f => f), f2.cell c2 (fun f => f), f2.cell c3 (fun f => f), f2.cell c4 (fun f => f)⟩
     have HX : Hid (l[k]? = some x) := hx
     have hdrop : l.drop k = x :: l.drop (k + 1) := by
      have := List.drop_eq_getElem_cons hlt
      rw [this]
      have e : l[k] = x := by
       rw [List.getElem?_eq_getElem hlt] at hx
       exact Option.some.inj hx
      rw [e]
     have HN : Hid (firstE ask [] l = if ask x (l.take k) ≠ 0 then ask x (l.take k) else firstE ask (l.take (k + 1)) (l.drop (k + 1))) := by
      show _ = _
      rw [← HFE.out, hdrop, firstE, take_next l k x hx]
     clear hx hc hw hdrop
     generalize hask : ask x (l.take k) = err at *
     by_cases h0 : err = 0
     · subst h0
       go_wp2_with fail
       go_region_held3 (fun w2 => Fr no w' w2 ∧ w2.cell? ⟨b, off + k * 5, none⟩ = some (.int .i64 x.fr) ∧ w2.cell? ⟨b, off + k * 5 + 1, none⟩ = some (.int .i64 x.to) ∧ w2.cell? ⟨b, off + k * 5 + 2, none⟩ = some (.int .i64 x.tg) ∧ w2.cell? ⟨b, off + k * 5 + 3, none⟩ = some (.int .i64 x.cl) ∧ w2.cell? ⟨b, off + k * 5 + 4, none⟩ = some (.int .i64 x.dp)) (first | exact KS _ (Fr.refl no _).drew | exact KS _ f3') (first | (go_at_call 77; refine (A _ (Fr.refl no _).drew).mono ?_; rintro e w3 ⟨rfl, f3⟩; have f3' := (Fr.refl no w').drew.new f3 (fun _ _ f => f)))
       go_wp2_with fail
       go_step3
       refine hj _ _ ⟨k + 1, _, _, _, _, _, _, _, _, _, _, _, _, _, _, _, _, _, _, _, _, _, _, _, _, _, _, _, _, rfl, by go_num, HW.out.new f3' (fun _ _ f => f), by omega, by omega, ?_⟩ ?_
       · rw [HN.out, if_neg (by simp)]
       · simp [intOf]
         omega
     · have h0' : ((err : Int) == 0) = false := by simp; omega
       have HE : Hid (eachE most ask l = err) := by show _ = _; rw [HEE.out, HN.out, if_pos h0]
       go_wp2_with fail
       go_region_held3 (fun w2 => Fr no w' w2 ∧ w2.cell? ⟨b, off + k * 5, none⟩ = some (.int .i64 x.fr) ∧ w2.cell? ⟨b, off + k * 5 + 1, none⟩ = some (.int .i64 x.to) ∧ w2.cell? ⟨b, off + k * 5 + 2, none⟩ = some (.int .i64 x.tg) ∧ w2.cell? ⟨b, off + k * 5 + 3, none⟩ = some (.int .i64 x.cl) ∧ w2.cell? ⟨b, off + k * 5 + 4, none⟩ = some (.int .i64 x.dp)) (first | exact KS _ (Fr.refl no _).drew | exact KS _ f3') (first | (go_at_call 77; refine (A _ (Fr.refl no _).drew).mono ?_; rintro e w3 ⟨rfl, f3⟩; have f3' := (Fr.refl no w').drew.new f3 (fun _ _ f => f)))
       go_wp2_with fail
       refine hr _ _ ?_
       go_ret
       rw [HE.out]
       exact ⟨rfl, HW.out.new f3' (fun _ _ f => f)⟩
def EachMsAt (w0 : World) (v : Value) (most : Int) (fv : Value) (ask : Ms → List Ms → Nat) (l : List Ms) (a : Act) (w : World) : Prop :=
 ∃ (k : Nat) (u3 u4 u5 u6 u7 u8 u9 u10 u11 u12 u13 u14 u15 u16 u17 u18 u19 u20 u21 u22 u23 u24 u25 u26 u27 u28 u29 u30 : Value), a = { tmps := #[v, .int .i64 most, fv, u3, u4, u5, u6, u7, u8, u9, u10, u11, u12, u13, u14, u15, u16, u17, u18, u19, u20, u21, u22, u23, u24, u25, u26, u27, u28, u29, u30], defers := [] } ∧ u7 = .int .i64 (k : Int) ∧ Fr no w0 w ∧ k ≤ l.length ∧ l.length ≤ most.toNat ∧ firstE ask (l.take k) (l.drop k) = firstE ask [] l
set_option maxRecDepth 100000 in
set_option maxHeartbeats 2000000 in
theorem eachMs_any (w : World) (v : Value) (l : List Ms) (h : SlG elMs w v l) (most : Nat) (hmost : most ≤ 1000) (q : Nat) (ask : Ms → List Ms → Nat)
 (ASK : ∀ w' v' k x, Fr no w w' → l[k]? = some x → SlG elMs w' v' (l.take k) → Calls Tryz.prog 40 #[.agg #[.string x.name, .slice x.p.a x.p.n x.p.c, .int .i64 x.ret.k, .string x.ret.c, .int .i64 x.lo, .int .i64 x.st, .slice x.c.a x.c.n x.c.c, .slice x.h.a x.h.n x.h.c], v', .pointer (some ⟨q, 0, none⟩)] w' fun e w2 => e = .returned (.int .i64 (ask x (l.take k) : Int)) ∧ Fr no w' w2) :
 Calls Tryz.prog 39 #[v, .int .i64 (most : Int), .func (.func 40) #[] #[.pointer (some ⟨q, 0, none⟩)]] w fun e w' => e = .returned (.int .i64 (eachE most ask l : Int)) ∧ Fr no w w' := by
 have H0 := h
 obtain ⟨ad, cp, rfl, hcap, hmx, hit⟩ := h
 unfold maxLen at hmx
 have HI : Hid (∀ (i : Nat) (x : Ms), l[i]? = some x → ∃ b off, ad = some ⟨b, off, none⟩ ∧ ∀ (j : Nat) (u : Value), (elMs.f x)[j]? = some u → w.cell? ⟨b, off + i * elMs.n + j, none⟩ = some u) := hit
 have HS : Hid (SlG elMs w (.slice ad l.length cp) l) := H0
 have HASK : Hid (∀ w' v' k x, Fr no w w' → l[k]? = some x → SlG elMs w' v' (l.take k) → Calls Tryz.prog 40 #[.agg #[.string x.name, .slice x.p.a x.p.n x.p.c, .int .i64 x.ret.k, .string x.ret.c, .int .i64 x.lo, .int .i64 x.st, .slice x.c.a x.c.n x.c.c, .slice x.h.a x.h.n x.h.c], v', .pointer (some ⟨q, 0, none⟩)] w' fun e w2 => e = .returned (.int .i64 (ask x (l.take k) : Int)) ∧ Fr no w' w2) := ASK
 clear hit H0 ASK
 go_enter Tryz.func39, Tryz.ntmps39
 go_wp2_with fail
 refine wp_label_one 0 (EachMsAt w (.slice ad l.length cp) (most : Int) (.func (.func 40) #[] #[.pointer (some ⟨q, 0, none⟩)]) ask l) (fun a' _ => l.length - (intOf (a'.tmps.getD 7 undef)).toNat) rfl ?_ ?_
 · intro K h0 hr hn'
   by_cases hbig : most < l.length
   · have HE : Hid (eachE most ask l = 32) := by show _ = _; unfold eachE; rw [if_pos hbig]
     go_wp2_with fail
     refine hr _ _ ?_
     go_ret
     rw [HE.out]
     exact ⟨rfl, Fr.refl _ _⟩
   · have hbig' : ¬ (most : Int) < (l.length : Int) := by omega
     go_wp2_with fail
     go_step3
     rename_i hk
     exact hk _ _ (h0 _ _ ⟨0, _, _, _, _, _, _, _, _, _, _, _, _, _, _, _, _, _, _, _, _, _, _, _, _, _, _, _, _, rfl, rfl, Fr.refl _ _, by omega, by omega, rfl⟩)
 · rintro a' w' ⟨k, u3, u4, u5, u6, u7, u8, u9, u10, u11, u12, u13, u14, u15, u16, u17, u18, u19, u20, u21, u22, u23, u24, u25, u26, u27, u28, u29, u30, rfl, rfl, hw, hk, hlm, hF⟩ K hj hr hn'
   have HFE : Hid (firstE ask (l.take k) (l.drop k) = firstE ask [] l) := hF
   have HEE : Hid (eachE most ask l = firstE ask [] l) := by show _ = _; unfold eachE; rw [if_neg (by omega)]
   clear hF
   by_cases hend : k = l.length
   · subst hend
     have HE : Hid (eachE most ask l = 0) := by
      show _ = _
      rw [HEE.out, ← HFE.out, List.drop_length]
      rfl
     go_wp2_with fail
     refine hr _ _ ?_
     go_ret
     rw [HE.out]
     exact ⟨rfl, hw⟩
   · have hlt : k < l.length := by omega
     have hne : ((k : Int) == (l.length : Int)) = false := by simp; omega
     have hkc : (k : Int) ≤ (cp : Int) := by omega
     have hk0 : (0 : Int) ≤ (k : Int) := by omega
     obtain ⟨x, hx⟩ : ∃ x, l[k]? = some x := ⟨_, List.getElem?_eq_getElem hlt⟩
     obtain ⟨b, off, rfl, hc0⟩ := HI.out k x hx
     have hc : ∀ (j : Nat) (u : Value), (elMs.f x)[j]? = some u → w.cell? ⟨b, off + k * 8 + j, none⟩ = some u := hc0
     clear hc0
     have c0 : w'.cell? ⟨b, off + k * 8, none⟩ = some (.string x.name) := hw.cell (hc 0 _ rfl) (fun f => f)
     have c1 : w'.cell? ⟨b, off + k * 8 + 1, none⟩ = some (.slice x.p.a x.p.n x.p.c) := hw.cell (hc 1 _ rfl) (fun f => f)
     have c2 : w'.cell? ⟨b, off + k * 8 + 2, none⟩ = some (.int .i64 x.ret.k) := hw.cell (hc 2 _ rfl) (fun f => f)
     have c3 : w'.cell? ⟨b, off + k * 8 + 3, none⟩ = some (.string x.ret.c) := hw.cell (hc 3 _ rfl) (fun f => f)
     have c4 : w'.cell? ⟨b, off + k * 8 + 4, none⟩ = some (.int .i64 x.lo) := hw.cell (hc 4 _ rfl) (fun f => f)
     have c5 : w'.cell? ⟨b, off + k * 8 + 5, none⟩ = some (.int .i64 x.st) := hw.cell (hc 5 _ rfl) (fun f => f)
     have c6 : w'.cell? ⟨b, off + k * 8 + 6, none⟩ = some (.slice x.c.a x.c.n x.c.c) := hw.cell (hc 6 _ rfl) (fun f => f)
     have c7 : w'.cell? ⟨b, off + k * 8 + 7, none⟩ = some (.slice x.h.a x.h.n x.h.c) := hw.cell (hc 7 _ rfl) (fun f => f)
     have HW : Hid (Fr no w w') := hw
     have A := fun w2 (f2 : Fr no w' w2) => HASK.out w2 (.slice (some ⟨b, off, none⟩) k cp) k x (hw.new f2 (fun _ _ f => f)) hx ((HS.out.kept (hw.new f2 (fun _ _ f => f))).take (by omega))
     have KS : ∀ w2, Fr no w' w2 → Fr no w' w2 ∧ w2.cell? ⟨b, off + k * 8, none⟩ = some (.string x.name) ∧ w2.cell? ⟨b, off + k * 8 + 1, none⟩ = some (.slice x.p.a x.p.n x.p.c) ∧ w2.cell? ⟨b, off + k * 8 + 2, none⟩ = some (.int .i64 x.ret.k) ∧ w2.cell? ⟨b, off + k * 8 + 3, none⟩ = some (.string x.ret.c) ∧ w2.cell? ⟨b, off + k * 8 + 4, none⟩ = some (.int .i64 x.lo) ∧ w2.cell? ⟨b, off + k * 8 + 5, none⟩ = some (.int .i64 x.st) ∧ w2.cell? ⟨b, off + k * 8 + 6, none⟩ = some (.slice x.c.a x.c.n x.c.c) ∧ w2.cell? ⟨b, off + k * 8 + 7, none⟩ = some (.slice x.h.a x.h.n x.h.c) := fun w2 f2 => ⟨f2, f2.cell c0 (fun f => f), f2.cell c1 (fun f => f), f2.cell c2 (fun f => f), f2.cell c3 (fun f => f), f2.cell c4 (fun f => f), f2.cell c5 (fun f => f), f2.cell c6 (fun f => f), f2.cell c7 (fun f => f)⟩
     have HX : Hid (l[k]? = some x) := hx
     have hdrop : l.drop k = x :: l.drop (k + 1) := by
      have := List.drop_eq_getElem_cons hlt
      rw [this]
      have e : l[k] = x := by
       rw [List.getElem?_eq_getElem hlt] at hx
       exact Option.some.inj hx
      rw [e]
     have HN : Hid (firstE ask [] l = if ask x (l.take k) ≠ 0 then ask x (l.take k) else firstE ask (l.take (k + 1)) (l.drop (k + 1))) := by
      show _ = _
      rw [← HFE.out, hdrop, firstE, take_next l k x hx]
     clear hx hc hw hdrop
     generalize hask : ask x (l.take k) = err at *
     by_cases h0 : err = 0
     · subst h0
       go_wp2_with fail
       go_region_held3 (fun w2 => Fr no w' w2 ∧ w2.cell? ⟨b, off + k * 8, none⟩ = some (.string x.name) ∧ w2.cell? ⟨b, off + k * 8 + 1, none⟩ = some (.slice x.p.a x.p.n x.p.c) ∧ w2.cell? ⟨b, off + k * 8 + 2, none⟩ = some (.int .i64 x.ret.k) ∧ w2.cell? ⟨b, off + k * 8 + 3, none⟩ = some (.string x.ret.c) ∧ w2.cell? ⟨b, off + k * 8 + 4, none⟩ = some (.int .i64 x.lo) ∧ w2.cell? ⟨b, off + k * 8 + 5, none⟩ = some (.int .i64 x.st) ∧ w2.cell? ⟨b, off + k * 8 + 6, none⟩ = some (.slice x.c.a x.c.n x.c.c) ∧ w2.cell? ⟨b, off + k * 8 + 7, none⟩ = some (.slice x.h.a x.h.n x.h.c)) (first | exact KS _ (Fr.refl no _).drew | exact KS _ f3') (first | (go_at_call 40; refine (A _ (Fr.refl no _).drew).mono ?_; rintro e w3 ⟨rfl, f3⟩; have f3' := (Fr.refl no w').drew.new f3 (fun _ _ f => f)))
       go_wp2_with fail
       go_step3
       refine hj _ _ ⟨k + 1, _, _, _, _, _, _, _, _, _, _, _, _, _, _, _, _, _, _, _, _, _, _, _, _, _, _, _, _, rfl, by go_num, HW.out.new f3' (fun _ _ f => f), by omega, by omega, ?_⟩ ?_
       · rw [HN.out, if_neg (by simp)]
       · simp [intOf]
         omega
     · have h0' : ((err : Int) == 0) = false := by simp; omega
       have HE : Hid (eachE most ask l = err) := by show _ = _; rw [HEE.out, HN.out, if_pos h0]
       go_wp2_with fail
       go_region_held3 (fun w2 => Fr no w' w2 ∧ w2.cell? ⟨b, off + k * 8, none⟩ = some (.string x.name) ∧ w2.cell? ⟨b, off + k * 8 + 1, none⟩ = some (.slice x.p.a x.p.n x.p.c) ∧ w2.cell? ⟨b, off + k * 8 + 2, none⟩ = some (.int .i64 x.ret.k) ∧ w2.cell? ⟨b, off + k * 8 + 3, none⟩ = some (.string x.ret.c) ∧ w2.cell? ⟨b, off + k * 8 + 4, none⟩ = some (.int .i64 x.lo) ∧ w2.cell? ⟨b, off + k * 8 + 5, none⟩ = some (.int .i64 x.st) ∧ w2.cell? ⟨b, off + k * 8 + 6, none⟩ = some (.slice x.c.a x.c.n x.c.c) ∧ w2.cell? ⟨b, off + k * 8 + 7, none⟩ = some (.slice x.h.a x.h.n x.h.c)) (first | exact KS _ (Fr.refl no _).drew | exact KS _ f3') (first | (go_at_call 40; refine (A _ (Fr.refl no _).drew).mono ?_; rintro e w3 ⟨rfl, f3⟩; have f3' := (Fr.refl no w').drew.new f3 (fun _ _ f => f)))
       go_wp2_with fail
       refine hr _ _ ?_
       go_ret
       rw [HE.out]
       exact ⟨rfl, HW.out.new f3' (fun _ _ f => f)⟩
end Go.Proofs.YtalgjpmaafooeaaGreatDoor
/- What a field and a method's face may be. -/
namespace Go.Proofs.YtalgjpmaafooeaaGreatDoor
open Go.ChangeShapes Go.WideShapes Go.ChangeAt Go.RowKit
def fitS (s : ByteArray) : Prop := s.size ≤ 1099511627776
theorem checkField_any (w : World) (x : Fd) (hn : fitS x.name) (ht : fitS x.ty.c) (v : Value) (l : List Fd) (h : SlG elFd w v l) :
 Calls Tryz.prog 38 #[.agg #[.string x.name, .int .i64 x.ty.k, .string x.ty.c, .bool x.vol], v] w fun e w' => e = .returned (.int .i64 (ckFd x l : Int)) ∧ Fr no w w' := by
 have HF : Hid (Fr no w (w.alloc (.cells #[.string x.name, .int .i64 x.ty.k, .string x.ty.c, .bool x.vol] 109))) := (Fr.refl no w).alloc _ _
 have hbx : BoxFd (w.alloc (.cells #[.string x.name, .int .i64 x.ty.k, .string x.ty.c, .bool x.vol] 109)) w.heap.size x := heap_alloc_new w _
 have hsl := h.kept HF.out
 have N := isName_any (w.alloc (.cells #[.string x.name, .int .i64 x.ty.k, .string x.ty.c, .bool x.vol] 109)) x.name hn
 have T := isType_any (w.alloc (.cells #[.string x.name, .int .i64 x.ty.k, .string x.ty.c, .bool x.vol] 109)) x.ty false ht
 unfold tyV at T
 have HC : Hid (∀ w1, Fr no (w.alloc (.cells #[.string x.name, .int .i64 x.ty.k, .string x.ty.c, .bool x.vol] 109)) w1 → Calls Tryz.prog 66 #[v, .func (.func 67) #[] #[.pointer (some ⟨w.heap.size, 0, none⟩)]] w1 fun e w' => e = .returned (.bool (l.any fun y => decide (y.name = x.name))) ∧ Fr no w1 w') :=
  fun w1 f1 => containsFd_any w1 v l (hsl.kept f1) w.heap.size x (hbx.kept f1)
 clear hbx hsl h
 by_cases hN : isName x.name = true
 · rw [hN] at N
   by_cases hT : isType x.ty false = true
   · rw [hT] at T
     by_cases hA : (l.any fun y => decide (y.name = x.name)) = true
     · have HE : Hid (ckFd x l = 53) := by show _ = _; unfold ckFd; rw [if_pos ⟨hN, hT⟩, if_pos hA]
       rw [hA] at HC
       go_enter Tryz.func38, Tryz.ntmps38
       go_wp2_with fail
       refine N.mono ?_
       rintro e w1 ⟨rfl, rfl⟩
       go_wp2_with fail
       refine T.mono ?_
       rintro e w2 ⟨rfl, f2⟩
       go_wp2_with fail
       refine (HC.out w2 f2).mono ?_
       rintro e w3 ⟨rfl, f3⟩
       go_wp2_with fail
       go_ret
       rw [HE.out]
       exact ⟨rfl, (HF.out.new f2 (fun _ _ f => f)).new f3 (fun _ _ f => f)⟩
     · have hA' : (l.any fun y => decide (y.name = x.name)) = false := by simpa using hA
       have HE : Hid (ckFd x l = 0) := by show _ = _; unfold ckFd; rw [if_pos ⟨hN, hT⟩, if_neg hA]
       rw [hA'] at HC
       go_enter Tryz.func38, Tryz.ntmps38
       go_wp2_with fail
       refine N.mono ?_
       rintro e w1 ⟨rfl, rfl⟩
       go_wp2_with fail
       refine T.mono ?_
       rintro e w2 ⟨rfl, f2⟩
       go_wp2_with fail
       refine (HC.out w2 f2).mono ?_
       rintro e w3 ⟨rfl, f3⟩
       go_wp2_with fail
       go_ret
       rw [HE.out]
       exact ⟨rfl, (HF.out.new f2 (fun _ _ f => f)).new f3 (fun _ _ f => f)⟩
   · have hT' : isType x.ty false = false := by simpa using hT
     rw [hT'] at T
     have HE : Hid (ckFd x l = 50) := by show _ = _; unfold ckFd; rw [if_neg (fun h => hT h.2)]
     go_enter Tryz.func38, Tryz.ntmps38
     go_wp2_with fail
     refine N.mono ?_
     rintro e w1 ⟨rfl, rfl⟩
     go_wp2_with fail
     refine T.mono ?_
     rintro e w2 ⟨rfl, f2⟩
     go_wp2_with fail
     go_ret
     rw [HE.out]
     exact ⟨rfl, HF.out.new f2 (fun _ _ f => f)⟩
 · have hN' : isName x.name = false := by simpa using hN
   rw [hN'] at N
   have HE : Hid (ckFd x l = 50) := by show _ = _; unfold ckFd; rw [if_neg (fun h => hN h.1)]
   go_enter Tryz.func38, Tryz.ntmps38
   go_wp2_with fail
   refine N.mono ?_
   rintro e w1 ⟨rfl, rfl⟩
   go_wp2_with fail
   go_ret
   rw [HE.out]
   exact ⟨rfl, HF.out⟩
theorem checkParam_any (w : World) (t : Ty) (ht : fitS t.c) (v : Value) (l : List Ty) : Calls Tryz.prog 69 #[.agg #[.int .i64 t.k, .string t.c], v] w fun e w' => e = .returned (.int .i64 (ckTy t l : Int)) ∧ Fr no w w' := by
 have T := fun w1 => isType_any w1 t false ht
 unfold tyV at T
 have HF : Hid (Fr no w (w.alloc (.cells #[.int .i64 t.k, .string t.c] 44))) := (Fr.refl no w).alloc _ _
 by_cases hT : isType t false = true
 · rw [hT] at T
   have HE : Hid (ckTy t l = 0) := by show _ = _; unfold ckTy; rw [if_pos hT]
   go_enter Tryz.func69, Tryz.ntmps69
   go_wp2_with fail
   refine (T _).mono ?_
   rintro e w2 ⟨rfl, f2⟩
   go_wp2_with fail
   go_ret
   rw [HE.out]
   exact ⟨rfl, HF.out.new f2 (fun _ _ f => f)⟩
 · have hT' : isType t false = false := by simpa using hT
   rw [hT'] at T
   have HE : Hid (ckTy t l = 50) := by show _ = _; unfold ckTy; rw [if_neg hT]
   go_enter Tryz.func69, Tryz.ntmps69
   go_wp2_with fail
   refine (T _).mono ?_
   rintro e w2 ⟨rfl, f2⟩
   go_wp2_with fail
   go_ret
   rw [HE.out]
   exact ⟨rfl, HF.out.new f2 (fun _ _ f => f)⟩
theorem params_any (w : World) (v : Value) (l : List Ty) (h : SlG elTy w v l) (hf : ∀ t ∈ l, fitS t.c) : Calls Tryz.prog 68 #[v, .int .i64 6, .func (.func 69) #[] #[]] w fun e w' => e = .returned (.int .i64 (eachE 6 ckTy l : Int)) ∧ Fr no w w' :=
 eachTy_any w v l h 6 (by omega) ckTy (fun w' v' k x _ hx _ => checkParam_any w' x (hf x (List.mem_of_getElem? hx)) v' _)
structure MtAt (w : World) (s : Ms) (m : Mt) : Prop where
 name : s.name = m.name
 ret : s.ret = m.ret
 lo : s.lo = m.lo
 st : s.st = m.st
 p : SlG elTy w (.slice s.p.a s.p.n s.p.c) m.params
 c : SlI w (.slice s.c.a s.c.n s.c.c) m.code
 h : SlG elHd w (.slice s.h.a s.h.n s.h.c) m.hands
theorem MtAt.kept {w w' : World} {s : Ms} {m : Mt} (h : MtAt w s m) (hf : Fr no w w') : MtAt w' s m := ⟨h.name, h.ret, h.lo, h.st, h.p.kept hf, h.c.kept hf, h.h.kept hf⟩
structure FitM (m : Mt) : Prop where
 name : fitS m.name
 ret : fitS m.ret.c
 params : ∀ t ∈ m.params, fitS t.c
def AtAll (w : World) (ls : List Ms) (l : List Mt) : Prop := ls.length = l.length ∧ ∀ (i : Nat) (s : Ms) (m : Mt), ls[i]? = some s → l[i]? = some m → MtAt w s m
theorem AtAll.kept {w w' : World} {ls : List Ms} {l : List Mt} (h : AtAll w ls l) (hf : Fr no w w') : AtAll w' ls l := ⟨h.1, fun i s m h1 h2 => (h.2 i s m h1 h2).kept hf⟩
theorem AtAll.take {w : World} {ls : List Ms} {l : List Mt} (h : AtAll w ls l) (k : Nat) : AtAll w (ls.take k) (l.take k) := by
 refine ⟨by rw [List.length_take, List.length_take, h.1], fun i s m h1 h2 => h.2 i s m ?_ ?_⟩
 · rw [List.getElem?_take] at h1
   split at h1
   · exact h1
   · simp at h1
 · rw [List.getElem?_take] at h2
   split at h2
   · exact h2
   · simp at h2
theorem AtAll.any {w : World} {ls : List Ms} {l : List Mt} (h : AtAll w ls l) (n : ByteArray) : (ls.any fun y => decide (y.name = n)) = l.any fun y => decide (y.name = n) := by
 obtain ⟨hl, h⟩ := h
 induction ls generalizing l with
 | nil =>
  cases l with
  | nil => rfl
  | cons a l => simp at hl
 | cons s ls ih =>
  cases l with
  | nil => simp at hl
  | cons m l =>
   have h0 := h 0 s m rfl rfl
   have := ih (l := l) (by simpa using hl) (fun i s m h1 h2 => h (i + 1) s m (by simpa using h1) (by simpa using h2))
   rw [List.any_cons, List.any_cons, this, h0.name]
theorem box8 {w : World} {q : Nat} {a0 a1 a2 a3 a4 a5 a6 a7 : Value} {t : TypeId} (h : w.heap[q]? = some (.cells #[a0, a1, a2, a3, a4, a5, a6, a7] t (0, 0))) :
 w.cell? ⟨q, 0, none⟩ = some a0 ∧ w.cell? ⟨q, 1, none⟩ = some a1 ∧ w.cell? ⟨q, 2, none⟩ = some a2 ∧ w.cell? ⟨q, 3, none⟩ = some a3 ∧ w.cell? ⟨q, 4, none⟩ = some a4 ∧ w.cell? ⟨q, 5, none⟩ = some a5 ∧ w.cell? ⟨q, 6, none⟩ = some a6 ∧ w.cell? ⟨q, 7, none⟩ = some a7 := by
 refine ⟨?_, ?_, ?_, ?_, ?_, ?_, ?_, ?_⟩ <;> simp [World.cell?, h]
set_option maxHeartbeats 1000000 in
theorem checkFace_any (w : World) (s : Ms) (m : Mt) (hm : MtAt w s m) (hf : FitM m) (v : Value) (ls : List Ms) (l : List Mt) (h : SlG elMs w v ls) (ha : AtAll w ls l) :
 Calls Tryz.prog 41 #[msV s, v] w fun e w' => e = .returned (.int .i64 (ckFace m l : Int)) ∧ Fr no w w' := by
 obtain ⟨sn, sp, sr, slo, sst, sc, sh⟩ := s
 obtain ⟨e1, e2, e3, e4, hp, hc, hh⟩ := hm
 simp only [] at e1 e2 e3 e4 hp hc hh
 subst e1 e2 e3 e4
 unfold msV
 simp only []
 have HF : Hid (Fr no w (w.alloc (.cells #[.string m.name, .slice sp.a sp.n sp.c, .int .i64 m.ret.k, .string m.ret.c, .int .i64 m.lo, .int .i64 m.st, .slice sc.a sc.n sc.c, .slice sh.a sh.n sh.c] 47))) := (Fr.refl no w).alloc _ _
 have hbx : BoxMs (w.alloc (.cells #[.string m.name, .slice sp.a sp.n sp.c, .int .i64 m.ret.k, .string m.ret.c, .int .i64 m.lo, .int .i64 m.st, .slice sc.a sc.n sc.c, .slice sh.a sh.n sh.c] 47)) w.heap.size ⟨m.name, sp, m.ret, m.lo, m.st, sc, sh⟩ := heap_alloc_new w _
 generalize hW : w.alloc (.cells #[.string m.name, .slice sp.a sp.n sp.c, .int .i64 m.ret.k, .string m.ret.c, .int .i64 m.lo, .int .i64 m.st, .slice sc.a sc.n sc.c, .slice sh.a sh.n sh.c] 47) = W at *
 have N := fun w1 => isName_any w1 m.name hf.name
 have T := fun w1 => isType_any w1 m.ret true hf.ret
 unfold tyV at T
 have HP : Hid (∀ w1, Fr no W w1 → Calls Tryz.prog 68 #[.slice sp.a sp.n sp.c, .int .i64 6, .func (.func 69) #[] #[]] w1 fun e w' => e = .returned (.int .i64 (eachE 6 ckTy m.params : Int)) ∧ Fr no w1 w') :=
  fun w1 f1 => params_any w1 _ _ ((hp.kept HF.out).kept f1) hf.params
 have HC : Hid (∀ w1, Fr no W w1 → Calls Tryz.prog 70 #[v, .func (.func 71) #[] #[.pointer (some ⟨w.heap.size, 0, none⟩)]] w1 fun e w' => e = .returned (.bool (l.any fun y => decide (y.name = m.name))) ∧ Fr no w1 w') := by
  intro w1 f1
  have := containsMs_any w1 v ls ((h.kept HF.out).kept f1) w.heap.size _ (hbx.kept f1)
  simp only [] at this
  rwa [ha.any] at this
 have HB : Hid (∀ w1, Fr no W w1 → _) := fun w1 f1 => box8 (hbx.kept f1)
 clear hbx h ha hp hc hh
 by_cases hN : isName m.name = true
 · rw [hN] at N
   by_cases hP : eachE 6 ckTy m.params = 0
   · rw [hP] at HP
     by_cases hT : isType m.ret true = true
     · rw [hT] at T
       by_cases hA : (l.any fun y => decide (y.name = m.name)) = true
       · have HE : Hid (ckFace m l = 53) := by show _ = _; unfold ckFace; rw [if_pos hN, if_neg (by omega), if_pos hT, if_pos hA]
         rw [hA] at HC
         obtain ⟨b0, b1, b2, b3, b4, b5, b6, b7⟩ := HB.out W (Fr.refl no _)
         go_enter Tryz.func41, Tryz.ntmps41
         go_wp2_with fail
         refine (N _).mono ?_
         rintro e w1 ⟨rfl, hw1⟩
         rw [hw1]
         clear hw1 w1
         go_wp2_with fail
         refine (HP.out W (Fr.refl no _)).mono ?_
         rintro e w2 ⟨rfl, f2⟩
         clear b0 b1 b2 b3 b4 b5 b6 b7
         obtain ⟨b0, b1, b2, b3, b4, b5, b6, b7⟩ := HB.out w2 f2
         go_wp2_with fail
         refine (T _).mono ?_
         rintro e w3 ⟨rfl, f3⟩
         have f3' := f2.new f3 (fun _ _ f => f)
         go_wp2_with fail
         refine (HC.out w3 f3').mono ?_
         rintro e w4 ⟨rfl, f4⟩
         have f4' := f3'.new f4 (fun _ _ f => f)
         go_wp2_with fail
         go_ret
         rw [HE.out]
         exact ⟨rfl, HF.out.new f4' (fun _ _ f => f)⟩
       · have hA' : (l.any fun y => decide (y.name = m.name)) = false := by simpa using hA
         have HE : Hid (ckFace m l = 0) := by show _ = _; unfold ckFace; rw [if_pos hN, if_neg (by omega), if_pos hT, if_neg hA]
         rw [hA'] at HC
         obtain ⟨b0, b1, b2, b3, b4, b5, b6, b7⟩ := HB.out W (Fr.refl no _)
         go_enter Tryz.func41, Tryz.ntmps41
         go_wp2_with fail
         refine (N _).mono ?_
         rintro e w1 ⟨rfl, hw1⟩
         rw [hw1]
         clear hw1 w1
         go_wp2_with fail
         refine (HP.out W (Fr.refl no _)).mono ?_
         rintro e w2 ⟨rfl, f2⟩
         clear b0 b1 b2 b3 b4 b5 b6 b7
         obtain ⟨b0, b1, b2, b3, b4, b5, b6, b7⟩ := HB.out w2 f2
         go_wp2_with fail
         refine (T _).mono ?_
         rintro e w3 ⟨rfl, f3⟩
         have f3' := f2.new f3 (fun _ _ f => f)
         go_wp2_with fail
         refine (HC.out w3 f3').mono ?_
         rintro e w4 ⟨rfl, f4⟩
         have f4' := f3'.new f4 (fun _ _ f => f)
         go_wp2_with fail
         go_ret
         rw [HE.out]
         exact ⟨rfl, HF.out.new f4' (fun _ _ f => f)⟩
     · have hT' : isType m.ret true = false := by simpa using hT
       rw [hT'] at T
       have HE : Hid (ckFace m l = 50) := by show _ = _; unfold ckFace; rw [if_pos hN, if_neg (by omega), if_neg hT]
       obtain ⟨b0, b1, b2, b3, b4, b5, b6, b7⟩ := HB.out W (Fr.refl no _)
       go_enter Tryz.func41, Tryz.ntmps41
       go_wp2_with fail
       refine (N _).mono ?_
       rintro e w1 ⟨rfl, hw1⟩
       rw [hw1]
       clear hw1 w1
       go_wp2_with fail
       refine (HP.out W (Fr.refl no _)).mono ?_
       rintro e w2 ⟨rfl, f2⟩
       clear b0 b1 b2 b3 b4 b5 b6 b7
       obtain ⟨b0, b1, b2, b3, b4, b5, b6, b7⟩ := HB.out w2 f2
       go_wp2_with fail
       refine (T _).mono ?_
       rintro e w3 ⟨rfl, f3⟩
       have f3' := f2.new f3 (fun _ _ f => f)
       go_wp2_with fail
       go_ret
       rw [HE.out]
       exact ⟨rfl, HF.out.new f3' (fun _ _ f => f)⟩
   · have HE : Hid (ckFace m l = eachE 6 ckTy m.params) := by show _ = _; unfold ckFace; rw [if_pos hN, if_pos hP]
     have hP' : ((eachE 6 ckTy m.params : Int) == 0) = false := by simp; omega
     generalize eachE 6 ckTy m.params = err at *
     obtain ⟨b0, b1, b2, b3, b4, b5, b6, b7⟩ := HB.out W (Fr.refl no _)
     go_enter Tryz.func41, Tryz.ntmps41
     go_wp2_with fail
     refine (N _).mono ?_
     rintro e w1 ⟨rfl, hw1⟩
     rw [hw1]
     clear hw1 w1
     go_wp2_with fail
     refine (HP.out W (Fr.refl no _)).mono ?_
     rintro e w2 ⟨rfl, f2⟩
     clear b0 b1 b2 b3 b4 b5 b6 b7
     obtain ⟨b0, b1, b2, b3, b4, b5, b6, b7⟩ := HB.out w2 f2
     go_wp2_with fail
     go_ret
     rw [HE.out]
     exact ⟨rfl, HF.out.new f2 (fun _ _ f => f)⟩
 · have hN' : isName m.name = false := by simpa using hN
   rw [hN'] at N
   have HE : Hid (ckFace m l = 50) := by show _ = _; unfold ckFace; rw [if_neg hN]
   obtain ⟨b0, b1, b2, b3, b4, b5, b6, b7⟩ := HB.out W (Fr.refl no _)
   go_enter Tryz.func41, Tryz.ntmps41
   go_wp2_with fail
   refine (N _).mono ?_
   rintro e w1 ⟨rfl, hw1⟩
   rw [hw1]
   clear hw1 w1
   go_wp2_with fail
   go_ret
   rw [HE.out]
   exact ⟨rfl, HF.out.new (Fr.refl no _) (fun _ _ f => f)⟩
end Go.Proofs.YtalgjpmaafooeaaGreatDoor
/- What an instruction may be. -/
namespace Go.Proofs.YtalgjpmaafooeaaGreatDoor
open Go.ChangeShapes Go.WideShapes Go.ChangeAt Go.RowKit
theorem isConst_any (w : World) (v : Value) (pool : List Cs) (h : SlG elCs w v pool) (a k : Int) : Calls Tryz.prog 104 #[v, .int .i64 a, .int .i64 k] w fun e w' => e = .returned (.bool (isCst pool a k)) ∧ w' = w := by
 obtain ⟨ad, cp, rfl, hcap, hmx, hit⟩ := h
 unfold maxLen at hmx
 by_cases h0 : 0 ≤ a
 · obtain ⟨n, rfl⟩ : ∃ n : Nat, a = (n : Int) := ⟨a.toNat, by omega⟩
   by_cases hlt : n < pool.length
   · obtain ⟨x, hx⟩ : ∃ x, pool[n]? = some x := ⟨_, List.getElem?_eq_getElem hlt⟩
     obtain ⟨b, off, rfl, hc⟩ := hit n x hx
     have c0 : w.cell? ⟨b, off + n * 5, none⟩ = some (.int .i64 x.k) := hc 0 _ rfl
     have hlt' : (n : Int) < (pool.length : Int) := by omega
     have HE : Hid (isCst pool (n : Int) k = decide (x.k = k)) := by
      show _ = _
      unfold isCst
      rw [decide_eq_true h0]
      simp [hx]
     clear hc hit hx
     go_enter Tryz.func104, Tryz.ntmps104
     go_wp2_with fail
     go_ret
     rw [HE.out]
     exact ⟨by first | rfl | (simp [BEq.beq]; done), rfl⟩
   · have hlt' : ¬ (n : Int) < (pool.length : Int) := by omega
     have HE : Hid (isCst pool (n : Int) k = false) := by
      show _ = _
      unfold isCst
      rw [decide_eq_true h0]
      have : pool[n]? = none := List.getElem?_eq_none (by omega)
      simp [this]
     clear hit
     go_enter Tryz.func104, Tryz.ntmps104
     go_wp2_with fail
     go_ret
     rw [HE.out]
     exact ⟨by first | rfl | (simp; omega), rfl⟩
 · have HE : Hid (isCst pool a k = false) := by show _ = _; unfold isCst; rw [decide_eq_false h0]; rfl
   clear hit
   go_enter Tryz.func104, Tryz.ntmps104
   go_wp2_with fail
   go_ret
   rw [HE.out]
   exact ⟨by first | rfl | (simp; omega), rfl⟩
theorem askedKind_any (w : World) (op : Int) : Calls Tryz.prog 105 #[.int .i64 op] w fun e w' => e = .returned (.int .i64 (asked op)) ∧ w' = w := by
 by_cases e1 : op = 1
 · subst e1
   go_enter Tryz.func105, Tryz.ntmps105
   go_wp2_with fail
   go_ret
   exact ⟨rfl, rfl⟩
 by_cases e2 : op = 2
 · subst e2
   go_enter Tryz.func105, Tryz.ntmps105
   go_wp2_with fail
   go_ret
   exact ⟨rfl, rfl⟩
 by_cases e25 : op = 25
 · subst e25
   go_enter Tryz.func105, Tryz.ntmps105
   go_wp2_with fail
   go_ret
   exact ⟨rfl, rfl⟩
 by_cases e36 : op = 36
 · subst e36
   go_enter Tryz.func105, Tryz.ntmps105
   go_wp2_with fail
   go_ret
   exact ⟨rfl, rfl⟩
 by_cases e37 : op = 37
 · subst e37
   go_enter Tryz.func105, Tryz.ntmps105
   go_wp2_with fail
   go_ret
   exact ⟨rfl, rfl⟩
 by_cases e26 : op = 26
 · subst e26
   go_enter Tryz.func105, Tryz.ntmps105
   go_wp2_with fail
   go_ret
   exact ⟨rfl, rfl⟩
 by_cases e27 : op = 27
 · subst e27
   go_enter Tryz.func105, Tryz.ntmps105
   go_wp2_with fail
   go_ret
   exact ⟨rfl, rfl⟩
 have q1 : (op == 1) = false := by simpa using e1
 have q2 : (op == 2) = false := by simpa using e2
 have q25 : (op == 25) = false := by simpa using e25
 have q36 : (op == 36) = false := by simpa using e36
 have q37 : (op == 37) = false := by simpa using e37
 have q26 : (op == 26) = false := by simpa using e26
 have q27 : (op == 27) = false := by simpa using e27
 have HE : Hid (asked op = 5) := by show _ = _; unfold asked; rw [if_neg e1, if_neg e2, if_neg (by omega), if_neg (by omega)]
 clear e1 e2 e25 e36 e37 e26 e27
 go_enter Tryz.func105, Tryz.ntmps105
 go_wp2_with fail
 go_ret
 rw [HE.out]
 exact ⟨rfl, rfl⟩
theorem box2 {w : World} {q : Nat} {a0 a1 : Value} {t : TypeId} (h : w.heap[q]? = some (.cells #[a0, a1] t (0, 0))) : w.cell? ⟨q, 0, none⟩ = some a0 ∧ w.cell? ⟨q, 1, none⟩ = some a1 := by
 refine ⟨?_, ?_⟩ <;> simp [World.cell?, h]
theorem box5 {w : World} {q : Nat} {a0 a1 a2 a3 a4 : Value} {t : TypeId} (h : w.heap[q]? = some (.cells #[a0, a1, a2, a3, a4] t (0, 0))) :
 w.cell? ⟨q, 0, none⟩ = some a0 ∧ w.cell? ⟨q, 1, none⟩ = some a1 ∧ w.cell? ⟨q, 2, none⟩ = some a2 ∧ w.cell? ⟨q, 3, none⟩ = some a3 ∧ w.cell? ⟨q, 4, none⟩ = some a4 := by
 refine ⟨?_, ?_, ?_, ?_, ?_⟩ <;> simp [World.cell?, h]
theorem MtAt.open {w : World} {s : Ms} {m : Mt} (h : MtAt w s m) : ∃ pa pc ca cc ha hc, s = ⟨m.name, ⟨pa, m.params.length, pc⟩, m.ret, m.lo, m.st, ⟨ca, m.code.length, cc⟩, ⟨ha, m.hands.length, hc⟩⟩ ∧
 m.params.length ≤ pc ∧ pc ≤ maxLen ∧ m.code.length ≤ cc ∧ cc ≤ maxLen := by
 obtain ⟨sn, ⟨sp1, sp2, sp3⟩, sr, slo, sst, ⟨sc1, sc2, sc3⟩, ⟨sh1, sh2, sh3⟩⟩ := s
 obtain ⟨e1, e2, e3, e4, ⟨a1, c1, q1, p1, p2, _⟩, ⟨a2, c2, q2, p3, p4, _⟩, ⟨a3, c3, q3, p5, p6, _⟩⟩ := h
 simp only [Value.slice.injEq] at e1 e2 e3 e4 q1 q2 q3
 obtain ⟨rfl, rfl, rfl⟩ := q1
 obtain ⟨rfl, rfl, rfl⟩ := q2
 obtain ⟨rfl, rfl, rfl⟩ := q3
 subst e1 e2 e3 e4
 exact ⟨_, _, _, _, _, _, rfl, p1, p2, p3, p4⟩
set_option maxRecDepth 100000 in
set_option maxHeartbeats 2000000 in
theorem checkIns_any (w : World) (T : Tb w) (x : Int × Int) (s : Ms) (m : Mt) (hm : MtAt w s m) (v : Value) (pool : List Cs) (hp : SlG elCs w v pool) :
 Calls Tryz.prog 74 #[ins x.1 x.2, msV s, v] w fun e w' => e = .returned (.int .i64 (ckIns pool m.lo m.code.length x : Int)) ∧ Fr no w w' := by
 obtain ⟨op, a⟩ := x
 have hm0 := hm
 obtain ⟨pa, pc, ca, cc, ha, hc, rfl, hb⟩ := hm.open
 clear hm0
 have hb2 := hb.2.2.2
 have hb1' := hb.2.2.1
 unfold maxLen at hb2
 clear hb
 unfold msV ins
 simp only []
 have HF : Hid (Fr no w ((w.alloc (.cells #[.int .i64 op, .int .i64 a] 27)).alloc (.cells #[.string m.name, .slice pa m.params.length pc, .int .i64 m.ret.k, .string m.ret.c, .int .i64 m.lo, .int .i64 m.st, .slice ca m.code.length cc, .slice ha m.hands.length hc] 47))) := ((Fr.refl no w).alloc _ _).alloc _ _
 have hs1 : (w.alloc (.cells #[.int .i64 op, .int .i64 a] 27)).heap.size = w.heap.size + 1 := size_alloc _ _
 have hb1 : ((w.alloc (.cells #[.int .i64 op, .int .i64 a] 27)).alloc (.cells #[.string m.name, .slice pa m.params.length pc, .int .i64 m.ret.k, .string m.ret.c, .int .i64 m.lo, .int .i64 m.st, .slice ca m.code.length cc, .slice ha m.hands.length hc] 47)).heap[w.heap.size + 1]? = some (.cells #[.string m.name, .slice pa m.params.length pc, .int .i64 m.ret.k, .string m.ret.c, .int .i64 m.lo, .int .i64 m.st, .slice ca m.code.length cc, .slice ha m.hands.length hc] 47 (0, 0)) := by
  rw [← hs1]; exact heap_alloc_new _ _
 have hb0 : ((w.alloc (.cells #[.int .i64 op, .int .i64 a] 27)).alloc (.cells #[.string m.name, .slice pa m.params.length pc, .int .i64 m.ret.k, .string m.ret.c, .int .i64 m.lo, .int .i64 m.st, .slice ca m.code.length cc, .slice ha m.hands.length hc] 47)).heap[w.heap.size]? = some (.cells #[.int .i64 op, .int .i64 a] 27 (0, 0)) :=
  ((Fr.refl no _).alloc _ _).heap (heap_alloc_new w _) (fun f => f)
 generalize hW : ((w.alloc (.cells #[.int .i64 op, .int .i64 a] 27)).alloc (.cells #[.string m.name, .slice pa m.params.length pc, .int .i64 m.ret.k, .string m.ret.c, .int .i64 m.lo, .int .i64 m.st, .slice ca m.code.length cc, .slice ha m.hands.length hc] 47)) = W at *
 have HB : Hid (∀ w1, Fr no W w1 → _) := fun w1 f1 => box2 (f1.heap hb0 (fun f => f))
 have HC : Hid (∀ w1, Fr no W w1 → _) := fun w1 f1 => box8 (f1.heap hb1 (fun f => f))
 have TW := T.kept HF.out
 have I := is_any W TW op a
 have O := fun w1 (f1 : Fr no W w1) => operand_any w1 (TW.kept f1) op
 have A := fun w1 => askedKind_any w1 op
 have C := fun w1 (f1 : Fr no W w1) k => isConst_any w1 v pool ((hp.kept HF.out).kept f1) a k
 unfold ins at I
 clear hb0 hb1 hm TW
 have HK : Hid (ckIns pool m.lo m.code.length (op, a) = if isb op a = true then (if od op = 1 then (if m.lo ≤ a then 52 else 0) else if od op = 2 then (if isCst pool a (asked op) = true then 0 else 51) else if od op = 3 then (if (m.code.length : Int) ≤ a then 52 else 0) else 0) else 40) := rfl
 obtain ⟨b0, b1⟩ := HB.out W (Fr.refl no _)
 by_cases hi : isb op a = true
 · rw [hi] at I
   rw [if_pos hi] at HK
   rcases od_cases op with e | e | ⟨ep, ep3⟩
   · exact absurd hi (by rw [isb_none op a e]; simp)
   · rw [e] at O
     have HE : Hid (ckIns pool m.lo m.code.length (op, a) = 0) := by show _ = _; rw [HK.out, e]; rfl
     clear e
     go_enter Tryz.func74, Tryz.ntmps74
     go_wp2_with fail
     refine I.mono ?_
     rintro e w1 ⟨rfl, f1⟩
     clear b0 b1
     obtain ⟨b0, b1⟩ := HB.out w1 f1
     obtain ⟨d0, d1, d2, d3, d4, d5, d6, d7⟩ := HC.out w1 f1
     go_wp2_with fail
     refine (O w1 f1).mono ?_
     rintro e w1 ⟨rfl, rfl⟩
     go_wp2_with fail
     go_ret
     rw [HE.out]
     exact ⟨rfl, HF.out.new f1 (fun _ _ f => f)⟩
   · rcases (show od op = 1 ∨ od op = 2 ∨ od op = 3 by omega) with e | e | e
     · rw [e] at O
       have HK' : Hid (ckIns pool m.lo m.code.length (op, a) = if m.lo ≤ a then 52 else 0) := by show _ = _; rw [HK.out, if_pos e]
       clear HK e ep ep3
       by_cases hl : m.lo ≤ a
       · have HE : Hid (ckIns pool m.lo m.code.length (op, a) = 52) := by show _ = _; rw [HK'.out, if_pos hl]
         go_enter Tryz.func74, Tryz.ntmps74
         go_wp2_with fail
         refine I.mono ?_
         rintro e w1 ⟨rfl, f1⟩
         clear b0 b1
         obtain ⟨b0, b1⟩ := HB.out w1 f1
         obtain ⟨d0, d1, d2, d3, d4, d5, d6, d7⟩ := HC.out w1 f1
         go_wp2_with fail
         refine (O w1 f1).mono ?_
         rintro e w1 ⟨rfl, rfl⟩
         go_wp2_with fail
         go_ret
         rw [HE.out]
         exact ⟨rfl, HF.out.new f1 (fun _ _ f => f)⟩
       · have HE : Hid (ckIns pool m.lo m.code.length (op, a) = 0) := by show _ = _; rw [HK'.out, if_neg hl]
         go_enter Tryz.func74, Tryz.ntmps74
         go_wp2_with fail
         refine I.mono ?_
         rintro e w1 ⟨rfl, f1⟩
         clear b0 b1
         obtain ⟨b0, b1⟩ := HB.out w1 f1
         obtain ⟨d0, d1, d2, d3, d4, d5, d6, d7⟩ := HC.out w1 f1
         go_wp2_with fail
         refine (O w1 f1).mono ?_
         rintro e w1 ⟨rfl, rfl⟩
         go_wp2_with fail
         go_ret
         rw [HE.out]
         exact ⟨rfl, HF.out.new f1 (fun _ _ f => f)⟩
     · rw [e] at O
       have HK' : Hid (ckIns pool m.lo m.code.length (op, a) = if isCst pool a (asked op) = true then 0 else 51) := by show _ = _; rw [HK.out, if_neg (by omega), if_pos e]
       clear HK e ep ep3
       have KS : ∀ w2, Fr no W w2 → Fr no W w2 ∧ w2.cell? ⟨w.heap.size, 0, none⟩ = some (.int .i64 op) ∧ w2.cell? ⟨w.heap.size, 1, none⟩ = some (.int .i64 a) := fun w2 f2 => ⟨f2, (HB.out w2 f2).1, (HB.out w2 f2).2⟩
       have C' := fun w1 (f1 : Fr no W w1) => C w1 f1 (asked op)
       generalize asked op = ak at *
       by_cases hl : isCst pool a ak = true
       · have HE : Hid (ckIns pool m.lo m.code.length (op, a) = 0) := by show _ = _; rw [HK'.out, if_pos hl]
         rw [hl] at C'
         go_enter Tryz.func74, Tryz.ntmps74
         go_wp2_with fail
         refine I.mono ?_
         rintro e w1 ⟨rfl, f1⟩
         clear b0 b1
         obtain ⟨b0, b1⟩ := HB.out w1 f1
         obtain ⟨d0, d1, d2, d3, d4, d5, d6, d7⟩ := HC.out w1 f1
         go_wp2_with fail
         refine (O w1 f1).mono ?_
         rintro e w1 ⟨rfl, rfl⟩
         go_wp2_with fail
         go_region_held3 (fun w2 => Fr no W w2 ∧ w2.cell? ⟨w.heap.size, 0, none⟩ = some (.int .i64 op) ∧ w2.cell? ⟨w.heap.size, 1, none⟩ = some (.int .i64 a)) (first | exact KS _ f1.drew | assumption) (first | (go_at_call 105; refine (A _).mono ?_; rintro e w3 ⟨rfl, rfl⟩) | (go_at_call 104; refine (C' _ f1.drew).mono ?_; rintro e w3 ⟨rfl, rfl⟩))
         go_wp2_with fail
         go_ret
         rw [HE.out]
         exact ⟨rfl, HF.out.new f1.drew (fun _ _ f => f)⟩
       · have HE : Hid (ckIns pool m.lo m.code.length (op, a) = 51) := by show _ = _; rw [HK'.out, if_neg hl]
         have hl' : isCst pool a ak = false := by simpa using hl
         rw [hl'] at C'
         go_enter Tryz.func74, Tryz.ntmps74
         go_wp2_with fail
         refine I.mono ?_
         rintro e w1 ⟨rfl, f1⟩
         clear b0 b1
         obtain ⟨b0, b1⟩ := HB.out w1 f1
         obtain ⟨d0, d1, d2, d3, d4, d5, d6, d7⟩ := HC.out w1 f1
         go_wp2_with fail
         refine (O w1 f1).mono ?_
         rintro e w1 ⟨rfl, rfl⟩
         go_wp2_with fail
         go_region_held3 (fun w2 => Fr no W w2 ∧ w2.cell? ⟨w.heap.size, 0, none⟩ = some (.int .i64 op) ∧ w2.cell? ⟨w.heap.size, 1, none⟩ = some (.int .i64 a)) (first | exact KS _ f1.drew | assumption) (first | (go_at_call 105; refine (A _).mono ?_; rintro e w3 ⟨rfl, rfl⟩) | (go_at_call 104; refine (C' _ f1.drew).mono ?_; rintro e w3 ⟨rfl, rfl⟩))
         go_wp2_with fail
         go_ret
         rw [HE.out]
         exact ⟨rfl, HF.out.new f1.drew (fun _ _ f => f)⟩
     · rw [e] at O
       have HK' : Hid (ckIns pool m.lo m.code.length (op, a) = if (m.code.length : Int) ≤ a then 52 else 0) := by show _ = _; rw [HK.out, if_neg (by omega), if_neg (by omega), if_pos e]
       clear HK e ep ep3
       by_cases hl : (m.code.length : Int) ≤ a
       · have HE : Hid (ckIns pool m.lo m.code.length (op, a) = 52) := by show _ = _; rw [HK'.out, if_pos hl]
         go_enter Tryz.func74, Tryz.ntmps74
         go_wp2_with fail
         refine I.mono ?_
         rintro e w1 ⟨rfl, f1⟩
         clear b0 b1
         obtain ⟨b0, b1⟩ := HB.out w1 f1
         obtain ⟨d0, d1, d2, d3, d4, d5, d6, d7⟩ := HC.out w1 f1
         go_wp2_with fail
         refine (O w1 f1).mono ?_
         rintro e w1 ⟨rfl, rfl⟩
         go_wp2_with fail
         go_ret
         rw [HE.out]
         exact ⟨rfl, HF.out.new f1 (fun _ _ f => f)⟩
       · have HE : Hid (ckIns pool m.lo m.code.length (op, a) = 0) := by show _ = _; rw [HK'.out, if_neg hl]
         go_enter Tryz.func74, Tryz.ntmps74
         go_wp2_with fail
         refine I.mono ?_
         rintro e w1 ⟨rfl, f1⟩
         clear b0 b1
         obtain ⟨b0, b1⟩ := HB.out w1 f1
         obtain ⟨d0, d1, d2, d3, d4, d5, d6, d7⟩ := HC.out w1 f1
         go_wp2_with fail
         refine (O w1 f1).mono ?_
         rintro e w1 ⟨rfl, rfl⟩
         go_wp2_with fail
         go_ret
         rw [HE.out]
         exact ⟨rfl, HF.out.new f1 (fun _ _ f => f)⟩
 · have hi' : isb op a = false := by simpa using hi
   rw [hi'] at I
   have HE : Hid (ckIns pool m.lo m.code.length (op, a) = 40) := by show _ = _; rw [HK.out, if_neg hi]
   go_enter Tryz.func74, Tryz.ntmps74
   go_wp2_with fail
   refine I.mono ?_
   rintro e w1 ⟨rfl, f1⟩
   go_wp2_with fail
   go_ret
   rw [HE.out]
   exact ⟨rfl, HF.out.new f1 (fun _ _ f => f)⟩
end Go.Proofs.YtalgjpmaafooeaaGreatDoor
/- What a handler and a body may be. -/
namespace Go.Proofs.YtalgjpmaafooeaaGreatDoor
open Go.ChangeShapes Go.WideShapes Go.ChangeAt Go.RowKit
set_option maxRecDepth 100000 in
set_option maxHeartbeats 2000000 in
theorem checkHandler_any (w : World) (h : Hd) (n : Nat) (v : Value) (pool : List Cs) (hp : SlG elCs w v pool) :
 Calls Tryz.prog 78 #[.agg #[.int .i64 h.fr, .int .i64 h.to, .int .i64 h.tg, .int .i64 h.cl, .int .i64 h.dp], .int .i64 (n : Int), v] w fun e w' => e = .returned (.int .i64 (ckHd pool n h : Int)) ∧ Fr no w w' := by
 have HF : Hid (Fr no w (w.alloc (.cells #[.int .i64 h.fr, .int .i64 h.to, .int .i64 h.tg, .int .i64 h.cl, .int .i64 h.dp] 156))) := (Fr.refl no w).alloc _ _
 have hb0 : (w.alloc (.cells #[.int .i64 h.fr, .int .i64 h.to, .int .i64 h.tg, .int .i64 h.cl, .int .i64 h.dp] 156)).heap[w.heap.size]? = some (.cells #[.int .i64 h.fr, .int .i64 h.to, .int .i64 h.tg, .int .i64 h.cl, .int .i64 h.dp] 156 (0, 0)) := heap_alloc_new w _
 have C := isConst_any (w.alloc (.cells #[.int .i64 h.fr, .int .i64 h.to, .int .i64 h.tg, .int .i64 h.cl, .int .i64 h.dp] 156)) v pool (hp.kept HF.out) h.cl 3
 generalize hW : w.alloc (.cells #[.int .i64 h.fr, .int .i64 h.to, .int .i64 h.tg, .int .i64 h.cl, .int .i64 h.dp] 156) = W at *
 obtain ⟨b0, b1, b2, b3, b4⟩ := box5 hb0
 clear hb0 hp
 have HK : Hid (ckHd pool n h = if 0 ≤ h.fr ∧ h.fr < h.to ∧ h.to ≤ (n : Int) ∧ 0 ≤ h.tg ∧ h.tg < (n : Int) then (if h.cl = -1 ∨ isCst pool h.cl 3 = true then (if 0 ≤ h.dp ∧ h.dp ≤ 6 then 0 else 32) else 51) else 52) := rfl
 obtain ⟨fr, to, tg, cl, dp⟩ := h
 simp only [] at *
 by_cases g1 : 0 ≤ fr
 · by_cases g2 : fr < to
   · by_cases g3 : to ≤ (n : Int)
     · by_cases g4 : 0 ≤ tg
       · by_cases g5 : tg < (n : Int)
         · rw [if_pos ⟨g1, g2, g3, g4, g5⟩] at HK
           by_cases c1 : cl = -1
           · subst c1
             rw [if_pos (.inl rfl)] at HK
             by_cases d1 : 0 ≤ dp
             · by_cases d2 : dp ≤ 6
               · rw [if_pos ⟨d1, d2⟩] at HK
                 have HE := HK
                 clear HK
                 go_enter Tryz.func78, Tryz.ntmps78
                 go_wp2_with fail
                 go_ret
                 rw [HE.out]
                 exact ⟨by first | rfl | (simp; omega), HF.out⟩
               · rw [if_neg (fun h => d2 h.2)] at HK
                 have HE := HK
                 clear HK
                 go_enter Tryz.func78, Tryz.ntmps78
                 go_wp2_with fail
                 go_ret
                 rw [HE.out]
                 exact ⟨by first | rfl | (simp; omega), HF.out⟩
             · rw [if_neg (fun h => d1 h.1)] at HK
               have HE := HK
               clear HK
               go_enter Tryz.func78, Tryz.ntmps78
               go_wp2_with fail
               go_ret
               rw [HE.out]
               exact ⟨by first | rfl | (simp; omega), HF.out⟩
           · have c1' : (cl == -1) = false := by simpa using c1
             by_cases c2 : isCst pool cl 3 = true
             · rw [if_pos (.inr c2)] at HK
               rw [c2] at C
               by_cases d1 : 0 ≤ dp
               · by_cases d2 : dp ≤ 6
                 · rw [if_pos ⟨d1, d2⟩] at HK
                   have HE := HK
                   clear HK
                   go_enter Tryz.func78, Tryz.ntmps78
                   go_wp2_with fail
                   refine C.mono ?_
                   rintro e w1 ⟨rfl, hw1⟩
                   rw [hw1]
                   clear hw1 w1
                   go_wp2_with fail
                   go_ret
                   rw [HE.out]
                   exact ⟨by first | rfl | (simp; omega), HF.out⟩
                 · rw [if_neg (fun h => d2 h.2)] at HK
                   have HE := HK
                   clear HK
                   go_enter Tryz.func78, Tryz.ntmps78
                   go_wp2_with fail
                   refine C.mono ?_
                   rintro e w1 ⟨rfl, hw1⟩
                   rw [hw1]
                   clear hw1 w1
                   go_wp2_with fail
                   go_ret
                   rw [HE.out]
                   exact ⟨by first | rfl | (simp; omega), HF.out⟩
               · rw [if_neg (fun h => d1 h.1)] at HK
                 have HE := HK
                 clear HK
                 go_enter Tryz.func78, Tryz.ntmps78
                 go_wp2_with fail
                 refine C.mono ?_
                 rintro e w1 ⟨rfl, hw1⟩
                 rw [hw1]
                 clear hw1 w1
                 go_wp2_with fail
                 go_ret
                 rw [HE.out]
                 exact ⟨by first | rfl | (simp; omega), HF.out⟩
             · have c2' : isCst pool cl 3 = false := by simpa using c2
               rw [if_neg (fun h => h.elim c1 c2)] at HK
               rw [c2'] at C
               have HE := HK
               clear HK
               go_enter Tryz.func78, Tryz.ntmps78
               go_wp2_with fail
               refine C.mono ?_
               rintro e w1 ⟨rfl, hw1⟩
               rw [hw1]
               clear hw1 w1
               go_wp2_with fail
               go_ret
               rw [HE.out]
               exact ⟨by first | rfl | (simp; omega), HF.out⟩
         · have HE : Hid (ckHd pool n ⟨fr, to, tg, cl, dp⟩ = 52) := by show _ = _; rw [HK.out, if_neg (by omega)]
           clear HK
           go_enter Tryz.func78, Tryz.ntmps78
           go_wp2_with fail
           go_ret
           rw [HE.out]
           exact ⟨by first | rfl | (simp; omega), HF.out⟩
       · have HE : Hid (ckHd pool n ⟨fr, to, tg, cl, dp⟩ = 52) := by show _ = _; rw [HK.out, if_neg (by omega)]
         clear HK
         go_enter Tryz.func78, Tryz.ntmps78
         go_wp2_with fail
         go_ret
         rw [HE.out]
         exact ⟨by first | rfl | (simp; omega), HF.out⟩
     · have HE : Hid (ckHd pool n ⟨fr, to, tg, cl, dp⟩ = 52) := by show _ = _; rw [HK.out, if_neg (by omega)]
       clear HK
       go_enter Tryz.func78, Tryz.ntmps78
       go_wp2_with fail
       go_ret
       rw [HE.out]
       exact ⟨by first | rfl | (simp; omega), HF.out⟩
   · have HE : Hid (ckHd pool n ⟨fr, to, tg, cl, dp⟩ = 52) := by show _ = _; rw [HK.out, if_neg (by omega)]
     clear HK
     go_enter Tryz.func78, Tryz.ntmps78
     go_wp2_with fail
     go_ret
     rw [HE.out]
     exact ⟨by first | rfl | (simp; omega), HF.out⟩
 · have HE : Hid (ckHd pool n ⟨fr, to, tg, cl, dp⟩ = 52) := by show _ = _; rw [HK.out, if_neg (by omega)]
   clear HK
   go_enter Tryz.func78, Tryz.ntmps78
   go_wp2_with fail
   go_ret
   rw [HE.out]
   exact ⟨by first | rfl | (simp; omega), HF.out⟩
def BoxV (w : World) (r : Nat) (v : Value) : Prop := w.heap[r]? = some (.cells #[v] 36 (0, 0))
theorem askIns_any (w : World) (T : Tb w) (x : Int × Int) (s : Ms) (m : Mt) (hm : MtAt w s m) (v : Value) (pool : List Cs) (hp : SlG elCs w v pool) (v' : Value) (q r : Nat) (hq : BoxMs w q s) (hr : BoxV w r v) :
 Calls Tryz.prog 73 #[.agg #[.int .i64 x.1, .int .i64 x.2], v', .pointer (some ⟨q, 0, none⟩), .pointer (some ⟨r, 0, none⟩)] w fun e w' => e = .returned (.int .i64 (ckIns pool m.lo m.code.length x : Int)) ∧ Fr no w w' := by
 have HF : Hid (Fr no w (w.alloc (.cells #[.int .i64 x.1, .int .i64 x.2] 27))) := (Fr.refl no w).alloc _ _
 have I := checkIns_any _ (T.kept HF.out) x s m (hm.kept HF.out) v pool (hp.kept HF.out)
 have hb := box8 (HF.out.heap hq (fun f => f))
 have hr1 := cell_of_one (HF.out.heap hr (fun f => f))
 have hq1 := lt_of_heap hq
 have hr2 := lt_of_heap hr
 obtain ⟨ad, cp, rfl, _⟩ := hp
 unfold ins msV at I
 generalize hW : w.alloc (.cells #[.int .i64 x.1, .int .i64 x.2] 27) = W at *
 have ha : W.cell? ⟨w.heap.size, 0, none⟩ = some (.int .i64 x.1) ∧ W.cell? ⟨w.heap.size, 1, none⟩ = some (.int .i64 x.2) := by
  rw [← hW]; exact box2 (heap_alloc_new w _)
 obtain ⟨a0, a1⟩ := ha
 obtain ⟨b0, b1, b2, b3, b4, b5, b6, b7⟩ := hb
 clear hq hr hm T
 go_enter Tryz.func73, Tryz.ntmps73
 go_wp2_with fail
 refine I.mono ?_
 rintro e w1 ⟨rfl, f1⟩
 go_wp2_with fail
 go_ret
 exact ⟨rfl, HF.out.new f1 (fun _ _ f => f)⟩
theorem askHd_any (w : World) (h : Hd) (s : Ms) (m : Mt) (hm : MtAt w s m) (v : Value) (pool : List Cs) (hp : SlG elCs w v pool) (v' : Value) (q r : Nat) (hq : BoxMs w q s) (hr : BoxV w r v) :
 Calls Tryz.prog 77 #[.agg #[.int .i64 h.fr, .int .i64 h.to, .int .i64 h.tg, .int .i64 h.cl, .int .i64 h.dp], v', .pointer (some ⟨q, 0, none⟩), .pointer (some ⟨r, 0, none⟩)] w fun e w' => e = .returned (.int .i64 (ckHd pool m.code.length h : Int)) ∧ Fr no w w' := by
 have HF : Hid (Fr no w (w.alloc (.cells #[.int .i64 h.fr, .int .i64 h.to, .int .i64 h.tg, .int .i64 h.cl, .int .i64 h.dp] 156))) := (Fr.refl no w).alloc _ _
 have I := checkHandler_any _ h m.code.length v pool (hp.kept HF.out)
 obtain ⟨pa, pc, ca, cc, ha, hc, rfl, hbs⟩ := hm.open
 have hb := box8 (HF.out.heap hq (fun f => f))
 have hr1 := cell_of_one (HF.out.heap hr (fun f => f))
 have hq1 := lt_of_heap hq
 have hr2 := lt_of_heap hr
 obtain ⟨ad, cp, rfl, _⟩ := hp
 generalize hW : w.alloc (.cells #[.int .i64 h.fr, .int .i64 h.to, .int .i64 h.tg, .int .i64 h.cl, .int .i64 h.dp] 156) = W at *
 have hA : _ := box5 (show W.heap[w.heap.size]? = some (.cells #[.int .i64 h.fr, .int .i64 h.to, .int .i64 h.tg, .int .i64 h.cl, .int .i64 h.dp] 156 (0, 0)) by rw [← hW]; exact heap_alloc_new w _)
 obtain ⟨a0, a1, a2, a3, a4⟩ := hA
 obtain ⟨b0, b1, b2, b3, b4, b5, b6, b7⟩ := hb
 simp only [] at b0 b1 b2 b3 b4 b5 b6 b7
 clear hq hr hm
 go_enter Tryz.func77, Tryz.ntmps77
 go_wp2_with fail
 refine I.mono ?_
 rintro e w1 ⟨rfl, f1⟩
 go_wp2_with fail
 go_ret
 exact ⟨rfl, HF.out.new f1 (fun _ _ f => f)⟩
set_option maxRecDepth 100000 in
set_option maxHeartbeats 4000000 in
theorem checkBody_any (w : World) (T : Tb w) (R : Tr w) (s : Ms) (m : Mt) (hm : MtAt w s m) (hpl : m.params.length ≤ 1000000) (v : Value) (pool : List Cs) (hp : SlG elCs w v pool) :
 Calls Tryz.prog 42 #[msV s, v] w fun e w' => e = .returned (.int .i64 (ckBody pool m : Int)) ∧ Fr no w w' := by
 have hpp := hm.p
 have hcc := hm.c
 have hhh := hm.h
 have hmm := hm
 obtain ⟨pa, pc, ca, cc, ha, hc, rfl, hp1, hp2, hc1, hc2⟩ := hm.open
 obtain ⟨ad, cp, rfl, hv1, hv2, _⟩ : ∃ ad cp, v = .slice ad pool.length cp ∧ pool.length ≤ cp ∧ cp ≤ maxLen ∧ True := by obtain ⟨ad, cp, e, h1, h2, _⟩ := hp; exact ⟨ad, cp, e, h1, h2, trivial⟩
 simp only [] at hpp hcc hhh
 unfold maxLen at hp2 hc2 hv2
 unfold msV
 simp only []
 have HF : Hid (Fr no w ((w.alloc (.cells #[.string m.name, .slice pa m.params.length pc, .int .i64 m.ret.k, .string m.ret.c, .int .i64 m.lo, .int .i64 m.st, .slice ca m.code.length cc, .slice ha m.hands.length hc] 47)).alloc (.cells #[.slice ad pool.length cp] 36))) := ((Fr.refl no w).alloc _ _).alloc _ _
 have hs1 : (w.alloc (.cells #[.string m.name, .slice pa m.params.length pc, .int .i64 m.ret.k, .string m.ret.c, .int .i64 m.lo, .int .i64 m.st, .slice ca m.code.length cc, .slice ha m.hands.length hc] 47)).heap.size = w.heap.size + 1 := size_alloc _ _
 have hbr : BoxV ((w.alloc (.cells #[.string m.name, .slice pa m.params.length pc, .int .i64 m.ret.k, .string m.ret.c, .int .i64 m.lo, .int .i64 m.st, .slice ca m.code.length cc, .slice ha m.hands.length hc] 47)).alloc (.cells #[.slice ad pool.length cp] 36)) (w.heap.size + 1) (.slice ad pool.length cp) := by
  unfold BoxV; rw [← hs1]; exact heap_alloc_new _ _
 have hbq : BoxMs ((w.alloc (.cells #[.string m.name, .slice pa m.params.length pc, .int .i64 m.ret.k, .string m.ret.c, .int .i64 m.lo, .int .i64 m.st, .slice ca m.code.length cc, .slice ha m.hands.length hc] 47)).alloc (.cells #[.slice ad pool.length cp] 36)) w.heap.size ⟨m.name, ⟨pa, m.params.length, pc⟩, m.ret, m.lo, m.st, ⟨ca, m.code.length, cc⟩, ⟨ha, m.hands.length, hc⟩⟩ :=
  ((Fr.refl no _).alloc _ _).heap (heap_alloc_new w _) (fun f => f)
 generalize hW : (w.alloc (.cells #[.string m.name, .slice pa m.params.length pc, .int .i64 m.ret.k, .string m.ret.c, .int .i64 m.lo, .int .i64 m.st, .slice ca m.code.length cc, .slice ha m.hands.length hc] 47)).alloc (.cells #[.slice ad pool.length cp] 36) = W at *
 have HB : Hid (∀ w1, Fr no W w1 → _) := fun w1 f1 => box8 (f1.heap hbq (fun f => f))
 have HI : Hid (∀ w1, Fr no W w1 → Calls Tryz.prog 72 #[.slice ca m.code.length cc, .int .i64 200, .func (.func 73) #[] #[.pointer (some ⟨w.heap.size, 0, none⟩), .pointer (some ⟨w.heap.size + 1, 0, none⟩)]] w1 fun e w' => e = .returned (.int .i64 (eachE 200 (fun x _ => ckIns pool m.lo m.code.length x) m.code : Int)) ∧ Fr no w1 w') := by
  intro w1 f1
  have g1 := HF.out.new f1 (fun _ _ f => f)
  refine eachIn_any w1 _ m.code (hcc.kept g1).g 200 (by omega) _ _ (fun x _ => ckIns pool m.lo m.code.length x) (fun w' v' k x hf _ _ => ?_)
  have g2 := g1.new hf (fun _ _ f => f)
  have f2 := f1.new hf (fun _ _ f => f)
  exact askIns_any w' (T.kept g2) x _ m (hmm.kept g2) _ pool (hp.kept g2) v' _ _ (hbq.kept f2) (f2.heap hbr (fun f => f))
 have HH : Hid (∀ w1, Fr no W w1 → Calls Tryz.prog 76 #[.slice ha m.hands.length hc, .int .i64 16, .func (.func 77) #[] #[.pointer (some ⟨w.heap.size, 0, none⟩), .pointer (some ⟨w.heap.size + 1, 0, none⟩)]] w1 fun e w' => e = .returned (.int .i64 (eachE 16 (fun h _ => ckHd pool m.code.length h) m.hands : Int)) ∧ Fr no w1 w') := by
  intro w1 f1
  have g1 := HF.out.new f1 (fun _ _ f => f)
  refine eachHd_any w1 _ m.hands (hhh.kept g1) 16 (by omega) _ _ (fun h _ => ckHd pool m.code.length h) (fun w' v' k x hf _ _ => ?_)
  have g2 := g1.new hf (fun _ _ f => f)
  have f2 := f1.new hf (fun _ _ f => f)
  exact askHd_any w' x _ m (hmm.kept g2) _ pool (hp.kept g2) v' _ _ (hbq.kept f2) (f2.heap hbr (fun f => f))
 have HS : Hid (∀ w1 op, Fr no W w1 → Calls Tryz.prog 75 #[.int .i64 op] w1 fun e w' => e = .returned (.bool (has op 1)) ∧ w' = w1) := fun w1 op f1 => stops_any w1 (R.kept (HF.out.new f1 (fun _ _ f => f))) op
 obtain ⟨b0, b1, b2, b3, b4, b5, b6, b7⟩ := HB.out W (Fr.refl no _)
 have HK : Hid (ckBody pool m = if 1 + (m.params.length : Int) ≤ m.lo ∧ m.lo ≤ 32 ∧ 0 ≤ m.st ∧ m.st ≤ 64 then
  (if m.code.length = 0 then 32
   else if eachE 200 (fun x _ => ckIns pool m.lo m.code.length x) m.code ≠ 0 then eachE 200 (fun x _ => ckIns pool m.lo m.code.length x) m.code
   else if has (m.code.getD (m.code.length - 1) (0, 0)).1 1 = true then eachE 16 (fun h _ => ckHd pool m.code.length h) m.hands else 54)
 else 32) := rfl
 have HL : Hid (0 < m.code.length → ∀ w1, Fr no W w1 → ∃ b off, ca = some ⟨b, off, none⟩ ∧ w1.cell? ⟨b, off + (m.code.length - 1) * 2, none⟩ = some (.int .i64 (m.code.getD (m.code.length - 1) (0, 0)).1)) := by
  intro h0 w1 f1
  obtain ⟨ad', cp', e, _, _, hit⟩ := hcc.kept (HF.out.new f1 (fun _ _ f => f))
  simp only [Value.slice.injEq] at e
  have hx : m.code[m.code.length - 1]? = some (m.code.getD (m.code.length - 1) (0, 0)) := by
   rw [List.getD_eq_getElem?_getD, List.getElem?_eq_getElem (by omega)]
   rfl
  obtain ⟨b, off, e2, c0, _⟩ := hit _ _ hx
  exact ⟨b, off, e.1.trans e2, c0⟩
 clear hbq hbr hmm hp hpp hcc hhh hm
 by_cases g1 : 1 + (m.params.length : Int) ≤ m.lo
 · by_cases g2 : m.lo ≤ 32
   · by_cases g3 : 0 ≤ m.st
     · by_cases g4 : m.st ≤ 64
       · rw [if_pos ⟨g1, g2, g3, g4⟩] at HK
         have hlo : IntKind.i64.wrap (1 + (m.params.length : Int)) = 1 + (m.params.length : Int) := by simp [IntKind.wrap, IntKind.signed, IntKind.bits]; omega
         by_cases hz : m.code.length = 0
         · rw [if_pos hz] at HK
           have HE := HK
           have hz' : ((m.code.length : Int) == 0) = true := by rw [hz]; rfl
           clear HK hz
           go_enter Tryz.func42, Tryz.ntmps42
           go_wp2_with fail
           go_ret
           rw [HE.out]
           exact ⟨rfl, HF.out⟩
         · rw [if_neg hz] at HK
           have hz' : ((m.code.length : Int) == 0) = false := beq_eq_false_iff_ne.2 (by omega)
           by_cases hE : eachE 200 (fun x _ => ckIns pool m.lo m.code.length x) m.code = 0
           · rw [if_neg (fun h => h hE)] at HK
             rw [hE] at HI
             clear hE
             by_cases hst : has (m.code.getD (m.code.length - 1) (0, 0)).1 1 = true
             · rw [if_pos hst] at HK
               have HST : Hid (∀ w1, Fr no W w1 → Calls Tryz.prog 75 #[.int .i64 (m.code.getD (m.code.length - 1) (0, 0)).1] w1 fun e w' => e = .returned (.bool true) ∧ w' = w1) := fun w1 f1 => by rw [← hst]; exact HS.out w1 _ f1
               clear hst HS
               have HE := HK
               clear HK
               obtain ⟨bb, off, rfl, _⟩ := HL.out (by omega) W (Fr.refl no _)
               have hl1 : IntKind.i64.wrap ((m.code.length : Int) - 1) = ((m.code.length - 1 : Nat) : Int) := by simp [IntKind.wrap, IntKind.signed, IntKind.bits]; omega
               have hl2 : (m.code.length : Int) - 1 = ((m.code.length - 1 : Nat) : Int) := by omega
               generalize hop : (m.code.getD (m.code.length - 1) (0, 0)).1 = op at *
               generalize m.code.length - 1 = last at *
               go_enter Tryz.func42, Tryz.ntmps42
               go_wp2_with fail
               refine (HI.out W (Fr.refl no _)).mono ?_
               rintro e w1 ⟨rfl, f1⟩
               clear b0 b1 b2 b3 b4 b5 b6 b7
               obtain ⟨b0, b1, b2, b3, b4, b5, b6, b7⟩ := HB.out w1 f1
               obtain ⟨bb2, off2, ee, cl⟩ := HL.out (by omega) w1 f1
               simp only [Option.some.injEq, Addr.mk.injEq, and_true] at ee
               obtain ⟨rfl, rfl⟩ := ee
               go_wp2_with fail
               refine (HST.out w1 f1).mono ?_
               rintro e w2 ⟨rfl, hw2⟩
               rw [hw2]
               clear hw2 w2
               go_wp2_with fail
               refine (HH.out w1 f1).mono ?_
               rintro e w2 ⟨rfl, f2⟩
               go_wp2_with fail
               go_ret
               rw [HE.out]
               exact ⟨rfl, (HF.out.new f1 (fun _ _ f => f)).new f2 (fun _ _ f => f)⟩
             · rw [if_neg hst] at HK
               have hst' : has (m.code.getD (m.code.length - 1) (0, 0)).1 1 = false := by simpa using hst
               have HST : Hid (∀ w1, Fr no W w1 → Calls Tryz.prog 75 #[.int .i64 (m.code.getD (m.code.length - 1) (0, 0)).1] w1 fun e w' => e = .returned (.bool false) ∧ w' = w1) := fun w1 f1 => by rw [← hst']; exact HS.out w1 _ f1
               clear hst hst' HS
               have HE := HK
               clear HK
               obtain ⟨bb, off, rfl, _⟩ := HL.out (by omega) W (Fr.refl no _)
               have hl1 : IntKind.i64.wrap ((m.code.length : Int) - 1) = ((m.code.length - 1 : Nat) : Int) := by simp [IntKind.wrap, IntKind.signed, IntKind.bits]; omega
               have hl2 : (m.code.length : Int) - 1 = ((m.code.length - 1 : Nat) : Int) := by omega
               generalize hop : (m.code.getD (m.code.length - 1) (0, 0)).1 = op at *
               generalize m.code.length - 1 = last at *
               go_enter Tryz.func42, Tryz.ntmps42
               go_wp2_with fail
               refine (HI.out W (Fr.refl no _)).mono ?_
               rintro e w1 ⟨rfl, f1⟩
               clear b0 b1 b2 b3 b4 b5 b6 b7
               obtain ⟨b0, b1, b2, b3, b4, b5, b6, b7⟩ := HB.out w1 f1
               obtain ⟨bb2, off2, ee, cl⟩ := HL.out (by omega) w1 f1
               simp only [Option.some.injEq, Addr.mk.injEq, and_true] at ee
               obtain ⟨rfl, rfl⟩ := ee
               go_wp2_with fail
               refine (HST.out w1 f1).mono ?_
               rintro e w2 ⟨rfl, hw2⟩
               rw [hw2]
               clear hw2 w2
               go_wp2_with fail
               go_ret
               rw [HE.out]
               exact ⟨rfl, HF.out.new f1 (fun _ _ f => f)⟩
           · rw [if_pos hE] at HK
             have HE := HK
             clear HK
             have hE' : ((eachE 200 (fun x _ => ckIns pool m.lo m.code.length x) m.code : Int) == 0) = false := by simp; omega
             generalize eachE 200 (fun x _ => ckIns pool m.lo m.code.length x) m.code = err at *
             go_enter Tryz.func42, Tryz.ntmps42
             go_wp2_with fail
             refine (HI.out W (Fr.refl no _)).mono ?_
             rintro e w1 ⟨rfl, f1⟩
             go_wp2_with fail
             go_ret
             rw [HE.out]
             exact ⟨rfl, HF.out.new f1 (fun _ _ f => f)⟩
       · have HE : Hid (ckBody pool m = 32) := by show _ = _; rw [HK.out, if_neg (by omega)]
         clear HK
         have hlo : IntKind.i64.wrap (1 + (m.params.length : Int)) = 1 + (m.params.length : Int) := by simp [IntKind.wrap, IntKind.signed, IntKind.bits]; omega
         go_enter Tryz.func42, Tryz.ntmps42
         go_wp2_with fail
         go_ret
         rw [HE.out]
         exact ⟨rfl, HF.out⟩
     · have HE : Hid (ckBody pool m = 32) := by show _ = _; rw [HK.out, if_neg (by omega)]
       clear HK
       have hlo : IntKind.i64.wrap (1 + (m.params.length : Int)) = 1 + (m.params.length : Int) := by simp [IntKind.wrap, IntKind.signed, IntKind.bits]; omega
       go_enter Tryz.func42, Tryz.ntmps42
       go_wp2_with fail
       go_ret
       rw [HE.out]
       exact ⟨rfl, HF.out⟩
   · have HE : Hid (ckBody pool m = 32) := by show _ = _; rw [HK.out, if_neg (by omega)]
     clear HK
     have hlo : IntKind.i64.wrap (1 + (m.params.length : Int)) = 1 + (m.params.length : Int) := by simp [IntKind.wrap, IntKind.signed, IntKind.bits]; omega
     go_enter Tryz.func42, Tryz.ntmps42
     go_wp2_with fail
     go_ret
     rw [HE.out]
     exact ⟨rfl, HF.out⟩
 · have HE : Hid (ckBody pool m = 32) := by show _ = _; rw [HK.out, if_neg (by omega)]
   clear HK
   have hlo : IntKind.i64.wrap (1 + (m.params.length : Int)) = 1 + (m.params.length : Int) := by simp [IntKind.wrap, IntKind.signed, IntKind.bits]; omega
   go_enter Tryz.func42, Tryz.ntmps42
   go_wp2_with fail
   go_ret
   rw [HE.out]
   exact ⟨rfl, HF.out⟩
end Go.Proofs.YtalgjpmaafooeaaGreatDoor
