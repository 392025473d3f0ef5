/- The document's watch: Access. -/
import Derived.Test.YtnineggppoipiaaRj
namespace Go.Proofs.Ytnineggppoipiaa
open Go.ChangeShapes Go.WideShapes Go.ChangeAt Go.RowKit

def hitA (T : Wt) (tn : Nat) (a i : Int) (wr : Bool) (x : Ac) : Bool := decide (x.at_ = a) && (decide (x.i = i) && (!decide (x.t = (tn : Int)) && ((wr || x.wr) && !beforeB x.c (T.now tn))))
def accB (T : Wt) (as' : List Ac) (t a i : Int) (wr : Bool) : Bool := isB t && as'.any (hitA T t.toNat a i wr)
def accA (T : Wt) (as' : List Ac) (t a i : Int) (wr : Bool) : List Ac := if isB t then as' ++ [⟨t, a, i, wr, T.now t.toNat⟩] else as'
def bumpR (n : Int) (b : Bool) : Int := match b with | true => n + 1 | false => n
theorem any_step {α : Type} (f : α → Bool) (l : List α) (j : Nat) (x : α) (h : l[j]? = some x) : (l.take (j + 1)).any f = ((l.take j).any f || f x) := by
  rw [List.take_add_one, h]
  simp
theorem ac_range {w : World} {o : Option Addr} {n c : Nat} {l : List Ac} (h : OwnG elA w (.slice o n c) l) {k : Nat} {x : Ac} (hx : l[k]? = some x) :
    ∃ g off, o = some ⟨g, off, none⟩ ∧ n = l.length ∧ w.rangeAt g (off + k * 17) (acL x) := by
  obtain ⟨g, off, rfl, rfl, hc⟩ := el_cells elA_ok h hx
  exact ⟨g, off, rfl, rfl, fun j u hu => hc j u hu⟩
theorem ac_c0 {w : World} {b : Nat} {x : Ac} (h : w.rangeAt b 0 (acL x)) : w.cell? ⟨b, 0, none⟩ = some (.int .i64 x.t) ∧ w.cell? ⟨b, 1, none⟩ = some (.int .i64 x.at_) ∧ w.cell? ⟨b, 2, none⟩ = some (.int .i64 x.i) ∧ w.cell? ⟨b, 3, none⟩ = some (.bool x.wr) := ⟨h 0 _ rfl, h 1 _ rfl, h 2 _ rfl, h 3 _ rfl⟩
theorem ac_c4 {w : World} {b : Nat} {x : Ac} (h : w.rangeAt b 0 (acL x)) : w.rangeAt b 4 (ckL x.c) := fun j v hv => by
  have := h (4 + j) v (by
    show (([.int .i64 x.t, .int .i64 x.at_, .int .i64 x.i, .bool x.wr] : List Value) ++ ckL x.c)[4 + j]? = some v
    rw [List.getElem?_append_right (by simp)]
    simpa using hv)
  rwa [Nat.zero_add] at this

set_option maxRecDepth 100000 in
set_option maxHeartbeats 4000000 in
theorem access_any (w : World) (p : Nat) (T : Wt) (ks : List Kp) (as' : List Ac) (n : Int) (h : RW w p T ks as' n) (hl : as'.length ≤ 1000) (hn : 0 ≤ n ∧ n ≤ 900000) (t a i : Int) (wt : Bool) :
    Calls Try.prog 23 #[.pointer (some ⟨p, 0, none⟩), .int .i64 t, .int .i64 a, .int .i64 i, .bool wt] w fun e w' => e = .returned (.bool (accB T as' t a i wt)) ∧ RW w' p T ks (accA T as' t a i wt) (bumpR n (accB T as' t a i wt)) ∧ Fr (TD T.c w) w w' := by
  have IS := is_any
  have H : Hid _ := h
  clear h
  cases h1 : isB t
  · have hT : accA T as' t a i wt = as' := by unfold accA; rw [h1, if_neg Bool.false_ne_true]
    have hT2 : accB T as' t a i wt = false := by unfold accB; rw [h1]; rfl
    rw [hT, hT2]
    clear hT hT2
    have I1 := IS w t
    rw [h1] at I1
    clear IS h1
    go_enter Try.func23, Try.ntmps23
    go_wp2_with fail
    refine I1.mono ?_
    rintro _ _ ⟨rfl, rfl⟩
    go_wp2_with fail
    go_ret
    exact ⟨rfl, H.out, Fr.refl _ _⟩
  · have hT : accA T as' t a i wt = as' ++ [⟨t, a, i, wt, T.now t.toNat⟩] := by unfold accA; rw [h1]; rfl
    have hT2 : accB T as' t a i wt = as'.any (hitA T t.toNat a i wt) := by unfold accB; rw [h1]; rfl
    rw [hT, hT2]
    clear hT hT2
    have I1 := IS w t
    rw [h1] at I1
    obtain ⟨tn, rfl, ht, -⟩ := isB_nat h1
    clear IS h1
    simp only [Int.toNat_natCast]
    obtain ⟨lv, ck, hO⟩ := H.out.acc
    obtain ⟨oo, cc, rfl⟩ := hO.form
    have HO : Hid (OwnG elA w (.slice oo as'.length cc) as') := hO
    have HCK : Hid (w.cell? ⟨p, 352, none⟩ = some (.slice oo as'.length cc)) := ck
    clear hO ck
    generalize hF : hitA T tn a i wt = f
    have HF : Hid (hitA T tn a i wt = f) := hF
    clear hF
    generalize hRes : as'.any f = res
    have HRES : Hid (as'.any f = res) := hRes
    clear hRes
    go_enter Try.func23, Try.ntmps23
    go_wp2_with fail
    refine I1.mono ?_
    rintro _ w0 ⟨rfl, rfl⟩
    go_wp2_with fail
    go_loopw [11, 12] (fun rv iv wr => ∃ (j : Nat) (r : Bool), rv = .bool r ∧ iv = .int .i64 (j : Int) ∧ j ≤ as'.length ∧ Hid (r = (as'.take j).any f) ∧ Hid (Fr no w0 wr)) (fun _ iv _ => as'.length - (intOf iv).toNat)
    case atStart => exact ⟨0, false, rfl, rfl, Nat.zero_le _, by simp [Hid], Fr.refl _ _⟩
    case round =>
      obtain ⟨j, r, rfl, rfl, hj, HR, HFR⟩ := hrel
      have hj0 : (0 : Int) ≤ (j : Int) := by omega
      have ck := HFR.out.cell HCK.out (fun f => f)
      by_cases hlt : j < as'.length
      · have hlt' : (j : Int) < (as'.length : Int) := by omega
        obtain ⟨x, hx⟩ : ∃ x, as'[j]? = some x := ⟨_, List.getElem?_eq_getElem hlt⟩
        obtain ⟨g, off, rfl, -, hr⟩ := ac_range (HO.out.keep HFR.out) hx
        have HS : Hid _ := any_step f as' j x hx
        have HHR : Hid _ := hr
        clear hr hx
        go_upto_region 7 with fail
        refine use_then ?_ (fun _ _ h => h)
        refine reg23e wr p j g off as'.length cc hlt x ck HHR.out _ _ _ _ _ _ _ _ _ _ _ _ _ _ _ _ _ _ _ _ _ _ _ _ _ _ _ _ _ _ _ _ _ _ _ _ _ _ _ _ _ _ _ _ _ _ _ _ _ _ _ _ _ _ _ _ _ _ _ _ _ _ _ _ _ _ _ _ _ _ _ _ _ _ _ _ _ _ _ _ _ _ _ _ _ _ _ _ _ _ _ _ _ _ _ _ _ _ _ ?_
        intro W2 b F2 hb
        have HF3 : Hid _ := HFR.out.and F2
        have HB4 : Hid _ := ac_c4 hb
        obtain ⟨xt, xa, xi, xw, xc⟩ := x
        have HB0 : Hid _ := ac_c0 hb
        clear hb F2 ck HHR
        cases r
        · have HFX : Hid ((as'.take (j + 1)).any f = f ⟨xt, xa, xi, xw, xc⟩) := by rw [Hid, HS.out, ← HR.out, Bool.false_or]
          rw [Hid, ← HF.out] at HFX
          rw [HF.out] at HFX
          clear HR HS
          by_cases e1 : xa = a
          · subst e1
            by_cases e2 : xi = i
            · subst e2
              by_cases e3' : xt = (tn : Int)
              · subst e3'
                have HN : Hid (false = (as'.take (j + 1)).any f) := by
                  rw [Hid, HFX, ← HF.out]
                  unfold hitA
                  simp
                obtain ⟨c0, c1, c2, -⟩ := HB0.out
                go_upto_region 8 with fail
                go_region
                go_wp2_with fail
                go_roundw
                case rel => exact ⟨j + 1, false, rfl, by congr 1, by omega, HN, by first | exact HF3.out | exact HF3.out.drew⟩
                case measure => simp [intOf]; omega
              · have e3 : (xt == (tn : Int)) = false := by simpa using e3'
                cases wt
                · cases xw
                  · have HN : Hid (false = (as'.take (j + 1)).any f) := by
                      rw [Hid, HFX, ← HF.out]
                      unfold hitA
                      simp
                    obtain ⟨c0, c1, c2, c3⟩ := HB0.out
                    have e4 : (xt != (tn : Int)) = true := by simpa using e3'
                    clear e3'
                    go_upto_region 8 with fail
                    go_region
                    go_wp2_with fail
                    go_roundw
                    case rel => exact ⟨j + 1, false, rfl, by congr 1, by omega, HN, by first | exact HF3.out | exact HF3.out.drew⟩
                    case measure => simp [intOf]; omega
                  · have HN : Hid ((!beforeB xc (T.now tn)) = (as'.take (j + 1)).any f) := by
                      rw [Hid, HFX, ← HF.out]
                      unfold hitA
                      simp [e3']
                    clear e3'
                    go_upto_region 8 with fail
                    refine use_then ?_ (fun _ _ h => h)
                    refine reg23f W2 p b tn ht xa xi xt e3 xc (T.now tn) (fun w' f => ⟨f.cell HB0.out.1 (fun f => f), f.cell HB0.out.2.1 (fun f => f), f.cell HB0.out.2.2.1 (fun f => f), f.cell HB0.out.2.2.2 (fun f => f)⟩) (fun w' f => rangeAt_fr HB4.out f (fun f => f)) (fun w' f => (H.out.keep (HF3.out.and f)).now_ tn ht) _ _ _ _ _ _ _ _ _ _ _ _ _ _ _ _ _ _ _ _ _ _ _ _ _ _ _ _ _ _ _ _ _ _ _ _ _ _ _ _ _ _ _ _ _ _ _ _ _ _ _ _ _ _ _ _ _ _ _ _ _ _ _ _ _ _ _ _ _ _ _ _ _ _ _ _ _ _ _ _ _ _ _ _ _ _ _ _ _ _ _ _ _ _ ?_
                    intro w4 F4
                    have HF4 : Hid _ := HF3.out.and F4
                    clear F4
                    generalize (!beforeB xc (T.now tn)) = bb at *
                    try show Exit.then _ _ Exit.normal _ _
                    go_wp2_with fail
                    go_roundw
                    case rel => exact ⟨j + 1, bb, rfl, by congr 1, by omega, HN, HF4.out⟩
                    case measure => simp [intOf]; omega
                · have HN : Hid ((!beforeB xc (T.now tn)) = (as'.take (j + 1)).any f) := by
                    rw [Hid, HFX, ← HF.out]
                    unfold hitA
                    simp [e3']
                  clear e3'
                  go_upto_region 8 with fail
                  refine use_then ?_ (fun _ _ h => h)
                  refine reg23t W2 p b tn ht xa xi xt e3 xc (T.now tn) (fun w' f => ⟨f.cell HB0.out.1 (fun f => f), f.cell HB0.out.2.1 (fun f => f), f.cell HB0.out.2.2.1 (fun f => f), trivial⟩) (fun w' f => rangeAt_fr HB4.out f (fun f => f)) (fun w' f => (H.out.keep (HF3.out.and f)).now_ tn ht) _ _ _ _ _ _ _ _ _ _ _ _ _ _ _ _ _ _ _ _ _ _ _ _ _ _ _ _ _ _ _ _ _ _ _ _ _ _ _ _ _ _ _ _ _ _ _ _ _ _ _ _ _ _ _ _ _ _ _ _ _ _ _ _ _ _ _ _ _ _ _ _ _ _ _ _ _ _ _ _ _ _ _ _ _ _ _ _ _ _ _ _ _ _ ?_
                  intro w4 F4
                  have HF4 : Hid _ := HF3.out.and F4
                  clear F4
                  generalize (!beforeB xc (T.now tn)) = bb at *
                  try show Exit.then _ _ Exit.normal _ _
                  go_wp2_with fail
                  go_roundw
                  case rel => exact ⟨j + 1, bb, rfl, by congr 1, by omega, HN, HF4.out⟩
                  case measure => simp [intOf]; omega
            · have HN : Hid (false = (as'.take (j + 1)).any f) := by
                rw [Hid, HFX, ← HF.out]
                unfold hitA
                simp [e2]
              have e2' : (xi == i) = false := by simpa using e2
              obtain ⟨c0, c1, c2, -⟩ := HB0.out
              clear e2
              go_upto_region 8 with fail
              go_region
              go_wp2_with fail
              go_roundw
              case rel => exact ⟨j + 1, false, rfl, by congr 1, by omega, HN, by first | exact HF3.out | exact HF3.out.drew⟩
              case measure => simp [intOf]; omega
          · have HN : Hid (false = (as'.take (j + 1)).any f) := by
              rw [Hid, HFX, ← HF.out]
              unfold hitA
              simp [e1]
            have e1' : (xa == a) = false := by simpa using e1
            obtain ⟨c0, c1, c2, -⟩ := HB0.out
            clear e1
            go_upto_region 8 with fail
            go_region
            go_wp2_with fail
            go_roundw
            case rel => exact ⟨j + 1, false, rfl, by congr 1, by omega, HN, by first | exact HF3.out | exact HF3.out.drew⟩
            case measure => simp [intOf]; omega
        · have HN : Hid (true = (as'.take (j + 1)).any f) := by rw [Hid, HS.out, ← HR.out]; rfl
          clear HR HS
          go_upto_region 8 with fail
          go_region
          go_wp2_with fail
          go_roundw
          case rel => exact ⟨j + 1, true, rfl, by congr 1, by omega, HN, by first | exact HF3.out | exact HF3.out.drew⟩
          case measure => simp [intOf]; omega
      · obtain rfl : j = as'.length := by omega
        have hR : r = res := by rw [HR.out, List.take_length]; exact HRES.out
        subst hR
        clear HR HRES HF
        have HR1 : Hid (RW wr p T ks as' n) := H.out.keep HFR.out
        have HO1 : Hid (OwnG elA wr (.slice oo as'.length cc) as') := HO.out.keep HFR.out
        have HPN : Hid (¬ (Value.slice oo as'.length cc).ownBlock = some p) := by
          obtain ⟨cs, h3, _⟩ := HR1.out.row
          exact fun e => own_blk HO1.out h3 (by decide) p e rfl
        have HCK1 : Hid _ := ck
        go_upto_region 9 with fail
        refine use_then ?_ (fun _ _ h => h)
        refine reg23a wr p tn as'.length cc oo ht a i wt (T.now tn) as' (by omega) (fun w' f => f.cell HCK1.out HPN.out) (fun w' f => (f.frozen ⟨p, 352, none⟩ HR1.out.lt).trans (HR1.out.frz 352)) (fun w' f => rangeAt_fr (HR1.out.now_ tn ht) f HPN.out) (fun w' f => HO1.out.keep f) _ _ _ _ _ _ _ _ _ _ _ _ _ _ _ _ _ _ _ _ _ _ _ _ _ _ _ _ _ _ _ _ _ _ _ _ _ _ _ _ _ _ _ _ _ _ _ _ _ _ _ _ _ _ _ _ _ _ _ _ _ _ _ _ _ _ _ _ _ _ _ _ _ _ _ _ _ _ _ _ _ _ _ _ _ _ _ _ _ _ _ _ _ _ _ _ ?_
        intro w1 w3 o4 c4 F1 o3 s3
        obtain ⟨R3, F3⟩ := app_acc HR1.out HO1.out HCK1.out F1 o3 s3
        have FF := (HFR.out.up (S := TD T.c w0)).tk F3
        clear F3 o3 s3 F1 HCK1 HPN ck
        generalize w3.setCell ⟨p, 352, none⟩ (.slice o4 (as'.length + 1) c4) = w4 at *
        cases r
        · have HX : Hid (_ ∧ _) := ⟨R3, FF⟩
          clear R3 FF
          go_wp2_with fail
          go_ret
          exact ⟨rfl, HX.out.1, HX.out.2⟩
        · have c353 := R3.races
          have fz := R3.frz
          have h0 := hn.1
          have h1 := hn.2
          have HX : Hid (_ ∧ _) := ⟨R3.setRaces (n + 1), FF.tk (R3.td (fr_set w4 p 353 (.int .i64 (n + 1))))⟩
          clear R3 FF
          go_wp2_with fail
          go_ret
          exact ⟨rfl, HX.out.1, HX.out.2⟩
end Go.Proofs.Ytnineggppoipiaa
