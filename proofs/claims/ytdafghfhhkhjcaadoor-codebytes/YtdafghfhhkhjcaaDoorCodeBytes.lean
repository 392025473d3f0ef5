/- For every row of instructions and whatever bytes the statement CodeBytes returns true, and its arguments read as before; the listed tables start as the program lays them. -/
import Derived.Test.YtdafghfhhkhjcaaDoorArgs
import Derived.Test.YtdafghfhhkhjcaaDoorCards
import Derived.Test.YtdafghfhhkhjcaaDoorTie
import Derived.SevenTiedAt
namespace Go.Proofs.YtdafghfhhkhjcaaDoor.codeBytes
open Go.ChangeShapes Go.WideShapes Go.ChangeAt Go.RowKit

set_option maxRecDepth 100000 in
set_option maxHeartbeats 4000000 in
theorem walk (v u : Value) (L : List (Int × Int)) (b : List Nat) (w : World) (T : Tb w) (h : SlI w v L) (hs : Sl w u b) (hl : ∀ c ∈ b, c < 256) :
    Calls Tryd.prog 4 #[v, u] w fun e w' => e = .returned (.bool true) ∧ Fr no w w' := by
  have K := known_any w T
  have HT : Hid (Tb w) := T
  have HSL : Hid (SlI w v L) := h
  have HSB : Hid (Sl w u b) := hs
  obtain ⟨ad, cap, rfl, hcap, hmx, _⟩ := h
  obtain ⟨ao, acap, rfl, _⟩ := hs.shape
  unfold maxLen at hmx
  clear T hs
  by_cases h250 : 250 < L.length
  · go_enter Tryd.func4, Tryd.ntmps4
    go_wp2_with fail
    refine K.mono ?_
    rintro e w1 ⟨rfl, f1⟩
    go_wp2_with fail
    go_ret
    exact ⟨rfl, f1⟩
  · by_cases h1000 : 1000 < b.length
    · go_enter Tryd.func4, Tryd.ntmps4
      go_wp2_with fail
      refine K.mono ?_
      rintro e w1 ⟨rfl, f1⟩
      go_wp2_with fail
      go_ret
      exact ⟨rfl, f1⟩
    · have PUT : Hid (∀ w1, Fr no w w1 → Calls Tryd.prog 21 #[.slice ad L.length cap] w1 fun e w' => ∃ v', e = .returned (.tuple #[v', .int .i64 (ptE L : Int)]) ∧ Own w' v' (ptB L) ∧ Fr no w1 w') := fun w1 f1 => put_any w1 (HT.out.kept f1) _ L (HSL.out.kept f1)
      have DPUT : Hid (∀ w1, Fr no w w1 → Calls Tryd.prog 22 #[.slice ad L.length cap] w1 fun e w' => ∃ v', e = .returned (.tuple #[v', .int .i64 (ptE L : Int)]) ∧ Own w' v' (ptB L) ∧ Fr no w1 w') := fun w1 f1 => docPut_any w1 _ L (HSL.out.kept f1)
      have GET : Hid (∀ w1 v1, Fr no w w1 → Own w1 v1 b → Calls Tryd.prog 23 #[v1] w1 fun e w' => ∃ v', e = .returned (.tuple #[v', .int .i64 ((gt b).2 : Int)]) ∧ OwnI w' v' (gt b).1 ∧ Fr no w1 w') :=
        fun w1 v1 f1 o1 => get_any w1 (HT.out.kept f1) v1 b o1.sl hl (by omega)
      have DGET : Hid (∀ w1, Fr no w w1 → Calls Tryd.prog 24 #[.slice ao b.length acap] w1 fun e w' => ∃ v', e = .returned (.tuple #[v', .int .i64 ((gt b).2 : Int)]) ∧ OwnI w' v' (gt b).1 ∧ Fr no w1 w') :=
        fun w1 f1 => docGet_any w1 _ b (HSB.out.kept f1 (fun _ _ _ f => f)) hl (by omega)
      have HS : Hid (∀ w1, Fr no w w1 → Src Tryd.prog 1 30 (.slice ao b.length acap) b.length (cl b) w1) := fun w1 f1 => (HSB.out.kept f1 (fun _ _ _ f => f)).src
      have hb1 : ([] : List Nat).length + b.length ≤ 1099511627776 := by simp; omega
      have SAME : Hid (∀ w1 v1 v2, OwnI w1 v1 (gt b).1 → OwnI w1 v2 (gt b).1 → Calls Tryd.prog 25 #[v1, v2] w1 fun e w' => e = .returned (.bool true) ∧ Fr no w1 w') := by
        intro w1 v1 v2 o1 o2
        have := same_any w1 v1 v2 _ _ o1.sl o2.sl
        rwa [decide_eq_true rfl] at this
      generalize hgt : gt b = t at *
      obtain ⟨gl, ge⟩ := t
      simp only [] at *
      generalize ptE L = pe at *
      generalize ptB L = pb at *
      clear hgt
      go_enter Tryd.func4, Tryd.ntmps4
      go_wp2_with fail
      refine K.mono ?_
      rintro e w1 ⟨rfl, f1⟩
      go_wp2_with fail
      refine (PUT.out w1 f1).mono ?_
      rintro e w2 ⟨v2, rfl, o2, f2⟩
      have g2 := f1.new f2 (fun _ _ f => f)
      obtain ⟨a2, n2, c2, e2⟩ := o2.form
      subst e2
      clear K f1
      go_wp2_with fail
      refine (DPUT.out w2 g2).mono ?_
      rintro e w3 ⟨v3, rfl, o3, f3⟩
      have g3 := g2.new f3 (fun _ _ f => f)
      have o2' := o2.kept f3 (fun _ _ f => f)
      obtain ⟨a3, n3, c3, e3⟩ := o3.form
      subst e3
      have hS := HS.out w3 g3
      clear f3 f2 g2 o2
      go_wp2_with (at_builtin; refine wpList_apd _ rfl rfl (.const (.slice none 0 0)) (.tmp 34) 30 rfl (.slice none 0 0) [] rfl (Own.nil _) _ rfl b hS hb1 ?_; intro v4 w4 o4 s4; have f4 := (show Sp no nv w3 v4 w4 from s4).fresh.1; rw [List.nil_append] at o4; have G4 := GET.out w4 v4 (g3.new f4 (fun _ _ f => f)) o4; obtain ⟨a4, n4, c4, e4⟩ := o4.form; subst e4; clear s4 o4)
      refine G4.mono ?_
      rintro e w5 ⟨v5, rfl, o5, f5⟩
      have f5' := f4.new f5 (fun _ _ f => f)
      have g5 := g3.new f5' (fun _ _ f => f)
      have o2x := o2'.kept f5' (fun _ _ f => f)
      have o3x := o3.kept f5' (fun _ _ f => f)
      obtain ⟨a5, c5, e5⟩ := o5.form
      subst e5
      clear G4 f5 f4 hS o2' o3 g3
      go_wp2_with fail
      refine (DGET.out w5 g5).mono ?_
      rintro e w6 ⟨v6, rfl, o6, f6⟩
      have g6 := g5.new f6 (fun _ _ f => f)
      have o2y := o2x.kept f6 (fun _ _ f => f)
      have o3y := o3x.kept f6 (fun _ _ f => f)
      have o5y := o5.kept f6 (fun _ _ f => f)
      have hc2 := conv_own w6 _ _ o2y
      have hc3 := conv_own w6 _ _ o3y
      have S6 := SAME.out w6 _ _ o5y o6
      obtain ⟨a6, c6, e6⟩ := o6.form
      subst e6
      generalize bstr pb = s at *
      clear f6 f5' o2x o3x o5 o2y o3y o5y o6 g5
      go_wp2_with fail
      refine S6.mono ?_
      rintro e w7 ⟨rfl, f7⟩
      go_wp2_with fail
      go_ret
      exact ⟨by first | rfl | (simp; done), g6.new f7 (fun _ _ f => f)⟩

set_option maxRecDepth 100000 in
theorem lifted (os : Os) (started : os.Started) (H : Type) (enc : TypeId × Value → H) :
    ReturnsInHanded {} Tryd.checked os 4 .any (fun w args => (Rows.codeBytesSpec.pre enc Tryd.prog Tryd.f4 [] false w args ∧ laidMetH Tryd.prog laid5 w) ∧ sizedMet enc Tryd.prog Tryd.f4 (OpenSpec.ofChange Rows.codeBytesSpec) false w args)
      (Rows.codeBytesSpec.post enc Tryd.prog Tryd.f4 false true false false) := by
  refine returnsInHanded_of_change_and (C := Tryd.checked) (X := fun w _ => laidMetH Tryd.prog laid5 w) (fun _ _ _ hh h => h.of_heap hh) own started (by kernel_rfl) Tryd.func4
    (ChangeSpec.witness_shaped (enc := enc) (C := Tryd.checked) (os := os) (X := fun w _ => laidMetH Tryd.prog laid5 w) false (World.doorLaid Tryd.prog 39 os) #[.slice none 0 0, .slice none 0 0] 8 rfl (World.shaped_of_RefB (by kernel_rfl) (by kernel_rfl)) (by kernel_rfl) (by kernel_rfl) (by kernel_rfl) (door_met5 os _)) ?_
  intro W base args ds gs before hval0 hW _ _ hL _
  have hval : ∀ (j : Nat) t v, Tryd.f4.params[j]? = some t → args[j]? = some v → Value.okWide Tryd.prog W .any base t v := hval0
  have hW' := hW
  obtain ⟨p, q, hA0, hV, rfl, hfz, hnd⟩ := hW
  have hA : DataW.TrodAll enc Tryd.prog W 0 (fun _ => true) true Tryd.f4.params.toList args.toList ds p := hA0
  rw [Tryd.params4] at hA hval
  obtain ⟨v0, vs0, d0, ds0, p0, q0, hargs, rfl, rfl, h0, r0⟩ := trodAll_cons hA
  obtain ⟨v1, vs1, d1, ds1, p1, q1, rfl, rfl, rfl, h1, r1⟩ := trodAll_cons r0
  obtain ⟨rfl, rfl, rfl⟩ := trodAll_nil r1
  obtain rfl : args = #[v0, v1] := by cases args; simp_all
  obtain ⟨rfl, rfl⟩ := trodVars_none hV
  obtain ⟨L0, hL0⟩ := open_row (okWide_slice Tryd.underlying29 (hval 0 29 v0 rfl rfl)) h0
  obtain ⟨b1, hb1, hs1⟩ := open_bytes (okWide_slice Tryd.underlying30 (hval 1 30 v1 rfl rfl)) h1
  have T := of_laid5 hL
  clear hA0 hval0
  simp only [List.append_nil] at hW'
  refine (walk v0 v1 L0 b1 W T hL0 hs1 hb1).mono fun e W' ⟨he, hg⟩ => ?_
  subst he
  have hlt0 : ∀ x ∈ p0, x.block < W.heap.size := fun x hx => hW'.lt x (by simp [hx])
  have hlt1 : ∀ x ∈ p1, x.block < W.heap.size := fun x hx => hW'.lt x (by simp [hx])
  exact ⟨_, rfl, post_of_same (pa := p0 ++ (p1 ++ [])) (pv := []) hW' (fun _ _ _ => (trodAll_cons_mk (shut_bool Tryd.underlying4 _) trodAll_mk0)) (fun sp hsp => (trodAll_cons_mk (trod_after (by kernel_rfl) (of_decide_eq_true (by kernel_rfl)) h0 hg hlt0 (fun x hx => hsp x (by simp [hx]))) (trodAll_cons_mk (trod_after (by kernel_rfl) (of_decide_eq_true (by kernel_rfl)) h1 hg hlt1 (fun x hx => hsp x (by simp [hx]))) trodAll_mk0))) (fun _ _ => rfl) (by simp)
    (hg.toGrown.frame _) hg.toGrown.2.1 (ok_one (by kernel_rfl) rfl (okWide_bool_mk Tryd.underlying4 _))⟩

theorem over : Rows.CodeBytesSaid :=
  OpenClaim.holds_of_wide 4 Tryd.f4 rfl rfl rfl rfl rfl rfl rfl ⟨rfl, rfl, rfl, rfl, rfl⟩ rfl rfl rfl rfl rfl (by kernel_rfl) Tryd.func4 (by kernel_rfl)
    (of_decide_eq_true (by kernel_rfl)) (by unfold Func.isWrapper; first | (rw [if_pos (by decide +kernel)]; kernel_rfl) | (rw [if_neg (by decide +kernel)]; exact ⟨rfl, rfl⟩))
    (fun os started H enc _ => lifted os started H enc)

theorem proved : Rows.CodeBytesCardSaid :=
  Claim7.holds_tied_plain_at .later [] [.data, .data, .data, .data, .data] true (true, "9814ed1c29147e7403b60a471068b730560e07bf28dfed1560560670e699c6e6") false
    over (fun _ h => by cases h) (by kernel_rfl) (fun _ h => by cases h) codeBytes_row_tie rfl ⟨rfl, rfl⟩ (by kernel_rfl) rfl
    (fun f fn hf hfn => by
      obtain rfl : f = 4 := Option.some.inj ((show Tryd.prog.funcNamed "loom/loomlaw4.CodeBytes" = some 4 by kernel_rfl).symm.trans hf) |>.symm
      obtain rfl : fn = Tryd.f4 := (Option.some.inj (Tryd.func4.symm.trans hfn)).symm
      exact ⟨by kernel_rfl, fun j t ht => by
        rw [Tryd.params4] at ht
        have hm : t ∈ [29, 30] := by simpa using Array.mem_of_getElem? ht
        have hall : ([29, 30].all fun u => !Tryd.prog.wantsStandIn u) = true := by kernel_rfl
        exact (show Tryd.prog.wantsStandIn t = false by simpa using List.all_eq_true.1 hall t hm)⟩)
    (by kernel_rfl)
#print axioms proved
end Go.Proofs.YtdafghfhhkhjcaaDoor.codeBytes
