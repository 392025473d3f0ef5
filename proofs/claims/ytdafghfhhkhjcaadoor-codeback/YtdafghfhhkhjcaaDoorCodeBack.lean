/- For every row of instructions and every number the statement CodeBack returns true, and its arguments read as before; the listed tables start as the program lays them. -/
import Derived.Test.YtdafghfhhkhjcaaDoorArgs
import Derived.Test.YtdafghfhhkhjcaaDoorCards
import Derived.Test.YtdafghfhhkhjcaaDoorTie
import Derived.SevenTiedAt
namespace Go.Proofs.YtdafghfhhkhjcaaDoor.codeBack
open Go.ChangeShapes Go.WideShapes Go.ChangeAt Go.RowKit

theorem err_empty (L : List (Int × Int)) (h : ptE L ≠ 0) : ptB L = [] := by
  unfold ptE at h
  unfold ptB
  by_cases h1 : 200 < L.length
  · rw [if_neg (by omega)]
  · rw [if_neg h1] at h
    by_cases h2 : allIs L = true
    · rw [if_pos h2] at h; exact absurd rfl h
    · rw [if_neg (fun h => h2 h.2)]

theorem ok_whole (L : List (Int × Int)) (h : ptE L = 0) : L.length ≤ 200 ∧ allIs L = true ∧ ptB L = enc L.length ++ wri L := by
  unfold ptE at h
  by_cases h1 : 200 < L.length
  · rw [if_pos h1] at h; simp at h
  · rw [if_neg h1] at h
    by_cases h2 : allIs L = true
    · exact ⟨by omega, h2, by unfold ptB; rw [if_pos ⟨by omega, h2⟩]⟩
    · rw [if_neg h2] at h; simp at h

set_option maxRecDepth 100000 in
set_option maxHeartbeats 4000000 in
theorem walk (v : Value) (L : List (Int × Int)) (cut : Int) (hc1 : -9223372036854775808 ≤ cut) (hc2 : cut ≤ 9223372036854775807) (w : World) (T : Tb w) (h : SlI w v L) :
    Calls Tryd.prog 5 #[v, .int .i64 cut] w fun e w' => e = .returned (.bool true) ∧ Fr no w w' := by
  have K := known_any w T
  have HT : Hid (Tb w) := T
  have HSL : Hid (SlI w v L) := h
  obtain ⟨ad, cap, rfl, hcap, hmx, _⟩ := h
  unfold maxLen at hmx
  clear T
  by_cases h250 : 250 < L.length
  · go_enter Tryd.func5, Tryd.ntmps5
    go_wp2_with fail
    refine K.mono ?_
    rintro e w1 ⟨rfl, f1⟩
    go_wp2_with fail
    go_ret
    exact ⟨rfl, f1⟩
  · have PUT : Hid (∀ w1, Fr no w w1 → Calls Tryd.prog 21 #[.slice ad L.length cap] w1 fun e w' => ∃ v', e = .returned (.tuple #[v', .int .i64 (ptE L : Int)]) ∧ Own w' v' (ptB L) ∧ Fr no w w') := by
      intro w1 f1
      refine (put_any w1 (HT.out.kept f1) _ L (HSL.out.kept f1)).mono ?_
      rintro e w' ⟨v', rfl, o, f⟩
      exact ⟨v', rfl, o, f1.new f (fun _ _ f => f)⟩
    by_cases hE : ptE L = 0
    · obtain ⟨h200, hall, hB⟩ := ok_whole L hE
      rw [hE, hB] at PUT
      have hby := put_byte L hall
      have hbl := put_length L h200
      have hg0 := gt_put L [] h200 hall
      rw [List.append_nil, if_pos rfl] at hg0
      have hg1 := gt_put L [0] h200 hall
      rw [if_neg (by simp)] at hg1
      have hgc := fun k => gt_cut L k h200 hall
      have hne : enc L.length ++ wri L ≠ [] := by
        intro e
        have := enc_length L.length
        rw [(List.append_eq_nil_iff.1 e).1] at this
        simp at this
      generalize hBs : enc L.length ++ wri L = B at *
      clear hBs hB hE hall
      have GET : Hid (∀ w1 v1 l, Fr no w w1 → Sl w1 v1 l → (∀ c ∈ l, c < 256) → l.length ≤ 1099511627776 → Calls Tryd.prog 23 #[v1] w1 fun e w' => ∃ v', e = .returned (.tuple #[v', .int .i64 ((gt l).2 : Int)]) ∧ OwnI w' v' (gt l).1 ∧ Fr no w1 w') :=
        fun w1 v1 l f1 hs hl hb => get_any w1 (HT.out.kept f1) v1 l hs hl hb
      have SAME : Hid (∀ w1 v1, Fr no w w1 → OwnI w1 v1 L → Calls Tryd.prog 25 #[v1, .slice ad L.length cap] w1 fun e w' => e = .returned (.bool true) ∧ Fr no w1 w') := by
        intro w1 v1 f1 o1
        have := same_any w1 v1 _ L L o1.sl (HSL.out.kept f1)
        rwa [decide_eq_true rfl] at this
      have hb1 : ([] : List Nat).length + B.length ≤ 1099511627776 := by simp; omega
      have hb2 : B.length + ([0] : List Nat).length ≤ 1099511627776 := by simp; omega
      go_enter Tryd.func5, Tryd.ntmps5
      go_wp2_with fail
      refine K.mono ?_
      rintro e w1 ⟨rfl, f1⟩
      go_wp2_with fail
      refine (PUT.out w1 f1).mono ?_
      rintro e w2 ⟨v2, rfl, o2, f2⟩
      have G2 := GET.out w2 v2 B f2 o2.sl hby (by omega)
      rw [hg0] at G2
      obtain ⟨g, cp, e2, hcp, hmc⟩ := o2.head hne
      unfold maxLen at hmc
      subst e2
      clear K f1
      go_wp2_with fail
      refine G2.mono ?_
      rintro e w3 ⟨v3, rfl, o3, f3⟩
      have o2' := o2.kept f3 (fun _ _ f => f)
      have f3' := f2.new f3 (fun _ _ f => f)
      obtain ⟨a3, c3, e3⟩ := o3.form
      have e3 : v3 = .slice a3 L.length c3 := e3
      have o3 : OwnI w3 v3 L := o3
      subst e3
      have hS := o2'.sl.src
      clear G2 o2 f3 f2
      go_wp2_with (first
        | (at_builtin; refine wpList_apd _ rfl rfl (.const (.slice none 0 0)) (.tmp 31) 30 rfl (.slice none 0 0) [] rfl (Own.nil _) _ rfl B hS hb1 ?_; intro v4 w4 o4 s4; have s4' : Sp no nv w3 v4 w4 := s4; rw [List.nil_append] at o4; have o5 := own_alloc o4 #[.int .u8 ((0 : Nat) : Int)] 5; have hS5 := src_one w4 0; have s5 := s4'.then ((Fr.refl no w4).alloc #[.int .u8 ((0 : Nat) : Int)] 5) (fun _ _ f => f); obtain ⟨a4, n4, c4, e4⟩ := o4.form; subst e4; clear s4 s4' o4)
        | (at_builtin; refine wpList_apd _ rfl rfl (.tmp 32) (.tmp 33) 30 rfl _ B rfl o5 _ rfl [0] hS5 hb2 ?_; intro v6 w6 o6 s6; have s6' := s5.trans s6; obtain ⟨a6, n6, c6, e6⟩ := o6.form; subst e6; clear s6 s5 o5 hS5))
      have f6 := f3'.new s6'.fresh.1 (fun _ _ f => f)
      have G6 := GET.out w6 _ _ f6 o6.sl (bytes_append hby (by simp)) (by simp; omega)
      rw [hg1] at G6
      have o3' := o3.kept s6'.fresh.1 (fun _ _ f => f)
      have o2'' := o2'.kept s6'.fresh.1 (fun _ _ f => f)
      clear hS o2' s6' o6
      refine G6.mono ?_
      rintro e w7 ⟨v7, rfl, o7, f7⟩
      have f7' := f6.new f7 (fun _ _ f => f)
      have o3'' := o3'.kept f7 (fun _ _ f => f)
      have o2x := o2''.kept f7 (fun _ _ f => f)
      obtain ⟨a7, c7, e7⟩ := o7.form
      subst e7
      clear G6 o7 f7 o3 o3' o2''
      go_wp2_with fail
      refine (SAME.out w7 _ f7' o3'').mono ?_
      rintro e w8 ⟨rfl, f8⟩
      have f8' := f7'.new f8 (fun _ _ f => f)
      have o8 := o2x.kept f8 (fun _ _ f => f)
      clear o3'' o2x f8 SAME PUT hg0 hg1
      by_cases hn : cut < 0
      · go_wp2_with fail
        go_ret
        exact ⟨rfl, f8'⟩
      · by_cases hge : (B.length : Int) ≤ cut
        · go_wp2_with fail
          go_ret
          exact ⟨rfl, f8'⟩
        · obtain ⟨k, rfl⟩ : ∃ k : Nat, cut = (k : Int) := ⟨cut.toNat, by omega⟩
          have hk : k < B.length := by omega
          have hst := o8.sl.take k (by omega)
          have G8 := GET.out w8 _ _ f8' hst (fun c hc => hby c (List.mem_of_mem_take hc)) (by rw [List.length_take]; omega)
          rw [hgc k hk] at G8
          clear hst o8
          go_wp2_with fail
          refine G8.mono ?_
          rintro e w9 ⟨v9, rfl, o9, f9⟩
          obtain ⟨a9, c9, e9⟩ := o9.form
          subst e9
          go_wp2_with fail
          go_ret
          exact ⟨rfl, f8'.new f9 (fun _ _ f => f)⟩
    · have hB := err_empty L hE
      rw [hB] at PUT
      have hE' : ((ptE L : Int) == 0) = false := by simp; omega
      go_enter Tryd.func5, Tryd.ntmps5
      go_wp2_with fail
      refine K.mono ?_
      rintro e w1 ⟨rfl, f1⟩
      go_wp2_with fail
      refine (PUT.out w1 f1).mono ?_
      rintro e w2 ⟨v2, rfl, o2, f2⟩
      obtain ⟨o', c', e3⟩ := o2.shape
      subst e3
      go_wp2_with fail
      go_ret
      exact ⟨by first | rfl | (simp; done), f2⟩

set_option maxRecDepth 100000 in
theorem lifted (os : Os) (started : os.Started) (H : Type) (enc : TypeId × Value → H) :
    ReturnsInHanded {} Tryd.checked os 5 .any (fun w args => (Rows.codeBackSpec.pre enc Tryd.prog Tryd.f5 [] false w args ∧ laidMetH Tryd.prog laid5 w) ∧ sizedMet enc Tryd.prog Tryd.f5 (OpenSpec.ofChange Rows.codeBackSpec) false w args)
      (Rows.codeBackSpec.post enc Tryd.prog Tryd.f5 false true false false) := by
  refine returnsInHanded_of_change_and (C := Tryd.checked) (X := fun w _ => laidMetH Tryd.prog laid5 w) (fun _ _ _ hh h => h.of_heap hh) own started (by kernel_rfl) Tryd.func5
    (ChangeSpec.witness_shaped (enc := enc) (C := Tryd.checked) (os := os) (X := fun w _ => laidMetH Tryd.prog laid5 w) false (World.doorLaid Tryd.prog 39 os) #[.slice none 0 0, .int .i64 0] 8 rfl (World.shaped_of_RefB (by kernel_rfl) (by kernel_rfl)) (by kernel_rfl) (by kernel_rfl) (by kernel_rfl) (door_met5 os _)) ?_
  intro W base args ds gs before hval0 hW _ _ hL _
  have hval : ∀ (j : Nat) t v, Tryd.f5.params[j]? = some t → args[j]? = some v → Value.okWide Tryd.prog W .any base t v := hval0
  have hW' := hW
  obtain ⟨p, q, hA0, hV, rfl, hfz, hnd⟩ := hW
  have hA : DataW.TrodAll enc Tryd.prog W 0 (fun _ => true) true Tryd.f5.params.toList args.toList ds p := hA0
  rw [Tryd.params5] at hA hval
  obtain ⟨v0, vs0, d0, ds0, p0, q0, hargs, rfl, rfl, h0, r0⟩ := trodAll_cons hA
  obtain ⟨v1, vs1, d1, ds1, p1, q1, rfl, rfl, rfl, h1, r1⟩ := trodAll_cons r0
  obtain ⟨rfl, rfl, rfl⟩ := trodAll_nil r1
  obtain rfl : args = #[v0, v1] := by cases args; simp_all
  obtain ⟨rfl, rfl⟩ := trodVars_none hV
  obtain ⟨L0, hL0⟩ := open_row (okWide_slice Tryd.underlying29 (hval 0 29 v0 rfl rfl)) h0
  obtain ⟨a1, rfl, rfl, rfl, w1⟩ := open_int Tryd.underlying3 (hval 1 3 v1 rfl rfl) h1
  have T := of_laid5 hL
  clear hA0 hval0
  simp only [List.append_nil] at hW'
  have hz := wf_i64 w1
  refine (walk v0 L0 a1 hz.1 hz.2 W T hL0).mono fun e W' ⟨he, hg⟩ => ?_
  subst he
  have hlt0 : ∀ x ∈ p0, x.block < W.heap.size := fun x hx => hW'.lt x (by simp [hx])
  exact ⟨_, rfl, post_of_same (pa := p0) (pv := []) hW' (fun _ _ _ => (trodAll_cons_mk (shut_bool Tryd.underlying4 _) trodAll_mk0)) (fun sp hsp => by
      have t0 := trod_after (by kernel_rfl) (of_decide_eq_true (by kernel_rfl)) h0 hg hlt0 (fun x hx => hsp x (by simp [hx]))
      have := trodAll_cons_mk t0 (trodAll_cons_mk (shut_int Tryd.underlying3 w1) (trodAll_mk0 (enc := enc) (P := Tryd.prog) (w := W') (base := 0) (spare := sp) (held := true)))
      have t1 : DataW.TrodAll enc Tryd.prog W' 0 sp true [29, 3] [v0, Value.int IntKind.i64 a1] [d0, DataW.lit (Lit.int IntKind.i64 a1)] p0 := by simpa using this
      exact t1) (fun _ _ => rfl) (by simp)
    (hg.toGrown.frame _) hg.toGrown.2.1 (ok_one (by kernel_rfl) rfl (okWide_bool_mk Tryd.underlying4 _))⟩

theorem over : Rows.CodeBackSaid :=
  OpenClaim.holds_of_wide 5 Tryd.f5 rfl rfl rfl rfl rfl rfl rfl ⟨rfl, rfl, rfl, rfl, rfl⟩ rfl rfl rfl rfl rfl (by kernel_rfl) Tryd.func5 (by kernel_rfl)
    (of_decide_eq_true (by kernel_rfl)) (by unfold Func.isWrapper; first | (rw [if_pos (by decide +kernel)]; kernel_rfl) | (rw [if_neg (by decide +kernel)]; exact ⟨rfl, rfl⟩))
    (fun os started H enc _ => lifted os started H enc)

theorem proved : Rows.CodeBackCardSaid :=
  Claim7.holds_tied_plain_at .later [] [.data, .data, .data, .data, .data] true (true, "9814ed1c29147e7403b60a471068b730560e07bf28dfed1560560670e699c6e6") false
    over (fun _ h => by cases h) (by kernel_rfl) (fun _ h => by cases h) codeBack_row_tie rfl ⟨rfl, rfl⟩ (by kernel_rfl) rfl
    (fun f fn hf hfn => by
      obtain rfl : f = 5 := Option.some.inj ((show Tryd.prog.funcNamed "loom/loomlaw4.CodeBack" = some 5 by kernel_rfl).symm.trans hf) |>.symm
      obtain rfl : fn = Tryd.f5 := (Option.some.inj (Tryd.func5.symm.trans hfn)).symm
      exact ⟨by kernel_rfl, fun j t ht => by
        rw [Tryd.params5] at ht
        have hm : t ∈ [29, 3] := by simpa using Array.mem_of_getElem? ht
        have hall : ([29, 3].all fun u => !Tryd.prog.wantsStandIn u) = true := by kernel_rfl
        exact (show Tryd.prog.wantsStandIn t = false by simpa using List.all_eq_true.1 hall t hm)⟩)
    (by kernel_rfl)
#print axioms proved
end Go.Proofs.YtdafghfhhkhjcaaDoor.codeBack
