/- For every two bytes the statement CodeMany returns true, and its arguments read as before; the listed tables start as the program lays them. -/
import Derived.Test.YtdafghfhhkhjcaaDoorLaid
import Derived.Test.YtdafghfhhkhjcaaDoorAgain
import Derived.Test.YtdafghfhhkhjcaaDoorCards
import Derived.Test.YtdafghfhhkhjcaaDoorTie
import Derived.SevenTiedAt
namespace Go.Proofs.YtdafghfhhkhjcaaDoor.codeMany
open Go.ChangeShapes Go.WideShapes Go.ChangeAt Go.RowKit

theorem all_same (n o : Nat) (h : o < 48) : allIs (List.replicate n ((o : Int), 0)) = true := by
  unfold allIs
  rw [List.all_eq_true]
  intro x hx
  obtain ⟨_, rfl⟩ := List.mem_replicate.1 hx
  have key : ∀ d : Fin 48, isb (d.val : Int) 0 = true := by decide +kernel
  exact key ⟨o, h⟩

set_option maxRecDepth 100000 in
set_option maxHeartbeats 4000000 in
theorem walk0 (c o : Nat) (hc : c < 20) (ho : o < 48) (a0 a1 : Int) (e0 : a0.tmod 20 = (c : Int)) (e1 : a1.tmod 48 = (o : Int)) (h1 : 0 ≤ a1 ∧ a1 ≤ 255) (w : World) (T : Tb w) :
    Calls Tryd.prog 7 #[.int .u8 a0, .int .u8 a1] w fun e w' => e = .returned (.bool true) ∧ Fr no w w' := by
  have K := known_any w T
  have HT : Hid (Tb w) := T
  clear T
  go_enter Tryd.func7, Tryd.ntmps7
  go_wp2_with fail
  refine K.mono ?_
  rintro e w1 ⟨rfl, f1⟩
  go_wp2_with fail
  go_loopw [6, 7] (fun s i wr => ∃ (k : Nat), i = .int .i64 (k : Int) ∧ k ≤ c + 190 ∧ OwnI wr s (List.replicate k ((o : Int), 0)) ∧ Sp no nv w1 s wr) (fun _ i _ => c + 190 - (intOf i).toNat)
  case atStart => exact ⟨0, rfl, Nat.zero_le _, OwnI.nil _, Sp.refl _ _ _⟩
  case round =>
    obtain ⟨k, rfl, hk, hown, hs⟩ := hrel
    by_cases hlt : k < c + 190
    · have o1 := hown.kept ((Fr.refl no wr).alloc #[.int .i64 (o : Int), .int .i64 0] 23) (fun _ _ f => f)
      have s1 := hs.then ((Fr.refl no wr).alloc #[.int .i64 (o : Int), .int .i64 0] 23) (fun _ _ f => f)
      have hS := src_ins wr (o : Int) 0
      have hbb : (List.replicate k ((o : Int), (0 : Int))).length + ([((o : Int), (0 : Int))] : List (Int × Int)).length ≤ 1099511627776 := by simp; omega
      have hrep : List.replicate k ((o : Int), (0 : Int)) ++ [((o : Int), 0)] = List.replicate (k + 1) ((o : Int), 0) := List.replicate_succ'.symm
      obtain ⟨oo, cc, e2⟩ := hown.form
      rw [List.length_replicate] at e2
      subst e2
      have HS : Hid (∀ v' w', Sp no (.slice oo k cc) (wr.alloc (.cells #[.int .i64 (o : Int), .int .i64 0] 23)) v' w' → Sp no nv w1 v' w') := fun v' w' s2 => s1.trans s2
      have HRep : Hid (List.replicate k ((o : Int), (0 : Int)) ++ [((o : Int), 0)] = List.replicate (k + 1) ((o : Int), 0)) := hrep
      clear hown hs s1 hrep
      go_wp2_with (at_builtin; refine wpList_apdI _ rfl rfl (.tmp 23) (.tmp 28) rfl _ _ rfl o1 _ rfl [((o : Int), 0)] hS (by simp) hbb ?_; intro v2 w2 o2 s2; rw [HRep.out] at o2; have s3 := HS.out v2 w2 s2; obtain ⟨oo', cc', e3⟩ := o2.form; rw [List.length_replicate] at e3; subst e3)
      go_roundw
      case rel => exact ⟨k + 1, by go_num, by omega, o2, s3⟩
      case measure => simp [intOf]; omega
    · have hkc : k = c + 190 := by omega
      subst hkc
      have fw : Fr no w wr := f1.new hs.fresh.1 (fun _ _ f => f)
      have P := put_any wr (HT.out.kept fw) u6 _ hown.sl
      have hall := all_same (c + 190) o ho
      have hrl : (List.replicate (c + 190) ((o : Int), (0 : Int))).length = c + 190 := List.length_replicate
      generalize List.replicate (c + 190) ((o : Int), (0 : Int)) = l at *
      obtain ⟨oo, cc, e2⟩ := hown.form
      rw [hrl] at e2
      subst e2
      by_cases hbig : 200 < c + 190
      · have hE : ptE l = 32 := by unfold ptE; rw [if_pos (by omega)]
        have hB : ptB l = [] := by unfold ptB; rw [if_neg (by omega)]
        rw [hE, hB] at P
        clear hE hB hall hrl hown hs K f1
        go_wp2_with fail
        refine P.mono ?_
        rintro e w3 ⟨v3, rfl, o3, f3⟩
        obtain ⟨o', c', e3⟩ := o3.shape
        subst e3
        go_wp2_with fail
        go_ret
        exact ⟨rfl, fw.new f3 (fun _ _ f => f)⟩
      · have hE : ptE l = 0 := by unfold ptE; rw [if_neg (by omega), if_pos hall]
        have hB : ptB l = enc l.length ++ wri l := by unfold ptB; rw [if_pos ⟨by omega, hall⟩]
        rw [hE, hB] at P
        have hby := put_byte l hall
        have hbl := put_length l (by omega)
        have hgt := gt_put l [] (by omega) hall
        rw [List.append_nil, if_pos rfl] at hgt
        have G : Hid (∀ w3 v3, Own w3 v3 (enc l.length ++ wri l) → Tb w3 → Calls Tryd.prog 23 #[v3] w3 fun e w' => ∃ v', e = .returned (.tuple #[v', .int .i64 0]) ∧ (∃ o' c', v' = .slice o' (c + 190) c') ∧ Fr no w3 w') := by
          intro w3 v3 o3 T3
          have := get_any w3 T3 v3 _ o3.sl hby (by omega)
          rw [hgt] at this
          refine this.mono ?_
          rintro e w' ⟨v', rfl, o4, f4⟩
          obtain ⟨a, b, e⟩ := o4.form
          simp only [] at e
          rw [hrl] at e
          exact ⟨v', rfl, ⟨a, b, e⟩, f4⟩
        clear hE hB hall hown hs K f1 hgt hby
        go_wp2_with fail
        refine P.mono ?_
        rintro e w3 ⟨v3, rfl, o3, f3⟩
        have G3 := G.out w3 v3 o3 (HT.out.kept (fw.new f3 (fun _ _ f => f)))
        obtain ⟨o', n', c', e3⟩ := o3.form
        subst e3
        clear o3 P
        go_wp2_with fail
        refine G3.mono ?_
        rintro e w4 ⟨v4, rfl, ⟨o5, c5, rfl⟩, f4⟩
        go_wp2_with fail
        go_ret
        exact ⟨by first | rfl | (simp; done), (fw.new f3 (fun _ _ f => f)).new f4 (fun _ _ f => f)⟩

theorem walk (a0 : Int) (a1 : Int) (w0 : (Lit.int .u8 a0).wf = true) (w1 : (Lit.int .u8 a1).wf = true) (w : World) (T : Tb w) :
    Calls Tryd.prog 7 #[.int .u8 a0, .int .u8 a1] w fun e w' => e = .returned (.bool true) ∧ Fr no w w' := by
  have h0 := (show (0 : Int) ≤ a0 ∧ a0 ≤ 255 by simpa [Lit.wf, IntKind.min, IntKind.max, IntKind.signed, IntKind.bits] using w0)
  have h1 := (show (0 : Int) ≤ a1 ∧ a1 ≤ 255 by simpa [Lit.wf, IntKind.min, IntKind.max, IntKind.signed, IntKind.bits] using w1)
  refine walk0 (a0.tmod 20).toNat (a1.tmod 48).toNat ?_ ?_ a0 a1 ?_ ?_ h1 w T
  all_goals (rw [Int.tmod_eq_emod_of_nonneg (by omega)]; omega)

set_option maxRecDepth 100000 in
theorem lifted (os : Os) (started : os.Started) (H : Type) (enc : TypeId × Value → H) :
    ReturnsInHanded {} Tryd.checked os 7 .any (fun w args => (Rows.codeManySpec.pre enc Tryd.prog Tryd.f7 [] false w args ∧ laidMetH Tryd.prog laid5 w) ∧ sizedMet enc Tryd.prog Tryd.f7 (OpenSpec.ofChange Rows.codeManySpec) false w args)
      (Rows.codeManySpec.post enc Tryd.prog Tryd.f7 false true false false) := by
  refine returnsInHanded_of_change_and (C := Tryd.checked) (X := fun w _ => laidMetH Tryd.prog laid5 w) (fun _ _ _ hh h => h.of_heap hh) own started (by kernel_rfl) Tryd.func7
    (ChangeSpec.witness_shaped (enc := enc) (C := Tryd.checked) (os := os) (X := fun w _ => laidMetH Tryd.prog laid5 w) false (World.doorLaid Tryd.prog 39 os) #[.int .u8 0, .int .u8 0] 8 rfl (World.shaped_of_RefB (by kernel_rfl) (by kernel_rfl)) (by kernel_rfl) (by kernel_rfl) (by kernel_rfl) (door_met5 os _)) ?_
  intro W base args ds gs before hval0 hW _ _ hL _
  have hval : ∀ (j : Nat) t v, Tryd.f7.params[j]? = some t → args[j]? = some v → Value.okWide Tryd.prog W .any base t v := hval0
  have hW' := hW
  obtain ⟨p, q, hA0, hV, rfl, hfz, hnd⟩ := hW
  have hA : DataW.TrodAll enc Tryd.prog W 0 (fun _ => true) true Tryd.f7.params.toList args.toList ds p := hA0
  rw [Tryd.params7] at hA hval
  obtain ⟨v0, vs0, d0, ds0, p0, q0, hargs, rfl, rfl, h0, r0⟩ := trodAll_cons hA
  obtain ⟨v1, vs1, d1, ds1, p1, q1, rfl, rfl, rfl, h1, r1⟩ := trodAll_cons r0
  obtain ⟨rfl, rfl, rfl⟩ := trodAll_nil r1
  obtain rfl : args = #[v0, v1] := by cases args; simp_all
  obtain ⟨rfl, rfl⟩ := trodVars_none hV
  obtain ⟨a0, rfl, rfl, rfl, w0⟩ := open_int Tryd.underlying5 (hval 0 5 v0 rfl rfl) h0
  obtain ⟨a1, rfl, rfl, rfl, w1⟩ := open_int Tryd.underlying5 (hval 1 5 v1 rfl rfl) h1
  have T := of_laid5 hL
  clear hA0 hval0
  simp only [List.append_nil] at hW'
  refine (walk a0 a1 w0 w1 W T).mono fun e W' ⟨he, hf⟩ => ?_
  subst he
  have hg := hf.toGrown
  exact ⟨_, rfl, post_of_same (pa := []) (pv := []) hW' (fun _ _ _ => (trodAll_cons_mk (shut_bool Tryd.underlying4 _) trodAll_mk0)) (fun sp _ => (trodAll_cons_mk (shut_int Tryd.underlying5 w0) (trodAll_cons_mk (shut_int Tryd.underlying5 w1) trodAll_mk0))) (fun _ _ => rfl) rfl
    (hg.frame _) hg.2.1 (ok_one (by kernel_rfl) rfl (okWide_bool_mk Tryd.underlying4 _))⟩

theorem over : Rows.CodeManySaid :=
  OpenClaim.holds_of_wide 7 Tryd.f7 rfl rfl rfl rfl rfl rfl rfl ⟨rfl, rfl, rfl, rfl, rfl⟩ rfl rfl rfl rfl rfl (by kernel_rfl) Tryd.func7 (by kernel_rfl)
    (of_decide_eq_true (by kernel_rfl)) (by unfold Func.isWrapper; first | (rw [if_pos (by decide +kernel)]; kernel_rfl) | (rw [if_neg (by decide +kernel)]; exact ⟨rfl, rfl⟩))
    (fun os started H enc _ => lifted os started H enc)

theorem proved : Rows.CodeManyCardSaid :=
  Claim7.holds_tied_plain_at .later [] [.data, .data, .data, .data, .data] true (true, "9814ed1c29147e7403b60a471068b730560e07bf28dfed1560560670e699c6e6") false
    over (fun _ h => by cases h) (by kernel_rfl) (fun _ h => by cases h) codeMany_row_tie rfl ⟨rfl, rfl⟩ (by kernel_rfl) rfl
    (fun f fn hf hfn => by
      obtain rfl : f = 7 := Option.some.inj ((show Tryd.prog.funcNamed "loom/loomlaw4.CodeMany" = some 7 by kernel_rfl).symm.trans hf) |>.symm
      obtain rfl : fn = Tryd.f7 := (Option.some.inj (Tryd.func7.symm.trans hfn)).symm
      exact ⟨by kernel_rfl, fun j t ht => by
        rw [Tryd.params7] at ht
        have hm : t ∈ [5, 5] := by simpa using Array.mem_of_getElem? ht
        have hall : ([5, 5].all fun u => !Tryd.prog.wantsStandIn u) = true := by kernel_rfl
        exact (show Tryd.prog.wantsStandIn t = false by simpa using List.all_eq_true.1 hall t hm)⟩)
    (by kernel_rfl)
#print axioms proved
end Go.Proofs.YtdafghfhhkhjcaaDoor.codeMany
