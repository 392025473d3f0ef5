/- Whatever bytes are a class of the document, or none. -/
import Derived.Test.YthncdbobjeeeaaaGreatDoorHj
import Derived.Test.YthncdbobjeeeaaaGreatDoorHf
import Derived.Test.YthncdbobjeeeaaaGreatDoorGq
namespace Go.Proofs.YthncdbobjeeeaaaGreatDoor
open Go.ChangeShapes Go.WideShapes Go.ChangeAt Go.RowKit

theorem dc_none (b : List Nat) (hb : ∀ c ∈ b, c < 256) (h : NoCls b) : 30 ≤ dcE b ∧ dcE b ≤ 54 ∧ dcC b = zCl := by
  have h0 : dcE b ≠ 0 := fun e => by
    have := dec_sound b hb e
    exact h (dcC b) ⟨this.2.1, this.2.2.1, this.1, this.2.2.2⟩
  have hr := dec_range b
  refine ⟨?_, ?_, by unfold dcC; rw [if_neg h0]⟩ <;> rcases hr with e | ⟨e1, e2⟩ <;> omega
theorem dc_some (b : List Nat) (c : Cl) (h : isCls b c) : dcE b = 0 ∧ dcC b = c := by
  have := dec_compl c h.1 h.2.1 (by rw [h.2.2.1]; exact h.2.2.2)
  rwa [h.2.2.1] at this

set_option maxRecDepth 100000 in
set_option maxHeartbeats 8000000 in
theorem reads_any (w : World) (T : Tb w) (R : Tr w) (v : Value) (b : List Nat) (h : Sl w v b) (hl : ∀ c ∈ b, c < 256) : Calls Tryz.prog 3 #[v] w fun e w' => e = .returned (.bool true) ∧ Fr no w w' := by
  have KN := known_any w T R
  have HTR : Hid (∀ w1, Fr no w w1 → Tb w1 ∧ Tr w1) := fun w1 f => ⟨T.kept f, R.kept f⟩
  have HSL : Hid (Sl w v b) := h
  clear T R
  obtain ⟨vo, vcap, rfl, -⟩ := h.shape
  clear h
  by_cases h3 : 3000 < b.length
  · have h3' : 3000 < (b.length : Int) := by omega
    go_enter Tryz.func3, Tryz.ntmps3
    go_wp2_with fail
    refine KN.mono ?_
    rintro x w1 ⟨rfl, f1⟩
    go_wp2_with fail
    go_ret
    exact ⟨rfl, f1⟩
  have h3' : ¬ 3000 < (b.length : Int) := by omega
  go_enter Tryz.func3, Tryz.ntmps3
  go_wp2_with fail
  refine KN.mono ?_
  rintro x w1 ⟨rfl, f1⟩
  have sl1 := HSL.out.kept f1 (fun _ _ _ f => f)
  have hs1 := sl1.src
  have hbb : ([] : List Nat).length + b.length ≤ 1099511627776 := by simp; omega
  clear KN
  go_wp2_with (at_builtin; refine wpList_apd _ rfl rfl (.const (.slice none 0 0)) (.tmp 13) 22 rfl _ [] rfl (Own.nil w1) _ rfl b hs1 hbb ?_; intro v2 w2 o2 s2; rw [List.nil_append] at o2; obtain ⟨xo, xn, xc, rfl⟩ := o2.form)
  have f2 := f1.new (Sp.fresh s2).1 (fun _ _ f => f)
  have D := decode_any w2 (HTR.out w2 f2).1 (HTR.out w2 f2).2 _ b o2.sl hl (by omega)
  unfold ksV at D
  refine D.mono ?_
  rintro x w3 ⟨⟨kn, ks, ⟨kpa, kpn, kpc⟩, ⟨kfa, kfn, kfc⟩, ⟨kma, kmn, kmc⟩⟩, rfl, hk, g3⟩
  simp only []
  have f3 := f2.new g3 (fun _ _ f => f)
  have fA : Fr no w3 (w3.alloc (.cells #[.string kn, .string ks, .slice kpa kpn kpc, .slice kfa kfn kfc, .slice kma kmn kmc] 28)) := (Fr.refl no w3).alloc _ _
  have hA := heap_alloc_new w3 (.cells #[.string kn, .string ks, .slice kpa kpn kpc, .slice kfa kfn kfc, .slice kma kmn kmc] 28)
  have f3a := f3.new fA (fun _ _ f => f)
  have E := docDecode_any (w3.alloc (.cells #[.string kn, .string ks, .slice kpa kpn kpc, .slice kfa kfn kfc, .slice kma kmn kmc] 28)) _ b (HSL.out.kept f3a (fun _ _ _ f => f)) hl (by omega)
  have HA : Hid (_ ∧ _ ∧ _) := ⟨hk.kept fA, hA, f3a⟩
  clear D hk hA fA f3 f3a g3 f2 o2 s2 sl1 hs1 hbb f1
  go_wp2_with fail
  refine E.mono ?_
  rintro x w4 ⟨⟨yn, ys, ⟨ypa, ypn, ypc⟩, ⟨yfa, yfn, yfc⟩, ⟨yma, ymn, ymc⟩⟩, ok, rfl, told⟩
  unfold ksV
  simp only []
  have fB : Fr no w4 (w4.alloc (.cells #[.string yn, .string ys, .slice ypa ypn ypc, .slice yfa yfn yfc, .slice yma ymn ymc] 28)) := (Fr.refl no w4).alloc _ _
  have hB := heap_alloc_new w4 (.cells #[.string yn, .string ys, .slice ypa ypn ypc, .slice yfa yfn yfc, .slice yma ymn ymc] 28)
  have g4 := told.1.new fB (fun _ _ f => f)
  have hA4 := g4.heap HA.out.2.1 (fun f => f)
  obtain ⟨⟨c0, c1, c2, c3, c4⟩, -⟩ := cells5z hA4
  obtain ⟨⟨d0, d1, d2, d3, d4⟩, -⟩ := cells5z hB
  have HF : Hid (Fr no w (w4.alloc (.cells #[.string yn, .string ys, .slice ypa ypn ypc, .slice yfa yfn yfc, .slice yma ymn ymc] 28))) := HA.out.2.2.new g4 (fun _ _ f => f)
  cases ok with
  | false =>
    have dn := dc_none b hl (told.2.2 rfl)
    have S := same_any (w4.alloc (.cells #[.string yn, .string ys, .slice ypa ypn ypc, .slice yfa yfn yfc, .slice yma ymn ymc] 28)) ⟨kn, ks, ⟨kpa, kpn, kpc⟩, ⟨kfa, kfn, kfc⟩, ⟨kma, kmn, kmc⟩⟩ zKs zCl (by rw [← dn.2.2]; exact HA.out.1.kept g4) (zKs_at _)
    unfold ksV zKs e0 at S
    simp only [] at S
    have hd1 := dn.1
    have hd2 := dn.2.1
    clear told dn E hA4 hB fB g4 HA
    generalize dcE b = err at *
    have he1 : (30 : Int) ≤ (err : Int) := by omega
    have he2 : (err : Int) ≤ 54 := by omega
    go_wp2_with fail
    refine S.mono ?_
    rintro x w5 ⟨rfl, g5⟩
    go_wp2_with fail
    go_ret
    exact ⟨rfl, HF.out.new g5 (fun _ _ f => f)⟩
  | true =>
    obtain ⟨c, hy, hc⟩ := told.2.1 rfl
    have ds := dc_some b c hc
    have S := docSame_any (w4.alloc (.cells #[.string yn, .string ys, .slice ypa ypn ypc, .slice yfa yfn yfc, .slice yma ymn ymc] 28)) ⟨kn, ks, ⟨kpa, kpn, kpc⟩, ⟨kfa, kfn, kfc⟩, ⟨kma, kmn, kmc⟩⟩ ⟨yn, ys, ⟨ypa, ypn, ypc⟩, ⟨yfa, yfn, yfc⟩, ⟨yma, ymn, ymc⟩⟩ c (by rw [← ds.2]; exact HA.out.1.kept g4) (hy.kept fB)
    unfold ksV at S
    simp only [] at S
    have hd := ds.1
    clear told ds E hA4 hB fB g4 HA hy
    rw [hd]
    clear hd
    go_wp2_with fail
    refine S.mono ?_
    rintro x w5 ⟨rfl, g5⟩
    go_wp2_with fail
    go_ret
    exact ⟨rfl, HF.out.new g5 (fun _ _ f => f)⟩
end Go.Proofs.YthncdbobjeeeaaaGreatDoor

