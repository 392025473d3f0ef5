/- The statement that so many words fit just if one has them: it returns true. -/
import Derived.Test.YtopcbcdigllenaaMd
import Derived.Test.YtopcbcdigllenaaH3
namespace Go.Proofs.Ytopcbcdigllenaa
open Go.ChangeShapes Go.WideShapes Go.ChangeAt Go.RowKit

theorem any_room (n k : Nat) (bs : List Blk) : (freesA k bs).any (fun b => decide ((n : Int) ≤ b.2 - 2)) = (roomAt n bs).isSome := by
  induction bs generalizing k with
  | nil => rfl
  | cons b r ih =>
    cases b with
    | free j =>
      rw [freesA, roomAt, List.any_cons, ih]
      by_cases h : n + 1 ≤ j.length
      · simp only [Blk.room, decide_eq_true h, if_true, Option.isSome_some, Bool.or_eq_true, decide_eq_true_eq]
        left
        simp only [Blk.len]
        omega
      · have e : decide ((n : Int) ≤ ((Blk.free j).len : Int) - 2) = false := decide_eq_false (by simp only [Blk.len]; omega)
        simp only [Blk.room, decide_eq_false h, e, Bool.false_or, Bool.false_eq_true, if_false, Option.isSome_map]
    | obj c ws =>
      rw [freesA, roomAt, ih]
      simp [Blk.room]

theorem fits_room (n : Nat) (bs : List Blk) : fitsP bs (n : Int) = (roomAt n bs).isSome := by
  unfold fitsP
  rw [decide_eq_true (by omega), Bool.true_and, any_room]

/-- Two arenas of the same objects have the same free blocks. -/
theorem same_frees {b1 b2 : List Blk} (h1 : tight false b1 = true) (h2 : tight false b2 = true) (hs : siz b1 = siz b2) (hl : siz b1 ≤ 2048) (ho : objL 0 b1 = objL 0 b2) : freesA 0 b1 = freesA 0 b2 := by
  have ht : ∀ l : List (Int × Nat × List Nat), (l.map (fun y => (⟨y.1, y.2.1, y.2.2, none⟩ : Ob))).map Ob.told = l := fun l => by
    rw [List.map_map]
    conv => rhs; rw [← List.map_id l]
    rfl
  have l1 : Linked (siz b1) b1 ((objL 0 b1).map (fun y => (⟨y.1, y.2.1, y.2.2, none⟩ : Ob))) := ⟨ht _, h1, rfl, hl⟩
  have l2 : Linked (siz b1) b2 ((objL 0 b1).map (fun y => (⟨y.1, y.2.1, y.2.2, none⟩ : Ob))) := ⟨by rw [ht, ho], h2, hs.symm, hl⟩
  rw [← l1.gaps, ← l2.gaps]

theorem alloc_back {c n o : Nat} {bs : List Blk} (h : roomAt n bs = some o) (ht : tight false bs = true) (hl : siz bs ≤ 2048) : beg (allocB c n bs) ((o : Int) + 1) = true ∧ freesA 0 (freeB (allocB c n bs) ((o : Int) + 1)) = freesA 0 bs := by
  obtain ⟨a1, a2, a3, a4, A, B, a5, a6, a7, a8, a9⟩ := alloc_some (c := c) h
  have hb : beg (allocB c n bs) ((o : Int) + 1) = true := by rw [beg_obj, a4, if_pos rfl]; rfl
  refine ⟨hb, ?_⟩
  obtain ⟨f1, f2, -⟩ := free_some hb
  refine same_frees f2 ht (f1.trans a1) (by rw [f1, a1]; exact hl) ?_
  rw [free_filter, a6, a5, List.filter_append, List.filter_cons]
  simp only [ne_eq, not_true_eq_false, decide_false, Bool.false_eq_true, if_false]
  congr 1
  · exact List.filter_eq_self.2 (fun y hy => by
      have := a7 y hy
      simp only [decide_eq_true_eq]
      omega)
  · exact List.filter_eq_self.2 (fun y hy => by
      have := a8 y hy
      simp only [decide_eq_true_eq]
      omega)

theorem neq_nil_ptr (w : World) (b : Nat) : (binOp .eql 24 (.pointer (some ⟨b, 0, none⟩)) (.pointer none)).run Try.prog w = .ok (.bool false) w := rfl

set_option maxHeartbeats 8000000 in
set_option maxRecDepth 100000 in
theorem gfits_any (w : World) (vs : Value) (sizes : List Nat) (vg : Value) (gone : List Nat) (words : Int) (hs : RdG elY w vs sizes) (hsb : ∀ x ∈ sizes, x < 256) (hg : RdG elY w vg gone) (hgb : ∀ x ∈ gone, x < 256) (_ : -9223372036854775808 ≤ words) (_ : words ≤ 9223372036854775807) :
    Calls Try.prog 5 #[vs, vg, .int .i64 words] w fun e w' => e = .returned (.bool true) ∧ Fr no w w' := by
  have KN := known12_any w
  have HMA : Hid (∀ w1, Fr no w w1 → sizes.length ≤ 30 → gone.length ≤ 10 → Calls Try.prog 22 #[vs, vg] w1 fun e w' => ∃ p g q v bs, e = .returned (.tuple #[.pointer (some ⟨p, 0, none⟩), .pointer (some ⟨q, 0, none⟩), v]) ∧ HP w' p g bs ∧ tight false bs = true ∧ siz bs = 600 ∧ w.heap.size ≤ g ∧ Fr no w w') := fun w1 f1 h1 h2 => by
    refine (made_any w1 vs vg sizes gone (hs.keep f1) (hg.keep f1) h1 h2 hsb hgb).mono ?_
    rintro e w' ⟨p, g, q, v, l, bs, T, rfl, md, -, -⟩
    refine ⟨p, g, q, v, bs, rfl, md.pl.hf.hp, md.pl.lk.tight, md.pl.lk.size, ?_, f1.and md.pl.hf.fr⟩
    have := f1.size
    have := md.pl.hf.gb
    omega
  obtain ⟨os, csn, e1⟩ := hs.form
  obtain ⟨og, cgn, e2⟩ := hg.form
  subst e1 e2
  clear hs hg hsb hgb
  generalize sizes.length = ln at *
  generalize gone.length = gn at *
  have OUT : (30 < ln ∨ 10 < gn ∨ words < 0 ∨ 3000 < words) → Calls Try.prog 5 #[.slice os ln csn, .slice og gn cgn, .int .i64 words] w fun e w' => e = .returned (.bool true) ∧ Fr no w w' := fun hb => by
    clear HMA
    by_cases c1 : 30 < ln
    · have d1 : (30 : Int) < (ln : Int) := by omega
      go_enter Try.func5, Try.ntmps5
      go_wp2_with fail
      refine KN.mono ?_
      rintro e w1 ⟨rfl, f1⟩
      have F1 : Hid (Fr no w w1) := f1
      clear f1 hb
      go_wp2_with fail
      go_ret
      exact ⟨rfl, F1.out⟩
    · have d1 : ¬ (30 : Int) < (ln : Int) := by omega
      by_cases c2 : 10 < gn
      · have d2 : (10 : Int) < (gn : Int) := by omega
        go_enter Try.func5, Try.ntmps5
        go_wp2_with fail
        refine KN.mono ?_
        rintro e w1 ⟨rfl, f1⟩
        have F1 : Hid (Fr no w w1) := f1
        clear f1 hb
        go_wp2_with fail
        go_ret
        exact ⟨rfl, F1.out⟩
      · have d2 : ¬ (10 : Int) < (gn : Int) := by omega
        by_cases c3 : words < 0
        · go_enter Try.func5, Try.ntmps5
          go_wp2_with fail
          refine KN.mono ?_
          rintro e w1 ⟨rfl, f1⟩
          have F1 : Hid (Fr no w w1) := f1
          clear f1 hb
          go_wp2_with fail
          go_ret
          exact ⟨rfl, F1.out⟩
        · have c4 : 3000 < words := by omega
          go_enter Try.func5, Try.ntmps5
          go_wp2_with fail
          refine KN.mono ?_
          rintro e w1 ⟨rfl, f1⟩
          have F1 : Hid (Fr no w w1) := f1
          clear f1 hb
          go_wp2_with fail
          go_ret
          exact ⟨rfl, F1.out⟩
  by_cases hb : 30 < ln ∨ 10 < gn ∨ words < 0 ∨ 3000 < words
  · exact OUT hb
  · clear OUT
    have d1 : ¬ (30 : Int) < (ln : Int) := by omega
    have d2 : ¬ (10 : Int) < (gn : Int) := by omega
    obtain ⟨m, rfl⟩ : ∃ m : Nat, words = (m : Int) := ⟨words.toNat, by omega⟩
    have d3 : ¬ (m : Int) < 0 := by omega
    have d4 : ¬ (3000 : Int) < (m : Int) := by omega
    go_enter Try.func5, Try.ntmps5
    go_wp2_with fail
    refine KN.mono ?_
    rintro e w1 ⟨rfl, f1⟩
    have MA := HMA.out w1 f1 (by omega) (by omega)
    clear f1 hb HMA KN
    go_wp2_with fail
    refine MA.mono ?_
    rintro e w2 ⟨p, g, q, v, bs, rfl, h2, ht, hz, hgb, f2⟩
    have FR := free_any w2 p g bs h2
    have HB : Hid (tight false bs = true ∧ siz bs = 600 ∧ w.heap.size ≤ g) := ⟨ht, hz, hgb⟩
    have H2 : Hid (HP w2 p g bs ∧ Fr no w w2) := ⟨h2, f2⟩
    clear h2 ht hz hgb f2 MA
    go_wp2_with fail
    refine FR.mono ?_
    rintro e w3 ⟨v3, rfl, o3, n3, f3⟩
    have FT := fits_any w3 p g bs (H2.out.1.keep f3) (m : Int)
    rw [fits_room] at FT
    have H3 : Hid (HP w3 p g bs ∧ OwnG elB w3 v3 (freesA 0 bs) ∧ Fr no w w3) := ⟨H2.out.1.keep f3, o3, H2.out.2.and f3⟩
    clear o3 n3 f3 FR H2
    go_wp2_with fail
    refine FT.mono ?_
    rintro e w4 ⟨rfl, f4⟩
    have AL : Calls Try.prog 11 #[.pointer (some ⟨p, 0, none⟩), .int .i64 1, .int .i64 (m : Int)] w4 fun e w' => e = .returned (.tuple #[.int .i64 (rmA (roomAt m bs)), .int .i64 (errM (roomAt m bs))]) ∧ HP w' p g (allocB 1 m bs) ∧ Fr (fun k => k = g) w4 w' := alloc_nat w4 p g bs (H3.out.1.keep f4) 1 m (by decide)
    have H4 : Hid (HP w4 p g bs ∧ OwnG elB w4 v3 (freesA 0 bs) ∧ Fr no w w4) := ⟨H3.out.1.keep f4, H3.out.2.1.keep f4, H3.out.2.2.and f4⟩
    clear f4 FT H3
    have STEP : Hid (∀ {wa wb : World} {ba : List Blk}, HP wa p g ba ∧ OwnG elB wa v3 (freesA 0 bs) ∧ Fr no w wa → Fr (fun k => k = g) wa wb → OwnG elB wb v3 (freesA 0 bs) ∧ Fr no w wb) := fun {wa wb ba} ha f => ⟨ha.2.1.kept f (fun k hk e => own_not ha.2.1 ha.1.row (by decide) (by rw [hk, e])), ha.2.2.new f (fun i hi e => by have := HB.out.2.2; omega)⟩
    have LAST : Hid (∀ (wa : World) (ba : List Blk), HP wa p g ba ∧ OwnG elB wa v3 (freesA 0 bs) ∧ Fr no w wa → freesA 0 ba = freesA 0 bs → Calls Try.prog 29 #[.pointer (some ⟨p, 0, none⟩)] wa fun e w' => ∃ v', e = .returned v' ∧ Calls Try.prog 31 #[v', v3] w' fun e w'' => e = .returned (.bool true) ∧ Fr no w w'') := fun wa ba ha he => by
      have h := free_any wa p g ba ha.1
      rw [he] at h
      refine h.mono ?_
      rintro e w' ⟨v', rfl, o', -, f'⟩
      refine ⟨v', rfl, ?_⟩
      refine (blocks_any w' v' v3 _ _ o'.sl (ha.2.1.keep f').sl).mono ?_
      rintro e w'' ⟨rfl, k, rfl⟩
      exact ⟨by rw [sameB]; simp, (ha.2.2.and f').drewN k⟩
    cases hr : roomAt m bs with
    | none =>
      rw [hr] at AL
      rw [(roomAt_none hr).2] at AL
      have AL' : Calls Try.prog 11 #[.pointer (some ⟨p, 0, none⟩), .int .i64 1, .int .i64 (m : Int)] w4 fun e w' => e = .returned (.tuple #[.int .i64 0, .int .i64 110]) ∧ HP w' p g bs ∧ Fr (fun k => k = g) w4 w' := AL
      clear AL
      simp only [Option.isSome_none]
      go_wp2_with fail
      refine AL'.mono ?_
      rintro e w5 ⟨rfl, h5, f5⟩
      have LA := LAST.out w5 bs ⟨h5, STEP.out H4.out f5⟩ rfl
      clear h5 f5 AL'
      go_wp2_with fail
      refine LA.mono ?_
      rintro e w6 ⟨v6, rfl, BL⟩
      clear LA
      go_wp2_with fail
      refine BL.mono ?_
      rintro e w7 ⟨rfl, f7⟩
      have F7 : Hid (Fr no w w7) := f7
      clear f7 BL
      go_wp2_with fail
      go_ret
      exact ⟨rfl, F7.out⟩
    | some o =>
      rw [hr] at AL
      have hbk := alloc_back (c := 1) hr HB.out.1 (by rw [HB.out.2.1]; decide)
      have ho : o + m + 2 ≤ siz bs := (alloc_some (c := 1) hr).2.2.2.2.choose_spec.choose_spec.2.2.2.2
      have ho6 : o < 600 := by have := HB.out.2.1; omega
      have AL' : Calls Try.prog 11 #[.pointer (some ⟨p, 0, none⟩), .int .i64 1, .int .i64 (m : Int)] w4 fun e w' => e = .returned (.tuple #[.int .i64 ((o : Int) + 1), .int .i64 0]) ∧ HP w' p g (allocB 1 m bs) ∧ Fr (fun k => k = g) w4 w' := AL
      have HBK : Hid _ := hbk
      clear AL hbk ho
      simp only [Option.isSome_some]
      go_wp2_with fail
      refine AL'.mono ?_
      rintro e w5 ⟨rfl, h5, f5⟩
      have RL := release_any w5 p g _ h5 ((o : Int) + 1) (by omega)
      rw [HBK.out.1] at RL
      have RL' : Calls Try.prog 13 #[.pointer (some ⟨p, 0, none⟩), .int .i64 ((o : Int) + 1)] w5 fun e w' => e = .returned (.int .i64 0) ∧ HP w' p g (freeB (allocB 1 m bs) ((o : Int) + 1)) ∧ Fr (fun k => k = g) w5 w' := RL
      have H5 : Hid (HP w5 p g (allocB 1 m bs) ∧ OwnG elB w5 v3 (freesA 0 bs) ∧ Fr no w w5) := ⟨h5, STEP.out H4.out f5⟩
      clear h5 f5 AL' RL
      go_wp2_with fail
      refine RL'.mono ?_
      rintro e w6 ⟨rfl, h6, f6⟩
      have LA := LAST.out w6 _ ⟨h6, STEP.out H5.out f6⟩ HBK.out.2
      clear h6 f6 RL'
      go_wp2_with fail
      refine LA.mono ?_
      rintro e w7 ⟨v7, rfl, BL⟩
      clear LA
      go_wp2_with fail
      refine BL.mono ?_
      rintro e w8 ⟨rfl, f8⟩
      have F8 : Hid (Fr no w w8) := f8
      clear f8 BL
      go_wp2_with fail
      go_ret
      exact ⟨rfl, F8.out⟩
end Go.Proofs.Ytopcbcdigllenaa
