/- The statement of objects in a ring: it returns true. -/
import Derived.Test.YtopcbcdigllenaaH4
import Derived.Deep.RegionWith
namespace Go.Proofs.Ytopcbcdigllenaa
open Go.ChangeShapes Go.WideShapes Go.ChangeAt Go.RowKit

/-- Where the statement stands behind its loop. -/
structure Rg (w wr : World) (p g c k : Nat) (bs : List Blk) : Prop where
  hp : HP wr p g bs
  hk : wr.heap[c]? = some (.cells #[.int .i64 (k : Int)] 3 (0, 0))
  fr : Fr no w wr
  gb : w.heap.size ≤ g
  cb : w.heap.size ≤ c

theorem Rg.keep {w wr w' : World} {p g c k : Nat} {bs : List Blk} (h : Rg w wr p g c k bs) (f : Fr no wr w') : Rg w w' p g c k bs := ⟨h.hp.keep f, f.heap h.hk (fun x => x), h.fr.and f, h.gb, h.cb⟩

theorem Rg.turn {w wr w' : World} {p g c k : Nat} {bs bs' : List Blk} (h : Rg w wr p g c k bs) (h' : HP w' p g bs') (f : Fr (fun x => x = g ∨ x = c) wr w') (hc : w'.heap[c]? = some (.cells #[.int .i64 (k : Int)] 3 (0, 0))) : Rg w w' p g c k bs' :=
  ⟨h', hc, h.fr.new f (fun i hi e => by have := h.gb; have := h.cb; omega), h.gb, h.cb⟩

theorem Rg.cell {w wr : World} {p g c k : Nat} {bs : List Blk} (h : Rg w wr p g c k bs) : wr.cell? ⟨c, 0, none⟩ = some (.int .i64 (k : Int)) := by simp [World.cell?, h.hk]

theorem Rg.alloc {w wr : World} {p g c k : Nat} {t : Nat} (h : Rg w wr p g c k (rb t)) (ht : t < 20) :
    Calls Try.prog 11 #[.pointer (some ⟨p, 0, none⟩), .int .i64 1, .int .i64 1] wr fun e w' => e = .returned (.tuple #[.int .i64 (3 * (t : Int) + 1), .int .i64 0]) ∧ Rg w w' p g c k (rb (t + 1)) := by
  have A := alloc_nat wr p g (rb t) h.hp 1 1 (by decide)
  have hr : roomAt 1 (rb t) = some (3 * t) := (rb_all ⟨t, by omega⟩).2.2.2
  rw [hr] at A
  refine A.mono ?_
  rintro e w' ⟨rfl, h', f'⟩
  refine ⟨?_, h.turn h' (f'.mono (fun _ _ x => .inl x)) (f'.heap h.hk (fun e => ?_))⟩
  · simp only [rmA, errM]
    congr 4
  · have := h.hp.row
    rw [← e, h.hk] at this
    simp at this

theorem Rg.collect {w wr : World} {p g c k : Nat} {t : Nat} (h : Rg w wr p g c k (rb t)) (ht : t = k) (hk : 1 ≤ k) (hk2 : k ≤ 20) (rv : Value) (R : List Int) (hr : OwnG elI wr rv R) (hR : R.length ≤ 10) (m : Nat)
    (hm : ∀ M : List Nat, (∀ a ∈ rO k, M[a.toNat]? = some 2 ↔ Reach (rE k) (rO k) R a) → (seenL M (rO k)).length = m) :
    Calls Try.prog 28 #[.pointer (some ⟨p, 0, none⟩), rv, .func (.func 32) #[] #[.pointer (some ⟨c, 0, none⟩)]] wr fun e w' => ∃ M, e = .returned (.int .i64 ((k - m : Nat) : Int)) ∧ Rg w w' p g c k (relP M (rb t) (rO k)) ∧ (∀ a ∈ rO k, M[a.toNat]? = some 2 ↔ Reach (rE k) (rO k) R a) := by
  have ho : objsA 0 (rb t) = rO k := by rw [← ht]; exact (rb_all ⟨t, by omega⟩).1
  have hne : ∀ x, c = x → x = g → False := fun x e1 e2 => by
    have := h.hp.row
    rw [← e2, ← e1, h.hk] at this
    simp at this
  have hnp : ¬ p = c := fun e => by
    have := h.hp.hd
    rw [e, h.hk] at this
    simp at this
  have hl : (rO k).length = k := by simp [rO]
  have C := collect_any wr p g (rb t) h.hp rv R hr (by omega) 32 _ (rE k) (Jr k c) 1000000 (rRefs k c hk hk2) [] (fun x => x = c) ⟨fun x => Iff.rfl, h.hk⟩ (by rw [ho, hl]; simp; omega) hnp (fun e => hne c rfl e.symm)
  rw [ho, hl] at C
  refine C.mono ?_
  rintro e w' ⟨js, B, M, rfl, h', hj, f', -, hrc, -⟩
  exact ⟨M, by rw [hm M hrc], h.turn h' f' hj.2, hrc⟩

theorem ring_after (k : Nat) (hk : 1 ≤ k) (hk2 : k ≤ 20) (M : List Nat) (h : ∀ a ∈ rO k, M[a.toNat]? ≠ some 2) : objsA 0 (relP M (rb k) (rO k)) = [] ∧ fitsP (relP M (rb k) (rO k)) 398 = true ∧ fitsP (relP M (rb k) (rO k)) 399 = false := by
  obtain ⟨b1, b2, b3, -⟩ := rb_all ⟨k, by omega⟩
  simp only at b1 b2 b3
  have e1 : objsA 0 (relP M (rb k) (rO k)) = [] := by
    rw [← b1, relP_objs, b1]
    exact seen_none M _ h
  obtain ⟨r1, r2, -⟩ := relP_all M (rb k) (rO k)
  have e2 := no_objs (r2 b2) e1 (r1.trans b3) (by omega)
  refine ⟨e1, ?_, ?_⟩
  · unfold fitsP
    rw [e2]
    decide
  · unfold fitsP
    rw [e2]
    decide

set_option maxHeartbeats 4000000 in
set_option maxRecDepth 100000 in
theorem ring_law_any (w : World) (n root : Nat) (kept : Bool) (_ : n < 256) (hr : root < 256) :
    Calls Try.prog 6 #[.int .u8 (n : Int), .int .u8 (root : Int), .bool kept] w fun e w' => e = .returned (.bool true) ∧ Fr no w w' := by
  have KN := known12_any w
  have hmf : ∀ (fn : Fn) (first cap : Array Value) (w : World), (Instr.makeFunc fn first cap).run Try.prog w = .ok (.func fn first cap) w := fun _ _ _ _ => rfl
  obtain ⟨q, hq⟩ : ∃ q : Nat, q = n % 20 := ⟨_, rfl⟩
  have e20 : (n : Int) % 20 = (q : Int) := by omega
  have e20' : (n : Int).tmod 20 = (q : Int) := by rw [hq]; rfl
  have hq2 : q < 20 := by omega
  obtain ⟨k, hkk⟩ : ∃ k : Nat, k = q + 1 := ⟨_, rfl⟩
  have ek : (q : Int) + 1 = (k : Int) := by omega
  have hk : 1 ≤ k := by omega
  have hk2 : k ≤ 20 := by omega
  clear hq hkk
  go_enter Try.func6, Try.ntmps6
  go_wp2_with fail
  refine KN.mono ?_
  rintro e w1 ⟨rfl, f1⟩
  have F1 : Hid (Fr no w w1) := f1
  clear f1 KN
  go_upto_region 4 with fail
  have hA : Hid (Fr no w (w1.alloc (.cells #[.int .i64 (k : Int)] 3)) ∧ (w1.alloc (.cells #[.int .i64 (k : Int)] 3)).heap[w1.heap.size]? = some (.cells #[.int .i64 (k : Int)] 3 (0, 0)) ∧ w.heap.size ≤ w1.heap.size) := ⟨F1.out.alloc _ _, heap_alloc_new w1 _, F1.out.size⟩
  revert hA
  generalize w1.alloc (.cells #[.int .i64 (k : Int)] 3) = w2
  intro hA
  clear F1
  generalize w1.heap.size = c at *
  clear w1
  have NW : Calls Try.prog 9 #[.int .i64 400] w2 fun e w' => e = .returned (.pointer (some ⟨w2.heap.size + 1, 0, none⟩)) ∧ HP w' (w2.heap.size + 1) w2.heap.size (rb 0) ∧ Fr no w2 w' := new_any w2 400
  go_wp2_with fail
  refine NW.mono ?_
  rintro e w3 ⟨rfl, h3, f3⟩
  have H3 : Hid (Rg w w3 (w2.heap.size + 1) w2.heap.size c k (rb 0)) := ⟨h3, f3.heap hA.out.2.1 (fun f => f), hA.out.1.and f3, hA.out.1.size, hA.out.2.2⟩
  clear h3 f3 NW hA
  generalize w2.heap.size + 1 = p at *
  generalize w2.heap.size = g at *
  go_wp2_with fail
  go_loopw [9] (fun i wr => ∃ t : Nat, i = .int .i64 (t : Int) ∧ t ≤ k ∧ Rg w wr p g c k (rb t)) (fun i _ => k - (intOf i).toNat)
  case atStart => exact ⟨0, rfl, Nat.zero_le _, H3.out⟩
  case round =>
    clear H3
    obtain ⟨t, rfl, htk, hrg⟩ := hrel
    have hck := hrg.cell
    by_cases hti : t < k
    · have AL := hrg.alloc (by omega)
      have hti' : (t : Int) < (k : Int) := by omega
      clear hrg
      go_wp2_with fail
      refine AL.mono ?_
      rintro e w4 ⟨rfl, h4⟩
      have H4 : Hid (Rg w w4 p g c k (rb (t + 1))) := h4
      clear h4 AL
      go_wp2_with fail
      go_roundw
      case rel => exact ⟨t + 1, by go_num, by omega, H4.out⟩
      case measure => simp [intOf]; omega
    · obtain rfl : t = k := by omega
      have HR : Hid (Rg w wr p g c t (rb t)) := hrg
      clear hrg
      cases kept with
      | true =>
        obtain ⟨r, hr2⟩ : ∃ r : Nat, r = root % t := ⟨_, rfl⟩
        have er : (root : Int).tmod (t : Int) = (r : Int) := by rw [hr2]; rfl
        have er2 : (root : Int) % (t : Int) = (r : Int) := by rw [hr2]; rfl
        have hrt : r < t := by rw [hr2]; exact Nat.mod_lt _ (by omega)
        have ht0 : ¬ ((t : Int) = 0) := by omega
        clear hr2
        have CO : Hid (Calls Try.prog 28 #[.pointer (some ⟨p, 0, none⟩), .slice (some ⟨wr.heap.size, 0, none⟩) 1 1, .func (.func 32) #[] #[.pointer (some ⟨c, 0, none⟩)]] (wr.alloc (.cells #[.int .i64 ((r : Int) * 3 + 1)] 3)) fun e w' => ∃ bs', e = .returned (.int .i64 0) ∧ Rg w w' p g c t bs' ∧ (objsA 0 bs').length = t) := by
          obtain ⟨o1, n1, f2⟩ := lit_own wr [3 * (r : Int) + 1] #[.int .i64 ((r : Int) * 3 + 1)] (by rw [Int.mul_comm]; rfl) 1 rfl (by simp)
          have hall := rReach t r hk hrt
          have C := (HR.out.keep f2).collect rfl hk hk2 _ _ o1 (by simp) t (fun M hM => by rw [seen_all M _ (fun a ha => (hM a ha).2 (hall a ha))]; simp [rO])
          refine C.mono ?_
          rintro e w' ⟨M, rfl, h', hM⟩
          refine ⟨_, by simp, h', ?_⟩
          rw [← (rb_all ⟨t, by omega⟩).1, relP_objs, (rb_all ⟨t, by omega⟩).1, seen_all M _ (fun a ha => (hM a ha).2 (hall a ha))]
          simp [rO]
        go_wp2_with fail
        refine CO.out.mono ?_
        rintro e w5 ⟨bs5, rfl, h5, hl5⟩
        have hc5 := h5.cell
        have AA : Hid (∀ w6, Fr no w5 w6 → Calls Try.prog 27 #[.pointer (some ⟨p, 0, none⟩)] w6 fun e w' => ∃ o cp, e = .returned (.slice o t cp) ∧ w'.cell? ⟨c, 0, none⟩ = some (.int .i64 (t : Int)) ∧ Fr no w w') := fun w6 f6 => by
          refine (all_any w6 p g bs5 (h5.keep f6).hp).mono ?_
          rintro e w' ⟨v, rfl, o', -, f'⟩
          obtain ⟨oo, cc, e⟩ := o'.form
          rw [hl5] at e
          exact ⟨oo, cc, by rw [e], ((h5.keep f6).keep f').cell, ((h5.keep f6).keep f').fr⟩
        clear h5 CO HR hck hl5
        go_wp2_with fail
        refine Code.wp_mono (Q := Exit.then _ (fun _ _ _ => False)) (fun e a w h => by cases e <;> first | exact h | exact False.elim h) ?_
        go_region_with ((go_at_call 27; refine (AA.out _ (by first | exact (Fr.refl no w5).drew | exact Fr.refl no w5)).mono ?_; rintro e w6 ⟨o6, c6, rfl, hc6, f6⟩; have F6 : Hid (Fr no w w6) := f6; clear f6))
        all_goals
          go_wp2_with fail
          go_ret
          exact ⟨rfl, by first | exact F6.out | exact F6.out.drew⟩
      | false =>
        have CO : Hid (Calls Try.prog 28 #[.pointer (some ⟨p, 0, none⟩), .slice none 0 0, .func (.func 32) #[] #[.pointer (some ⟨c, 0, none⟩)]] wr fun e w' => ∃ bs', e = .returned (.int .i64 (t : Int)) ∧ Rg w w' p g c t bs' ∧ objsA 0 bs' = [] ∧ fitsP bs' 398 = true ∧ fitsP bs' 399 = false) := by
          have hnone : ∀ M : List Nat, (∀ a ∈ rO t, M[a.toNat]? = some 2 ↔ Reach (rE t) (rO t) [] a) → ∀ a ∈ rO t, M[a.toNat]? ≠ some 2 := fun M hM a ha e => no_reach _ _ _ ((hM a ha).1 e)
          have C := HR.out.collect rfl hk hk2 _ _ (OwnG.nil _ _) (by simp) 0 (fun M hM => by rw [seen_none M _ (hnone M hM)]; rfl)
          refine C.mono ?_
          rintro e w' ⟨M, rfl, h', hM⟩
          exact ⟨_, by simp, h', ring_after t hk hk2 M (hnone M hM)⟩
        go_wp2_with fail
        refine CO.out.mono ?_
        rintro e w5 ⟨bs5, rfl, h5, z1, z2, z3⟩
        have hc5 := h5.cell
        have AA := all_any w5 p g bs5 h5.hp
        rw [z1] at AA
        have H5 : Hid (Rg w w5 p g c t bs5 ∧ fitsP bs5 398 = true ∧ fitsP bs5 399 = false) := ⟨h5, z2, z3⟩
        clear h5 CO HR hck z1 z2 z3
        go_wp2_with fail
        refine AA.mono ?_
        rintro e w6 ⟨v, rfl, o6, -, f6⟩
        obtain ⟨ov, cv, hv⟩ := o6.form
        simp only [List.length_nil] at hv
        subst hv
        have FT := fits_any w6 p g bs5 (H5.out.1.keep f6).hp 398
        rw [H5.out.2.1] at FT
        have H6 : Hid (Rg w w6 p g c t bs5) := H5.out.1.keep f6
        clear o6 f6 AA
        go_wp2_with fail
        refine FT.mono ?_
        rintro e w7 ⟨rfl, f7⟩
        have FU := fits_any w7 p g bs5 (H6.out.keep f7).hp 399
        rw [H5.out.2.2] at FU
        have H7 : Hid (Rg w w7 p g c t bs5) := H6.out.keep f7
        clear f7 FT
        go_wp2_with fail
        refine FU.mono ?_
        rintro e w8 ⟨rfl, f8⟩
        have H8 : Hid (Fr no w w8) := (H7.out.keep f8).fr
        clear f8 FU
        go_wp2_with fail
        go_ret
        exact ⟨rfl, H8.out⟩
end Go.Proofs.Ytopcbcdigllenaa
