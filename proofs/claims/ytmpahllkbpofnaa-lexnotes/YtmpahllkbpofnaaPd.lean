/- Names and signs, of the program's lexer. -/
import Derived.Test.YtmpahllkbpofnaaPc
import Derived.Test.YtmpahllkbpofnaaSh
import Derived.Lib.Bytealg
namespace Go.Proofs.Ytmpahllkbpofnaa
open Go.ChangeShapes Go.WideShapes Go.ChangeAt Go.RowKit

theorem res2 {f : Func} {W : World} {r : Nat} {x0 x1 x2 x3 x4 : Value} (h : W.heap[r]? = some (.cells #[x0, x1, x2, x3, x4] 35 (0, 0))) (tmps : Array Value) (y : Value) (hf : f.results = #[.cell 2 35, .tmp 3]) (h2 : tmps.getD 2 undef = .pointer (some ⟨r, 0, none⟩)) (h3 : tmps.getD 3 undef = y) :
    (results f tmps).run Try.prog W = .ok (.tuple #[.agg #[x0, x1, x2, x3, x4], y]) W := by
  have h2' : tmps[2]?.getD undef = .pointer (some ⟨r, 0, none⟩) := by simpa using h2
  have h3' : tmps[3]?.getD undef = y := by simpa using h3
  simp [results, hf, asAddr, h2', h3', load43 h]
section
variable {f : Func} {R : Ending → World → Prop} {W : World} {r : Nat} {x0 x1 x2 x3 x4 y0 y1 y2 y3 y4 y : Value} {tmps : Array Value}
theorem ret2 (h : W.heap[r]? = some (.cells #[y0, y1, y2, y3, y4] 35 (0, 0))) (hR : ∀ w', Fr (Bk r) W w' → R (.returned (.tuple #[.agg #[x0, x1, x2, x3, x4], y])) w') (hf : f.results = #[.cell 2 35, .tmp 3] := by kernel_rfl) (h2 : tmps.getD 2 undef = .pointer (some ⟨r, 0, none⟩) := by kernel_rfl) (h3 : tmps.getD 3 undef = y := by kernel_rfl) :
    bodyPost Try.prog f R .ret { tmps := tmps, defers := [] } (sets5 W r x0 x1 x2 x3 x4) := bodyPost_ret (res2 (sets5_heap h) tmps y hf h2 h3) rfl (hR _ sets5_fr)
end

/-- A name at a text's head: its error, its token. -/
def nmErr (h : ByteArray) : Nat := if 20 < h.size then 32 else 0
def nmTok (h : ByteArray) : Tk := ⟨if isWord h then 2 else 1, 0, h, 0, 0, 0⟩

set_option maxRecDepth 100000 in
theorem pNm (w : World) (t : ByteArray) (ht : t.size ≤ 100000) :
    Calls Try.prog 22 #[.string t] w fun e w' => ∃ x, e = .returned (.tuple #[tkV x, .int .i64 (nmErr (headT Y.letN t) : Nat)]) ∧ Hid (nmErr (headT Y.letN t) = 0 → x = nmTok (headT Y.letN t)) ∧ Fr no w w' := by
  have scx := store_cx
  have HH := fun w => head37 w t ht
  generalize headT Y.letN t = h at *
  generalize hE : nmErr h = E
  have HE : Hid (nmErr h = E) := hE
  clear hE
  go_enter Try.func22, Try.ntmps22
  go_wp2_with fail
  refine new_calls fun W hR F0 => ?_
  generalize hrr : w.heap.size = r at hR ⊢
  have HE0 : Hid (_ ∧ _ ∧ _) := ⟨hR, F0, Nat.le_of_eq hrr⟩
  obtain ⟨z0, z1, z2, z3, z4⟩ := box5 hR
  have fz := fun o => frozen_at (o := o) hR
  clear hR F0 hrr
  refine (HH W).mono ?_
  rintro _ _ ⟨rfl, rfl⟩
  by_cases h20 : 20 < h.size
  · have h20' : (20 : Int) < (h.size : Int) := by omega
    obtain rfl : E = 32 := HE.out.symm.trans (if_pos h20)
    go_wp2_with fail
    refine ret2 (y := .int .i64 32) HE0.out.1 fun w' G => ⟨⟨0, 0, ⟨#[]⟩, 0, 0, 0⟩, rfl, fun h => by omega, HE0.out.2.1.newBk G HE0.out.2.2⟩
  · have h20' : ¬ (20 : Int) < (h.size : Int) := by omega
    obtain rfl : E = 0 := HE.out.symm.trans (if_neg h20)
    have HW := fun w => pWord w h
    have HT : Hid (nmTok h = ⟨if isWord h then 2 else 1, 0, h, 0, 0, 0⟩) := rfl
    cases hw : isWord h
    · rw [hw] at HW HT
      go_wp2_with fail
      refine (HW _).mono ?_
      rintro _ _ ⟨rfl, rfl⟩
      go_wp2_with fail
      refine ret2 (y := .int .i64 0) HE0.out.1 fun w' G => ⟨⟨1, 0, h, 0, 0, 0⟩, rfl, HT.out.symm, HE0.out.2.1.newBk G HE0.out.2.2⟩
    · rw [hw] at HW HT
      go_wp2_with fail
      refine (HW _).mono ?_
      rintro _ _ ⟨rfl, rfl⟩
      go_wp2_with fail
      refine ret2 (y := .int .i64 0) HE0.out.1 fun w' G => ⟨⟨2, 0, h, 0, 0, 0⟩, rfl, HT.out.symm, HE0.out.2.1.newBk G HE0.out.2.2⟩

theorem index_ge (c : UInt8) : ∀ l : List UInt8, (0 : Int) ≤ Lib.indexByte l c ↔ c ∈ l
  | [] => by simp [Lib.indexByte]
  | b :: l => by
    have ih := index_ge c l
    unfold Lib.indexByte
    by_cases hb : (b == c) = true
    · rw [if_pos hb]
      have := eq_of_beq hb
      subst this
      simp
    · rw [if_neg hb]
      have hne : ¬ c = b := fun e => hb (by simp [e])
      rw [List.mem_cons, ← ih]
      by_cases h1 : (Lib.indexByte l c == -1) = true
      · rw [if_pos h1]
        have := eq_of_beq h1
        rw [this]
        simp [hne]
      · rw [if_neg h1]
        have h2 : ¬ Lib.indexByte l c = -1 := fun e => h1 (by rw [e]; rfl)
        have h3 : -1 ≤ Lib.indexByte l c := by
          clear ih h1 h2 hb
          induction l with
          | nil => simp [Lib.indexByte]
          | cons d l ih2 =>
            unfold Lib.indexByte
            split
            · omega
            · split
              · omega
              · omega
        constructor
        · intro h
          right
          omega
        · rintro (h | h)
          · exact absurd h hne
          · omega

theorem sign_index {c : Nat} (hc : c < 256) : (0 : Int) ≤ Lib.indexByte [123, 125, 40, 41, 91, 93, 59, 44, 46, 61, 60, 43, 45, 42, 47, 37, 126] c.toUInt8 ↔ signL.contains c = true := by
  rw [index_ge, List.contains_iff_mem]
  have e : (c.toUInt8).toNat = c := by simp [hc]
  have : signL = ([123, 125, 40, 41, 91, 93, 59, 44, 46, 61, 60, 43, 45, 42, 47, 37, 126] : List UInt8).map UInt8.toNat := rfl
  rw [this]
  constructor
  · intro h
    exact List.mem_map.2 ⟨_, h, e⟩
  · intro h
    obtain ⟨d, hd, e2⟩ := List.mem_map.1 h
    have : d = c.toUInt8 := UInt8.toNat_inj.1 (by rw [e2, e])
    rw [← this]
    exact hd

theorem prefix_two (t : ByteArray) (a b : UInt8) : Lib.hasPrefix t.data.toList [a, b] = decide ((nl t).take 2 = [a.toNat, b.toNat]) := by
  unfold Lib.hasPrefix nl
  rw [← List.map_take]
  cases t.data.toList with
  | nil => simp
  | cons x l =>
    cases l with
    | nil => simp [List.isPrefixOf]
    | cons y l =>
      simp only [List.isPrefixOf, List.take_succ_cons, List.take_zero, List.map_cons, List.map_nil, List.cons.injEq, and_true, Bool.and_true]
      rw [Bool.eq_iff_iff, decide_eq_true_eq, Bool.and_eq_true, beq_iff_eq, beq_iff_eq, ← UInt8.toNat_inj, ← UInt8.toNat_inj]
      constructor
      · rintro ⟨h1, h2⟩
        exact ⟨h1.symm, h2.symm⟩
      · rintro ⟨h1, h2⟩
        exact ⟨h1.symm, h2.symm⟩

/-- A sign at a text's head: its error. -/
def sgErr (t : ByteArray) : Nat := if (signT t).size = 0 then 180 else 0
def sgTok (t : ByteArray) : Tk := ⟨5, 0, signT t, 0, 0, 0⟩

theorem sign_two {t : ByteArray} (h : (nl t).take 2 = [61, 61] ∨ (nl t).take 2 = [33, 61]) : signT t = t.extract 0 2 ∧ 2 ≤ t.size := by
  have h1 : twoB t = true := by
    rw [Y.twoB_eq]
    unfold Y.two
    rcases h with h | h <;> simp [h]
  refine ⟨by unfold signT; rw [if_pos h1], ?_⟩
  have : ((nl t).take 2).length = 2 := by rcases h with h | h <;> rw [h] <;> rfl
  rw [List.length_take, nl_length] at this
  omega
theorem sign_one {t : ByteArray} (h1 : ¬ (nl t).take 2 = [61, 61]) (h2 : ¬ (nl t).take 2 = [33, 61]) : signT t = if signL.contains ((nl t).getD 0 0) then t.extract 0 1 else ⟨#[]⟩ := by
  have h : twoB t = false := by
    rw [Y.twoB_eq]
    unfold Y.two
    simp [h1, h2]
  unfold signT
  rw [h]
  rfl

set_option maxRecDepth 100000 in
theorem pSign (w : World) (t : ByteArray) (h0 : 0 < t.size) :
    Calls Try.prog 25 #[.string t] w fun e w' => ∃ x, e = .returned (.tuple #[tkV x, .int .i64 (sgErr t : Nat)]) ∧ Hid (sgErr t = 0 → x = sgTok t) ∧ Fr no w w' := by
  have scx := store_cx
  have P1 := fun w => Try.strings_HasPrefix t ⟨#[61, 61]⟩ w
  have P2 := fun w => Try.strings_HasPrefix t ⟨#[33, 61]⟩ w
  have I := fun w => Try.strings_IndexByte ⟨#[123, 125, 40, 41, 91, 93, 59, 44, 46, 61, 60, 43, 45, 42, 47, 37, 126]⟩ (t[0].toNat : Int) w
  have hI := sign_index (c := t[0].toNat) t[0].toNat_lt
  have hat : (nl t).getD 0 0 = t[0].toNat := by rw [List.getD_eq_getElem?_getD, nl_get t 0 h0, Option.getD_some]
  have h0' : (0 : Int) < (t.size : Int) := by omega
  have es1 : (t.extract 0 2).size = 0 ↔ t.size = 0 := by simp
  have es2 : (t.extract 0 1).size = 0 ↔ t.size = 0 := by simp
  rw [show ({ data := #[61, 61] } : ByteArray).data.toList = [61, 61] from rfl, prefix_two t 61 61] at P1
  rw [show ({ data := #[33, 61] } : ByteArray).data.toList = [33, 61] from rfl, prefix_two t 33 61] at P2
  rw [show ({ data := #[123, 125, 40, 41, 91, 93, 59, 44, 46, 61, 60, 43, 45, 42, 47, 37, 126] } : ByteArray).data.toList = [123, 125, 40, 41, 91, 93, 59, 44, 46, 61, 60, 43, 45, 42, 47, 37, 126] from rfl, Int.toNat_natCast] at I
  generalize Lib.indexByte _ (t[0].toNat.toUInt8) = ix at *
  generalize hE : sgErr t = E
  have HE : Hid (sgErr t = E) := hE
  clear hE
  go_enter Try.func25, Try.ntmps25
  go_wp2_with fail
  refine new_calls fun W hR F0 => ?_
  generalize hrr : w.heap.size = r at hR ⊢
  have HE0 : Hid (_ ∧ _ ∧ _) := ⟨hR, F0, Nat.le_of_eq hrr⟩
  obtain ⟨z0, z1, z2, z3, z4⟩ := box5 hR
  have fz := fun o => frozen_at (o := o) hR
  clear hR F0 hrr
  refine (P1 W).mono ?_
  rintro _ _ ⟨rfl, rfl⟩
  by_cases h1 : (nl t).take 2 = [61, 61]
  · rw [decide_eq_true (show (nl t).take 2 = [(61 : UInt8).toNat, (61 : UInt8).toNat] from h1)]
    obtain ⟨hs, hz⟩ := sign_two (.inl h1)
    obtain rfl : E = 0 := HE.out.symm.trans (by unfold sgErr; rw [hs, if_neg]; intro h; have := es1.1 h; omega)
    have HT : Hid (sgTok t = ⟨5, 0, t.extract 0 2, 0, 0, 0⟩) := by rw [← hs]; exact rfl
    have hz2 : (2 : Int) ≤ (t.size : Int) := by omega
    clear hs hz h1
    go_wp2_with fail
    refine ret2 (y := .int .i64 0) HE0.out.1 fun w' G => ⟨⟨5, 0, t.extract 0 2, 0, 0, 0⟩, rfl, HT.out.symm, HE0.out.2.1.newBk G HE0.out.2.2⟩
  · rw [decide_eq_false (show ¬ (nl t).take 2 = [(61 : UInt8).toNat, (61 : UInt8).toNat] from h1)]
    by_cases h2 : (nl t).take 2 = [33, 61]
    · rw [decide_eq_true (show (nl t).take 2 = [(33 : UInt8).toNat, (61 : UInt8).toNat] from h2)] at P2
      obtain ⟨hs, hz⟩ := sign_two (.inr h2)
      obtain rfl : E = 0 := HE.out.symm.trans (by unfold sgErr; rw [hs, if_neg]; intro h; have := es1.1 h; omega)
      have HT : Hid (sgTok t = ⟨5, 0, t.extract 0 2, 0, 0, 0⟩) := by rw [← hs]; exact rfl
      have hz2 : (2 : Int) ≤ (t.size : Int) := by omega
      clear hs hz h1 h2
      go_wp2_with fail
      refine (P2 _).mono ?_
      rintro _ _ ⟨rfl, rfl⟩
      go_wp2_with fail
      refine ret2 (y := .int .i64 0) HE0.out.1 fun w' G => ⟨⟨5, 0, t.extract 0 2, 0, 0, 0⟩, rfl, HT.out.symm, HE0.out.2.1.newBk G HE0.out.2.2⟩
    · rw [decide_eq_false (show ¬ (nl t).take 2 = [(33 : UInt8).toNat, (61 : UInt8).toNat] from h2)] at P2
      have hs := sign_one h1 h2
      clear h1 h2
      rw [hat] at hs
      by_cases h3 : signL.contains t[0].toNat = true
      · rw [if_pos h3] at hs
        obtain rfl : E = 0 := HE.out.symm.trans (by unfold sgErr; rw [hs, if_neg]; intro h; have := es2.1 h; omega)
        have HT : Hid (sgTok t = ⟨5, 0, t.extract 0 1, 0, 0, 0⟩) := by rw [← hs]; exact rfl
        have hz1 : (1 : Int) ≤ (t.size : Int) := by omega
        have h4 := hI.2 h3
        clear hs h3 hI es1 es2
        go_wp2_with fail
        refine (P2 _).mono ?_
        rintro _ _ ⟨rfl, rfl⟩
        go_wp2_with fail
        refine (I _).mono ?_
        rintro _ _ ⟨rfl, rfl⟩
        go_wp2_with fail
        refine ret2 (y := .int .i64 0) HE0.out.1 fun w' G => ⟨⟨5, 0, t.extract 0 1, 0, 0, 0⟩, rfl, HT.out.symm, HE0.out.2.1.newBk G HE0.out.2.2⟩
      · rw [if_neg h3] at hs
        obtain rfl : E = 180 := HE.out.symm.trans (by unfold sgErr; rw [hs, if_pos]; rfl)
        have h4 : ¬ (0 : Int) ≤ ix := fun h => h3 (hI.1 h)
        clear hs h3 hI es1 es2
        go_wp2_with fail
        refine (P2 _).mono ?_
        rintro _ _ ⟨rfl, rfl⟩
        go_wp2_with fail
        refine (I _).mono ?_
        rintro _ _ ⟨rfl, rfl⟩
        go_wp2_with fail
        refine ret2 (y := .int .i64 180) HE0.out.1 fun w' G => ⟨⟨0, 0, ⟨#[]⟩, 0, 0, 0⟩, rfl, fun h => by omega, HE0.out.2.1.newBk G HE0.out.2.2⟩
end Go.Proofs.Ytmpahllkbpofnaa
