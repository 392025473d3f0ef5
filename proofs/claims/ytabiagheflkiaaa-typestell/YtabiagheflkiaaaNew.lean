/- New classes: the program's answer. -/
import Derived.Test.YtabiagheflkiaaaSup
namespace Go.Proofs.Ytabiagheflkiaaa
open Go.ChangeShapes Go.WideShapes Go.ChangeAt Go.RowKit

/-- A store into a map that a literal makes. -/
theorem wpList_ins (w : World) {ops : Array Oper} {rest : List Oper} {o : Oper} {a : Act} {Q : Exit → Act → World → Prop}
    (hg : o.guard = none) (m x v : Operand) (hop : o.op = Op.insert 55 m x v) (b n : Nat) (D : DataW Unit) (hm : a.eval m = .map (some b)) (hown : Owns w b n D) (hn : n ≤ 1000)
    (s : ByteArray) (hx : a.eval x = .string s) (hs : s.size ≤ 1099511627776) (z : Nat) (hv : a.eval v = .int .i64 (z : Int)) (hz : z ≤ 1000)
    (hK : ∀ w', Owns w' b (n + 1) (D.put (ky s) (.lit (.int .i64 (z : Int)))) → Fr (fun k => k = b) w w' → wpList Try.prog ops Q rest (a.put o.dst undef) w') :
    wpList Try.prog ops Q (o :: rest) a w := by
  refine wpList_plain hg fun K' hK' => ?_
  obtain ⟨w', hrun, r1, r2⟩ := hown.store keyed Try.underlying55 (by unfold maxLen; omega) (ky_key hs) (plainElem_int (a := (z : Int)) Try.underlying3 (WalkArith.wf_i64 (by omega)))
  unfold Oper.wp
  simp [execOp, hop, hm, hx, hv, hrun, Result.andThen]
  exact hK' _ _ (hK w' r1 (turned_fr r2))

theorem Fr.allocMap {S : Nat → Prop} {a w : World} (h : Fr S a w) : Fr S a (w.alloc (.map #[] 0)) := by
  refine ⟨h.os, h.output, Nat.le_trans h.size (by show w.heap.size ≤ (w.heap.push _).size; simp), fun k hk hs => (Below.heap_alloc w _ k (Nat.lt_of_lt_of_le hk h.size)).trans (h.block k hk hs), fun x hx => ?_⟩
  rw [← h.frozen x hx]
  have := Below.heap_alloc w (.map #[] 0) x.block (Nat.lt_of_lt_of_le hx h.size)
  unfold World.frozen?
  rw [this]

/-- What New tells: the fault, or the classes. -/
def newH (names supers : List ByteArray) : Int × List ByteArray × List Nat :=
  if names.length ≠ supers.length then (50, [], []) else if 16 < names.length then (32, [], [])
  else if (addN [obj, fault] names).1 ≠ 0 then ((addN [obj, fault] names).1, [], [])
  else if (addS (addN [obj, fault] names).2 [0, 0] supers).1 ≠ 0 then ((addS (addN [obj, fault] names).2 [0, 0] supers).1, [], [])
  else if ring (addN [obj, fault] names).2.length (addS (addN [obj, fault] names).2 [0, 0] supers).2 = true then (71, [], [])
  else (0, (addN [obj, fault] names).2, (addS (addN [obj, fault] names).2 [0, 0] supers).2)

theorem addN_len : ∀ (l N : List ByteArray), (addN N l).1 = 0 → (addN N l).2.length = N.length + l.length
  | [], N, _ => by simp [addN]
  | x :: l, N, h => by
    unfold addN at h ⊢
    split at h
    · simp at h
    · rename_i h1
      rw [if_neg h1]
      split at h
      · simp at h
      · rename_i h2
        rw [if_neg h2, addN_len l _ h]
        simp
        omega

theorem addN_le : ∀ (l N : List ByteArray), (addN N l).2.length ≤ N.length + l.length
  | [], N => by simp [addN]
  | x :: l, N => by
    unfold addN
    split
    · simp
    · split
      · simp
      · have := addN_le l (N ++ [x])
        simp at this ⊢
        omega

theorem addS_len {N : List ByteArray} : ∀ (l : List ByteArray) (A : List Nat), (addS N A l).1 = 0 → (addS N A l).2.length = A.length + l.length
  | [], A, _ => by simp [addS]
  | x :: l, A, h => by
    unfold addS at h ⊢
    cases hi : ix (supOf x) N with
    | none => rw [hi] at h; simp at h
    | some i =>
      rw [hi] at h
      simp only [] at h ⊢
      rw [addS_len l _ h]
      simp
      omega

theorem addS_lt {N : List ByteArray} : ∀ (l : List ByteArray) (A : List Nat), (∀ a ∈ A, a < N.length) → ∀ a ∈ (addS N A l).2, a < N.length
  | [], A, hA, a, ha => hA a (by simpa [addS] using ha)
  | x :: l, A, hA, a, ha => by
    unfold addS at ha
    cases hi : ix (supOf x) N with
    | none => rw [hi] at ha; exact hA a ha
    | some i =>
      rw [hi] at ha
      refine addS_lt l (A ++ [i]) (fun b hb => ?_) a ha
      rw [List.mem_append] at hb
      rcases hb with hb | hb
      · exact hA b hb
      · simp only [List.mem_singleton] at hb
        rw [hb]; exact ix_lt hi

theorem fine_of {names supers : List ByteArray} (hl : names.length = supers.length) (h1 : (addN [obj, fault] names).1 = 0) (h2 : (addS (addN [obj, fault] names).2 [0, 0] supers).1 = 0) :
    Fine (addN [obj, fault] names).2.length (addS (addN [obj, fault] names).2 [0, 0] supers).2 := by
  have e1 := addN_len names [obj, fault] h1
  have e2 := addS_len supers [0, 0] h2
  refine ⟨by rw [e1, e2, hl]; rfl, fun i => ?_⟩
  rw [List.getD_eq_getElem?_getD]
  cases hi : (addS (addN [obj, fault] names).2 [0, 0] supers).2[i]? with
  | none => simp; rw [e1]; simp; omega
  | some a => exact addS_lt supers [0, 0] (fun a ha => by simp at ha; rw [ha, e1]; simp; omega) a (List.mem_of_getElem? hi)

/-- The answer in memory: no classes with a fault; else they are there. -/
def NewAt (w w' : World) (r : Int × List ByteArray × List Nat) (q : Option Addr) : Prop :=
  (r.1 ≠ 0 → q = none) ∧ (r.1 = 0 → ∃ p, q = some ⟨p, 0, none⟩ ∧ HB w.heap.size w' p r.2.1 r.2.2 ∧ Fine r.2.1.length r.2.2 ∧ r.2.1.length ≤ 18)

theorem hb_begin (w w4 : World) (hw : Fr (fun k => k = w.heap.size + 1) ((w.alloc (.cells #[.string obj, .string fault] 9)).alloc (.map #[] 0)) w4) (D : DataW Unit) (ho : Owns w4 (w.heap.size + 1) 2 D) (hD : MapOf D [obj, fault]) :
    HB w.heap.size ((w4.alloc (.cells #[.int .i64 0, .int .i64 0] 3)).alloc (.cells #[.slice (some ⟨w.heap.size, 0, none⟩) 2 2, .map (some (w.heap.size + 1)), .slice (some ⟨w4.heap.size, 0, none⟩) 2 2] 58)) (w4.heap.size + 1) [obj, fault] [0, 0] ∧
      Fr no w ((w4.alloc (.cells #[.int .i64 0, .int .i64 0] 3)).alloc (.cells #[.slice (some ⟨w.heap.size, 0, none⟩) 2 2, .map (some (w.heap.size + 1)), .slice (some ⟨w4.heap.size, 0, none⟩) 2 2] 58)) := by
  have f0 : Fr no w ((w.alloc (.cells #[.string obj, .string fault] 9)).alloc (.map #[] 0)) := ((Fr.refl no w).alloc _ _).allocMap
  have f4 : Fr no w w4 := f0.new hw (fun i hi e => by omega)
  have hs4 : w.heap.size + 2 ≤ w4.heap.size := by have := hw.size; simp at this; omega
  have o1 : OwnG elS (w.alloc (.cells #[.string obj, .string fault] 9)) (.slice (some ⟨w.heap.size, 0, none⟩) 2 2) [obj, fault] := own_lit (K := elS) w [obj, fault] _ rfl (by unfold maxLen; simp)
  have o4 : OwnG elS w4 (.slice (some ⟨w.heap.size, 0, none⟩) 2 2) [obj, fault] := (o1.keep (Fr.allocMap (Fr.refl no _))).kept hw (fun k hk e => by simp [Value.ownBlock] at hk; omega)
  have g1 : Fr no w4 (w4.alloc (.cells #[.int .i64 0, .int .i64 0] 3)) := (Fr.refl no w4).alloc _ _
  have a5 : OwnG elI (w4.alloc (.cells #[.int .i64 0, .int .i64 0] 3)) (.slice (some ⟨w4.heap.size, 0, none⟩) 2 2) [0, 0] := own_lit (K := elI) w4 [0, 0] _ rfl (by unfold maxLen; simp)
  have g2 : ∀ c t, Fr no (w4.alloc (.cells #[.int .i64 0, .int .i64 0] 3)) ((w4.alloc (.cells #[.int .i64 0, .int .i64 0] 3)).alloc (.cells c t)) := fun c t => (Fr.refl no _).alloc _ _
  have e5 : (w4.alloc (.cells #[.int .i64 0, .int .i64 0] 3)).heap.size = w4.heap.size + 1 := by simp
  refine ⟨⟨_, _, _, D, ?_, o4.keep (g1.and (g2 _ _)), a5.keep (g2 _ _), owns_keep ho (g1.and (g2 _ _)) (fun f => f), hD, by omega, by omega, ?_, ?_⟩, f4.and (g1.and (g2 _ _))⟩
  · rw [← e5]; exact heap_alloc_new _ _
  · intro k hk; simp [Value.ownBlock] at hk; omega
  · intro k hk; simp [Value.ownBlock] at hk; omega

set_option maxRecDepth 100000 in
set_option maxHeartbeats 2000000 in
theorem new_any (w : World) (v1 v2 : Value) (names supers : List ByteArray) (h1 : SlG elS w v1 names) (h2 : SlG elS w v2 supers) (s1 : ∀ x ∈ names, x.size ≤ 1099511627776) (s2 : ∀ x ∈ supers, x.size ≤ 1099511627776) (b1 : names.length ≤ 1000000) (b2 : supers.length ≤ 1000000) :
    Calls Try.prog 11 #[v1, v2] w fun e w' => ∃ q, e = .returned (.tuple #[.pointer q, .int .i64 (newH names supers).1]) ∧ NewAt w w' (newH names supers) q ∧ Fr no w w' := by
  have H1 : Hid (SlG elS w v1 names) := h1
  have H2 : Hid (SlG elS w v2 supers) := h2
  obtain ⟨o1, c1, rfl, -⟩ := h1
  obtain ⟨o2, c2, rfl, -⟩ := h2
  by_cases hl : names.length = supers.length
  case neg =>
    have HN : Hid (newH names supers = (50, [], [])) := by show _ = _; unfold newH; rw [if_pos hl]
    have hq : ((names.length : Int) == (supers.length : Int)) = false := by simp; omega
    clear H1 H2 s1 s2
    go_enter Try.func11, Try.ntmps11
    go_wp2_with fail
    go_ret2
    rw [HN.out]
    exact ⟨_, rfl, ⟨fun _ => rfl, fun h => by simp at h⟩, Fr.refl _ _⟩
  by_cases hb : 16 < names.length
  · have HN : Hid (newH names supers = (32, [], [])) := by show _ = _; unfold newH; rw [if_neg (by omega), if_pos hb]
    rw [← hl]
    generalize names.length = n at *
    clear H1 H2 s1 s2
    go_enter Try.func11, Try.ntmps11
    go_wp2_with fail
    go_ret2
    rw [HN.out]
    exact ⟨_, rfl, ⟨fun _ => rfl, fun h => by simp at h⟩, Fr.refl _ _⟩
  have E : newH names supers = (if (addN [obj, fault] names).1 ≠ 0 then ((addN [obj, fault] names).1, [], [])
      else if (addS (addN [obj, fault] names).2 [0, 0] supers).1 ≠ 0 then ((addS (addN [obj, fault] names).2 [0, 0] supers).1, [], [])
      else if ring (addN [obj, fault] names).2.length (addS (addN [obj, fault] names).2 [0, 0] supers).2 = true then (71, [], [])
      else (0, (addN [obj, fault] names).2, (addS (addN [obj, fault] names).2 [0, 0] supers).2)) := by
    unfold newH; rw [if_neg (by omega), if_neg hb]
  have hl2 : Hid (names.length = supers.length) := hl
  have hb2 : Hid (names.length ≤ 16) := by show _ ≤ _; omega
  have S1 : Hid (∀ x ∈ names, x.size ≤ 1099511627776) := s1
  have S2 : Hid (∀ x ∈ supers, x.size ≤ 1099511627776) := s2
  have AN : Hid (∀ w5 p, HB w.heap.size w5 p [obj, fault] [0, 0] → Fr no w w5 → Calls Try.prog 30 #[.pointer (some ⟨p, 0, none⟩), .slice o1 names.length c1] w5 fun e w' => e = .returned (.int .i64 (addN [obj, fault] names).1) ∧ HB w.heap.size w' p (addN [obj, fault] names).2 [0, 0] ∧ Fr no w w') :=
    fun w5 p h f => addNames_any w w5 f p [obj, fault] [0, 0] h _ names H1.out S1.out (by have := hb2.out; simp; omega)
  have AS : Hid (∀ w5 p, HB w.heap.size w5 p (addN [obj, fault] names).2 [0, 0] → Fr no w w5 → Calls Try.prog 31 #[.pointer (some ⟨p, 0, none⟩), .slice o2 supers.length c2] w5 fun e w' => e = .returned (.int .i64 (addS (addN [obj, fault] names).2 [0, 0] supers).1) ∧ HB w.heap.size w' p (addN [obj, fault] names).2 (addS (addN [obj, fault] names).2 [0, 0] supers).2 ∧ Fr no w w') :=
    fun w5 p h f => addSupers_any w w5 f p _ [0, 0] h _ supers H2.out S2.out (by have := hb2.out; have := hl2.out; simp; omega)
  have NL : Hid ((addN [obj, fault] names).2.length ≤ 18) := by show _ ≤ _; have h1 := addN_le names [obj, fault]; have h2 := hb2.out; simp only [List.length_cons, List.length_nil] at h1; omega
  have FN : Hid ((addN [obj, fault] names).1 = 0 → (addS (addN [obj, fault] names).2 [0, 0] supers).1 = 0 → Fine (addN [obj, fault] names).2.length (addS (addN [obj, fault] names).2 [0, 0] supers).2) := fun a b => fine_of hl2.out a b
  have HE : Hid (newH names supers = (if (addN [obj, fault] names).1 ≠ 0 then ((addN [obj, fault] names).1, [], [])
      else if (addS (addN [obj, fault] names).2 [0, 0] supers).1 ≠ 0 then ((addS (addN [obj, fault] names).2 [0, 0] supers).1, [], [])
      else if ring (addN [obj, fault] names).2.length (addS (addN [obj, fault] names).2 [0, 0] supers).2 = true then (71, [], [])
      else (0, (addN [obj, fault] names).2, (addS (addN [obj, fault] names).2 [0, 0] supers).2))) := E
  clear E s1 s2 H1 H2 S1 S2 hl2 hb2
  rw [hl] at AN hb b1 ⊢
  clear hl
  generalize supers.length = n at *
  generalize (addS (addN [obj, fault] names).2 [0, 0] supers).1 = rs at *
  generalize (addS (addN [obj, fault] names).2 [0, 0] supers).2 = A at *
  generalize (addN [obj, fault] names).1 = rn at *
  generalize (addN [obj, fault] names).2 = N at *
  generalize newH names supers = R at *
  have MO : Hid (MapOf (((DataW.map []).put (ky obj) (.lit (.int .i64 ((0 : Nat) : Int)))).put (ky fault) (.lit (.int .i64 ((1 : Nat) : Int)))) [obj, fault]) := by
    have m1 := mapOf_put mapOf_nil (s := obj) rfl
    exact mapOf_put m1 (s := fault) (by decide)
  have OW : Hid (Owns ((w.alloc (.cells #[.string obj, .string fault] 9)).alloc (.map #[] 0)) (w.heap.size + 1) 0 (.map [])) := by
    have := World.ownsMap_made (H := Unit) (w.alloc (.cells #[.string obj, .string fault] 9)) Try.prog 9 (plainElem Try.prog 3)
    show Owns _ _ _ _
    simpa using this
  have hmm := @run_makeMap Try.prog
  have b16 : n ≤ 16 := by omega
  go_enter Try.func11, Try.ntmps11
  go_wp2_with (first | (refine wpList_ins _ rfl _ _ _ rfl (w.heap.size + 1) 0 _ rfl OW.out (by omega) obj rfl (by decide) 0 rfl (by omega) ?_; intro w3 O3 F3) | (refine wpList_ins _ rfl _ _ _ rfl (w.heap.size + 1) 1 _ rfl O3 (by omega) fault rfl (by decide) 1 rfl (by omega) ?_; intro w4 O4 F4))
  have hbg := hb_begin w w4 (F3.trans F4 (fun _ _ e => e) (fun _ _ e => e)) _ O4 MO.out
  simp only [obj, fault] at hbg
  obtain ⟨hb5, f5⟩ := hbg
  have C1 := AN.out _ _ hb5 f5
  clear O3 F3 O4 F4 hb5 f5 OW MO hmm
  refine C1.mono ?_
  rintro e w5 ⟨rfl, hb5, f5⟩
  have HB5 : Hid (HB w.heap.size w5 (w4.heap.size + 1) N [0, 0]) := hb5
  have F5 : Hid (Fr no w w5) := f5
  have C2 := AS.out _ _ hb5 f5
  clear hb5 f5 C1
  by_cases hrn : rn = 0
  case neg =>
    have hq : (rn == 0) = false := by simpa using hrn
    have HR : Hid (R = (rn, [], [])) := by show _ = _; rw [HE.out, if_pos hrn]
    go_wp2_with fail
    go_ret2
    rw [HR.out]
    exact ⟨_, rfl, ⟨fun _ => rfl, fun h => absurd h hrn⟩, F5.out⟩
  subst hrn
  go_wp2_with fail
  refine C2.mono ?_
  rintro e w6 ⟨rfl, hb6, f6⟩
  have HB6 : Hid (HB w.heap.size w6 (w4.heap.size + 1) N A) := hb6
  have F6 : Hid (Fr no w w6) := f6
  clear hb6 f6 C2 HB5 F5
  by_cases hrs : rs = 0
  case neg =>
    have hq : (rs == 0) = false := by simpa using hrs
    have HR : Hid (R = (rs, [], [])) := by show _ = _; rw [HE.out, if_neg (by simp), if_pos hrs]
    go_wp2_with fail
    go_ret2
    rw [HR.out]
    exact ⟨_, rfl, ⟨fun _ => rfl, fun h => absurd h hrs⟩, F6.out⟩
  subst hrs
  have C3 := hasRing_any w6 (w4.heap.size + 1) N A HB6.out (FN.out (by simp) (by simp)) (by have := NL.out; omega)
  have HR : Hid (R = if ring N.length A = true then (71, [], []) else (0, N, A)) := by show _ = _; rw [HE.out, if_neg (by simp), if_neg (by simp)]
  cases hr : ring N.length A with
  | true =>
    rw [hr] at C3 HR
    go_wp2_with fail
    refine C3.mono ?_
    rintro e w7 ⟨rfl, f7⟩
    have F7 : Hid (Fr no w w7) := F6.out.and f7
    clear f7
    go_wp2_with fail
    go_ret2
    rw [HR.out]
    exact ⟨_, rfl, ⟨fun _ => rfl, fun h => by simp at h⟩, F7.out⟩
  | false =>
    rw [hr] at C3 HR
    go_wp2_with fail
    refine C3.mono ?_
    rintro e w7 ⟨rfl, f7⟩
    have F7 : Hid (Fr no w w7) := F6.out.and f7
    have HB7 : Hid (HB w.heap.size w7 (w4.heap.size + 1) N A) := HB6.out.keep f7
    clear f7
    go_wp2_with fail
    go_ret2
    rw [HR.out]
    exact ⟨_, rfl, ⟨fun h => by simp at h, fun _ => ⟨_, rfl, HB7.out, FN.out (by simp) (by simp), NL.out⟩⟩, F7.out⟩
end Go.Proofs.Ytabiagheflkiaaa
