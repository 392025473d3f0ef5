/- Held. -/
import Derived.Test.YtkkpimpmhnnbjaaFw
namespace Go.Proofs.Ytkkpimpmhnnbjaa
open Go.ChangeShapes Go.WideShapes Go.ChangeAt Go.RowKit

/-- What sorting does to a row of numbers. -/
def SortC : Prop := ∀ (w : World) (v : Value) (l : List Int), OwnG elI w v l → l.length ≤ 1000000 →
  Calls Try.prog 37 #[v] w fun e w' => e = .returned (.tuple #[]) ∧ OwnG elI w' v (l.mergeSort fun x y => decide (x ≤ y)) ∧ Fr (fun k => v.ownBlock = some k) w w'

/-- The locks of a thread, rising. -/
def HeldL (S : Int → Option Lk) (t : Int) (l : List Int) : Prop :=
  l.Pairwise (· < ·) ∧ ∀ k, k ∈ l ↔ (ownP S k t).isSome = true

theorem ranges_fr {T : Nat → Prop} {w w' : World} {b r n cnt : Nat} {D : DataW Unit} {left : Lit → Bool} (h : w.ranges Try.prog 3 ptrElem b r n D left cnt) (f : Fr T w w') (hb : ¬ T b) (hr : ¬ T r) : w'.ranges Try.prog 3 ptrElem b r n D left cnt := by
  have h1 := h.owns.lt
  have h2 := h.lt
  obtain ⟨es, clock, since, seen, c0, hbb, F, hs, hD, hrr, rest⟩ := h
  exact ⟨es, clock, since, seen, c0, (f.block b h1 hb).trans hbb, F, hs, hD, (f.block r h2 hr).trans hrr, rest⟩

theorem ranges_iter {w : World} {b r n cnt : Nat} {D : DataW Unit} {left : Lit → Bool} (h : w.ranges Try.prog 3 ptrElem b r n D left cnt) : ∃ a b' c d, w.heap[r]? = some (.mapIter a b' c d) := by
  obtain ⟨es, clock, since, seen, c0, hbb, F, hs, hD, hrr, rest⟩ := h
  exact ⟨_, _, _, _, hrr⟩

/-- The step turns the iterator alone. -/
theorem step_fr {w w' : World} {b r n cnt cnt' n' b' : Nat} {D D' : DataW Unit} {left left' : Lit → Bool} (h : w.ranges Try.prog 3 ptrElem b r n D left cnt) (h' : w'.ranges Try.prog 3 ptrElem b' r n' D' left' cnt') (g : w.grownBy w' (some r)) : Fr (fun k => k = r) w w' := by
  obtain ⟨_, _, _, _, e1⟩ := ranges_iter h
  obtain ⟨_, _, _, _, e2⟩ := ranges_iter h'
  refine ⟨g.os, g.output, g.size, fun k hk hne => g.block k hk (fun e => hne (Option.some.inj e)), fun a ha => ?_⟩
  by_cases e : a.block = r
  · unfold World.frozen?
    rw [e, e1, e2]
  · exact World.frozen?_of_block (g.block a.block ha (fun e' => e (Option.some.inj e')))

theorem grown_fr {w w' : World} (g : w.grownBy w' none) : Fr no w w' :=
  ⟨g.os, g.output, g.size, fun k hk _ => g.block k hk (by simp), fun a ha => World.frozen?_of_block (g.block a.block ha (by simp))⟩

theorem rising_of {l : List Int} (hn : l.Nodup) : (l.mergeSort fun x y => decide (x ≤ y)).Pairwise (· < ·) := by
  have h1 : (l.mergeSort fun x y => decide (x ≤ y)).Pairwise (fun x y => decide (x ≤ y) = true) := List.pairwise_mergeSort (fun a b c h1 h2 => by simp at h1 h2 ⊢; omega) (fun a b => by simp; omega) l
  have h2 : (l.mergeSort fun x y => decide (x ≤ y)).Nodup := (List.mergeSort_perm l _).nodup_iff.2 hn
  have h3 := List.Pairwise.and h1 h2
  refine h3.imp (fun {a b} h => ?_)
  have ha : a ≤ b := by simpa using h.1
  have hb : a ≠ b := h.2
  omega

set_option maxRecDepth 100000 in
set_option maxHeartbeats 2000000 in
theorem held_tp (SC : SortC) {c : Nat} {w : World} {p n m1 m2 : Nat} {F : Int → Option Lay} {S : Int → Option Lk} {N : Int → Int} (h : TP c w p n m1 m2 F S N) (hn : n ≤ 800000) (t : Int) :
    Calls Try.prog 24 #[.pointer (some ⟨p, 0, none⟩), .int .i64 t] w fun e w' => ∃ v l, e = .returned v ∧ OwnG elI w' v l ∧ NewV w v ∧ Fr no w w' ∧ HeldL S t l := by
  obtain ⟨D, hown, hD⟩ := h.lm
  have c0 := (cells2 h.tab).1
  have HH : Hid (TP c w p n m1 m2 F S N) := h
  have HHD : Hid (∀ k, (ownP S k t).isSome = true → Maps.has D (ky k) = true) := fun k hk => by
    cases hx : S k with
    | none => unfold ownP at hk; rw [hx] at hk; simp at hk
    | some x =>
      obtain ⟨y, hy, _⟩ := HH.out.at hx
      exact Maps.has_true_of_atKey (fun z => (hD k).1 y.q (by show Option.map Lay.q (F k) = _; rw [hy]; rfl) z)
  have hsz := hown.size_le
  have hm1 := hown.lt
  have e1 := ne_ptr
  have e2 := ne_nil
  clear h hD
  go_enter Try.func24, Try.ntmps24
  go_wp2_with (first | (at_range; refine wpList_range_own _ rfl _ 58 rfl 3 62 keyed Try.underlying58 ptrElem m1 n D rfl hown ?_; intro w0 hrg0 hg0 hs0) | go_in)
  go_frame
  have HG0 : Hid (w0.ranges Try.prog 3 ptrElem m1 w.heap.size n D (Maps.has D) (Maps.size D) ∧ Fr no w w0) := ⟨hrg0, grown_fr hg0⟩
  clear hrg0 hg0 hs0 hown c0
  generalize hb : w.heap.size = r at *
  go_loopw [5] (fun v5 wr => ∃ (left : Lit → Bool) (cnt : Nat) (l : List Int), wr.ranges Try.prog 3 ptrElem m1 r n D left cnt ∧ OwnG elI wr v5 l ∧ NewV w v5 ∧ Fr no w wr ∧ l.Nodup ∧ (∀ kl, left kl = true → Maps.has D kl = true) ∧ (∀ k, k ∈ l ↔ ((ownP S k t).isSome = true ∧ Maps.has D (ky k) = true ∧ left (ky k) = false)) ∧ l.length + cnt ≤ n) (fun _ wr => wr.rangeLeft m1 r)
  case atStart => exact ⟨Maps.has D, Maps.size D, [], HG0.out.1, OwnG.nil _ _, NewV.nil _, HG0.out.2, List.nodup_nil, fun _ h => h, fun k => ⟨fun h => by simp at h, fun h => by rw [h.2.1] at h; simp at h⟩, by simpa using hsz⟩
  case round =>
    clear HG0
    obtain ⟨left, cnt, l, hrg, ho, hnv, hfr, hnd, hlh, hmem, hlen⟩ := hrel
    have HRG : Hid (wr.ranges Try.prog 3 ptrElem m1 r n D left cnt) := hrg
    go_wp2_with (first | (at_next; refine wpList_next_ranges _ rfl _ rfl 3 keyed ptrElem (Value.int .i64) pv (fun key kl hkey => by obtain ⟨x, rfl, _⟩ := Maps.keyOf_int_inv Try.underlying3 hkey; exact ⟨x, rfl⟩) (fun v y hv => by obtain ⟨o, rfl, _⟩ := ptrElem_inv hv; exact ⟨o, rfl⟩) m1 r n _ _ _ rfl HRG.out ?_ ?_) | go_in)
    · intro hc0 hl0
      have SO := SC wr u5 l ho (by omega)
      have HE : Hid (∀ w5, OwnG elI w5 u5 (l.mergeSort fun x y => decide (x ≤ y)) → Fr (fun k => u5.ownBlock = some k) wr w5 → OwnG elI w5 u5 (l.mergeSort fun x y => decide (x ≤ y)) ∧ NewV w u5 ∧ Fr no w w5 ∧ HeldL S t (l.mergeSort fun x y => decide (x ≤ y))) := fun w5 o5 f5 =>
        ⟨o5, hnv, hfr.new f5 (fun i hi e => by have := hnv i e; omega), rising_of hnd, fun k => by
          rw [(List.mergeSort_perm l _).mem_iff, hmem]
          exact ⟨fun h => h.1, fun h => ⟨h, HHD.out k h, hl0 _⟩⟩⟩
      clear hrg ho hnv hfr hnd hlh hmem hlen HRG hc0 hl0
      go_wp2_with fail
      refine SO.mono ?_
      rintro _ w5 ⟨rfl, o5, f5⟩
      have HE5 : Hid _ := HE.out w5 o5 f5
      clear o5 f5 SO HE
      go_wp2_with fail
      go_ret
      exact ⟨_, _, rfl, HE5.out⟩
    · intro x o kl y1 y2 w1 cnt1 hkey hlk hv hat hrg1 hlt hg1 hs1 hen
      obtain ⟨x', ex, rfl, hwx⟩ := Maps.keyOf_int_inv Try.underlying3 hkey
      have ex' : x = x' := by simpa using ex
      subst ex'
      have hin : In x := by simpa [In, Lit.wf, IntKind.min, IntKind.max, IntKind.signed, IntKind.bits] using hwx
      have f1 : Fr (fun k => k = r) wr w1 := step_fr hrg hrg1 hg1
      have F1 : Fr no w w1 := hfr.new f1 (fun i hi e => by omega)
      have o1 : OwnG elI w1 u5 l := ho.kept f1 (fun k hk e => by
        obtain ⟨cur, hc⟩ := ho.tag hk
        obtain ⟨_, _, _, _, hit⟩ := ranges_iter hrg
        rw [e, hit] at hc
        simp at hc)
      have hxl : x ∉ l := fun e => by
        have := ((hmem x).1 e).2.2
        rw [show ky x = .int .i64 x from rfl, hlk] at this
        simp at this
      have hsame : ∀ k, (ky k).sameKey (.int .i64 x) = decide (k = x) := fun k => by
        by_cases e : k = x
        · subst e
          rw [decide_eq_true rfl]
          exact WideAt.sameKey_self (ky_lit k)
        · rw [decide_eq_false e]
          exact Maps.sameKey_ne (fun e' => e (ky_inj e'))
      have hlh1 : ∀ kl, (left kl && !kl.sameKey (.int .i64 x)) = true → Maps.has D kl = true := fun kl h => hlh kl (by simp only [Bool.and_eq_true] at h; exact h.1)
      have T1 : TB c w1 p n S N := .inr ⟨m1, m2, F, HH.out.keep F1⟩
      have HM1 : Hid (w1.rangeLeft m1 r < wr.rangeLeft m1 r) := by rw [Hid, hrg1.left_eq, hrg.left_eq]; exact hlt
      cases hox : ownP S x t with
      | none =>
        have OW := owned_no T1 x t hin hox
        have HRL : Hid (∃ (left : Lit → Bool) (cnt : Nat) (l : List Int), w1.ranges Try.prog 3 ptrElem m1 r n D left cnt ∧ OwnG elI w1 u5 l ∧ NewV w u5 ∧ Fr no w w1 ∧ l.Nodup ∧ (∀ kl, left kl = true → Maps.has D kl = true) ∧ (∀ k, k ∈ l ↔ ((ownP S k t).isSome = true ∧ Maps.has D (ky k) = true ∧ left (ky k) = false)) ∧ l.length + cnt ≤ n) := by
          refine ⟨_, cnt1, l, hrg1, o1, hnv, F1, hnd, hlh1, fun k => ?_, by omega⟩
          rw [hmem k]
          by_cases e : k = x
          · subst e
            rw [hox]
            simp
          · simp [hsame, e]
        clear hrg ho hnv hfr hnd hlh hmem hlen HRG hkey hlk hv hat hrg1 hlt hg1 hs1 f1 F1 o1 hxl hsame hlh1 T1 hox ex hwx hsz
        go_wp2_with fail
        refine OW.mono ?_
        rintro _ w2 ⟨rfl, rfl⟩
        go_wp2_with fail
        go_roundw
        case rel => exact HRL.out
        case measure => exact HM1.out
      | some z =>
        obtain ⟨_, _, _, yy, _, _, OW⟩ := owned_yes T1 x t hin z hox
        have fa : Fr no w1 (w1.alloc (.cells (elI.f x).toArray elI.e)) := (Fr.refl no w1).alloc _ _
        have HO1 : Hid (OwnG elI (w1.alloc (.cells (elI.f x).toArray elI.e)) u5 l) := o1.keep fa
        have HSR : Hid _ := srcG_one elI_ok w1 x
        have HLN : Hid (l.length + [x].length ≤ 1000000) := by show _ + 1 ≤ _; omega
        have HRL : Hid (∀ v' w3, OwnG elI w3 v' (l ++ [x]) → Sp u5 (w1.alloc (.cells (elI.f x).toArray elI.e)) v' w3 → (∃ (left : Lit → Bool) (cnt : Nat) (l : List Int), w3.ranges Try.prog 3 ptrElem m1 r n D left cnt ∧ OwnG elI w3 v' l ∧ NewV w v' ∧ Fr no w w3 ∧ l.Nodup ∧ (∀ kl, left kl = true → Maps.has D kl = true) ∧ (∀ k, k ∈ l ↔ ((ownP S k t).isSome = true ∧ Maps.has D (ky k) = true ∧ left (ky k) = false)) ∧ l.length + cnt ≤ n) ∧ w3.rangeLeft m1 r < wr.rangeLeft m1 r) := by
          intro v' w3 o3 s3
          obtain ⟨nv3, f3⟩ := hnv.step (F1.and fa) s3
          have hrga := ranges_fr hrg1 fa (fun e => e) (fun e => e)
          have hrg3 : w3.ranges Try.prog 3 ptrElem m1 r n D (fun z => left z && !z.sameKey (.int .i64 x)) cnt1 := ranges_fr hrga s3.1 (fun e => by have := hnv _ e; omega) (fun e => by
            obtain ⟨cur, hc⟩ := (o1.keep fa).tag e
            obtain ⟨_, _, _, _, hit⟩ := ranges_iter hrga
            rw [hit] at hc
            simp at hc)
          refine ⟨⟨_, cnt1, l ++ [x], hrg3, o3, nv3, f3, ?_, hlh1, fun k => ?_, by simp; omega⟩, by rw [hrg3.left_eq, hrg.left_eq]; exact hlt⟩
          · rw [List.nodup_append]
            refine ⟨hnd, by simp, ?_⟩
            intro a ha b hb e
            simp only [List.mem_singleton] at hb
            subst hb e
            exact hxl ha
          · rw [List.mem_append, hmem k]
            by_cases e : k = x
            · subst e
              simp only [List.mem_singleton, or_true, true_iff]
              refine ⟨by rw [hox]; rfl, hlh _ hlk, ?_⟩
              rw [hsame, decide_eq_true rfl]
              simp
            · simp [hsame, e]
        clear hrg ho hnv hfr hnd hlh hmem hlen HRG hkey hlk hv hat hrg1 hlt hg1 hs1 f1 F1 o1 hxl hsame hlh1 T1 hox ex hwx hsz fa HM1
        go_wp2_with fail
        refine OW.mono ?_
        rintro _ w2 ⟨rfl, rfl⟩
        go_wp2_with (at_builtin; refine wpList_apdG elI_ok _ rfl rfl _ _ rfl u5 l rfl HO1.out _ rfl [x] HSR.out HLN.out ?_; intro v' w3 o3 s3; have H3 : Hid _ := HRL.out v' w3 o3 s3; clear o3 s3)
        go_roundw
        case rel => exact H3.out.1
        case measure => exact H3.out.2

theorem Fr.allocI {S : Nat → Prop} {a w : World} (h : Fr S a w) (m : Option Nat) (b : Nat) (s : Array Nat) (c : Nat) : Fr S a (w.alloc (.mapIter m b s c)) :=
  ⟨h.os, h.output, Nat.le_trans h.size (by show w.heap.size ≤ (w.heap.push _).size; simp), fun k hk hs => (Below.heap_alloc w _ k (Nat.lt_of_lt_of_le hk h.size)).trans (h.block k hk hs),
    fun x hx => by
      have : (w.alloc (.mapIter m b s c)).frozen? x = w.frozen? x := by
        unfold World.frozen?
        rw [Below.heap_alloc w _ _ (Nat.lt_of_lt_of_le hx h.size)]
      exact this.trans (h.frozen x hx)⟩

set_option maxRecDepth 100000 in
theorem held_nil (SC : SortC) {w : World} {p : Nat} (h : w.heap[p]? = some (.cells #[.map none, .map none] 61 (0, 0))) (t : Int) :
    Calls Try.prog 24 #[.pointer (some ⟨p, 0, none⟩), .int .i64 t] w fun e w' => ∃ v l, e = .returned v ∧ OwnG elI w' v l ∧ NewV w v ∧ Fr no w w' ∧ HeldL (fun _ => none) t l := by
  have c0 := (cells2 h).1
  have r1 := run_range_nilMap (P := Try.prog) w 58 3 62 Try.underlying58
  have r2 := fun ty => run_next_nilMap (P := Try.prog) w ty 0 0 #[]
  have HF : Hid (Fr no w (w.alloc (.mapIter none 0 #[] 0))) := (Fr.refl no w).allocI _ _ _ _
  have SO := SC (w.alloc (.mapIter none 0 #[] 0)) (.slice none 0 0) [] (OwnG.nil _ _) (by simp)
  clear h
  go_enter Try.func24, Try.ntmps24
  go_wp2_with fail
  generalize hW : w.alloc (.mapIter none 0 #[] 0) = W at *
  go_loopw [5] (fun v5 wr => v5 = .slice none 0 0 ∧ wr = W) (fun _ _ => 0)
  case atStart => exact ⟨rfl, rfl⟩
  case round =>
    obtain ⟨rfl, hwr⟩ := hrel
    subst hwr
    go_wp2_with fail
    refine SO.mono ?_
    rintro _ w5 ⟨rfl, o5, f5⟩
    have HE : Hid (OwnG elI w5 (.slice none 0 0) [] ∧ Fr no w w5) := ⟨OwnG.nil _ _, HF.out.new f5 (fun i hi e => by simp [Value.ownBlock] at e)⟩
    clear o5 f5 SO
    go_wp2_with fail
    go_ret
    exact ⟨_, [], rfl, HE.out.1, NewV.nil _, HE.out.2, List.Pairwise.nil, fun k => by simp [ownP]⟩

theorem held_any (SC : SortC) {c : Nat} {w : World} {p n : Nat} {S : Int → Option Lk} {N : Int → Int} (h : TB c w p n S N) (hn : n ≤ 800000) (t : Int) :
    Calls Try.prog 24 #[.pointer (some ⟨p, 0, none⟩), .int .i64 t] w fun e w' => ∃ v l, e = .returned v ∧ OwnG elI w' v l ∧ NewV w v ∧ Fr no w w' ∧ HeldL S t l := by
  rcases h with ⟨h1, h2, rfl, rfl⟩ | ⟨m1, m2, F, h⟩
  · exact held_nil SC h2 t
  · exact held_tp SC h hn t

theorem rising_eq : ∀ {l m : List Int}, l.Pairwise (· < ·) → m.Pairwise (· < ·) → (∀ k, k ∈ l ↔ k ∈ m) → l = m
  | [], [], _, _, _ => rfl
  | [], y :: m, _, _, h => by have := (h y).2 (by simp); simp at this
  | x :: l, [], _, _, h => by have := (h x).1 (by simp); simp at this
  | x :: l, y :: m, hl, hm, h => by
    obtain ⟨l1, l2⟩ := List.pairwise_cons.1 hl
    obtain ⟨m1, m2⟩ := List.pairwise_cons.1 hm
    have hxy : x = y := by
      have h1 := (h x).1 (by simp)
      have h2 := (h y).2 (by simp)
      simp only [List.mem_cons] at h1 h2
      rcases h1 with h1 | h1
      · exact h1
      · rcases h2 with h2 | h2
        · exact h2.symm
        · have := m1 x h1
          have := l1 y h2
          omega
    subst hxy
    rw [rising_eq l2 m2 (fun k => ?_)]
    have hk := h k
    simp only [List.mem_cons] at hk
    constructor
    · intro hkl
      have := l1 k hkl
      rcases hk.1 (.inr hkl) with e | e
      · omega
      · exact e
    · intro hkm
      have := m1 k hkm
      rcases hk.2 (.inr hkm) with e | e
      · omega
      · exact e

theorem HeldL.eq {S : Int → Option Lk} {t : Int} {l m : List Int} (h : HeldL S t l) (k : HeldL S t m) : l = m :=
  rising_eq h.1 k.1 (fun x => (h.2 x).trans (k.2 x).symm)

theorem Jt.held (SC : SortC) {W w : World} {p n : Nat} {s : St} (h : Jt W w p n s) (hn : n ≤ 700000) (t : Int) {m : List Int} (hm : HeldL s.S t m) :
    Calls Try.prog 24 #[.pointer (some ⟨p, 0, none⟩), .int .i64 t] w fun e w' => ∃ o c, e = .returned (.slice o m.length c) ∧ OwnG elI w' (.slice o m.length c) m ∧ Jt W w' p n s ∧ Fr no w w' :=
  (held_any SC h.tb (by omega) t).mono fun _ _ ⟨v, l, he, ho, _, hf, hl⟩ => by
    obtain rfl := hl.eq hm
    obtain ⟨o, c, rfl⟩ := ho.form
    exact ⟨o, c, he, ho, h.keep hf, hf⟩
end Go.Proofs.Ytkkpimpmhnnbjaa
