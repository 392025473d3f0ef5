/- What came in: rows of numbers; and that it reads as before behind a call that made new memory alone. -/
import Derived.Test.YtmpahllkbpofnaaMem
import Derived.ProofKit
import Derived.OpenShut
import Derived.Deep.Slices
import Derived.Carry
import Derived.Lib.SmallJoins
namespace Go.Proofs.Ytmpahllkbpofnaa
open Go.ChangeShapes Go.WideShapes Go.ChangeAt Go.RowKit Go.Deep

theorem ownNone : ownKnob Try.prog.godebug = none := by kernel_rfl

theorem list_of {α : Type} (P : Nat → α → Prop) (n : Nat) (h : ∀ i, i < n → ∃ x, P i x) : ∃ L : List α, L.length = n ∧ ∀ i x, L[i]? = some x → P i x := by
  induction n with
  | zero => exact ⟨[], rfl, fun i x h => by simp at h⟩
  | succ n ih =>
    obtain ⟨L, hl, hL⟩ := ih (fun i hi => h i (by omega))
    obtain ⟨x, hx⟩ := h n (by omega)
    refine ⟨L ++ [x], by simp [hl], fun i y hy => ?_⟩
    rcases Nat.lt_trichotomy i n with h1 | h1 | h1
    · rw [List.getElem?_append_left (by omega)] at hy
      exact hL i y hy
    · subst h1
      rw [List.getElem?_append_right (by omega), hl, Nat.sub_self] at hy
      simp at hy
      subst hy
      exact hx
    · rw [List.getElem?_eq_none (by simp; omega)] at hy
      simp at hy

theorem Fr.keptBut {w w' : World} (h : Fr no w w') (may : MemPlace → Prop) : w.keptBut w' may := by
  refine ⟨h.os, h.output, fun i hi => ?_⟩
  rw [h.block i hi (fun f => f)]
  split <;> simp_all

/-- v is a slice whose elements are l, to be read one by one. -/
def RdG {α : Type} (K : El α) (w : World) (v : Value) (l : List α) : Prop :=
  ∃ ad cap, v = .slice ad l.length cap ∧ l.length ≤ cap ∧ cap ≤ maxLen ∧ ∀ (i : Nat) (x : α), l[i]? = some x → ∃ b off, ad = some ⟨b, off, none⟩ ∧ ∀ (j : Nat) (u : Value), (K.f x)[j]? = some u → w.cell? ⟨b, off + i * K.n + j, none⟩ = some u

theorem RdG.form {α : Type} {K : El α} {w : World} {v : Value} {l : List α} (h : RdG K w v l) : ∃ o c, v = .slice o l.length c := by
  obtain ⟨ad, cap, e, _⟩ := h
  exact ⟨ad, cap, e⟩

theorem RdG.keep {α : Type} {K : El α} {w w' : World} {v : Value} {l : List α} (h : RdG K w v l) (hf : Fr no w w') : RdG K w' v l := by
  obtain ⟨ad, cap, rfl, h1, h2, h3⟩ := h
  refine ⟨ad, cap, rfl, h1, h2, fun i x hx => ?_⟩
  obtain ⟨b, off, rfl, hc⟩ := h3 i x hx
  exact ⟨b, off, rfl, fun j u hj => hf.cell (hc j u hj) (fun f => f)⟩

def elY : El Nat := ⟨40, 5, 1, .int .u8 0, 1, fun n => [.int .u8 (n : Int)]⟩
section
variable {H : Type} {enc : TypeId × Value → H} {w : World} {spare : Nat → Bool} {held : Bool}

/-- The row's own condition behind a call that leaves all old memory as it was, the frozen marks of it too. -/
theorem post_old {P : Program} {f : Func} {s : ChangeSpec} {apart fresh handsOn again : Bool} {W W' : World} {args : Array Value} {v : Value} {ds gs : List (DataW H)} {before pa pv : List MemPlace}
    (hW : DataW.Whole enc P f.params.toList s.vars apart W args.toList ds gs before)
    (hres : ∀ (b : Nat) (sp : Nat → Bool) (hd : Bool), DataW.TrodAll enc P W' b sp hd f.resultTypes.toList (v.resultList f.resultTypes.size) (s.fn H (ds ++ gs)).results [])
    (hargs : ∀ sp : Nat → Bool, (∀ p ∈ before, sp p.block = true) → DataW.TrodAll enc P W' 0 sp true f.params.toList args.toList (s.fn H (ds ++ gs)).args pa)
    (hvars : ∀ sp : Nat → Bool, (∀ p ∈ before, sp p.block = true) → DataW.TrodVars enc P W' sp s.vars (s.fn H (ds ++ gs)).vars pv)
    (hps : before = pa ++ pv) (hg : Fr no W W')
    (hok : ∀ (j : Nat) (t : TypeId) (r : Value), f.resultTypes[j]? = some t → (v.resultList f.resultTypes.size)[j]? = some r → Value.okWide P W' .any 0 t r) :
    s.post enc P f apart fresh handsOn again W args v W' := by
  have hlt : ∀ p ∈ before, p.block < W.heap.size := fun p hp => hW.lt p hp
  have hold : ∀ p ∈ before, (fun b => decide (b < W.heap.size)) p.block = true := fun p hp => by simpa using hlt p hp
  refine ⟨ds, gs, before, [], pa, pv, hW, hres _ _ _, hargs _ hold, hvars _ hold, World.keptBut_mono (fun p hp => ⟨hp, ?_⟩) (hg.keptBut (· ∈ before)), fun _ => ?_⟩
  · rw [hps, List.mem_append] at hp
    exact Or.inr hp
  · obtain ⟨_, _, _, _, _, hz, hn⟩ := hW
    refine ⟨hok, _, _, ([] ++ pa) ++ pv, ⟨[] ++ pa, pv, trodAll_append (hargs _ (fun _ _ => rfl)) (hres _ _ _), hvars _ (fun _ _ => rfl), rfl, ?_, ?_⟩, ?_⟩
    · intro b off hp
      have hp' : MemPlace.cell b off ∈ before := by rw [hps]; simpa using hp
      rw [hg.frozen _ (hlt _ hp')]
      exact hz b off hp'
    · intro ha
      have := hn ha
      rw [hps] at this
      simpa using this
    · intro p hp _
      rw [hps]
      simpa using hp

theorem Try.cells5 : Try.prog.cellsOf 5 = 1 := by kernel_rfl

theorem open_bytes {v : Value} {d : DataW H} {ps : List MemPlace} (hv : ∃ a len cap, v = .slice a len cap) (h : DataW.Trod enc Try.prog w 0 spare held 40 v d ps) : ∃ bs : List Nat, (∀ c ∈ bs, c < 256) ∧ RdG elY w v bs := by
  obtain ⟨a0, len0, cap0, rfl⟩ := hv
  obtain ⟨fuel, h⟩ := h
  rcases open_ints Try.underlying40 Try.underlying5 Try.cells5 h with ⟨e, _⟩ | ⟨a, len, cap, zs, e, _, hl, hm, hz, _, hc, hw⟩
  · have e' : Value.slice a0 len0 cap0 = .slice none 0 0 := by simpa [Value.cells] using e
    rw [e']
    exact ⟨[], fun c hc => by simp at hc, none, 0, rfl, Nat.zero_le _, Nat.zero_le _, fun i x hx => by simp at hx⟩
  · have e' : Value.slice a0 len0 cap0 = .slice (some a) len cap := by simpa [Value.cells] using e
    rw [e']
    cases hz0 : len with
    | zero => exact ⟨[], fun c hc => by simp at hc, some a, cap, rfl, Nat.zero_le _, hm, fun i x hx => by simp at hx⟩
    | succ k =>
      rw [← hz0]
      have hlz : len ≤ zs.length := by rw [hz]; split <;> omega
      obtain ⟨b, o, spot⟩ := a
      have hspot : spot = none := by
        have h0 := hc 0 (by omega)
        simpa [Addr.add] using World.cell?_spot h0
      subst hspot
      have hb : ∀ z ∈ zs, 0 ≤ z ∧ z ≤ 255 := fun z hz => by simpa [Lit.wf, IntKind.min, IntKind.max, IntKind.signed, IntKind.bits] using hw z hz
      refine ⟨(zs.take len).map Int.toNat, fun c hc' => ?_, some ⟨b, o, none⟩, cap, by simp; omega, by simp; omega, hm, fun i c hi => ⟨b, o, rfl, fun j u hj => ?_⟩⟩
      · obtain ⟨z, hz1, rfl⟩ := List.mem_map.1 hc'
        have := hb z (List.mem_of_mem_take hz1)
        omega
      · rw [List.getElem?_map, List.getElem?_take] at hi
        split at hi
        · rename_i hil
          have hil' : i < zs.length := by omega
          have h1 := hc i hil'
          rw [Addr.add_lit] at h1
          rw [List.getElem?_eq_getElem hil'] at hi
          simp at hi
          have h2 := hb zs[i] (List.getElem_mem hil')
          have e3 : zs.getD i 0 = (c : Int) := by rw [List.getD_eq_getElem?_getD, List.getElem?_eq_getElem hil', Option.getD_some]; omega
          rw [e3] at h1
          cases j with
          | zero =>
            simp only [elY, List.getElem?_cons_zero, Option.some.injEq] at hj
            subst hj
            simp only [elY, Nat.mul_one, Nat.add_zero]
            exact h1
          | succ j => simp [elY] at hj
        · simp at hi

theorem Try.laidOut : laidOutB Try.prog = true := by kernel_rfl

theorem Fr.same {W w' : World} (h : Fr no W w') {p : MemPlace} (hp : p.block < W.heap.size) : W.sameAt w' p := by
  cases p with
  | cell b o => exact World.cell?_of_block (w := W) (h.block b hp (fun f => f))
  | map b => exact h.block b hp (fun f => f)

/-- What came in reads as before, behind a call that made new memory alone. -/
theorem trod_after {t : TypeId} (hr : Try.prog.readableRec t = true) (hrow : t < Try.prog.types.size) {W W' : World} {v : Value} {d : DataW H} {ps : List MemPlace} (h : DataW.Trod enc Try.prog W 0 (fun _ => true) true t v d ps) (hf : Fr no W W')
    (hlt : ∀ x ∈ ps, x.block < W.heap.size) {sp : Nat → Bool} (hsp : ∀ x ∈ ps, sp x.block = true) : DataW.Trod enc Try.prog W' 0 sp true t v d ps :=
  WideElems.Trod_stays Try.laidOut hr hrow h (fun x hx => hf.same (hlt x hx)) (fun x hx => hsp x hx)
end
theorem OwnG.rd {α : Type} {K : El α} (hK : K.Ok) {w : World} {v : Value} {l : List α} (h : OwnG K w v l) : RdG K w v l := by
  have h' := h
  rcases h with ⟨rfl, rfl⟩ | ⟨g, o, cap, cur, rfl, hgg, hn, hm, hs, ht⟩
  · exact ⟨none, 0, rfl, Nat.zero_le _, Nat.zero_le _, fun i x hx => by simp at hx⟩
  · refine ⟨some ⟨g, o, none⟩, cap, rfl, hn, hm, fun i x hx => ⟨g, o, rfl, fun j u hj => ?_⟩⟩
    have := h'.cells _ u (cg_get hK l i x hx j u hj)
    rw [← Nat.add_assoc] at this
    exact this

theorem RdG.at1 {α : Type} {K : El α} {w : World} {o : Option Addr} {n c : Nat} {l : List α} (h : RdG K w (.slice o n c) l) {i : Nat} {x : α} {u : Value} (hn : K.n = 1) (hu : K.f x = [u]) (hx : l[i]? = some x) :
    ∃ b off, o = some ⟨b, off, none⟩ ∧ w.cell? ⟨b, off + i, none⟩ = some u := by
  obtain ⟨ad, cap, he, -, -, hit⟩ := h
  obtain ⟨b, off, hb, hc⟩ := hit i x hx
  simp only [Value.slice.injEq] at he
  have := hc 0 u (by rw [hu]; rfl)
  rw [hn, Nat.mul_one, Nat.add_zero] at this
  exact ⟨b, off, by rw [he.1, hb], this⟩

/-- Two readings of one slice lie in one place. -/
theorem same_at {o : Option Addr} {b off b' off' : Nat} (h : o = some ⟨b, off, none⟩) (h' : o = some ⟨b', off', none⟩) : b' = b ∧ off' = off := by
  rw [h] at h'
  simp only [Option.some.injEq, Addr.mk.injEq] at h'
  exact ⟨h'.1.symm, h'.2.1.symm⟩
end Go.Proofs.Ytmpahllkbpofnaa
