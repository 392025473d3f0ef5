/- Two classes below Main that are turned in one place each. -/
import Derived.Test.YtcbpmahekgkjlaaGreatDoorJat
namespace Go.Proofs.YtcbpmahekgkjlaaGreatDoor
open Go.ChangeShapes Go.WideShapes Go.ChangeAt Go.RowKit
open H (ix NewV)

def clA : Cl := chC 1 true 0
def clB : Cl := chC 1 true 1
def sNobody : ByteArray := ⟨#[78, 111, 98, 111, 100, 121]⟩
def poolX (i : Nat) : Cs := if i = 3 then ⟨3, 0, 0, 0, sNobody, e0⟩ else if i = 4 then ⟨4, 0, 0, 0, lt 0, fnm 1⟩ else ⟨5, 0, 0, 0, sMain, sm⟩
def mtX : Mt := { name := sm, params := [⟨1, e0⟩], ret := ⟨0, ⟨#[]⟩⟩, lo := 2, st := 0, code := [(33, 0)], hands := [] }
def rf : Nat → List Cl
  | 0 => [mainC, clA, ⟨lt 1, lt 0, [], [⟨fnm 0, ⟨1, e0⟩, false⟩], [retM sm]⟩]
  | 1 => [mainC, clA, ⟨lt 1, lt 0, [], [fdOf 1 1], [mtX]⟩]
  | 2 => [mainC, ⟨lt 0, e0, [], [⟨fnm 0, ⟨4, sNobody⟩, false⟩], [retM sm]⟩, clB]
  | 6 => [clA, clB]
  | 7 => [mainC, clA, ⟨lt 1, lt 1, [], [fdOf 1 1], [retM sm]⟩]
  | 8 => [mainC, clA, clB]
  | i => [mainC, ⟨lt 0, e0, [poolX i], [fdOf 1 0], [retM sm]⟩, clB]
def rfE : Nat → Int
  | 0 => 53 | 1 => 73 | 2 => 70 | 3 => 70 | 4 => 72 | 5 => 72 | 6 => 74 | 7 => 71 | _ => 0
theorem rf_link : ∀ i : Fin 9, linkE (rf i.val) = rfE i.val := by decide +kernel

theorem OwnG.cell1 {α : Type} {K : El α} (hK : K.Ok) {w : World} {g n cap : Nat} {l : List α} (h : OwnG K w (.slice (some ⟨g, 0, none⟩) n cap) l) {k j : Nat} {y : α} (hy : l[k]? = some y) (x : α) (u : Value) (hj : j < K.n) (hx : K.f x = (K.f y).set j u) :
    OwnG K (w.setCell ⟨g, k * K.n + j, none⟩ u) (.slice (some ⟨g, 0, none⟩) n cap) (l.set k x) := by
  obtain ⟨cur, hc, rfl, hn, hm, hs, ht, hnb⟩ := h.cur
  have hk : k < l.length := (List.getElem?_eq_some_iff.1 hy).1
  have hkc : (k + 1) * K.n ≤ cap * K.n := Nat.mul_le_mul_right _ (by omega)
  have hkl : (k + 1) * K.n ≤ l.length * K.n := Nat.mul_le_mul_right _ (by omega)
  rw [Nat.add_mul, Nat.one_mul] at hkc hkl
  refine h.put hK hc (set_at hc) (by simp) hk x (fun j' u' hj' => ?_) (fun j' hj' => ?_)
  · rw [hx] at hj'
    have hj'n : j' < K.n := by
      have := (List.getElem?_eq_some_iff.1 hj').1
      rwa [List.length_set, hK.len] at this
    by_cases e : j' = j
    · subst e
      rw [List.getElem?_set_self (by rw [hK.len]; exact hj)] at hj'
      rw [Array.getElem?_setIfInBounds, if_pos rfl, if_pos (by rw [hs]; omega)]
      exact hj'
    · rw [List.getElem?_set_ne (Ne.symm e)] at hj'
      rw [Array.getElem?_setIfInBounds, if_neg (by omega)]
      have := cg_get hK l k y hy j' u' hj'
      rw [← ht, List.getElem?_take, if_pos (by omega), Array.getElem?_toList] at this
      exact this
  · rw [Array.getElem?_setIfInBounds, if_neg (by omega)]

def sA (g m : Nat) : Ks := ⟨lt 0, e0, ⟨none, 0, 0⟩, ⟨some ⟨g, 0, none⟩, 1, 1⟩, ⟨some ⟨m, 0, none⟩, 1, 1⟩⟩
def sB (g m : Nat) : Ks := ⟨lt 1, lt 0, ⟨none, 0, 0⟩, ⟨some ⟨g, 0, none⟩, 1, 1⟩, ⟨some ⟨m, 0, none⟩, 1, 1⟩⟩

structure Three (w1 w : World) (v : Value) (s0 : Ks) (r cap g1 m1 c1 g2 m2 c2 : Nat) : Prop where
  hv : v = .slice (some ⟨r, 0, none⟩) 3 cap
  own : OwnG elKs w v [s0, sA g1 m1, sB g2 m2]
  main : ClAt w1 s0 mainC
  fr : Fr no w1 w
  r0 : w1.heap.size ≤ r
  lo : w1.heap.size ≤ g1 ∧ w1.heap.size ≤ m1 ∧ w1.heap.size ≤ c1 ∧ w1.heap.size ≤ g2 ∧ w1.heap.size ≤ m2 ∧ w1.heap.size ≤ c2
  ne : g1 ≠ g2 ∧ m1 ≠ m2 ∧ c1 ≠ c2
  f1 : w.heap[g1]? = some (.cells #[.string (fnm 0), .int .i64 1, .string e0, .bool false] 33 (0, 0))
  f2 : w.heap[g2]? = some (.cells #[.string (fnm 1), .int .i64 1, .string e0, .bool false] 33 (0, 0))
  m1 : w.heap[m1]? = some (.cells (msC (retS sm c1)).toArray 51 (0, 0))
  m2 : w.heap[m2]? = some (.cells (msC (retS sm c2)).toArray 51 (0, 0))
  c1 : w.heap[c1]? = some (.cells #[.int .i64 33, .int .i64 0] 94 (0, 0))
  c2 : w.heap[c2]? = some (.cells #[.int .i64 33, .int .i64 0] 94 (0, 0))

theorem three_of {w1 w : World} {v : Value} {kd : Nat → Nat} {hs : Nat → Bool} {ks : List Ks} {bs : Nat → Nat} (R : ChRow w1 w v kd hs 2 ks bs) (k0 : kd 0 = 1) (k1 : kd 1 = 1) (h0 : hs 0 = true) (h1 : hs 1 = true) :
    ∃ s0 r cap g1 m1 c1 g2 m2 c2, Three w1 w v s0 r cap g1 m1 c1 g2 m2 c2 := by
  obtain ⟨s0, hs0, hm⟩ := R.main
  obtain ⟨s1, hs1, C1⟩ := R.cls 0 (by omega)
  obtain ⟨s2, hs2, C2⟩ := R.cls 1 (by omega)
  have hb := R.bot
  have hmo0 := R.mono 0 (by omega)
  have hmo1 := R.mono 1 (by omega)
  rw [k0, h0] at C1
  rw [k1, h1] at C2
  obtain ⟨g1, a1, a2, e1, f1⟩ := C1.f
  obtain ⟨m1, c1, a3, a4, e2, x1, x2⟩ := C1.m1 rfl
  obtain ⟨g2, b1, b2, e3, f2⟩ := C2.f
  obtain ⟨m2, c2, b3, b4, e4, y1, y2⟩ := C2.m1 rfl
  have eA : s1 = sA g1 m1 := by
    obtain ⟨n, s, p, f, m⟩ := s1
    have := C1.name; have := C1.super; have := C1.p
    simp only at *
    subst_vars
    rfl
  have eB : s2 = sB g2 m2 := by
    obtain ⟨n, s, p, f, m⟩ := s2
    have := C2.name; have := C2.super; have := C2.p
    simp only at *
    subst_vars
    rfl
  have hks : ks = [s0, s1, s2] := by
    have hl := R.len
    match ks, hl, hs0, hs1, hs2 with
    | [x, y, z], _, hs0, hs1, hs2 =>
      simp at hs0 hs1 hs2
      rw [hs0, hs1, hs2]
  have own := R.own
  rw [hks, eA, eB] at own
  obtain ⟨o, cap, hv⟩ := own.form
  have hr : ∃ r, o = some ⟨r, 0, none⟩ := by
    rcases own.1.2 with ⟨e, h0⟩ | ⟨g, cap', cur, e, _⟩
    · simp at h0
    · rw [hv] at e
      simp only [Value.slice.injEq] at e
      exact ⟨g, e.1⟩
  obtain ⟨r, rfl⟩ := hr
  have z1 : bs (0 + 1) = bs 1 := rfl
  have z2 : bs (1 + 1) = bs 2 := rfl
  refine ⟨s0, r, cap, g1, m1, c1, g2, m2, c2, ⟨hv, own, hm, R.fr, R.new r (by rw [hv]; rfl), by omega, by omega, f1, f2, x1, y1, x2, y2⟩⟩

theorem ne_tag {w : World} {a b : Nat} {x y : Array Value} {s t : TypeId} (ha : w.heap[a]? = some (.cells x s (0, 0))) (hb : w.heap[b]? = some (.cells y t (0, 0))) (h : s ≠ t) : a ≠ b := fun e => by
  subst e
  rw [ha] at hb
  simp only [Option.some.injEq, Obj.cells.injEq] at hb
  exact h hb.2.1

theorem cs3 {w : World} {v : Value} {s0 s1 s2 : Ks} {C0 C1 C2 : Cl} (own : OwnG elKs w v [s0, s1, s2]) (c0 : ClAt w s0 C0) (c1 : ClAt w s1 C1) (c2 : ClAt w s2 C2) : CsAt w v [C0, C1, C2] := by
  refine ⟨⟨_, own.sl okKs, rfl, fun i s c hs hc => ?_⟩⟩
  match i, hs, hc with
  | 0, hs, hc => simp at hs hc; subst hs hc; exact c0
  | 1, hs, hc => simp at hs hc; subst hs hc; exact c1
  | 2, hs, hc => simp at hs hc; subst hs hc; exact c2
  | i + 3, hs, hc => simp at hs

theorem cl_mk {w : World} {n s : ByteArray} {p : Sv} {pl : List Cs} {g m : Nat} {fd : Fd} {ms : Ms} {mt : Mt} (hp : SlG elCs w (.slice p.a p.n p.c) pl) (hf : w.heap[g]? = some (.cells (fdC fd).toArray 33 (0, 0)))
    (hm : w.heap[m]? = some (.cells (msC ms).toArray 51 (0, 0))) (hmt : MtAt w ms mt) : ClAt w ⟨n, s, p, ⟨some ⟨g, 0, none⟩, 1, 1⟩, ⟨some ⟨m, 0, none⟩, 1, 1⟩⟩ ⟨n, s, pl, [fd], [mt]⟩ := by
  refine ⟨rfl, rfl, hp, (own_heap okFd [fd] hf (by simp [cg, elFd]) (show 1 ≤ maxLen by decide)).sl okFd, [ms], (own_heap okMs [ms] hm (by simp [cg, elMs]) (show 1 ≤ maxLen by decide)).sl okMs, rfl, ?_⟩
  intro i s m hs hm
  match i, hs, hm with
  | 0, hs, hm => simp at hs hm; subst hs hm; exact hmt
  | i + 1, hs, hm => simp at hs

section
variable {w1 w : World} {v : Value} {s0 : Ks} {r cap g1 m1 c1 g2 m2 c2 : Nat} (T : Three w1 w v s0 r cap g1 m1 c1 g2 m2 c2)
include T

theorem Three.rtag : ∃ cur, w.heap[r]? = some (.cells cur 59 (0, 0)) := by
  obtain ⟨cur, h⟩ := T.own.tag (k := r) (by rw [T.hv]; rfl)
  exact ⟨cur, h⟩

/-- All stays but what lies in one block, which is none of those named. -/
theorem Three.A {W : World} {b : Nat} (F : Fr (fun k => k = b) w W) (h1 : g1 ≠ b) (h2 : m1 ≠ b) (h3 : c1 ≠ b) : ClAt W (sA g1 m1) clA :=
  cl_mk (SlG.nil elCs W) (F.heap T.f1 h1) (F.heap T.m1 h2) (ret_mt sm (F.heap T.c1 h3))
theorem Three.B {W : World} {b : Nat} (F : Fr (fun k => k = b) w W) (h1 : g2 ≠ b) (h2 : m2 ≠ b) (h3 : c2 ≠ b) : ClAt W (sB g2 m2) clB :=
  cl_mk (SlG.nil elCs W) (F.heap T.f2 h1) (F.heap T.m2 h2) (ret_mt sm (F.heap T.c2 h3))
theorem Three.M {W : World} {b : Nat} (F : Fr (fun k => k = b) w W) (h : w1.heap.size ≤ b) : ClAt W s0 mainC ∧ Fr no w1 W := by
  have f := T.fr.new F (fun i hi e => by omega)
  exact ⟨T.main.kept f, f⟩
theorem Three.O {W : World} {b : Nat} (F : Fr (fun k => k = b) w W) (h : r ≠ b) : OwnG elKs W v [s0, sA g1 m1, sB g2 m2] :=
  T.own.kept F (fun k hk e => by rw [T.hv] at hk; simp [Value.ownBlock] at hk; omega)
end
end Go.Proofs.YtcbpmahekgkjlaaGreatDoor
