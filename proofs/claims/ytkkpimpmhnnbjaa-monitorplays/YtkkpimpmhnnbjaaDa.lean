/- The document's table of locks in memory. -/
import Derived.Test.YtkkpimpmhnnbjaaLo
namespace Go.Proofs.Ytkkpimpmhnnbjaa
open Go.ChangeShapes Go.WideShapes Go.ChangeAt Go.RowKit

/-- A lock of the document: its object, what it is, the slices of its lists. -/
structure Dl where
  at_ : Int
  x : Lk
  e : Value
  v : Value
  he : e.oneCell' = true
  hv : v.oneCell' = true

def elK : El Dl := ⟨27, 72, 6, .agg #[.int .i64 0, .int .i64 0, .int .i64 0, .bool false, .slice none 0 0, .slice none 0 0], 80, fun d => [.int .i64 d.at_, .int .i64 d.x.owner, .int .i64 d.x.count, .bool d.x.fat, d.e, d.v]⟩

theorem elK_ok : elK.Ok where
  und := Try.underlying27
  info := by kernel_rfl
  len := fun _ => rfl
  one := fun x u hu => by
    simp [elK] at hu
    rcases hu with rfl | rfl | rfl | rfl | rfl | rfl
    · rfl
    · rfl
    · rfl
    · rfl
    · exact x.he
    · exact x.hv
  zlen := by kernel_rfl
  bs := by decide
  pos := by decide

theorem OwnG.oneCell {α : Type} {K : El α} {w : World} {v : Value} {l : List α} (h : OwnG K w v l) : v.oneCell' = true := by
  obtain ⟨o, cap, rfl⟩ := h.form
  rfl

structure DT (c : Nat) (w : World) (q : Nat) (D : List Dl) : Prop where
  cq : c ≤ q
  hd : ∃ vl, w.heap[q]? = some (.cells #[vl] 29 (0, 0)) ∧ OwnG elK w vl D ∧ ∀ b, vl.ownBlock = some b → c ≤ b
  rows : ∀ d ∈ D, OwnG elD w d.e d.x.entry ∧ OwnG elD w d.v d.x.wait

/-- The kinds of the document's table. -/
def Kd (w : World) (k : Nat) : Prop := ∃ cur t, w.heap[k]? = some (.cells cur t (0, 0)) ∧ (t = 29 ∨ t = 72 ∨ t = 75)

/-- What its calls may turn. -/
def Td (c : Nat) (w : World) (k : Nat) : Prop := c ≤ k ∧ ∃ cur t, w.heap[k]? = some (.cells cur t (0, 0)) ∧ (t = 29 ∨ t = 72)

theorem Fr.td {c : Nat} {a b d : World} (h : Fr (Td c a) a b) (k : Fr (Td c b) b d) : Fr (Td c a) a d :=
  h.trans k (fun _ _ f => f) (fun i hi f => by
    by_cases g : Td c a i
    · exact g
    · have e := h.block i hi g
      unfold Td at f ⊢
      rw [e] at f
      exact f)

theorem DT.kept {c : Nat} {w w' : World} {q : Nat} {D : List Dl} {S : Nat → Prop} (h : DT c w q D) (hf : Fr S w w') (hS : ∀ k, Kd w k → ¬ S k) : DT c w' q D := by
  obtain ⟨vl, h1, h2, h3⟩ := h.hd
  refine ⟨h.cq, ⟨vl, hf.heap h1 (hS q ⟨_, _, h1, .inl rfl⟩), h2.kept hf (fun k hk => ?_), h3⟩, fun d hd => ?_⟩
  · obtain ⟨cur, hc⟩ := h2.tag hk
    exact hS k ⟨cur, 72, hc, .inr (.inl rfl)⟩
  · obtain ⟨r1, r2⟩ := h.rows d hd
    refine ⟨r1.kept hf (fun k hk => ?_), r2.kept hf (fun k hk => ?_)⟩
    · obtain ⟨cur, hc⟩ := r1.tag hk
      exact hS k ⟨cur, 75, hc, .inr (.inr rfl)⟩
    · obtain ⟨cur, hc⟩ := r2.tag hk
      exact hS k ⟨cur, 75, hc, .inr (.inr rfl)⟩

theorem DT.keep {c : Nat} {w w' : World} {q : Nat} {D : List Dl} (h : DT c w q D) (hf : Fr no w w') : DT c w' q D := h.kept hf (fun _ _ f => f)

theorem cg_set {α : Type} {K : El α} (hK : K.Ok) (l : List α) (i j : Nat) (x y : α) (u : Value) (h : l[i]? = some x) (hj : j < K.n) (hy : K.f y = (K.f x).set j u) : (cg K l).set (i * K.n + j) u = cg K (l.set i y) := by
  induction l generalizing i with
  | nil => simp at h
  | cons z l ih =>
    have e : cg K (z :: l) = K.f z ++ cg K l := rfl
    rw [e]
    cases i with
    | zero =>
      simp at h
      subst h
      rw [Nat.zero_mul, Nat.zero_add, List.set_append_left _ _ (by rw [hK.len]; exact hj), ← hy]
      rfl
    | succ i =>
      have := ih i (by simpa using h)
      rw [List.set_append_right _ _ (by rw [hK.len, Nat.add_mul]; omega), hK.len]
      rw [show (i + 1) * K.n + j - K.n = i * K.n + j by rw [Nat.add_mul]; omega, this]
      rfl

/-- A cell of a row of one's own is set. -/
theorem OwnG.set {α : Type} {K : El α} (hK : K.Ok) {w : World} {g o n cap : Nat} {l : List α} (h : OwnG K w (.slice (some ⟨g, o, none⟩) n cap) l) (i j : Nat) (x y : α) (u : Value) (hx : l[i]? = some x) (hj : j < K.n) (hy : K.f y = (K.f x).set j u) :
    OwnG K (w.setCell ⟨g, o + i * K.n + j, none⟩ u) (.slice (some ⟨g, o, none⟩) n cap) (l.set i y) := by
  rcases h with ⟨hn, _⟩ | ⟨g', o', cap', cur, he, hg, hnc, hcm, hcs, ht⟩
  · simp at hn
  · simp only [Value.slice.injEq, Option.some.injEq, Addr.mk.injEq] at he
    obtain ⟨⟨rfl, rfl, _⟩, rfl, rfl⟩ := he
    have hs : (w.setCell ⟨g, o + i * K.n + j, none⟩ u).heap[g]? = some (.cells (cur.set! (o + i * K.n + j) u) K.e (0, 0)) := by
      unfold World.setCell
      simp [Array.getElem?_modify, hg]
    refine .inr ⟨g, o, cap, _, by simp, hs, by simpa using hnc, hcm, by simpa using hcs, ?_⟩
    rw [← cg_set hK l i j x y u hx hj hy, ← ht]
    simp only [Array.set!_eq_setIfInBounds, Array.toList_setIfInBounds, List.length_set]
    rw [Nat.add_assoc, List.drop_set, if_neg (by omega), Nat.add_sub_cancel_left, List.take_set]

/-- Lock i of the table lies at b, from r on. -/
structure Dx (c : Nat) (w : World) (q : Nat) (D : List Dl) (i : Nat) (d : Dl) (b r : Nat) : Prop where
  dt : DT c w q D
  nth : D[i]? = some d
  pt : ∃ n cap o, w.heap[q]? = some (.cells #[.slice (some ⟨b, o, none⟩) n cap] 29 (0, 0)) ∧ r = o + i * 6

theorem cells1 {w : World} {q : Nat} {v : Value} {t : TypeId} (h : w.heap[q]? = some (.cells #[v] t (0, 0))) : w.cell? ⟨q, 0, none⟩ = some v ∧ w.frozen? ⟨q, 0, none⟩ = false := by
  constructor
  · simp [World.cell?, h]
  · simp [World.frozen?, h]

theorem DT.get {c : Nat} {w : World} {q : Nat} {D : List Dl} (h : DT c w q D) : ∃ o cap, w.cell? ⟨q, 0, none⟩ = some (.slice o D.length cap) ∧ w.frozen? ⟨q, 0, none⟩ = false ∧ D.length ≤ maxLen ∧ ∀ i d, D[i]? = some d → ∃ b r, o = some ⟨b, r, none⟩ ∧ Dx c w q D i d b (r + i * 6) := by
  obtain ⟨vl, h1, h2, h3⟩ := h.hd
  obtain ⟨k1, k2⟩ := cells1 h1
  rcases h2 with ⟨rfl, rfl⟩ | ⟨g, o, cap, cur, rfl, hg, hnc, hcm, hcs, ht⟩
  · exact ⟨none, 0, k1, k2, Nat.zero_le _, fun i d hd => by simp at hd⟩
  · exact ⟨some ⟨g, o, none⟩, cap, k1, k2, Nat.le_trans hnc hcm, fun i d hd => ⟨g, o, rfl, h, hd, _, _, _, h1, rfl⟩⟩

theorem Dx.own {c : Nat} {w : World} {q : Nat} {D : List Dl} {i : Nat} {d : Dl} {b r : Nat} (h : Dx c w q D i d b r) : ∃ cap o, w.heap[q]? = some (.cells #[.slice (some ⟨b, o, none⟩) D.length cap] 29 (0, 0)) ∧ r = o + i * 6 ∧ OwnG elK w (.slice (some ⟨b, o, none⟩) D.length cap) D ∧ c ≤ b := by
  obtain ⟨n, cap, o, h1, rfl⟩ := h.pt
  obtain ⟨vl, h2, h3, h4⟩ := h.dt.hd
  rw [h1] at h2
  simp only [Option.some.injEq, Obj.cells.injEq, Array.mk.injEq, List.cons.injEq, and_true, and_self] at h2
  subst h2
  obtain ⟨o', cap', e⟩ := h3.form
  simp only [Value.slice.injEq] at e
  obtain ⟨e1, e2, e3⟩ := e
  subst e2
  exact ⟨cap, o, h1, rfl, h3, h4 b rfl⟩

theorem Dx.cells {c : Nat} {w : World} {q : Nat} {D : List Dl} {i : Nat} {d : Dl} {b r : Nat} (h : Dx c w q D i d b r) :
    w.cell? ⟨b, r, none⟩ = some (.int .i64 d.at_) ∧ w.cell? ⟨b, r + 1, none⟩ = some (.int .i64 d.x.owner) ∧ w.cell? ⟨b, r + 2, none⟩ = some (.int .i64 d.x.count) ∧ w.cell? ⟨b, r + 3, none⟩ = some (.bool d.x.fat) ∧ w.cell? ⟨b, r + 4, none⟩ = some d.e ∧ w.cell? ⟨b, r + 5, none⟩ = some d.v := by
  obtain ⟨cap, o, h1, rfl, h2, -⟩ := h.own
  have H : ∀ j u, (elK.f d)[j]? = some u → w.cell? ⟨b, o + i * 6 + j, none⟩ = some u := fun j u hj => by
    have := h2.cells (i * 6 + j) u (cg_get elK_ok D i d h.nth j u hj)
    rw [← Nat.add_assoc] at this
    exact this
  exact ⟨H 0 _ rfl, H 1 _ rfl, H 2 _ rfl, H 3 _ rfl, H 4 _ rfl, H 5 _ rfl⟩

theorem Dx.thaw {c : Nat} {w : World} {q : Nat} {D : List Dl} {i : Nat} {d : Dl} {b r : Nat} (h : Dx c w q D i d b r) (k : Nat) : w.frozen? ⟨b, k, none⟩ = false := by
  obtain ⟨cap, o, h1, rfl, h2, -⟩ := h.own
  obtain ⟨cur, hc⟩ := h2.tag (k := b) rfl
  simp [World.frozen?, hc]

theorem Dx.rows {c : Nat} {w : World} {q : Nat} {D : List Dl} {i : Nat} {d : Dl} {b r : Nat} (h : Dx c w q D i d b r) : OwnG elD w d.e d.x.entry ∧ OwnG elD w d.v d.x.wait := h.dt.rows d (List.mem_of_getElem? h.nth)

theorem Dx.ne {c : Nat} {w : World} {q : Nat} {D : List Dl} {i : Nat} {d : Dl} {b r : Nat} (h : Dx c w q D i d b r) : b ≠ q := by
  obtain ⟨cap, o, h1, rfl, h2, -⟩ := h.own
  obtain ⟨cur, hc⟩ := h2.tag (k := b) rfl
  intro e
  rw [e, h1] at hc
  simp [elK] at hc

theorem Dx.keep {c : Nat} {w w' : World} {q : Nat} {D : List Dl} {i : Nat} {d : Dl} {b r : Nat} (h : Dx c w q D i d b r) (hf : Fr no w w') : Dx c w' q D i d b r := by
  obtain ⟨n, cap, o, h1, h2⟩ := h.pt
  exact ⟨h.dt.keep hf, h.nth, n, cap, o, hf.heap h1 (fun f => f), h2⟩

/-- A cell of a lock is set. -/
theorem Dx.set {c : Nat} {w : World} {q : Nat} {D : List Dl} {i : Nat} {d : Dl} {b r : Nat} (h : Dx c w q D i d b r) (j : Nat) (u : Value) (d' : Dl) (hj : j < 6) (hd : elK.f d' = (elK.f d).set j u) (h1 : OwnG elD w d'.e d'.x.entry) (h2 : OwnG elD w d'.v d'.x.wait) :
    Dx c (w.setCell ⟨b, r + j, none⟩ u) q (D.set i d') i d' b r ∧ Fr (Td c w) w (w.setCell ⟨b, r + j, none⟩ u) := by
  obtain ⟨cap, o, k1, rfl, k2, k3⟩ := h.own
  obtain ⟨cur, hc⟩ := k2.tag (k := b) rfl
  have hne := h.ne
  have fs := (Fr.refl (fun k => k = b) w).setCell (p := ⟨b, o + i * 6 + j, none⟩) (fun _ => rfl) u
  have hq := fs.heap k1 (fun e => hne e.symm)
  have nb : ∀ {v : Value} {l : List (Int × Int)}, OwnG elD w v l → ∀ k, v.ownBlock = some k → ¬ k = b := by
    intro v l ho k hk e
    obtain ⟨cur2, hc2⟩ := ho.tag hk
    rw [e, hc] at hc2
    simp [elK, elD] at hc2
  refine ⟨⟨⟨h.dt.cq, ⟨_, hq, ?_, fun b' hb => by simp [Value.ownBlock] at hb; omega⟩, fun y hy => ?_⟩, ?_, ⟨_, _, o, hq, rfl⟩⟩, fs.mono (fun k _ e => ⟨by omega, cur, 72, by rw [e]; exact hc, .inr rfl⟩)⟩
  · exact k2.set elK_ok i j d d' u h.nth hj hd
  · rcases List.mem_or_eq_of_mem_set hy with hy | rfl
    · obtain ⟨r1, r2⟩ := h.dt.rows y hy
      exact ⟨r1.kept fs (nb r1), r2.kept fs (nb r2)⟩
    · exact ⟨h1.kept fs (nb h1), h2.kept fs (nb h2)⟩
  · have hi := (List.getElem?_eq_some_iff.1 h.nth).1
    rw [List.getElem?_set_self hi]

/-- What is told of the document's table. -/
def told (D : List Dl) : List (Int × Lk) := D.map (fun d => (d.at_, d.x))

def fdT (T : List (Int × Lk)) (a : Int) : Option Nat := T.findIdx? (fun o => o.1 == a)

def fdA : Option Nat → Int
  | some i => (i : Int)
  | none => -1

theorem fdT_none {T : List (Int × Lk)} {a : Int} {k : Nat} (h : ∀ o ∈ T.take k, o.1 ≠ a) (hk : T.length ≤ k) : fdT T a = none := by
  unfold fdT
  rw [List.findIdx?_eq_none_iff]
  intro o ho
  rw [List.take_of_length_le hk] at h
  simpa using h o ho

theorem fdT_some {T : List (Int × Lk)} {a : Int} {k : Nat} {x : Int × Lk} (h : ∀ o ∈ T.take k, o.1 ≠ a) (hx : T[k]? = some x) (ha : x.1 = a) : fdT T a = some k := by
  unfold fdT
  obtain ⟨hlt, rfl⟩ := List.getElem?_eq_some_iff.1 hx
  rw [List.findIdx?_eq_some_iff_getElem]
  refine ⟨hlt, by simpa using ha, fun j hj => ?_⟩
  have : T[j] ∈ T.take k := by
    rw [List.mem_take_iff_getElem]
    exact ⟨j, by omega, rfl⟩
  simpa using h _ this

theorem fdT_at {T : List (Int × Lk)} {a : Int} {i : Nat} (h : fdT T a = some i) : ∃ x, T[i]? = some (a, x) ∧ i < T.length := by
  unfold fdT at h
  rw [List.findIdx?_eq_some_iff_getElem] at h
  obtain ⟨hlt, ha, -⟩ := h
  refine ⟨T[i].2, ?_, hlt⟩
  rw [List.getElem?_eq_getElem hlt]
  have : T[i].1 = a := by simpa using ha
  rw [← this]

theorem told_at {D : List Dl} {i : Nat} {a : Int} {x : Lk} (h : (told D)[i]? = some (a, x)) : ∃ d, D[i]? = some d ∧ d.at_ = a ∧ d.x = x := by
  unfold told at h
  rw [List.getElem?_map] at h
  cases hd : D[i]? with
  | none => rw [hd] at h; simp at h
  | some d => rw [hd] at h; simp at h; exact ⟨d, rfl, h.1, h.2⟩

theorem told_set (D : List Dl) (i : Nat) (d : Dl) : told (D.set i d) = (told D).set i (d.at_, d.x) := by
  unfold told
  rw [List.map_set]

theorem told_length (D : List Dl) : (told D).length = D.length := by simp [told]

set_option maxRecDepth 100000 in
theorem has_any (w : World) (v : Value) (l : List (Int × Int)) (h : RdG elD w v l) (t : Int) (hl : l.length ≤ 900000) :
    Calls Try.prog 27 #[v, .int .i64 t] w fun e w' => e = .returned (.bool (l.any (fun x => x.1 == t))) ∧ w' = w := by
  have HR : Hid (RdG elD w v l) := h
  obtain ⟨o, cap, rfl⟩ := h.form
  clear h
  generalize hn : l.length = n at *
  go_enter Try.func27, Try.ntmps27
  go_wp2_with fail
  go_loop [5] (fun i => ∃ (k : Nat), i = .int .i64 (k : Int) ∧ k ≤ n ∧ (l.take k).any (fun x => x.1 == t) = false) (fun i => n - (intOf i).toNat)
  case atStart => exact ⟨0, rfl, Nat.zero_le _, by simp⟩
  case round =>
    obtain ⟨k, rfl, hk, hall⟩ := hrel
    have HA : Hid ((l.take k).any (fun x => x.1 == t) = false) := hall
    clear hall
    by_cases hlt : k < n
    · obtain ⟨⟨x1, x2⟩, hx⟩ : ∃ x, l[k]? = some x := ⟨_, List.getElem?_eq_getElem (by omega)⟩
      obtain ⟨b, off, had, hc1, -⟩ := HR.out.two (u := .int .i64 x1) (v := .int .i64 x2) rfl rfl hx
      subst had
      have hlt' : (k : Int) < (n : Int) := by omega
      by_cases he : x1 = t
      · have HF : Hid (l.any (fun x => x.1 == t) = true) := by
          show _ = _
          rw [List.any_eq_true]
          exact ⟨(x1, x2), List.mem_of_getElem? hx, by simpa using he⟩
        have heq : (x1 == t) = true := by simp [he]
        clear hx he
        go_wp2_with fail
        go_ret
        exact ⟨by rw [HF.out]; rfl, rfl⟩
      · have HN : Hid ((l.take (k + 1)).any (fun x => x.1 == t) = false) := by
          show _ = _
          rw [take_next l k _ hx, List.any_append, HA.out]
          simpa using he
        have heq : (x1 == t) = false := by simp [he]
        clear hx he
        go_wp2_with fail
        go_round
        case rel => exact ⟨k + 1, by go_num, by omega, HN.out⟩
        case measure => simp [intOf]; omega
    · have HF : Hid (l.any (fun x => x.1 == t) = false) := by
        have := HA.out
        rw [List.take_of_length_le (by omega)] at this
        exact this
      have hlt' : ¬ ((k : Int) < (n : Int)) := by omega
      go_wp2_with fail
      go_ret
      exact ⟨by rw [HF.out]; rfl, rfl⟩

set_option maxRecDepth 100000 in
theorem find_any {c : Nat} {w : World} {q : Nat} {D : List Dl} (h : DT c w q D) (a : Int) (hl : D.length ≤ 3000) :
    Calls Try.prog 28 #[.pointer (some ⟨q, 0, none⟩), .int .i64 a] w fun e w' => e = .returned (.int .i64 (fdA (fdT (told D) a))) ∧ w' = w := by
  obtain ⟨ad, cap, hc, -, -, hr⟩ := h.get
  have HR : Hid (∀ i d, D[i]? = some d → ∃ b r, ad = some ⟨b, r, none⟩ ∧ Dx c w q D i d b (r + i * 6)) := hr
  clear h hr
  generalize hn : D.length = n at *
  go_enter Try.func28, Try.ntmps28
  go_wp2_with fail
  go_loop [5] (fun i => ∃ (k : Nat), i = .int .i64 (k : Int) ∧ k ≤ n ∧ ∀ o ∈ (told D).take k, o.1 ≠ a) (fun i => n - (intOf i).toNat)
  case atStart => exact ⟨0, rfl, Nat.zero_le _, fun o ho => by simp at ho⟩
  case round =>
    obtain ⟨k, rfl, hk, hall⟩ := hrel
    have HA : Hid (∀ o ∈ (told D).take k, o.1 ≠ a) := hall
    clear hall
    by_cases hlt : k < n
    · obtain ⟨d, hx⟩ : ∃ x, D[k]? = some x := ⟨_, List.getElem?_eq_getElem (by omega)⟩
      obtain ⟨b, off, had, hdx⟩ := HR.out k d hx
      obtain ⟨hc1, -⟩ := hdx.cells
      subst had
      clear hdx
      have hx' : (told D)[k]? = some (d.at_, d.x) := by unfold told; rw [List.getElem?_map, hx]; rfl
      have hlt' : (k : Int) < (n : Int) := by omega
      by_cases he : d.at_ = a
      · have HF : Hid (fdT (told D) a = some k) := fdT_some HA.out hx' he
        have heq : (d.at_ == a) = true := by simp [he]
        clear hx he hx'
        generalize d.at_ = xa at *
        go_wp2_with fail
        go_ret
        exact ⟨by rw [HF.out]; rfl, rfl⟩
      · have HN : Hid (∀ o ∈ (told D).take (k + 1), o.1 ≠ a) := fun o ho => by
          rw [take_next _ k _ hx'] at ho
          rcases List.mem_append.1 ho with ho | ho
          · exact HA.out o ho
          · simp at ho
            rw [ho]
            exact he
        have heq : (d.at_ == a) = false := by simp [he]
        clear hx he hx'
        generalize d.at_ = xa at *
        go_wp2_with fail
        go_round
        case rel => exact ⟨k + 1, by go_num, by omega, HN.out⟩
        case measure => simp [intOf]; omega
    · have HF : Hid (fdT (told D) a = none) := fdT_none HA.out (by rw [told_length]; omega)
      have hlt' : ¬ ((k : Int) < (n : Int)) := by omega
      go_wp2_with fail
      go_ret
      exact ⟨by rw [HF.out]; rfl, rfl⟩
end Go.Proofs.Ytkkpimpmhnnbjaa
