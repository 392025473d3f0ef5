/- A thing of a row of one's own is written anew. -/
import Derived.Test.YtpfkigoffllieaaGreatDoorJaf
import Derived.Deep.MidRow
import Derived.Test.YtpfkigoffllieaaGreatDoorJaa
import Derived.OrdersHeld
namespace Go.Proofs.YtpfkigoffllieaaGreatDoor
open Go.ChangeShapes Go.WideShapes Go.ChangeAt Go.RowKit

/-- The cells from o on, written one by one. -/
def sets (cur : Array Value) (o : Nat) : List Value → Array Value
  | [] => cur
  | u :: r => sets (cur.setIfInBounds o u) (o + 1) r

theorem sets_size : ∀ (us : List Value) (cur : Array Value) (o : Nat), (sets cur o us).size = cur.size
  | [], _, _ => rfl
  | u :: r, cur, o => by unfold sets; rw [sets_size r]; simp

theorem sets_out : ∀ (us : List Value) (cur : Array Value) (o j : Nat), (j < o ∨ o + us.length ≤ j) → (sets cur o us)[j]? = cur[j]?
  | [], _, _, _, _ => rfl
  | u :: r, cur, o, j, h => by
    unfold sets
    simp only [List.length_cons] at h
    rw [sets_out r _ (o + 1) j (by omega), Array.getElem?_setIfInBounds, if_neg (by omega)]

theorem sets_in : ∀ (us : List Value) (cur : Array Value) (o j : Nat) (u : Value), us[j]? = some u → o + us.length ≤ cur.size → (sets cur o us)[o + j]? = some u
  | [], _, _, _, _, h, _ => by simp at h
  | x :: r, cur, o, 0, u, h, hs => by
    simp only [List.length_cons] at hs
    simp only [List.getElem?_cons_zero, Option.some.injEq] at h
    subst h
    unfold sets
    show (sets (cur.setIfInBounds o x) (o + 1) r)[o]? = some x
    rw [sets_out r _ (o + 1) o (by omega), Array.getElem?_setIfInBounds, if_pos rfl, if_pos (by omega)]
  | x :: r, cur, o, j + 1, u, h, hs => by
    simp only [List.length_cons] at hs
    unfold sets
    have := sets_in r (cur.setIfInBounds o x) (o + 1) j u (by simpa using h) (by simp; omega)
    rwa [show o + 1 + j = o + (j + 1) by omega] at this

section
variable {α : Type} {K : El α}

theorem OwnG.cur {w : World} {g n cap : Nat} {l : List α} (h : OwnG K w (.slice (some ⟨g, 0, none⟩) n cap) l) : ∃ cur, w.heap[g]? = some (.cells cur K.e (0, 0)) ∧ n = l.length ∧ l.length ≤ cap ∧ cap ≤ maxLen ∧ cur.size = cap * K.n ∧ cur.toList.take (l.length * K.n) = cg K l ∧ ∀ u ∈ cur.toList, nob u := by
  rcases h.1.2 with ⟨e, _⟩ | ⟨g', cap', cur, e, hb, hg, hn, hm, hs, ht⟩
  · simp at e
  · simp only [Value.slice.injEq, Option.some.injEq, Addr.mk.injEq] at e
    obtain ⟨⟨rfl, _⟩, rfl, rfl⟩ := e
    exact ⟨cur, hg, rfl, hn, hm, hs, ht, h.2 g cur K.e (0, 0) rfl hg⟩

theorem OwnG.cell (hK : K.Ok) {w : World} {g n cap : Nat} {l : List α} (h : OwnG K w (.slice (some ⟨g, 0, none⟩) n cap) l) {i : Nat} {x : α} (hx : l[i]? = some x) {j : Nat} {u : Value} (hj : (K.f x)[j]? = some u) : w.cell? ⟨g, i * K.n + j, none⟩ = some u := by
  have := World.ownsRow.cells h.1 (g := g) rfl (i * K.n + j) _ (cg_get hK l i x hx j u hj)
  rw [Addr.add_lit] at this
  simpa using this

/-- One thing of a row is another one now. -/
theorem OwnG.put (hK : K.Ok) {w w' : World} {g n cap : Nat} {l : List α} (h : OwnG K w (.slice (some ⟨g, 0, none⟩) n cap) l) {cur cur' : Array Value} (hb : w.heap[g]? = some (.cells cur K.e (0, 0))) (hb' : w'.heap[g]? = some (.cells cur' K.e (0, 0)))
    (hsz : cur'.size = cur.size) {k : Nat} (hk : k < l.length) (x : α) (hin : ∀ j u, (K.f x)[j]? = some u → cur'[k * K.n + j]? = some u) (hout : ∀ j, (j < k * K.n ∨ k * K.n + K.n ≤ j) → cur'[j]? = cur[j]?) :
    OwnG K w' (.slice (some ⟨g, 0, none⟩) n cap) (l.set k x) := by
  obtain ⟨c0, hc0, rfl, hn, hm, hs, ht, hnb⟩ := h.cur
  rw [hb] at hc0
  simp only [Option.some.injEq, Obj.cells.injEq] at hc0
  obtain ⟨rfl, _, _⟩ := hc0
  have hp := hK.pos
  have hcap : (l.length) * K.n ≤ cap * K.n := Nat.mul_le_mul_right _ hn
  have htk : cur'.toList.take (l.length * K.n) = cg K (l.set k x) := by
    apply List.ext_getElem?
    intro i
    by_cases hi : i < l.length * K.n
    · have hq : i / K.n < l.length := Nat.div_lt_of_lt_mul (by rw [Nat.mul_comm]; exact hi)
      have hd : i / K.n * K.n + i % K.n = i := by rw [Nat.mul_comm]; exact Nat.div_add_mod i K.n
      have hmod : i % K.n < K.n := Nat.mod_lt _ hp
      rw [List.getElem?_take, if_pos hi, Array.getElem?_toList]
      by_cases hqk : i / K.n = k
      · have hx : (l.set k x)[i / K.n]? = some x := by rw [hqk, List.getElem?_set_self hk]
        obtain ⟨u, hu⟩ : ∃ u, (K.f x)[i % K.n]? = some u := ⟨_, List.getElem?_eq_getElem (by rw [hK.len]; exact hmod)⟩
        have e1 := cg_get hK (l.set k x) _ x hx _ u hu
        have e2 := hin _ u hu
        rw [hd] at e1
        rw [← hqk, hd] at e2
        rw [e1, e2]
      · obtain ⟨y, hy⟩ : ∃ y, l[i / K.n]? = some y := ⟨_, List.getElem?_eq_getElem hq⟩
        have hx : (l.set k x)[i / K.n]? = some y := by rw [List.getElem?_set_ne (Ne.symm hqk)]; exact hy
        obtain ⟨u, hu⟩ : ∃ u, (K.f y)[i % K.n]? = some u := ⟨_, List.getElem?_eq_getElem (by rw [hK.len]; exact hmod)⟩
        have e1 := cg_get hK (l.set k x) _ y hx _ u hu
        have e2 := cg_get hK l _ y hy _ u hu
        rw [hd] at e1 e2
        rw [e1, ← e2, ← ht, List.getElem?_take, if_pos hi, Array.getElem?_toList]
        refine hout i ?_
        rcases Nat.lt_or_gt_of_ne hqk with hlt | hgt
        · left
          have : (i / K.n + 1) * K.n ≤ k * K.n := Nat.mul_le_mul_right _ hlt
          rw [Nat.add_mul, Nat.one_mul] at this
          omega
        · right
          have : (k + 1) * K.n ≤ i / K.n * K.n := Nat.mul_le_mul_right _ hgt
          rw [Nat.add_mul, Nat.one_mul] at this
          omega
    · rw [List.getElem?_eq_none (by rw [List.length_take]; omega), List.getElem?_eq_none (by rw [cg_length hK, List.length_set]; omega)]
  refine ⟨⟨by rw [cg_length hK], .inr ⟨g, cap, cur', by simp, Nat.zero_le _, hb', by simpa using hn, hm, by rw [hsz, hs], ?_⟩⟩, fun k' cu t fz hk' hc => ?_⟩
  · rw [List.length_set]; exact htk
  · simp only [Value.ownBlock, Option.some.injEq] at hk'
    subst hk'
    rw [hb'] at hc
    simp only [Option.some.injEq, Obj.cells.injEq] at hc
    obtain ⟨rfl, _, _⟩ := hc
    intro u hu
    obtain ⟨j, hj⟩ := List.mem_iff_getElem?.1 hu
    rw [Array.getElem?_toList] at hj
    by_cases hr : j < k * K.n ∨ k * K.n + K.n ≤ j
    · rw [hout j hr] at hj
      exact hnb u (Array.mem_toList_iff.2 (Array.mem_of_getElem? hj))
    · obtain ⟨v, hv⟩ : ∃ v, (K.f x)[j - k * K.n]? = some v := ⟨_, List.getElem?_eq_getElem (by rw [hK.len]; omega)⟩
      have := hin _ v hv
      rw [show k * K.n + (j - k * K.n) = j by omega, hj] at this
      simp only [Option.some.injEq] at this
      subst this
      exact hK.nb x _ (List.mem_of_getElem? hv)

/-- .. by its cells. -/
theorem OwnG.puts (hK : K.Ok) {w w' : World} {g n cap : Nat} {l : List α} (h : OwnG K w (.slice (some ⟨g, 0, none⟩) n cap) l) {cur : Array Value} (hb : w.heap[g]? = some (.cells cur K.e (0, 0))) {k : Nat} (hk : k < l.length) (x : α)
    (hb' : w'.heap[g]? = some (.cells (sets cur (k * K.n) (K.f x)) K.e (0, 0))) : OwnG K w' (.slice (some ⟨g, 0, none⟩) n cap) (l.set k x) := by
  obtain ⟨c0, hc0, rfl, hn, hm, hs, ht, hnb⟩ := h.cur
  rw [hb] at hc0
  simp only [Option.some.injEq, Obj.cells.injEq] at hc0
  obtain ⟨rfl, _, _⟩ := hc0
  refine h.put hK hb hb' (sets_size _ _ _) hk x (fun j u hj => sets_in _ _ _ _ _ hj ?_) (fun j hj => sets_out _ _ _ _ (by rw [hK.len]; exact hj))
  rw [hK.len, hs]
  have : (k + 1) * K.n ≤ cap * K.n := Nat.mul_le_mul_right _ (by omega)
  rw [Nat.add_mul, Nat.one_mul] at this
  exact this
end

theorem setCells_heap (g : Nat) (t : TypeId) : ∀ (us : List Value) (w : World) (o : Nat) (cur : Array Value), w.heap[g]? = some (.cells cur t (0, 0)) → (w.setCells g o us).heap[g]? = some (.cells (sets cur o us) t (0, 0))
  | [], _, _, _, h => h
  | u :: r, w, o, _, h => setCells_heap g t r (w.setCell ⟨g, o, none⟩ u) (o + 1) _ (set_at h)

theorem setCells_fr (g : Nat) : ∀ (us : List Value) (w : World) (o : Nat), Fr (fun k => k = g) w (w.setCells g o us)
  | [], w, _ => Fr.refl _ w
  | u :: r, w, o => ((Fr.refl (fun k => k = g) w).setCell (p := ⟨g, o, none⟩) (fun _ => rfl) u).trans (setCells_fr g r (w.setCell ⟨g, o, none⟩ u) (o + 1)) (fun _ _ e => e) (fun _ _ e => e)

/-- A store of a struct into a row. -/
theorem store_mid (w : World) (g o : Nat) (ty t : TypeId) (cur cells : Array Value) (hg : w.heap[g]? = some (.cells cur t (0, 0))) (hs : o + cells.size ≤ cur.size) (hi : (Tryz.prog.info? ty).map (·.size) = some cells.size) (h1 : cells.all (·.oneCell') = true) :
    ∃ w', (Instr.storeAt ty (.pointer (some ⟨g, o, none⟩)) (.agg cells)).run Tryz.prog w = .ok () w' ∧ w'.heap[g]? = some (.cells (sets cur o cells.toList) t (0, 0)) ∧ Fr (fun k => k = g) w w' :=
  ⟨_, run_storeAt_mid w g o ty cells (fun j hj => ⟨by rw [cell_at hg, Array.getElem?_eq_getElem (by omega)]; rfl, frozen_at hg⟩) hi h1, setCells_heap g t _ _ _ _ hg, setCells_fr g _ _ _⟩
end Go.Proofs.YtpfkigoffllieaaGreatDoor

/- A law on regions that draw their order: what is read may be taken first, if nothing that is written comes up ahead of one operation that waits for the readings. -/
namespace Go.Proofs.YtpfkigoffllieaaGreatDoor
section
variable {ops : Array Oper} {Q : Exit → Act → World → Prop} {S : World → Prop} {g : Nat}

/-- Whichever order is drawn; S holds behind each operation, as long as number g hasn't come up. -/
def wpLate (ops : Array Oper) (Q : Exit → Act → World → Prop) (S : World → Prop) (g : Nat) : Nat → Array Bool → Act → World → Prop
  | 0, L, a, w => Region.ready .any ops L = [] ∧ Q .normal a w
  | n + 1, L, a, w => (Region.ready .any ops L = [] → Q .normal a w) ∧
      ∀ j, j ∈ Region.ready .any ops L → wpOp Tryz.prog ops Q j (fun a' w' => ((L.setIfInBounds j true).getD g true = false → S w') ∧ wpLate ops Q S g n (L.setIfInBounds j true) a' w') a w

theorem wpLate.any : ∀ {n : Nat} {L : Array Bool} {a : Act} {w : World}, wpLate ops Q S g n L a w → wpAny Tryz.prog .any ops Q n L a w
  | 0, _, _, _, h => h
  | _ + 1, _, _, _, h => ⟨h.1, fun j hj => wpOp_mono (fun _ _ k => k.2.any) (h.2 j hj)⟩

/-- What a region asks of the tape. -/
theorem late_begin {id : Nat} {a : Act} {w : World} (hm : Tryz.prog.follows .mixedOrders = true) (h : wpLate ops Q S g ops.size (Array.replicate ops.size false) a w.drew) : (Code.region id ops true).wp Tryz.prog Q a w :=
  wp_region_any hm h.any

/-- g waits for i. -/
def Waits (ops : Array Oper) (g i : Nat) : Prop := ∃ og, ops[g]? = some og ∧ ∃ e, e ∈ og.after ∧ Region.binds .any e = true ∧ e.on = i

theorem not_ready {L : Array Bool} {i : Nat} (hw : Waits ops g i) (hi : L.getD i true = false) : g ∉ Region.ready .any ops L := by
  intro hg
  obtain ⟨_, o, ho, hall⟩ := mem_ready.1 hg
  obtain ⟨og, hog, e, he, hb, hon⟩ := hw
  rw [ho] at hog
  simp only [Option.some.injEq] at hog
  subst hog
  have h1 := hall e he hb
  rw [hon] at h1
  by_cases hlt : i < L.size
  · simp [Array.getD, hlt] at hi h1
    rw [hi] at h1
    cases h1
  · simp [Array.getD, hlt] at h1

theorem late_first {i : Nat} {oi : Oper} {v : Value} (hi : ops[i]? = some oi) (hs : Region.noSelect ops = true) (hQ : ∀ c a w, Q (.panic c) (a.put oi.dst v) w → Q (.panic c) a w) (hw : Waits ops g i) (hgi : i ≠ g) :
    ∀ (n : Nat) (L : Array Bool) (a : Act) (w : World), (∀ j oj, ops[j]? = some oj → j ≠ i → L.getD j true = false → (∀ e ∈ oj.after, Region.binds .any e = true → e.on ≠ i) → oi.apart ops oj = true) →
      i ∈ Region.ready .any ops L → L.getD g true = false → YieldsIf Tryz.prog ops S oi v a → S w → wpLate ops Q S g n (L.setIfInBounds i true) (a.put oi.dst v) w → wpLate ops Q S g (n + 1) L a w := by
  have ns := fun k o cs b (ho : ops[k]? = some o) => Region.noSelect_spec hs k o cs b ho
  intro n
  induction n with
  | zero =>
    intro L a w _ hr _ hy hS H
    constructor
    · intro e
      rw [e] at hr
      exact absurd hr (by simp)
    · intro j hj
      by_cases hji : j = i
      · rw [hji]; exact hy.wpOp hi hS ⟨fun _ => hS, hji ▸ H⟩
      · exact absurd (ready_mono hj hji) (by rw [H.1]; simp)
  | succ n ih =>
    intro L a w hf hr hg hy hS H
    constructor
    · intro e
      rw [e] at hr
      exact absurd hr (by simp)
    · intro j hj
      by_cases hji : j = i
      · rw [hji]; exact hy.wpOp hi hS ⟨fun _ => hS, hji ▸ H⟩
      · have hiu := (mem_ready.1 hr).1
        have hjg : j ≠ g := fun e => not_ready hw hiu (e ▸ hj)
        obtain ⟨hju, oj, hoj, hall⟩ := mem_ready.1 hj
        have hno : ∀ e ∈ oj.after, Region.binds .any e = true → e.on ≠ i := fun e he hb hon =>
          not_ready (g := j) ⟨oj, hoj, e, he, hb, hon⟩ hiu hj
        have step := wpOp_putIf hoj (hf j oj hoj hji hju hno) (fun cs b => ns i oi cs b hi) (fun cs b => ns j oj cs b hoj) hQ hy (H.2 j (ready_mono hj hji))
        refine wpOp_mono (fun a' w' k => ?_) step
        have hgL : (L.setIfInBounds j true).getD g true = false := by rw [getD_set_ne true hjg]; exact hg
        have hS' : S w' := k.2.1 (by rw [getD_set_ne true hjg, getD_set_ne true hgi]; exact hg)
        refine ⟨fun _ => hS', ih _ a' w' (fun m om hm hmi hmu hmo => hf m om hm hmi ?_ hmo) (ready_mono hr (Ne.symm hji)) hgL k.1 hS' ?_⟩
        · by_cases hjm : j = m
          · exact hjm ▸ hju
          · rwa [getD_set_ne true hjm] at hmu
        · rw [Array.setIfInBounds_comm _ _ hji]
          exact k.2.2

def waitsB (ops : Array Oper) (g i : Nat) : Bool := match ops[g]? with | some o => o.after.any (fun e => Region.binds .any e && e.on == i) | none => false

theorem waits_of {i : Nat} (h : waitsB ops g i = true) : Waits ops g i := by
  unfold waitsB at h
  cases ho : ops[g]? with
  | none => rw [ho] at h; simp at h
  | some o =>
    rw [ho] at h
    obtain ⟨k, hk, e⟩ := Array.any_eq_true.1 h
    simp only [Bool.and_eq_true, beq_iff_eq] at e
    exact ⟨o, ho, _, Array.getElem_mem hk, e.1, e.2⟩

/-- An operation that yields its value in whatever world may be taken first. -/
theorem late_pure_first {i : Nat} {oi : Oper} {v : Value} (hi : ops[i]? = some oi) (hs : Region.noSelect ops = true) (hQ : ∀ c a w, Q (.panic c) (a.put oi.dst v) w → Q (.panic c) a w) (hgi : i ≠ g) :
    ∀ (n : Nat) (L : Array Bool) (a : Act) (w : World), (∀ j oj, ops[j]? = some oj → j ≠ i → L.getD j true = false → (∀ e ∈ oj.after, Region.binds .any e = true → e.on ≠ i) → oi.apart ops oj = true) →
      i ∈ Region.ready .any ops L → YieldsIf Tryz.prog ops (fun _ => True) oi v a → (L.getD g true = false → S w) → wpLate ops Q S g n (L.setIfInBounds i true) (a.put oi.dst v) w → wpLate ops Q S g (n + 1) L a w := by
  have ns := fun k o cs b (ho : ops[k]? = some o) => Region.noSelect_spec hs k o cs b ho
  intro n
  induction n with
  | zero =>
    intro L a w _ hr hy hS H
    refine ⟨fun e => absurd hr (by rw [e]; simp), fun j hj => ?_⟩
    by_cases hji : j = i
    · rw [hji]; exact hy.wpOp hi trivial ⟨fun h => hS (by rwa [getD_set_ne true hgi] at h), hji ▸ H⟩
    · exact absurd (ready_mono hj hji) (by rw [H.1]; simp)
  | succ n ih =>
    intro L a w hf hr hy hS H
    refine ⟨fun e => absurd hr (by rw [e]; simp), fun j hj => ?_⟩
    by_cases hji : j = i
    · rw [hji]; exact hy.wpOp hi trivial ⟨fun h => hS (by rwa [getD_set_ne true hgi] at h), hji ▸ H⟩
    · have hiu := (mem_ready.1 hr).1
      obtain ⟨hju, oj, hoj, hall⟩ := mem_ready.1 hj
      have hno : ∀ e ∈ oj.after, Region.binds .any e = true → e.on ≠ i := fun e he hb hon => not_ready (g := j) ⟨oj, hoj, e, he, hb, hon⟩ hiu hj
      have step := wpOp_putIf hoj (hf j oj hoj hji hju hno) (fun cs b => ns i oi cs b hi) (fun cs b => ns j oj cs b hoj) hQ hy (H.2 j (ready_mono hj hji))
      refine wpOp_mono (fun a' w' k => ?_) step
      have hS' : (L.setIfInBounds j true).getD g true = false → S w' := fun h => k.2.1 (by rw [Array.setIfInBounds_comm _ _ (Ne.symm hji), getD_set_ne true hgi]; exact h)
      refine ⟨hS', ih _ a' w' (fun m om hm hmi hmu hmo => hf m om hm hmi ?_ hmo) (ready_mono hr (Ne.symm hji)) k.1 hS' ?_⟩
      · by_cases hjm : j = m
        · exact hjm ▸ hju
        · rwa [getD_set_ne true hjm] at hmu
      · rw [Array.setIfInBounds_comm _ _ hji]
        exact k.2.2

theorem late_pure (i : Nat) (v : Value) {oi : Oper} {n : Nat} {L : Array Bool} {a : Act} {w : World} (hi : ops[i]? = some oi) (hs : Region.noSelect ops = true) (hf : Region.free .any ops L i = true) (hr : (Region.ready .any ops L).contains i = true)
    (hQ : ∀ c a w, Q (.panic c) (a.put oi.dst v) w → Q (.panic c) a w) (hgi : i ≠ g) (hy : YieldsIf Tryz.prog ops (fun _ => True) oi v a) (hS : L.getD g true = false → S w)
    (h : wpLate ops Q S g n (L.setIfInBounds i true) (a.put oi.dst v) w) : wpLate ops Q S g (n + 1) L a w :=
  late_pure_first hi hs hQ hgi n L a w (Region.free_spec hi hf) (by simpa using hr) hy hS h

/-- Number i first. -/
theorem late_take (i : Nat) (v : Value) {oi : Oper} {n : Nat} {L : Array Bool} {a : Act} {w : World} (hi : ops[i]? = some oi) (hs : Region.noSelect ops = true) (hf : Region.free .any ops L i = true) (hr : (Region.ready .any ops L).contains i = true)
    (hQ : ∀ c a w, Q (.panic c) (a.put oi.dst v) w → Q (.panic c) a w) (hw : Waits ops g i) (hgi : i ≠ g) (hg : L.getD g true = false) (hy : YieldsIf Tryz.prog ops S oi v a) (hS : S w)
    (h : wpLate ops Q S g n (L.setIfInBounds i true) (a.put oi.dst v) w) : wpLate ops Q S g (n + 1) L a w :=
  late_first hi hs hQ hw hgi n L a w (Region.free_spec hi hf) (by simpa using hr) hg hy hS h

/-- Whichever of these comes up. -/
theorem late_all (rs : List Nat) {n : Nat} {L : Array Bool} {a : Act} {w : World} (hr : Region.ready .any ops L = rs) (hne : rs ≠ [])
    (h : ∀ j, j ∈ rs → wpOp Tryz.prog ops Q j (fun a' w' => ((L.setIfInBounds j true).getD g true = false → S w') ∧ wpLate ops Q S g n (L.setIfInBounds j true) a' w') a w) : wpLate ops Q S g (n + 1) L a w :=
  ⟨fun e => absurd (hr ▸ e) hne, fun j hj => h j (hr ▸ hj)⟩

theorem late_done {n : Nat} {L : Array Bool} {a : Act} {w : World} (hr : Region.ready .any ops L = []) (h : Q .normal a w) : wpLate ops Q S g n L a w := by
  cases n with
  | zero => exact ⟨hr, h⟩
  | succ n => exact ⟨fun _ => h, fun j hj => by rw [hr] at hj; simp at hj⟩

/-- An operation that nothing guards. -/
theorem late_op {i : Nat} {o : Oper} {a : Act} {w : World} {K : Act → World → Prop} (hi : ops[i]? = some o) (hg : o.guard = none) {v : Value} {w' : World} (h : (execOp a.eval o).run Tryz.prog w = .ok (.value v) w') (hK : K (a.put o.dst v) w') : wpOp Tryz.prog ops Q i K a w := by
  have hw : Region.wanted o (yielded ops a.tmps) = true := by unfold Region.wanted; rw [hg]
  unfold wpOp
  simp only [hi]
  rw [if_pos hw]
  refine .inl ?_
  unfold Oper.wp
  rw [h]
  exact hK

theorem late_skip {i : Nat} {o : Oper} {a : Act} {w : World} {K : Act → World → Prop} (hi : ops[i]? = some o) (hg : o.guard = none) {w' : World} (h : (execOp a.eval o).run Tryz.prog w = .ok .skip w') (hK : K (a.put o.dst undef) w') : wpOp Tryz.prog ops Q i K a w := by
  have hw : Region.wanted o (yielded ops a.tmps) = true := by unfold Region.wanted; rw [hg]
  unfold wpOp
  simp only [hi]
  rw [if_pos hw]
  refine .inl ?_
  unfold Oper.wp
  rw [h]
  exact hK

/-- A call of a function, by its contract. -/
theorem late_call {i f : Nat} {o : Oper} {a : Act} {w : World} {K : Act → World → Prop} (hi : ops[i]? = some o) (hg : o.guard = none) {vals : Array Value} (hrun : (execOp a.eval o).run Tryz.prog w = .ok (.enter f vals) w)
    {R : Value → World → Prop} (C : Calls Tryz.prog f vals w fun e w' => ∃ v, e = .returned v ∧ R v w') (hK : ∀ v w', R v w' → K (a.put o.dst v) w') : wpOp Tryz.prog ops Q i K a w := by
  have hw : Region.wanted o (yielded ops a.tmps) = true := by unfold Region.wanted; rw [hg]
  unfold wpOp
  simp only [hi]
  rw [if_pos hw]
  refine .inl ?_
  unfold Oper.wp
  rw [hrun, Oper.upon_enter]
  refine C.mono ?_
  rintro e w' ⟨v, rfl, hr⟩
  exact hK v w' hr

theorem yields {o : Oper} {a : Act} {v : Value} (hg : o.guard = none) (h : ∀ w, S w → (execOp a.eval o).run Tryz.prog w = .ok (.value v) w) : YieldsIf Tryz.prog ops S o v a :=
  .inl ⟨by unfold Region.wanted; rw [hg], h⟩
end

/-! ### What the operations tell -/
section
variable {o : Oper} {a : Act} {w : World}
theorem ev_move (x : Nat) (v : Value) (ho : o.op = .move (.tmp x)) (hx : a.eval (.tmp x) = v) : (execOp a.eval o).run Tryz.prog w = .ok (.value v) w := by
  unfold execOp; simp [ho, hx]
theorem ev_assign (x : Nat) (v : Value) (ho : o.op = .assign (.tmp x)) (hx : a.eval (.tmp x) = v) : (execOp a.eval o).run Tryz.prog w = .ok (.value v) w := by
  unfold execOp; simp [ho, hx]
theorem ev_nil (x : Nat) (q : Addr) (ho : o.op = .nilCheck (.tmp x)) (hx : a.eval (.tmp x) = .pointer (some q)) : (execOp a.eval o).run Tryz.prog w = .ok (.value (.pointer (some q))) w := by
  unfold execOp; rw [ho]; simp only [hx]; simp [go_sem]
theorem ev_field (t : TypeId) (x i : Nat) (v u : Value) (ho : o.op = .fieldAddr t (.tmp x) i) (hx : a.eval (.tmp x) = v) (hr : (Instr.fieldAt t v i).run Tryz.prog w = .ok u w) : (execOp a.eval o).run Tryz.prog w = .ok (.value u) w := by
  unfold execOp; simp [ho, hx, hr]
theorem ev_load (t : TypeId) (x : Nat) (v u : Value) (ho : o.op = .load t (.tmp x)) (hx : a.eval (.tmp x) = v) (hr : (Instr.loadAt t v).run Tryz.prog w = .ok u w) : (execOp a.eval o).run Tryz.prog w = .ok (.value u) w := by
  unfold execOp; simp [ho, hx, hr]
theorem ev_index (t : TypeId) (x y : Nat) (v i u : Value) (ho : o.op = .indexAddr t (.tmp x) (.tmp y)) (hx : a.eval (.tmp x) = v) (hy : a.eval (.tmp y) = i) (hr : (Instr.indexAt t v i).run Tryz.prog w = .ok u w) : (execOp a.eval o).run Tryz.prog w = .ok (.value u) w := by
  unfold execOp; simp [ho, hx, hy, hr]
theorem ev_append (t : TypeId) (x y : Nat) (v u v' : Value) (w' : World) (ht : o.type = t) (ho : o.op = Op.call { callee := Callee.builtin Builtin.append, args := #[.tmp x, .tmp y], argTypes := #[t, t] }) (hx : a.eval (.tmp x) = v) (hy : a.eval (.tmp y) = u) (hr : (Builtin.append_ #[t, t] t #[v, u]).run Tryz.prog w = .ok v' w') : (execOp a.eval o).run Tryz.prog w = .ok (.value v') w' := by
  unfold execOp; simp [ho, ht, hx, hy, resolve, invoke, builtin, hr, Result.andThen]
theorem ev_store (t : TypeId) (x y : Nat) (p v : Value) (w' : World) (ho : o.op = .store t (.tmp x) (.tmp y)) (hx : a.eval (.tmp x) = p) (hy : a.eval (.tmp y) = v) (hr : (Instr.storeAt t p v).run Tryz.prog w = .ok () w') : (execOp a.eval o).run Tryz.prog w = .ok .skip w' := by
  unfold execOp; simp [ho, hx, hy, hr, Result.andThen]
end

/-- A struct that fills its block. -/
theorem load_row (w : World) (b : Nat) (ty : TypeId) (cs : Array Value) (d : TypeDesc) (h : w.heap[b]? = some (.cells cs ty (0, 0))) (hu : Tryz.prog.underlying ty = some d) (hd : d.isRow = true) (hi : (Tryz.prog.info? ty).map (·.size) = some cs.size) : (Instr.loadAt ty (.pointer (some ⟨b, 0, none⟩))).run Tryz.prog w = .ok (.agg cs) w := by
  have := run_loadAt_mid (P := Tryz.prog) w b 0 ty cs.toList d (fun j v hv => by unfold World.cell?; simp only [h]; rw [Nat.zero_add]; simpa using hv) hu hd (by simpa using hi)
  simpa using this

/-- A struct within a block. -/
theorem load_at (w : World) (b o : Nat) (ty t : TypeId) (cs : List Value) (cur : Array Value) (d : TypeDesc) (h : w.heap[b]? = some (.cells cur t (0, 0))) (hc : ∀ j v, cs[j]? = some v → cur[o + j]? = some v) (hu : Tryz.prog.underlying ty = some d) (hd : d.isRow = true) (hi : (Tryz.prog.info? ty).map (·.size) = some cs.length) : (Instr.loadAt ty (.pointer (some ⟨b, o, none⟩))).run Tryz.prog w = .ok (.agg cs.toArray) w :=
  run_loadAt_mid (P := Tryz.prog) w b o ty cs d (fun j v hv => by unfold World.cell?; simp only [h]; exact hc j v hv) hu hd hi
end Go.Proofs.YtpfkigoffllieaaGreatDoor

/- What a copy of a class holds. -/
namespace Go.Proofs.YtpfkigoffllieaaGreatDoor
open Go.ChangeShapes Go.WideShapes Go.ChangeAt Go.RowKit

/-- The rows of a class are its own. -/
structure ClOwn (w : World) (s : Ks) (c : Cl) : Prop where
  name : s.name = c.name
  super : s.super = c.super
  p : OwnG elCs w (.slice s.p.a s.p.n s.p.c) c.pool
  f : OwnG elFd w (.slice s.f.a s.f.n s.f.c) c.fields
  m : ∃ ls, OwnG elMs w (.slice s.m.a s.m.n s.m.c) ls ∧ ls.length = c.methods.length ∧ ∀ (i : Nat) (x : Ms) (m : Mt), ls[i]? = some x → c.methods[i]? = some m → MtOwn w x m

theorem ClOwn.at' {w : World} {s : Ks} {c : Cl} (h : ClOwn w s c) : ClAt w s c := by
  obtain ⟨ls, h1, h2, h3⟩ := h.m
  exact ⟨h.name, h.super, h.p.sl okCs, h.f.sl okFd, ls, h1.sl okMs, h2, fun i x m hx hm => (h3 i x m hx hm).at'⟩

theorem ClOwn.kept {S : Nat → Prop} {w w' : World} {s : Ks} {c : Cl} (h : ClOwn w s c) (hf : Fr S w w') (hS : Apart S w) : ClOwn w' s c := by
  obtain ⟨ls, h1, h2, h3⟩ := h.m
  refine ⟨h.name, h.super, h.p.kept hf (fun k hk hs => ?_), h.f.kept hf (fun k hk hs => ?_), ls, h1.kept hf (fun k hk hs => ?_), h2, fun i x m hx hm => (h3 i x m hx hm).kept hf hS.m⟩
  · obtain ⟨cur, hc⟩ := h.p.tag hk
    exact (hS k hs cur _ hc).1 rfl
  · obtain ⟨cur, hc⟩ := h.f.tag hk
    exact (hS k hs cur _ hc).2.1 rfl
  · obtain ⟨cur, hc⟩ := h1.tag hk
    exact (hS k hs cur _ hc).2.2.1 rfl

theorem ClOwn.keep {w w' : World} {s : Ks} {c : Cl} (h : ClOwn w s c) (hf : Fr no w w') : ClOwn w' s c := h.kept hf (Apart.no w)

theorem MtOwn.keep {w w' : World} {s : Ms} {m : Mt} (h : MtOwn w s m) (hf : Fr no w w') : MtOwn w' s m := h.kept hf (Apart.no w).m

theorem results_40 (w : World) (r : Nat) (x0 x1 x2 x3 x4 : Value) (h : w.heap[r]? = some (.cells #[x0, x1, x2, x3, x4] 68 (0, 0))) (tmps : Array Value) (h2 : tmps.getD 2 undef = .pointer (some ⟨r, 0, none⟩)) :
    (results Tryz.f52 tmps).run Tryz.prog w = .ok (.agg #[x0, x1, x2, x3, x4]) w := by
  have hl : (loadVar 68 ⟨r, 0, none⟩).run Tryz.prog w = .ok (.agg #[x0, x1, x2, x3, x4]) w := run_loadVar_row (P := Tryz.prog) w r 68 68 #[x0, x1, x2, x3, x4] (0, 0) _ h Tryz.underlying68 rfl (by kernel_rfl)
  have h2' : tmps[2]?.getD undef = .pointer (some ⟨r, 0, none⟩) := by simpa using h2
  simp [results, asAddr, h2', hl]

/-- A row that isn't empty has a block. -/
theorem OwnG.some_of {α : Type} {K : El α} {w : World} {q : Option Addr} {n c : Nat} {l : List α} (h : OwnG K w (.slice q n c) l) (hl : l ≠ []) : ∃ g, q = some ⟨g, 0, none⟩ := by
  rcases h.1.2 with ⟨e, h0⟩ | ⟨g, cap, cur, e, _⟩
  · exact absurd (List.eq_nil_of_length_eq_zero h0) hl
  · simp only [Value.slice.injEq] at e
    exact ⟨g, e.1⟩

set_option maxRecDepth 100000 in
set_option maxHeartbeats 4000000 in
theorem copyClass_any (w : World) (s : Ks) (c : Cl) (h : ClAt w s c) (hs : SmallC c) :
    Calls Tryz.prog 52 #[ksV s] w fun e w' => ∃ s', e = .returned (ksV s') ∧ ClOwn w' s' c ∧ Fr no w w' := by
  obtain ⟨sn, ss, sp, sf, sm⟩ := s
  obtain ⟨e1, e2, hp, hfi, ls0, hm, hma⟩ := h
  simp only [] at e1 e2 hp hfi hm
  subst e1 e2
  unfold ksV
  simp only []
  have HW : Hid (∃ W0, W0 = (w.alloc (.cells #[.string c.name, .string c.super, .slice sp.a sp.n sp.c, .slice sf.a sf.n sf.c, .slice sm.a sm.n sm.c] 68)).alloc (.cells #[.string ⟨#[]⟩, .string ⟨#[]⟩, .slice none 0 0, .slice none 0 0, .slice none 0 0] 68)) := ⟨_, rfl⟩
  obtain ⟨W0, hW0⟩ := HW.out
  have F0 : Fr no w W0 := by rw [hW0]; exact ((Fr.refl no w).alloc _ _).alloc _ _
  have A0 : W0.heap[w.heap.size]? = some (.cells #[.string c.name, .string c.super, .slice sp.a sp.n sp.c, .slice sf.a sf.n sf.c, .slice sm.a sm.n sm.c] 68 (0, 0)) := by
    rw [hW0]
    exact (Below.heap_alloc _ _ _ (by simp)).trans (heap_alloc_new w _)
  have B0 : W0.heap[w.heap.size + 1]? = some (.cells #[.string ⟨#[]⟩, .string ⟨#[]⟩, .slice none 0 0, .slice none 0 0, .slice none 0 0] 68 (0, 0)) := by
    rw [hW0]
    have : (w.alloc (.cells #[.string c.name, .string c.super, .slice sp.a sp.n sp.c, .slice sf.a sf.n sf.c, .slice sm.a sm.n sm.c] 68)).heap.size = w.heap.size + 1 := by simp
    rw [← this]
    exact heap_alloc_new _ _
  have Z0 : W0.heap.size = w.heap.size + 1 + 1 := by rw [hW0]; simp
  have hlen : ls0.length = c.methods.length := hma.1
  have C1 := cloneCs_any W0 _ _ (hp.kept F0) hs.p
  have H2 : Hid (∀ x, Fr no w x → Calls Tryz.prog 85 #[.slice sf.a sf.n sf.c] x fun e w' => ∃ v', e = .returned v' ∧ OwnG elFd w' v' c.fields ∧ NewV x v' ∧ Fr no x w') := fun x f => cloneFd_any x _ _ (hfi.kept f) hs.f
  have H3 : Hid (∀ x, Fr no w x → Calls Tryz.prog 86 #[.slice sm.a sm.n sm.c] x fun e w' => ∃ v', e = .returned v' ∧ OwnG elMs w' v' ls0 ∧ NewV x v' ∧ Fr no x w') := fun x f => cloneMs_any x _ _ (hm.kept f) (by rw [hlen]; exact hs.m)
  have H4 : Hid (∀ (i : Nat) (x : Ms) (m : Mt), ls0[i]? = some x → c.methods[i]? = some m → ∀ x', Fr no w x' → Calls Tryz.prog 61 #[msV x] x' fun e w' => ∃ s', e = .returned (msV s') ∧ MtOwn w' s' m ∧ Fr no x' w') :=
    fun i x m hx hm x' f => copyMethod_any x' x m ((hma.2 i x m hx hm).kept f) (hs.ms m (List.mem_of_getElem? hm))
  have HL : Hid (ls0.length = c.methods.length) := hlen
  have hn1 : c.methods.length ≤ 1000 := hs.m
  have HZ : Hid (W0.heap.size = w.heap.size + 1 + 1) := Z0
  have HA : Hid (_ ∧ _) := ⟨A0, B0⟩
  have HF : Hid (Fr no w W0) := F0
  obtain ⟨a0, a1, a2, a3, a4⟩ := box5 A0
  clear hp hfi hm hma hs A0 B0 F0 Z0 HW hlen
  generalize hcn : c.name = cn at *
  generalize hcs : c.super = cs at *
  generalize hnm : c.methods.length = nm at *
  go_enter Tryz.func52, Tryz.ntmps52
  go_wp2_with fail
  rw [← hW0]
  go_wp2_with fail
  refine C1.mono ?_
  rintro e w1 ⟨v1, rfl, o1, n1, f1⟩
  obtain ⟨q1, c1, rfl⟩ := o1.form
  have F1 : Fr no w w1 := HF.out.new f1 (fun _ _ f => f)
  have A1 := f1.heap HA.out.1 (fun f => f)
  have B1 := f1.heap HA.out.2 (fun f => f)
  have fz1 := frozen_at (o := 2) A1
  have Z1 : w.heap.size + 1 + 1 ≤ w1.heap.size := by have := f1.size; have := HZ.out; omega
  clear a0 a1 a2 a3 a4
  obtain ⟨a0, a1, a2, a3, a4⟩ := box5 A1
  have D1 : Fr (fun k => k = w.heap.size) w1 (w1.setCell ⟨w.heap.size, 2, none⟩ (.slice q1 c.pool.length c1)) := (Fr.refl (fun k => k = w.heap.size) w1).setCell (p := ⟨w.heap.size, 2, none⟩) (fun _ => rfl) _
  have A1' : (w1.setCell ⟨w.heap.size, 2, none⟩ (.slice q1 c.pool.length c1)).heap[w.heap.size]? = some (.cells #[.string cn, .string cs, .slice q1 c.pool.length c1, .slice sf.a sf.n sf.c, .slice sm.a sm.n sm.c] 68 (0, 0)) := set_at A1
  have B1' := D1.heap B1 (by omega)
  have F1' : Fr no w (w1.setCell ⟨w.heap.size, 2, none⟩ (.slice q1 c.pool.length c1)) := F1.new D1 (fun i hi e => by omega)
  have O1' := o1.kept D1 (fun k hk e => by have := n1 k hk; have := HZ.out; omega)
  have HK1 : Hid (_ ∧ _ ∧ _ ∧ _) := ⟨A1', B1', F1', O1'⟩
  clear A1' B1' F1' O1' A1 B1 F1 D1 o1 n1 f1
  go_wp2_with fail
  refine (H2.out _ HK1.out.2.2.1).mono ?_
  rintro e w2 ⟨v2, rfl, o2, n2, f2⟩
  obtain ⟨q2, c2, rfl⟩ := o2.form
  have F2 : Fr no w w2 := HK1.out.2.2.1.new f2 (fun _ _ f => f)
  have A2 := f2.heap HK1.out.1 (fun f => f)
  have B2 := f2.heap HK1.out.2.1 (fun f => f)
  have O12 := HK1.out.2.2.2.keep f2
  have Z2 : w.heap.size + 1 + 1 ≤ w2.heap.size := by have := f2.size; simp [World.setCell] at this; omega
  have fz2 := frozen_at (o := 3) A2
  clear a0 a1 a2 a3 a4
  obtain ⟨a0, a1, a2, a3, a4⟩ := box5 A2
  have D2 : Fr (fun k => k = w.heap.size) w2 (w2.setCell ⟨w.heap.size, 3, none⟩ (.slice q2 c.fields.length c2)) := (Fr.refl (fun k => k = w.heap.size) w2).setCell (p := ⟨w.heap.size, 3, none⟩) (fun _ => rfl) _
  have A2' : (w2.setCell ⟨w.heap.size, 3, none⟩ (.slice q2 c.fields.length c2)).heap[w.heap.size]? = some (.cells #[.string cn, .string cs, .slice q1 c.pool.length c1, .slice q2 c.fields.length c2, .slice sm.a sm.n sm.c] 68 (0, 0)) := set_at A2
  have B2' := D2.heap B2 (by omega)
  have F2' : Fr no w (w2.setCell ⟨w.heap.size, 3, none⟩ (.slice q2 c.fields.length c2)) := F2.new D2 (fun i hi e => by omega)
  have nt : ∀ {α : Type} {K : El α} {v : Value} {l : List α}, OwnG K w2 v l → K.e ≠ 68 → ∀ k, v.ownBlock = some k → ¬ k = w.heap.size := fun h hK k hk e => by
    obtain ⟨cur, hc⟩ := h.tag hk
    rw [e, A2] at hc
    simp only [Option.some.injEq, Obj.cells.injEq] at hc
    exact hK hc.2.1.symm
  have P12 := O12.kept D2 (nt O12 (by decide))
  have P22 := o2.kept D2 (nt o2 (by decide))
  have HK2 : Hid (_ ∧ _ ∧ _ ∧ _ ∧ _) := ⟨A2', B2', F2', P12, P22⟩
  clear A2' B2' F2' P12 P22 A2 B2 F2 D2 o2 n2 f2 nt O12 HK1
  go_wp2_with fail
  refine (H3.out _ HK2.out.2.2.1).mono ?_
  rintro e w3 ⟨v3, rfl, o3, n3, f3⟩
  obtain ⟨q3, c3, rfl⟩ := o3.form
  have F3 : Fr no w w3 := HK2.out.2.2.1.new f3 (fun _ _ f => f)
  have A3 := f3.heap HK2.out.1 (fun f => f)
  have B3 := f3.heap HK2.out.2.1 (fun f => f)
  have O13 := HK2.out.2.2.2.1.keep f3
  have O23 := HK2.out.2.2.2.2.keep f3
  have Z3 : w.heap.size + 1 + 1 ≤ w3.heap.size := by have := f3.size; simp [World.setCell] at this; omega
  have fz3 := frozen_at (o := 4) A3
  clear a0 a1 a2 a3 a4
  have D3 : Fr (fun k => k = w.heap.size) w3 (w3.setCell ⟨w.heap.size, 4, none⟩ (.slice q3 ls0.length c3)) := (Fr.refl (fun k => k = w.heap.size) w3).setCell (p := ⟨w.heap.size, 4, none⟩) (fun _ => rfl) _
  have A3' : (w3.setCell ⟨w.heap.size, 4, none⟩ (.slice q3 ls0.length c3)).heap[w.heap.size]? = some (.cells #[.string cn, .string cs, .slice q1 c.pool.length c1, .slice q2 c.fields.length c2, .slice q3 ls0.length c3] 68 (0, 0)) := set_at A3
  have B3' := D3.heap B3 (by omega)
  have F3' : Fr no w (w3.setCell ⟨w.heap.size, 4, none⟩ (.slice q3 ls0.length c3)) := F3.new D3 (fun i hi e => by omega)
  have nt : ∀ {α : Type} {K : El α} {v : Value} {l : List α}, OwnG K w3 v l → K.e ≠ 68 → ∀ k, v.ownBlock = some k → ¬ k = w.heap.size := fun h hK k hk e => by
    obtain ⟨cur, hc⟩ := h.tag hk
    rw [e, A3] at hc
    simp only [Option.some.injEq, Obj.cells.injEq] at hc
    exact hK hc.2.1.symm
  have P13 := O13.kept D3 (nt O13 (by decide))
  have P23 := O23.kept D3 (nt O23 (by decide))
  have P33 := o3.kept D3 (nt o3 (by decide))
  clear nt
  rw [HL.out] at A3' F3' P33 P13 P23 B3'
  have HN3 : Hid (∀ k, (Value.slice q3 nm c3).ownBlock = some k → w.heap.size ≤ k) := fun k hk => by
    have := n3 k (by rw [HL.out]; exact hk)
    simp [World.setCell] at this
    omega
  obtain ⟨y0, y1, y2, y3, y4⟩ := box5 A3
  obtain ⟨a0, a1, a2, a3, a4⟩ := box5 A3'
  have HK3 : Hid (_ ∧ _ ∧ _ ∧ _ ∧ _ ∧ _) := ⟨A3', B3', F3', P13, P23, P33⟩
  have ZV : w.heap.size + 1 + 1 ≤ (w3.setCell ⟨w.heap.size, 4, none⟩ (.slice q3 nm c3)).heap.size := by simp [World.setCell]; omega
  clear A3' B3' F3' P13 P23 P33 A3 B3 F3 D3 o3 f3 O13 O23 HK2
  rw [HL.out]
  go_wp2_with fail
  generalize hV : w3.setCell ⟨w.heap.size, 4, none⟩ (.slice q3 nm c3) = V at *
  clear y0 y1 y2 y3 y4 fz1 fz2 fz3 a0 a1 a2 a3 a4 hV H2 H3 C1 n3
  go_loopw [20] (fun i wr => ∃ (k : Nat) (ls : List Ms), i = .int .i64 (k : Int) ∧ k ≤ nm ∧ wr.heap[w.heap.size]? = some (.cells #[.string cn, .string cs, .slice q1 c.pool.length c1, .slice q2 c.fields.length c2, .slice q3 nm c3] 68 (0, 0)) ∧
    wr.heap[w.heap.size + 1]? = some (.cells #[.string ⟨#[]⟩, .string ⟨#[]⟩, .slice none 0 0, .slice none 0 0, .slice none 0 0] 68 (0, 0)) ∧ Fr no w wr ∧ OwnG elCs wr (.slice q1 c.pool.length c1) c.pool ∧ OwnG elFd wr (.slice q2 c.fields.length c2) c.fields ∧
    OwnG elMs wr (.slice q3 nm c3) ls ∧ ls.length = nm ∧ (∀ (j : Nat) (x : Ms) (m : Mt), j < k → ls[j]? = some x → c.methods[j]? = some m → MtOwn wr x m) ∧ (∀ j, k ≤ j → ls[j]? = ls0[j]?)) (fun i _ => nm - (intOf i).toNat)
  case atStart => exact ⟨0, ls0, rfl, Nat.zero_le _, HK3.out.1, HK3.out.2.1, HK3.out.2.2.1, HK3.out.2.2.2.1, HK3.out.2.2.2.2.1, HK3.out.2.2.2.2.2, HL.out, fun j x m hj => absurd hj (by omega), fun _ _ => rfl⟩
  case round =>
    obtain ⟨k, ls, rfl, hk, r1, r2, r3, r4, r5, r6, r7, r8, r9⟩ := hrel
    by_cases hlt : k < nm
    · have hki : (k : Int) < (nm : Int) := by omega
      obtain ⟨x, hx0⟩ : ∃ x, ls0[k]? = some x := ⟨_, List.getElem?_eq_getElem (by rw [HL.out]; exact hlt)⟩
      obtain ⟨m, hm0⟩ : ∃ m, c.methods[k]? = some m := ⟨_, List.getElem?_eq_getElem (by omega)⟩
      have hx : ls[k]? = some x := by rw [r9 k (Nat.le_refl _)]; exact hx0
      obtain ⟨g, rfl⟩ := r6.some_of (fun e => by rw [e] at hx; simp at hx)
      have d : ∀ j u, (msC x)[j]? = some u → wr.cell? ⟨g, k * 8 + j, none⟩ = some u := fun j u hj => r6.cell okMs hx hj
      have d0 := d 0 _ rfl
      have d1 := d 1 _ rfl
      have d2 := d 2 _ rfl
      have d3 := d 3 _ rfl
      have d4 := d 4 _ rfl
      have d5 := d 5 _ rfl
      have d6 := d 6 _ rfl
      have d7 := d 7 _ rfl
      rw [Nat.add_zero] at d0
      obtain ⟨cur, hcur, -, hc3, hmx, hcs', -, -⟩ := r6.cur
      have HGW : Hid (w.heap.size ≤ g) := HN3.out g rfl
      have HC3 : Hid (nm ≤ c3) := by show nm ≤ c3; rw [← r7]; exact hc3
      have hgA : g ≠ w.heap.size := fun e => by rw [e, r1] at hcur; simp [elMs] at hcur
      have hgB : g ≠ w.heap.size + 1 := fun e => by rw [e, r2] at hcur; simp [elMs] at hcur
      have G1 : Fr no wr (wr.alloc (.cells #[.string x.name, .slice x.p.a x.p.n x.p.c, .int .i64 x.ret.k, .string x.ret.c, .int .i64 x.lo, .int .i64 x.st, .slice x.c.a x.c.n x.c.c, .slice x.h.a x.h.n x.h.c] 64)) := (Fr.refl no wr).alloc _ _
      have E1 : (wr.alloc (.cells #[.string x.name, .slice x.p.a x.p.n x.p.c, .int .i64 x.ret.k, .string x.ret.c, .int .i64 x.lo, .int .i64 x.st, .slice x.c.a x.c.n x.c.c, .slice x.h.a x.h.n x.h.c] 64)).heap[wr.heap.size]? = some (.cells #[.string x.name, .slice x.p.a x.p.n x.p.c, .int .i64 x.ret.k, .string x.ret.c, .int .i64 x.lo, .int .i64 x.st, .slice x.c.a x.c.n x.c.c, .slice x.h.a x.h.n x.h.c] 64 (0, 0)) := heap_alloc_new wr _
      have hgw : g < wr.heap.size := lt_of_heap hcur
      have hAw : w.heap.size < wr.heap.size := lt_of_heap r1
      have HR : Hid (_ ∧ _ ∧ _ ∧ _ ∧ _ ∧ _ ∧ _ ∧ _ ∧ _ ∧ _) := ⟨r1, r2, r3, r4, r5, r6, r7, r8, r9, hcur⟩
      have HX : Hid (ls0[k]? = some x ∧ c.methods[k]? = some m ∧ ls[k]? = some x) := ⟨hx0, hm0, hx⟩
      have HE : Hid (_ ∧ _) := ⟨G1, E1⟩
      clear r1 r2 r3 r4 r5 r6 r7 r8 r9 hcur hx0 hm0 hx G1 E1
      go_wp2_with fail
      generalize hW : wr.alloc (.cells #[.string x.name, .slice x.p.a x.p.n x.p.c, .int .i64 x.ret.k, .string x.ret.c, .int .i64 x.lo, .int .i64 x.st, .slice x.c.a x.c.n x.c.c, .slice x.h.a x.h.n x.h.c] 64) = W at *
      have KS : Hid (∀ w2, Fr no W w2 → w2.heap[w.heap.size]? = some (.cells #[.string cn, .string cs, .slice q1 c.pool.length c1, .slice q2 c.fields.length c2, .slice (some ⟨g, 0, none⟩) nm c3] 68 (0, 0)) ∧ w2.heap[wr.heap.size]? = some (.cells #[.string x.name, .slice x.p.a x.p.n x.p.c, .int .i64 x.ret.k, .string x.ret.c, .int .i64 x.lo, .int .i64 x.st, .slice x.c.a x.c.n x.c.c, .slice x.h.a x.h.n x.h.c] 64 (0, 0))) := fun w2 f2 => ⟨f2.heap (HE.out.1.heap HR.out.1 (fun f => f)) (fun f => f), f2.heap HE.out.2 (fun f => f)⟩
      have C4 := H4.out k x m HX.out.1 HX.out.2.1 W.drew ((HR.out.2.2.1.new HE.out.1 (fun _ _ f => f)).drew)
      unfold msV at C4
      have HST : Hid (∀ w4, Fr no W w4 → ∀ s' : Ms, ∃ w5, (Instr.storeAt 64 (.pointer (some ⟨g, k * 8, none⟩)) (.agg #[.string s'.name, .slice s'.p.a s'.p.n s'.p.c, .int .i64 s'.ret.k, .string s'.ret.c, .int .i64 s'.lo, .int .i64 s'.st, .slice s'.c.a s'.c.n s'.c.c, .slice s'.h.a s'.h.n s'.h.c])).run Tryz.prog w4 = .ok () w5 ∧ w5.heap[g]? = some (.cells (sets cur (k * 8) (msC s')) 64 (0, 0)) ∧ Fr (fun k => k = g) w4 w5) := fun w4 g4 s' =>
        store_mid w4 g (k * 8) 64 64 cur _ (g4.heap (HE.out.1.heap HR.out.2.2.2.2.2.2.2.2.2 (fun f => f)) (fun f => f)) (by rw [hcs']; show k * 8 + 8 ≤ c3 * 8; have := HC3.out; omega) (by kernel_rfl) (by kernel_rfl)
      have HS0 : Hid (_) := KS.out _ (Fr.refl no W).drew
      refine late_begin (S := fun w2 => w2.heap[w.heap.size]? = some (.cells #[.string cn, .string cs, .slice q1 c.pool.length c1, .slice q2 c.fields.length c2, .slice (some ⟨g, 0, none⟩) nm c3] 68 (0, 0)) ∧ w2.heap[wr.heap.size]? = some (.cells #[.string x.name, .slice x.p.a x.p.n x.p.c, .int .i64 x.ret.k, .string x.ret.c, .int .i64 x.lo, .int .i64 x.st, .slice x.c.a x.c.n x.c.c, .slice x.h.a x.h.n x.h.c] 64 (0, 0))) (g := 6) (by kernel_rfl) ?_
      refine late_pure 0 (.pointer (some ⟨w.heap.size, 4, none⟩)) rfl (by kernel_rfl) (by kernel_rfl) (by kernel_rfl) (fun _ _ _ h => h) (by decide) (yields rfl (fun _ _ => ev_field 68 1 4 (.pointer (some ⟨w.heap.size, 0, none⟩)) _ rfl (by kernel_rfl) (by kernel_rfl))) (fun _ => HS0.out) ?_
      refine late_take 1 (.slice (some ⟨g, 0, none⟩) nm c3) rfl (by kernel_rfl) (by kernel_rfl) (by kernel_rfl) (fun _ _ _ h => h) (waits_of (by kernel_rfl)) (by decide) (by kernel_rfl) (yields rfl (fun _ hS => ev_load 65 25 (.pointer (some ⟨w.heap.size, 4, none⟩)) _ rfl (by kernel_rfl) (by simp [go_sem, (box5 hS.1).2.2.2.2]))) HS0.out ?_
      refine late_pure 2 (.int .i64 (k : Int)) rfl (by kernel_rfl) (by kernel_rfl) (by kernel_rfl) (fun _ _ _ h => h) (by decide) (yields rfl (fun _ _ => ev_move 3 _ rfl (by kernel_rfl))) (fun _ => HS0.out) ?_
      refine late_take 3 (.agg #[.string x.name, .slice x.p.a x.p.n x.p.c, .int .i64 x.ret.k, .string x.ret.c, .int .i64 x.lo, .int .i64 x.st, .slice x.c.a x.c.n x.c.c, .slice x.h.a x.h.n x.h.c]) rfl (by kernel_rfl) (by kernel_rfl) (by kernel_rfl) (fun _ _ _ h => h) (waits_of (by kernel_rfl)) (by decide) (by kernel_rfl) (yields rfl (fun w2 hS => ev_load 64 4 (.pointer (some ⟨wr.heap.size, 0, none⟩)) _ rfl (by kernel_rfl) (load_row w2 _ 64 _ _ hS.2 Tryz.underlying64 rfl (by kernel_rfl)))) HS0.out ?_
      refine late_all [4] (by kernel_rfl) (by simp) (fun j hj => ?_)
      simp only [List.mem_singleton] at hj
      subst hj
      refine late_call (f := 61) rfl rfl (by kernel_rfl) (R := fun v w' => ∃ s', v = msV s' ∧ MtOwn w' s' m ∧ Fr no W.drew w') (C4.mono (fun e w' ⟨s', h1, h2, h3⟩ => ⟨_, h1, s', rfl, h2, h3⟩)) (fun v w4 hv => ?_)
      obtain ⟨s', rfl, o4, f4⟩ := hv
      have g4 : Fr no W w4 := (Fr.refl no W).drew.new f4 (fun _ _ f => f)
      obtain ⟨w5, hst, hb5, f5⟩ := HST.out w4 g4 s'
      refine ⟨fun _ => KS.out _ g4, ?_⟩
      refine late_pure 5 (.pointer (some ⟨g, k * 8, none⟩)) rfl (by kernel_rfl) (by kernel_rfl) (by kernel_rfl) (fun _ _ _ h => h) (by decide) (yields rfl (fun _ _ => ev_index 65 26 27 (.slice (some ⟨g, 0, none⟩) nm c3) (.int .i64 (k : Int)) _ rfl (by kernel_rfl) (by kernel_rfl) (by simp [go_sem, hki]))) (fun _ => KS.out _ g4) ?_
      refine late_all [6] (by kernel_rfl) (by simp) (fun j hj => ?_)
      simp only [List.mem_singleton] at hj
      subst hj
      refine late_skip rfl rfl (ev_store 64 30 29 _ _ _ rfl (by kernel_rfl) (by kernel_rfl) hst) ⟨(fun h => Bool.noConfusion (show true = false from h)), ?_⟩
      refine late_done (by kernel_rfl) ?_
      go_wp2_with fail
      go_roundw
      case rel =>
        obtain ⟨r1, r2, r3, r4, r5, r6, r7, r8, r9, hcur⟩ := HR.out
        have gg := HE.out.1
        have fW : Fr no wr w4 := gg.new g4 (fun _ _ f => f)
        have q6 := r6.keep fW
        have qc := fW.heap hcur (fun f => f)
        have tagn : ∀ {α : Type} {K : El α} {v : Value} {l : List α}, OwnG K w4 v l → K.e ≠ 64 → ∀ k, v.ownBlock = some k → ¬ k = g := fun h hK k hk e => by
          obtain ⟨cu, hc⟩ := h.tag hk
          rw [e, qc] at hc
          simp only [Option.some.injEq, Obj.cells.injEq] at hc
          exact hK hc.2.1.symm
        have apm : ApartM (fun k => k = g) w4 := fun k hk cu e hc => by
          rw [hk, qc] at hc
          simp only [Option.some.injEq, Obj.cells.injEq] at hc
          obtain ⟨_, h51, _⟩ := hc
          rw [← h51]
          decide
        have hkl : k < ls.length := by rw [r7]; exact hlt
        refine ⟨k + 1, ls.set k s', by go_num, by omega, f5.heap (fW.heap r1 (fun f => f)) (Ne.symm hgA), f5.heap (fW.heap r2 (fun f => f)) (Ne.symm hgB), (r3.new fW (fun _ _ f => f)).new f5 (fun i hi e => ?_), (r4.keep fW).kept f5 (tagn (r4.keep fW) (by decide)), (r5.keep fW).kept f5 (tagn (r5.keep fW) (by decide)), q6.puts okMs qc hkl s' hb5, by rw [List.length_set]; exact r7, fun j x' m' hj hx' hm' => ?_, fun j hj => ?_⟩
        · have := HGW.out
          omega
        · by_cases hjk : j = k
          · subst hjk
            rw [List.getElem?_set_self hkl] at hx'
            simp only [Option.some.injEq] at hx'
            subst hx'
            rw [HX.out.2.1] at hm'
            simp only [Option.some.injEq] at hm'
            subst hm'
            exact o4.kept f5 apm
          · rw [List.getElem?_set_ne (Ne.symm hjk)] at hx'
            exact ((r8 j x' m' (by omega) hx' hm').keep fW).kept f5 apm
        · rw [List.getElem?_set_ne (by omega)]
          exact r9 j (by omega)
      case measure => simp [intOf]; omega
    · have hkn : k = nm := by omega
      subst hkn
      have HR : Hid (_ ∧ _ ∧ _ ∧ _ ∧ _ ∧ _ ∧ _ ∧ _) := ⟨r1, r2, r3, r4, r5, r6, r7, r8⟩
      obtain ⟨a0, a1, a2, a3, a4⟩ := box5 r1
      obtain ⟨b0, b1, b2, b3, b4⟩ := box5 r2
      have fb := fun o => frozen_at (o := o) r2
      clear r1 r2 r3 r4 r5 r6 r7 r8 r9
      go_wp2_with fail
      refine bodyPost_ret (results_40 _ (w.heap.size + 1) _ _ _ _ _ (chain5 HR.out.2.1 _ _ _ _ _) _ rfl) rfl ?_
      obtain ⟨r1, r2, r3, r4, r5, r6, r7, r8⟩ := HR.out
      have FC := frc5 wr (w.heap.size + 1) (.string cn) (.string cs) (.slice q1 c.pool.length c1) (.slice q2 c.fields.length c2) (.slice q3 k c3)
      have nt : ∀ {α : Type} {K : El α} {v : Value} {l : List α}, OwnG K wr v l → K.e ≠ 68 → ∀ k, v.ownBlock = some k → ¬ k = w.heap.size + 1 := fun h hK k hk e => by
        obtain ⟨cur, hc⟩ := h.tag hk
        rw [e, r2] at hc
        simp only [Option.some.injEq, Obj.cells.injEq] at hc
        exact hK hc.2.1.symm
      have apm : ApartM (fun k => k = w.heap.size + 1) wr := fun k hk cu e hc => by
        rw [hk, r2] at hc
        simp only [Option.some.injEq, Obj.cells.injEq] at hc
        obtain ⟨_, h59, _⟩ := hc
        rw [← h59]
        decide
      exact ⟨⟨cn, cs, ⟨q1, _, c1⟩, ⟨q2, _, c2⟩, ⟨q3, _, c3⟩⟩, rfl, ⟨hcn.symm, hcs.symm, r4.kept FC (nt r4 (by decide)), r5.kept FC (nt r5 (by decide)), ls, r6.kept FC (nt r6 (by decide)), by rw [r7, hnm], fun i x m hx hm => (r8 i x m (by have := (List.getElem?_eq_some_iff.1 hx).1; omega) hx hm).kept FC apm⟩, r3.new FC (fun i hi e => by omega)⟩
end Go.Proofs.YtpfkigoffllieaaGreatDoor
