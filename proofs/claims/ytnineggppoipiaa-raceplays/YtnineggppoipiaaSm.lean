/- The program's watch and the document's say the same: without memory. -/
import Derived.Test.YtnineggppoipiaaKq
import Derived.Test.YtnineggppoipiaaRk
namespace Go.Proofs.Ytnineggppoipiaa

/-! ### The document's list of clocks -/
def kC (ks : List Kp) (a i : Int) : Nat → Int := (kGet ks a i).c
theorem kAt_nil (a i : Int) : kAt [] a i = 0 := rfl
theorem kGet_nil (a i : Int) : kGet [] a i = ⟨a, i, fun _ => 0⟩ := rfl
section
variable {x : Kp} {ks : List Kp} {a i : Int}
theorem kAt_hd (h : hitK a i x = true) : kAt (x :: ks) a i = 0 := by unfold kAt; rw [List.findIdx_cons, h]; rfl
theorem kAt_tl (h : hitK a i x = false) : kAt (x :: ks) a i = kAt ks a i + 1 := by unfold kAt; rw [List.findIdx_cons, h]; rfl
theorem kAdd_hd (h : hitK a i x = true) : kAdd (x :: ks) a i = x :: ks := by
  unfold kAdd
  rw [kAt_hd h, if_pos (by simp)]
theorem kAdd_tl (h : hitK a i x = false) : kAdd (x :: ks) a i = x :: kAdd ks a i := by
  unfold kAdd
  rw [kAt_tl h]
  by_cases hl : kAt ks a i < ks.length
  · rw [if_pos (by simpa using hl), if_pos hl]
  · rw [if_neg (by simpa using hl), if_neg hl]
    rfl
theorem kGet_hd (h : hitK a i x = true) : kGet (x :: ks) a i = x := by
  unfold kGet
  rw [kAdd_hd h, kAt_hd h]
  rfl
theorem kGet_tl (h : hitK a i x = false) : kGet (x :: ks) a i = kGet ks a i := by
  unfold kGet
  rw [kAdd_tl h, kAt_tl h]
  rfl
end
theorem hit_eq {a i : Int} {x : Kp} (h : hitK a i x = true) : x.at_ = a ∧ x.i = i := by
  unfold hitK at h
  simpa using h
theorem hit_of {a i : Int} {x : Kp} (h : x.at_ = a ∧ x.i = i) : hitK a i x = true := by
  unfold hitK
  simpa using h
theorem kGet_is : ∀ (ks : List Kp) (a i : Int), (kGet ks a i).at_ = a ∧ (kGet ks a i).i = i
  | [], a, i => ⟨rfl, rfl⟩
  | x :: ks, a, i => by
    cases h : hitK a i x with
    | true => rw [kGet_hd h]; exact hit_eq h
    | false => rw [kGet_tl h]; exact kGet_is ks a i
theorem kC_add : ∀ (ks : List Kp) (a i b j : Int), kC (kAdd ks a i) b j = kC ks b j
  | [], a, i, b, j => by
    show (kGet [⟨a, i, fun _ => 0⟩] b j).c = fun _ => 0
    cases h : hitK b j ⟨a, i, fun _ => 0⟩ with
    | true => rw [kGet_hd h]
    | false => rw [kGet_tl h]; rfl
  | x :: ks, a, i, b, j => by
    cases h : hitK a i x with
    | true => rw [kAdd_hd h]
    | false =>
      rw [kAdd_tl h]
      unfold kC
      cases h2 : hitK b j x with
      | true => rw [kGet_hd h2, kGet_hd h2]
      | false => rw [kGet_tl h2, kGet_tl h2]; exact kC_add ks a i b j
def kSet (ks : List Kp) (a i : Int) (c : Nat → Int) : List Kp := (kAdd ks a i).set (kAt ks a i) ⟨(kGet ks a i).at_, (kGet ks a i).i, c⟩
theorem kC_set : ∀ (ks : List Kp) (a i : Int) (c : Nat → Int) (b j : Int), kC (kSet ks a i c) b j = if b = a ∧ j = i then c else kC ks b j
  | [], a, i, c, b, j => by
    show (kGet [⟨a, i, c⟩] b j).c = _
    cases h : hitK b j ⟨a, i, c⟩ with
    | true =>
      rw [kGet_hd h, if_pos]
      have := hit_eq h
      exact ⟨this.1.symm, this.2.symm⟩
    | false =>
      rw [kGet_tl h, if_neg]
      · rfl
      · rintro ⟨rfl, rfl⟩
        have hh := hit_of (a := b) (i := j) (x := ⟨b, j, c⟩) ⟨rfl, rfl⟩
        rw [h] at hh
        exact absurd hh (by decide)
  | x :: ks, a, i, c, b, j => by
    unfold kSet
    cases h : hitK a i x with
    | true =>
      rw [kAdd_hd h, kAt_hd h, kGet_hd h]
      show (kGet (⟨x.at_, x.i, c⟩ :: ks) b j).c = _
      have hx := hit_eq h
      by_cases e : b = a ∧ j = i
      · rw [if_pos e, kGet_hd (x := ⟨x.at_, x.i, c⟩) (hit_of ⟨hx.1.trans e.1.symm, hx.2.trans e.2.symm⟩)]
      · rw [if_neg e]
        have n1 : hitK b j ⟨x.at_, x.i, c⟩ = false := by
          cases h2 : hitK b j ⟨x.at_, x.i, c⟩ with
          | false => rfl
          | true => exact absurd ⟨(hit_eq h2).1.symm.trans hx.1, (hit_eq h2).2.symm.trans hx.2⟩ e
        have n2 : hitK b j x = false := n1
        rw [kGet_tl n1]
        unfold kC
        rw [kGet_tl n2]
    | false =>
      rw [kAdd_tl h, kAt_tl h, kGet_tl h]
      show (kGet (x :: kSet ks a i c) b j).c = _
      cases h2 : hitK b j x with
      | true =>
        rw [kGet_hd h2, if_neg]
        · unfold kC; rw [kGet_hd h2]
        · rintro ⟨rfl, rfl⟩
          rw [h] at h2
          exact absurd h2 (by decide)
      | false =>
        rw [kGet_tl h2]
        have := kC_set ks a i c b j
        unfold kC at this ⊢
        rw [kGet_tl h2]
        exact this

/-! ### Both alike -/
def kdOf (wr : Bool) : Int := if wr then 5 else 4
theorem kd_cases (wr : Bool) : kdOf wr = 4 ∨ kdOf wr = 5 := by cases wr <;> simp [kdOf]
theorem kd_ne (wr : Bool) {k : Int} (h4 : k ≠ 4) (h5 : k ≠ 5) : kdOf wr ≠ k := by rcases kd_cases wr with h | h <;> omega
structure Sim (F : Cm) (D : Dw) : Prop where
  now : ∀ t : Nat, 1 ≤ t → t ≤ 12 → nowP F t = D.T.now t
  fin : ∀ o : Int, F ⟨1, o, 0, 0⟩ = if (isB o && D.T.ended o.toNat) = true then some (D.T.fin o.toNat) else none
  lck : ∀ a, getP F ⟨2, 0, a, 0⟩ = kC D.ks a (-1)
  vol : ∀ a i, 0 ≤ i → getP F ⟨3, 0, a, i⟩ = kC D.ks a i
  le : ∀ x, x ∈ D.as_ → isB x.t = true ∧ ∀ j, x.c j ≤ getP F ⟨kdOf x.wr, x.t, x.at_, x.i⟩ j
  frm : ∀ (wr : Bool) (t a i : Int), getP F ⟨kdOf wr, t, a, i⟩ = zeroC ∨ ∃ x, x ∈ D.as_ ∧ x.t = t ∧ x.at_ = a ∧ x.i = i ∧ x.wr = wr ∧ x.c = getP F ⟨kdOf wr, t, a, i⟩
  top : ∀ (wr : Bool) (t : Nat) (a i : Int), 1 ≤ t → t ≤ 12 → ∀ j, getP F ⟨kdOf wr, (t : Int), a, i⟩ j ≤ nowP F t j

theorem Sim.begin (c : Nat) : Sim (fun _ => none) ⟨TB c 13, [], [], 0⟩ where
  now := fun t h1 h2 => by
    funext j
    show setT zeroC t 1 j = if 0 < t ∧ t < 13 ∧ j = t then 1 else 0
    unfold setT zeroC
    by_cases h : j = t
    · rw [if_pos h, if_pos ⟨by omega, by omega, h⟩]
    · rw [if_neg h, if_neg (fun x => h x.2.2)]
  fin := fun o => by
    rw [if_neg]
    show ¬ (isB o && false) = true
    simp
  lck := fun a => rfl
  vol := fun a i _ => rfl
  le := fun x hx => by simp at hx
  frm := fun wr t a i => .inl rfl
  top := fun wr t a i _ _ j => (unit_le t j).1

/-- Clocks of threads that grow. -/
theorem Sim.grow {F G : Cm} {D E : Dw} (h : Sim F D) (ha : E.as_ = D.as_) (hacc : ∀ q : Pk, q.k = 4 ∨ q.k = 5 → G q = F q)
    (hnow : ∀ t : Nat, 1 ≤ t → t ≤ 12 → nowP G t = E.T.now t) (hge : ∀ t j, nowP F t j ≤ nowP G t j)
    (hfin : ∀ o : Int, G ⟨1, o, 0, 0⟩ = if (isB o && E.T.ended o.toNat) = true then some (E.T.fin o.toNat) else none)
    (hl : ∀ a, getP G ⟨2, 0, a, 0⟩ = kC E.ks a (-1)) (hv : ∀ a i, 0 ≤ i → getP G ⟨3, 0, a, i⟩ = kC E.ks a i) : Sim G E := by
  have hg : ∀ (wr : Bool) (t a i : Int), getP G ⟨kdOf wr, t, a, i⟩ = getP F ⟨kdOf wr, t, a, i⟩ := fun wr t a i => by
    unfold getP
    rw [hacc _ (kd_cases wr)]
  exact ⟨hnow, hfin, hl, hv, fun x hx => by rw [ha] at hx; rw [hg]; exact h.le x hx, fun wr t a i => by rw [hg, ha]; exact h.frm wr t a i, fun wr t a i h1 h2 j => by
    rw [hg]
    exact Int.le_trans (h.top wr t a i h1 h2 j) (hge t j)⟩
theorem put_th_other (F : Cm) (t : Nat) (c : Nat → Int) {q : Pk} (h : q.k ≠ 0) : putP F (th t) c q = F q := put_ne F c (fun e => h (by rw [e]; rfl))
theorem get_th_other (F : Cm) (t : Nat) (c : Nat → Int) {q : Pk} (h : q.k ≠ 0) : getP (putP F (th t) c) q = getP F q := by unfold getP; rw [put_th_other F t c h]
theorem now_put_th (F : Cm) (t : Nat) (c : Nat → Int) (u : Nat) : nowP (putP F (th t) c) u = if u = t then c else nowP F u := by
  by_cases h : u = t
  · subst h
    rw [now_same, if_pos rfl]
  · rw [now_ne F c h, if_neg h]
/-- One thread's clock is set to a greater one. -/
theorem Sim.set {F : Cm} {D : Dw} (h : Sim F D) {t : Nat} (h1 : 1 ≤ t) (h2 : t ≤ 12) (c : Nat → Int) (hc : ∀ j, nowP F t j ≤ c j) : Sim (putP F (th t) c) { D with T := { D.T with now := setT D.T.now t c } } :=
  h.grow rfl (fun q hq => put_th_other F t c (by rcases hq with e | e <;> rw [e] <;> decide)) (fun u u1 u2 => by
    rw [now_put_th]
    show _ = (if u = t then c else D.T.now u)
    split
    · rfl
    · exact h.now u u1 u2) (fun u j => by
    rw [now_put_th]
    split
    · rename_i e; subst e; exact hc j
    · exact Int.le_refl _) (fun o => by rw [put_th_other F t c (by decide : (1 : Int) ≠ 0)]; exact h.fin o)
    (fun a => by rw [get_th_other F t c (by decide : (2 : Int) ≠ 0)]; exact h.lck a) (fun a i hi => by rw [get_th_other F t c (by decide : (3 : Int) ≠ 0)]; exact h.vol a i hi)
end Go.Proofs.Ytnineggppoipiaa
