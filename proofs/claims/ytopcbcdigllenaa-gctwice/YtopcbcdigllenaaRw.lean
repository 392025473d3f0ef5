/- An arena beside rows of numbers that are one's own, each apart from the others. -/
import Derived.Test.YtopcbcdigllenaaH3
import Derived.Test.YtopcbcdigllenaaMd
import Derived.Test.YtopcbcdigllenaaW0
namespace Go.Proofs.Ytopcbcdigllenaa
open Go.ChangeShapes Go.WideShapes Go.ChangeAt Go.RowKit

structure St (w wr : World) (p g : Nat) (bs : List Blk) (rs : List (Value × List Int)) : Prop where
  hp : HP wr p g bs
  own : ∀ (i : Nat) (r : Value × List Int), rs[i]? = some r → OwnG elI wr r.1 r.2
  new : ∀ (i : Nat) (r : Value × List Int), rs[i]? = some r → NewV w r.1
  ap : ∀ (i j : Nat) (r s : Value × List Int), i ≠ j → rs[i]? = some r → rs[j]? = some s → ∀ k, r.1.ownBlock = some k → s.1.ownBlock ≠ some k
  fr : Fr no w wr
  gb : w.heap.size ≤ g

theorem St.keep {w wr w' : World} {p g : Nat} {bs : List Blk} {rs : List (Value × List Int)} (h : St w wr p g bs rs) (f : Fr no wr w') : St w w' p g bs rs :=
  ⟨h.hp.keep f, fun i r hr => (h.own i r hr).keep f, h.new, h.ap, h.fr.and f, h.gb⟩

theorem St.turn {w wr w' : World} {p g : Nat} {bs bs' : List Blk} {rs : List (Value × List Int)} (h : St w wr p g bs rs) (h' : HP w' p g bs') (f : Fr (fun k => k = g) wr w') : St w w' p g bs' rs :=
  ⟨h', fun i r hr => (h.own i r hr).kept f (fun k hk e => own_not (h.own i r hr) h.hp.row (by decide) (by rw [hk, e])), h.new, h.ap, h.fr.new f (fun i hi e => by have := h.gb; omega), h.gb⟩

theorem St.push {w wr w' : World} {p g : Nat} {bs : List Blk} {rs : List (Value × List Int)} (h : St w wr p g bs rs) {i : Nat} {v v' : Value} {l l' : List Int} (hi : rs[i]? = some (v, l)) (o : OwnG elI w' v' l') (s : Sp v wr v' w') : St w w' p g bs (rs.set i (v', l')) := by
  have hil : i < rs.length := (List.getElem?_eq_some_iff.1 hi).1
  have hov := h.own i _ hi
  have get : ∀ (j : Nat) (r : Value × List Int), (rs.set i (v', l'))[j]? = some r → (j = i ∧ r = (v', l')) ∨ (j ≠ i ∧ rs[j]? = some r) := fun j r hr => by
    rw [List.getElem?_set] at hr
    by_cases e : i = j
    · subst e
      simp [hil] at hr
      exact .inl ⟨rfl, hr.symm⟩
    · rw [if_neg e] at hr
      exact .inr ⟨fun x => e x.symm, hr⟩
  refine ⟨h.hp.kept s.1 (own_not hov h.hp.hd (by decide)) (own_not hov h.hp.row (by decide)), fun j r hr => ?_, fun j r hr => ?_, fun j1 j2 r1 r2 hne h1 h2 k hk e => ?_, h.fr.new s.1 (fun k hk e => by have := h.new i _ hi k e; omega), h.gb⟩
  · rcases get j r hr with ⟨rfl, rfl⟩ | ⟨hj, hr'⟩
    · exact o
    · exact (h.own j r hr').kept s.1 (fun k hk => h.ap j i r _ hj hr' hi k hk)
  · rcases get j r hr with ⟨rfl, rfl⟩ | ⟨hj, hr'⟩
    · exact ((h.new _ _ hi).step h.fr s).1
    · exact h.new j r hr'
  · rcases get j1 r1 h1 with ⟨rfl, rfl⟩ | ⟨hj1, hr1⟩
    · rcases get j2 r2 h2 with ⟨rfl, rfl⟩ | ⟨hj2, hr2⟩
      · exact hne rfl
      · have hlt := (h.own j2 r2 hr2).lt e
        exact h.ap j2 j1 r2 _ hj2 hr2 hi k e (s.2 k hlt hk)
    · rcases get j2 r2 h2 with ⟨rfl, rfl⟩ | ⟨hj2, hr2⟩
      · have hlt := (h.own j1 r1 hr1).lt hk
        exact h.ap j1 j2 r1 _ hj1 hr1 hi k hk (s.2 k hlt e)
      · exact h.ap j1 j2 r1 r2 hne hr1 hr2 k hk e

/-- The row's append, as one step: one's own row i, a fresh row of one number behind it. -/
theorem St.at {w wr : World} {p g : Nat} {bs : List Blk} {rs : List (Value × List Int)} (h : St w wr p g bs rs) {i : Nat} {v : Value} {l : List Int} (hi : rs[i]? = some (v, l)) {j : Nat} {x : Int} (hx : l[j]? = some x) :
    ∀ o n c, v = .slice o n c → ∃ b off, o = some ⟨b, off, none⟩ ∧ wr.cell? ⟨b, off + j, none⟩ = some (.int .i64 x) := fun o n c hv => by
  have ho := h.own i _ hi
  simp only at ho
  rw [hv] at ho
  exact (ho.rd elI_ok).at1 (u := .int .i64 x) rfl rfl hx

theorem isObj_any (w : World) (o : Option Addr) (n c : Nat) (L : List Int) (a : Int) (h : OwnG elI w (.slice o n c) L) (hn : L.length = n) (hl : n ≤ 1000) :
    Calls Try.prog 35 #[.slice o n c, .int .i64 a] w fun e w' => e = .returned (.bool (L.any (· == a))) ∧ w' = w := by
  have HO : Hid (OwnG elI w (.slice o n c) L) := h
  clear h
  go_enter Try.func35, Try.ntmps35
  go_wp2_with fail
  go_loop [5] (fun i => ∃ t : Nat, i = .int .i64 (t : Int) ∧ t ≤ n ∧ (L.take t).any (· == a) = false) (fun i => n - (intOf i).toNat)
  case atStart => exact ⟨0, rfl, Nat.zero_le _, rfl⟩
  case round =>
    obtain ⟨t, rfl, htn, hany⟩ := hrel
    by_cases hti : t < n
    · obtain ⟨x, hx⟩ : ∃ x, L[t]? = some x := ⟨_, List.getElem?_eq_getElem (by omega)⟩
      have hnx := any_next L (· == a) t x hx
      obtain ⟨b0, o0, hov, hcx⟩ := (HO.out.rd elI_ok).at1 (u := .int .i64 x) rfl rfl hx
      subst hov
      rw [hany, Bool.false_or] at hnx
      have hti' : (t : Int) < (n : Int) := by omega
      by_cases hxa : x = a
      · have hd : (x == a) = true := by simp [hxa]
        have HR : Hid (L.any (· == a) = true) := by
          rw [Hid, List.any_eq_true]
          exact ⟨x, List.mem_of_getElem? hx, hd⟩
        clear hnx hx hany hxa
        go_wp2_with fail
        go_ret
        exact ⟨by rw [HR.out]; rfl, rfl⟩
      · have hd : (x == a) = false := by simp [hxa]
        rw [hd] at hnx
        have HN : Hid ((L.take (t + 1)).any (· == a) = false) := hnx
        clear hnx hx hany hxa
        go_wp2_with fail
        go_round
        case rel => exact ⟨t + 1, by go_num, by omega, HN.out⟩
        case measure => simp [intOf]; omega
    · obtain rfl : t = n := by omega
      have HR : Hid (L.any (· == a) = false) := by
        rw [List.take_of_length_le (by omega)] at hany
        exact hany
      clear hany
      go_wp2_with fail
      go_ret
      exact ⟨by rw [HR.out]; rfl, rfl⟩

theorem nRefs : Refs 34 #[] (fun _ => []) J0 1000000 where
  en := fun a w => rfl
  call := fun w js B a hj _ _ _ => by
    show Calls Try.prog 34 #[.int .i64 a] w _
    go_enter Try.func34, Try.ntmps34
    go_wp2_with fail
    go_ret
    exact ⟨_, B, rfl, OwnG.nil _ _, NewV.nil _, hj, Fr.refl _ _, fun _ _ h => h⟩
  keep := fun _ _ _ _ _ h _ _ => h
  lt := fun _ _ _ h k hb => absurd hb (h k)
  len := fun a => by simp

theorem nReach (O R : List Int) (a : Int) : Reach (fun _ => []) O R a ↔ a ∈ R ∧ a ∈ O := by
  constructor
  · intro h
    induction h with
    | root h1 h2 => exact ⟨h1, h2⟩
    | step _ h2 _ _ => simp at h2
  · exact fun h => .root h.1 h.2

theorem seen_of {M : List Nat} {O R : List Int} (h : ∀ a ∈ O, M[a.toNat]? = some 2 ↔ Reach (fun _ => []) O R a) : seenL M O = O.filter (fun a => R.any (· == a)) := by
  rw [seenL_eq]
  apply List.filter_congr
  intro a ha
  have := h a ha
  rw [nReach] at this
  rw [Bool.eq_iff_iff]
  unfold seenB
  rw [beq_iff_eq, this, List.any_eq_true]
  constructor
  · exact fun h => ⟨a, h.1, by simp⟩
  · rintro ⟨x, h1, h2⟩
    simp only [beq_iff_eq] at h2
    subst h2
    exact ⟨h1, ha⟩
end Go.Proofs.Ytopcbcdigllenaa
