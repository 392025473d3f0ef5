/- The document's watch: Release. -/
import Derived.Test.YtnineggppoipiaaRf
namespace Go.Proofs.Ytnineggppoipiaa
open Go.ChangeShapes Go.WideShapes Go.ChangeAt Go.RowKit

theorem cg_set {α : Type} {K : El α} (hK : K.Ok) (l : List α) (i j : Nat) (x y : α) (u : Value) (h : l[i]? = some x) (hj : j < K.n) (hy : K.f y = (K.f x).set j u) : (cg K l).set (i * K.n + j) u = cg K (l.set i y) := by
  induction l generalizing i with
  | nil => simp at h
  | cons z l ih =>
    have e : cg K (z :: l) = K.f z ++ cg K l := rfl
    rw [e]
    cases i with
    | zero =>
      simp at h
      subst h
      rw [Nat.zero_mul, Nat.zero_add, List.set_append_left _ _ (by rw [hK.len]; exact hj), ← hy]
      rfl
    | succ i =>
      have := ih i (by simpa using h)
      rw [List.set_append_right _ _ (by rw [hK.len, Nat.add_mul]; omega), hK.len]
      rw [show (i + 1) * K.n + j - K.n = i * K.n + j by rw [Nat.add_mul]; omega, this]
      rfl

/-- A cell of a row of one's own is set. -/
theorem OwnG.set {α : Type} {K : El α} (hK : K.Ok) {w : World} {g o n cap : Nat} {l : List α} (h : OwnG K w (.slice (some ⟨g, o, none⟩) n cap) l) (i j : Nat) (x y : α) (u : Value) (hx : l[i]? = some x) (hj : j < K.n) (hy : K.f y = (K.f x).set j u) :
    OwnG K (w.setCell ⟨g, o + i * K.n + j, none⟩ u) (.slice (some ⟨g, o, none⟩) n cap) (l.set i y) := by
  rcases h with ⟨hn, _⟩ | ⟨g', o', cap', cur, he, hg, hnc, hcm, hcs, ht⟩
  · simp at hn
  · simp only [Value.slice.injEq, Option.some.injEq, Addr.mk.injEq] at he
    obtain ⟨⟨rfl, rfl, _⟩, rfl, rfl⟩ := he
    have hs : (w.setCell ⟨g, o + i * K.n + j, none⟩ u).heap[g]? = some (.cells (cur.set! (o + i * K.n + j) u) K.e (0, 0)) := by
      unfold World.setCell
      simp [Array.getElem?_modify, hg]
    refine .inr ⟨g, o, cap, _, by simp, hs, by simpa using hnc, hcm, by simpa using hcs, ?_⟩
    rw [← cg_set hK l i j x y u hx hj hy, ← ht]
    simp only [Array.set!_eq_setIfInBounds, Array.toList_setIfInBounds, List.length_set]
    rw [Nat.add_assoc, List.drop_set, if_neg (by omega), Nat.add_sub_cancel_left, List.take_set]

theorem cg_same {α : Type} {K : El α} (l : List α) (i : Nat) (x y : α) (h : l[i]? = some x) (hy : K.f y = K.f x) : cg K (l.set i y) = cg K l := by
  induction l generalizing i with
  | nil => simp at h
  | cons z l ih =>
    have e : ∀ (z : α) (l : List α), cg K (z :: l) = K.f z ++ cg K l := fun _ _ => rfl
    cases i with
    | zero =>
      simp at h
      subst h
      show cg K (y :: l) = _
      rw [e, e, hy]
    | succ i =>
      show cg K (z :: l.set i y) = _
      rw [e, e, ih i (by simpa using h)]
theorem own_same {α : Type} {K : El α} {w : World} {v : Value} {l l' : List α} (h : OwnG K w v l) (hc : cg K l' = cg K l) (hl : l'.length = l.length) : OwnG K w v l' := by
  rcases h with ⟨rfl, rfl⟩ | ⟨g, o, cap, cur, rfl, hg, h1, h2, h3, h4⟩
  · exact .inl ⟨rfl, List.eq_nil_of_length_eq_zero hl⟩
  · exact .inr ⟨g, o, cap, cur, by rw [hl], hg, by rw [hl]; exact h1, h2, h3, by rw [hc, hl]; exact h4⟩
theorem ckL_setT (c : Nat → Int) {m : Nat} (v : Int) (hm : m < 13) : ckL (setT c m v) = (ckL c).set m (.int .i64 v) := by
  refine List.ext_getElem? fun q => ?_
  by_cases hq : q < 13
  · rw [ckL_get _ q hq, List.getElem?_set]
    by_cases e : m = q
    · subst e
      rw [if_pos rfl, if_pos (by rw [ckL_len]; exact hm), setT_same]
    · rw [if_neg e, ckL_get _ q hq, setT_ne _ _ (fun h => e h.symm)]
  · rw [List.getElem?_eq_none (by rw [ckL_len]; omega), List.getElem?_eq_none (by rw [List.length_set, ckL_len]; omega)]
theorem own_ckF (c : Nat → Int) (g off n cap k : Nat) : ∀ (r m : Nat) (w : World) (l : List Kp) (x : Kp), m + r = 13 → l[k]? = some x → OwnG elP w (.slice (some ⟨g, off, none⟩) n cap) l →
    OwnG elP (w.setCells g (off + k * 15 + 2 + m) ((List.range' m r).map fun j => .int .i64 (c j))) (.slice (some ⟨g, off, none⟩) n cap) (l.set k ⟨x.at_, x.i, fun q => if m ≤ q then c q else x.c q⟩)
  | 0, m, w, l, x, hm, hx, ho => by
    refine own_same ho (cg_same l k x _ hx ?_) (by simp)
    show ([.int .i64 x.at_, .int .i64 x.i] : List Value) ++ ckL _ = [.int .i64 x.at_, .int .i64 x.i] ++ ckL x.c
    refine congrArg _ (List.map_congr_left fun q hq => ?_)
    have := List.mem_range.1 hq
    show Value.int .i64 (if m ≤ q then c q else x.c q) = _
    rw [if_neg (by omega)]
  | r + 1, m, w, l, x, hm, hx, ho => by
    have h1 := ho.set elP_ok k (2 + m) x ⟨x.at_, x.i, setT x.c m (c m)⟩ (.int .i64 (c m)) hx (by show 2 + m < 15; omega) (by
      show ([.int .i64 x.at_, .int .i64 x.i] : List Value) ++ ckL (setT x.c m (c m)) = (([.int .i64 x.at_, .int .i64 x.i] : List Value) ++ ckL x.c).set (2 + m) (.int .i64 (c m))
      rw [List.set_append_right _ _ (by simp), ckL_setT _ _ (by omega)]
      congr 2
      simp)
    have hk : k < l.length := (List.getElem?_eq_some_iff.1 hx).1
    have h2 := own_ckF c g off n cap k r (m + 1) _ _ ⟨x.at_, x.i, setT x.c m (c m)⟩ (by omega) (by rw [List.getElem?_set, if_pos rfl, if_pos hk]) h1
    rw [List.set_set] at h2
    have e : (fun q => if m + 1 ≤ q then c q else setT x.c m (c m) q) = fun q => if m ≤ q then c q else x.c q := funext fun q => by
      by_cases e1 : q = m
      · subst e1
        rw [if_neg (by omega), if_pos (Nat.le_refl _), setT_same]
      · rw [setT_ne _ _ e1]
        by_cases e2 : m ≤ q
        · rw [if_pos (by omega), if_pos e2]
        · rw [if_neg (by omega), if_neg e2]
    simp only [e] at h2
    have e3 : off + k * elP.n + (2 + m) = off + k * 15 + 2 + m := by show off + k * 15 + (2 + m) = _; omega
    rw [e3] at h2
    exact h2
/-- An element's clock is written. -/
theorem own_ck {w : World} {g off n cap k : Nat} {l : List Kp} {x : Kp} (ho : OwnG elP w (.slice (some ⟨g, off, none⟩) n cap) l) (hx : l[k]? = some x) (c : Nat → Int) :
    OwnG elP (w.setCells g (off + k * 15 + 2) (ckL c)) (.slice (some ⟨g, off, none⟩) n cap) (l.set k ⟨x.at_, x.i, c⟩) := by
  have h := own_ckF c g off n cap k 13 0 w l x rfl hx ho
  rw [← List.range_eq_range'] at h
  have e : (fun q => if 0 ≤ q then c q else x.c q) = c := funext fun q => if_pos (Nat.zero_le q)
  rw [e] at h
  exact h
theorem RW.setKc {w : World} {p : Nat} {T : Wt} {ks : List Kp} {as' : List Ac} {n : Int} (h : RW w p T ks as' n) {g off m cap k : Nat} (ck : w.cell? ⟨p, 351, none⟩ = some (.slice (some ⟨g, off, none⟩) m cap)) (ho : OwnG elP w (.slice (some ⟨g, off, none⟩) m cap) ks) {x : Kp} (hx : ks[k]? = some x) (c : Nat → Int) :
    RW (w.setCells g (off + k * 15 + 2) (ckL c)) p T (ks.set k ⟨x.at_, x.i, c⟩) as' n ∧ Fr (TD T.c w) w (w.setCells g (off + k * 15 + 2) (ckL c)) := by
  have F : Fr (Bk g) w (w.setCells g (off + k * 15 + 2) (ckL c)) := fr_sets _ _ _ _
  obtain ⟨cs, h3, h4⟩ := h.row
  have hp : ¬ Bk g p := fun e => own_blk ho h3 (by decide) g rfl e.symm
  refine ⟨⟨⟨cs, F.heap h3 hp, h4⟩, fun t' ht' => rangeAt_fr (h.now_ t' ht') F hp, fun t' ht' => rangeAt_fr (h.fin_ t' ht') F hp, fun t' ht' => F.cell (h.end_ t' ht') hp, ⟨_, F.cell ck hp, own_ck ho hx c⟩, ?_, F.cell h.races hp, h.low, fun kv hk => ?_, fun kv hk => ?_⟩, F.mono fun i _ e => own_td ho (.inl rfl) (h.keptLow _ ck) i (by unfold Bk at e; subst e; rfl)⟩
  · obtain ⟨kv, h1, h2⟩ := h.acc
    exact ⟨kv, F.cell h1 hp, h2.kept F fun k hk e => own_apart ho h2 (by decide) k hk (by unfold Bk at e; subst e; rfl)⟩
  · rw [F.cell ck hp] at hk
    cases hk
    exact h.keptLow _ ck
  · obtain ⟨u, h1, -⟩ := h.acc
    rw [F.cell h1 hp] at hk
    cases hk
    exact h.accLow _ h1
theorem own_there {w : World} {g off m cap k : Nat} {ks : List Kp} (ho : OwnG elP w (.slice (some ⟨g, off, none⟩) m cap) ks) {x : Kp} (hr : w.rangeAt g (off + k * 15 + 2) (ckL x.c)) : w.there g (off + k * 15 + 2) 13 := fun j hj => by
  obtain ⟨cur, h1⟩ := ho.tag rfl
  refine ⟨?_, row_froz h1 _⟩
  rw [hr j _ (ckL_get _ j hj)]
  rfl

noncomputable def reg21rC : Code := ((Try.f21.body.bind (regionOf 2)).getD .skip)

set_option maxRecDepth 100000 in
theorem reg21r (W : World) (p t g off n cc k : Nat) (ht : t < 13) (hk : k < n) (c1 c2 : Nat → Int) (hb1 : Bd c1) (hb2 : Bd c2)
    (hKV : ∀ w', Fr no W w' → w'.cell? ⟨p, 351, none⟩ = some (.slice (some ⟨g, off, none⟩) n cc)) (hL1 : ∀ w', Fr no W w' → w'.rangeAt g (off + k * 15 + 2) (ckL c1)) (hL2 : ∀ w', Fr no W w' → w'.rangeAt p (t * 13) (ckL c2)) (hT : ∀ w', Fr no W w' → w'.there g (off + k * 15 + 2) 13)
    (K : Act → World → Prop) (y2 y3 y4 y5 y6 y7 y9 y10 y11 y12 y13 y14 y15 y16 y17 y18 y19 y20 y21 y22 y23 y24 y25 y26 y27 y28 y29 y30 y31 y32 y33 y34 y35 y36 y37 y38 y39 y40 y41 y42 y43 y44 y45 y46 y47 y48 y49 y50 : Value)
    (hQ : ∀ w', Fr no W w' → K ⟨(.pointer (some ⟨p, 0, none⟩) :: .int .i64 (t : Int) :: y2 :: y3 :: y4 :: y5 :: y6 :: y7 :: .int .i64 (k : Int) :: y9 :: y10 :: y11 :: y12 :: y13 :: y14 :: y15 :: .pointer (some ⟨p, 0, none⟩) :: .pointer (some ⟨p, 0, none⟩) :: .pointer (some ⟨p, 351, none⟩) :: .slice (some ⟨g, off, none⟩) n cc :: .int .i64 (k : Int) :: .pointer (some ⟨p, 0, none⟩) :: .pointer (some ⟨p, 0, none⟩) :: .pointer (some ⟨p, 351, none⟩) :: .slice (some ⟨g, off, none⟩) n cc :: .int .i64 (k : Int) :: .pointer (some ⟨g, off + k * 15, none⟩) :: .pointer (some ⟨g, off + k * 15 + 2, none⟩) :: ckV c1 :: .pointer (some ⟨p, 0, none⟩) :: .int .i64 (t : Int) :: .pointer (some ⟨p, 0, none⟩) :: .pointer (some ⟨p, 0, none⟩) :: .pointer (some ⟨p, t * 13, none⟩) :: ckV c2 :: ckV (joinC c1 c2) :: .pointer (some ⟨g, off + k * 15, none⟩) :: .pointer (some ⟨g, off + k * 15 + 2, none⟩) :: y38 :: y39 :: y40 :: y41 :: y42 :: y43 :: y44 :: y45 :: y46 :: y47 :: y48 :: y49 :: y50 :: []).toArray, []⟩ (w'.setCells g (off + k * 15 + 2) (ckL (joinC c1 c2)))) :
    Code.wp Try.prog reg21rC (Exit.then K (fun _ _ _ => False)) ⟨(.pointer (some ⟨p, 0, none⟩) :: .int .i64 (t : Int) :: y2 :: y3 :: y4 :: y5 :: y6 :: y7 :: .int .i64 (k : Int) :: y9 :: y10 :: y11 :: y12 :: y13 :: y14 :: y15 :: y16 :: y17 :: y18 :: y19 :: y20 :: y21 :: y22 :: y23 :: y24 :: y25 :: y26 :: y27 :: y28 :: y29 :: y30 :: y31 :: y32 :: y33 :: y34 :: y35 :: y36 :: y37 :: y38 :: y39 :: y40 :: y41 :: y42 :: y43 :: y44 :: y45 :: y46 :: y47 :: y48 :: y49 :: y50 :: []).toArray, []⟩ W := by
  have HQ : Hid _ := hQ
  have HL1 : Hid _ := hL1
  have HL2 : Hid _ := hL2
  have HKV : Hid _ := hKV
  have HT : Hid _ := hT
  have f0 : Fr no W W.drew := (Fr.refl _ W).drew
  clear hQ hL1 hL2 hT hKV
  unfold reg21rC
  conv => arg 2; whnf
  refine late_begin (S := fun w' => Fr no W w') (g := 22) (by kernel_rfl) ?_
  refine lateP 0 (.pointer (some ⟨p, 0, none⟩)) rfl (fun _ => ev_move 0 _ rfl (by kernel_rfl)) (fun _ => f0) ?_
  refine lateP 4 (.int .i64 (k : Int)) rfl (fun _ => ev_move 8 _ rfl (by kernel_rfl)) (fun _ => f0) ?_
  refine lateP 5 (.pointer (some ⟨p, 0, none⟩)) rfl (fun _ => ev_move 0 _ rfl (by kernel_rfl)) (fun _ => f0) ?_
  refine lateP 9 (.int .i64 (k : Int)) rfl (fun _ => ev_move 8 _ rfl (by kernel_rfl)) (fun _ => f0) ?_
  refine lateP 13 (.pointer (some ⟨p, 0, none⟩)) rfl (fun _ => ev_move 0 _ rfl (by kernel_rfl)) (fun _ => f0) ?_
  refine lateP 14 (.int .i64 (t : Int)) rfl (fun _ => ev_move 1 _ rfl (by kernel_rfl)) (fun _ => f0) ?_
  refine lateN (true :: false :: false :: false :: true :: true :: false :: false :: false :: true :: false :: false :: false :: true :: true :: false :: false :: false :: false :: false :: false :: false :: false :: []).toArray ⟨(.pointer (some ⟨p, 0, none⟩) :: .int .i64 (t : Int) :: y2 :: y3 :: y4 :: y5 :: y6 :: y7 :: .int .i64 (k : Int) :: y9 :: y10 :: y11 :: y12 :: y13 :: y14 :: y15 :: .pointer (some ⟨p, 0, none⟩) :: y17 :: y18 :: y19 :: .int .i64 (k : Int) :: .pointer (some ⟨p, 0, none⟩) :: y22 :: y23 :: y24 :: .int .i64 (k : Int) :: y26 :: y27 :: y28 :: .pointer (some ⟨p, 0, none⟩) :: .int .i64 (t : Int) :: y31 :: y32 :: y33 :: y34 :: y35 :: y36 :: y37 :: y38 :: y39 :: y40 :: y41 :: y42 :: y43 :: y44 :: y45 :: y46 :: y47 :: y48 :: y49 :: y50 :: []).toArray, []⟩ ?_
  refine lateP 1 (.pointer (some ⟨p, 0, none⟩)) rfl (fun _ => ev_nil 16 ⟨p, 0, none⟩ rfl (by kernel_rfl)) (fun _ => f0) ?_
  refine lateN (true :: true :: false :: false :: true :: true :: false :: false :: false :: true :: false :: false :: false :: true :: true :: false :: false :: false :: false :: false :: false :: false :: false :: []).toArray ⟨(.pointer (some ⟨p, 0, none⟩) :: .int .i64 (t : Int) :: y2 :: y3 :: y4 :: y5 :: y6 :: y7 :: .int .i64 (k : Int) :: y9 :: y10 :: y11 :: y12 :: y13 :: y14 :: y15 :: .pointer (some ⟨p, 0, none⟩) :: .pointer (some ⟨p, 0, none⟩) :: y18 :: y19 :: .int .i64 (k : Int) :: .pointer (some ⟨p, 0, none⟩) :: y22 :: y23 :: y24 :: .int .i64 (k : Int) :: y26 :: y27 :: y28 :: .pointer (some ⟨p, 0, none⟩) :: .int .i64 (t : Int) :: y31 :: y32 :: y33 :: y34 :: y35 :: y36 :: y37 :: y38 :: y39 :: y40 :: y41 :: y42 :: y43 :: y44 :: y45 :: y46 :: y47 :: y48 :: y49 :: y50 :: []).toArray, []⟩ ?_
  refine lateP 2 (.pointer (some ⟨p, 351, none⟩)) rfl (fun _ => ev_field 42 17 3 (.pointer (some ⟨p, 0, none⟩)) _ rfl (by kernel_rfl) (by kernel_rfl)) (fun _ => f0) ?_
  refine lateN (true :: true :: true :: false :: true :: true :: false :: false :: false :: true :: false :: false :: false :: true :: true :: false :: false :: false :: false :: false :: false :: false :: false :: []).toArray ⟨(.pointer (some ⟨p, 0, none⟩) :: .int .i64 (t : Int) :: y2 :: y3 :: y4 :: y5 :: y6 :: y7 :: .int .i64 (k : Int) :: y9 :: y10 :: y11 :: y12 :: y13 :: y14 :: y15 :: .pointer (some ⟨p, 0, none⟩) :: .pointer (some ⟨p, 0, none⟩) :: .pointer (some ⟨p, 351, none⟩) :: y19 :: .int .i64 (k : Int) :: .pointer (some ⟨p, 0, none⟩) :: y22 :: y23 :: y24 :: .int .i64 (k : Int) :: y26 :: y27 :: y28 :: .pointer (some ⟨p, 0, none⟩) :: .int .i64 (t : Int) :: y31 :: y32 :: y33 :: y34 :: y35 :: y36 :: y37 :: y38 :: y39 :: y40 :: y41 :: y42 :: y43 :: y44 :: y45 :: y46 :: y47 :: y48 :: y49 :: y50 :: []).toArray, []⟩ ?_
  refine lateT 3 (.slice (some ⟨g, off, none⟩) n cc) rfl (fun wz hz => ev_load 39 18 (.pointer (some ⟨p, 351, none⟩)) (.slice (some ⟨g, off, none⟩) n cc) rfl (by kernel_rfl) (ld39 (HKV.out wz hz))) f0 ?_
  refine lateN (true :: true :: true :: true :: true :: true :: false :: false :: false :: true :: false :: false :: false :: true :: true :: false :: false :: false :: false :: false :: false :: false :: false :: []).toArray ⟨(.pointer (some ⟨p, 0, none⟩) :: .int .i64 (t : Int) :: y2 :: y3 :: y4 :: y5 :: y6 :: y7 :: .int .i64 (k : Int) :: y9 :: y10 :: y11 :: y12 :: y13 :: y14 :: y15 :: .pointer (some ⟨p, 0, none⟩) :: .pointer (some ⟨p, 0, none⟩) :: .pointer (some ⟨p, 351, none⟩) :: .slice (some ⟨g, off, none⟩) n cc :: .int .i64 (k : Int) :: .pointer (some ⟨p, 0, none⟩) :: y22 :: y23 :: y24 :: .int .i64 (k : Int) :: y26 :: y27 :: y28 :: .pointer (some ⟨p, 0, none⟩) :: .int .i64 (t : Int) :: y31 :: y32 :: y33 :: y34 :: y35 :: y36 :: y37 :: y38 :: y39 :: y40 :: y41 :: y42 :: y43 :: y44 :: y45 :: y46 :: y47 :: y48 :: y49 :: y50 :: []).toArray, []⟩ ?_
  refine lateP 6 (.pointer (some ⟨p, 0, none⟩)) rfl (fun _ => ev_nil 21 ⟨p, 0, none⟩ rfl (by kernel_rfl)) (fun _ => f0) ?_
  refine lateN (true :: true :: true :: true :: true :: true :: true :: false :: false :: true :: false :: false :: false :: true :: true :: false :: false :: false :: false :: false :: false :: false :: false :: []).toArray ⟨(.pointer (some ⟨p, 0, none⟩) :: .int .i64 (t : Int) :: y2 :: y3 :: y4 :: y5 :: y6 :: y7 :: .int .i64 (k : Int) :: y9 :: y10 :: y11 :: y12 :: y13 :: y14 :: y15 :: .pointer (some ⟨p, 0, none⟩) :: .pointer (some ⟨p, 0, none⟩) :: .pointer (some ⟨p, 351, none⟩) :: .slice (some ⟨g, off, none⟩) n cc :: .int .i64 (k : Int) :: .pointer (some ⟨p, 0, none⟩) :: .pointer (some ⟨p, 0, none⟩) :: y23 :: y24 :: .int .i64 (k : Int) :: y26 :: y27 :: y28 :: .pointer (some ⟨p, 0, none⟩) :: .int .i64 (t : Int) :: y31 :: y32 :: y33 :: y34 :: y35 :: y36 :: y37 :: y38 :: y39 :: y40 :: y41 :: y42 :: y43 :: y44 :: y45 :: y46 :: y47 :: y48 :: y49 :: y50 :: []).toArray, []⟩ ?_
  refine lateP 7 (.pointer (some ⟨p, 351, none⟩)) rfl (fun _ => ev_field 42 22 3 (.pointer (some ⟨p, 0, none⟩)) _ rfl (by kernel_rfl) (by kernel_rfl)) (fun _ => f0) ?_
  refine lateN (true :: true :: true :: true :: true :: true :: true :: true :: false :: true :: false :: false :: false :: true :: true :: false :: false :: false :: false :: false :: false :: false :: false :: []).toArray ⟨(.pointer (some ⟨p, 0, none⟩) :: .int .i64 (t : Int) :: y2 :: y3 :: y4 :: y5 :: y6 :: y7 :: .int .i64 (k : Int) :: y9 :: y10 :: y11 :: y12 :: y13 :: y14 :: y15 :: .pointer (some ⟨p, 0, none⟩) :: .pointer (some ⟨p, 0, none⟩) :: .pointer (some ⟨p, 351, none⟩) :: .slice (some ⟨g, off, none⟩) n cc :: .int .i64 (k : Int) :: .pointer (some ⟨p, 0, none⟩) :: .pointer (some ⟨p, 0, none⟩) :: .pointer (some ⟨p, 351, none⟩) :: y24 :: .int .i64 (k : Int) :: y26 :: y27 :: y28 :: .pointer (some ⟨p, 0, none⟩) :: .int .i64 (t : Int) :: y31 :: y32 :: y33 :: y34 :: y35 :: y36 :: y37 :: y38 :: y39 :: y40 :: y41 :: y42 :: y43 :: y44 :: y45 :: y46 :: y47 :: y48 :: y49 :: y50 :: []).toArray, []⟩ ?_
  refine lateT 8 (.slice (some ⟨g, off, none⟩) n cc) rfl (fun wz hz => ev_load 39 23 (.pointer (some ⟨p, 351, none⟩)) (.slice (some ⟨g, off, none⟩) n cc) rfl (by kernel_rfl) (ld39 (HKV.out wz hz))) f0 ?_
  refine lateN (true :: true :: true :: true :: true :: true :: true :: true :: true :: true :: false :: false :: false :: true :: true :: false :: false :: false :: false :: false :: false :: false :: false :: []).toArray ⟨(.pointer (some ⟨p, 0, none⟩) :: .int .i64 (t : Int) :: y2 :: y3 :: y4 :: y5 :: y6 :: y7 :: .int .i64 (k : Int) :: y9 :: y10 :: y11 :: y12 :: y13 :: y14 :: y15 :: .pointer (some ⟨p, 0, none⟩) :: .pointer (some ⟨p, 0, none⟩) :: .pointer (some ⟨p, 351, none⟩) :: .slice (some ⟨g, off, none⟩) n cc :: .int .i64 (k : Int) :: .pointer (some ⟨p, 0, none⟩) :: .pointer (some ⟨p, 0, none⟩) :: .pointer (some ⟨p, 351, none⟩) :: .slice (some ⟨g, off, none⟩) n cc :: .int .i64 (k : Int) :: y26 :: y27 :: y28 :: .pointer (some ⟨p, 0, none⟩) :: .int .i64 (t : Int) :: y31 :: y32 :: y33 :: y34 :: y35 :: y36 :: y37 :: y38 :: y39 :: y40 :: y41 :: y42 :: y43 :: y44 :: y45 :: y46 :: y47 :: y48 :: y49 :: y50 :: []).toArray, []⟩ ?_
  refine lateP 10 (.pointer (some ⟨g, off + k * 15, none⟩)) rfl (fun _ => ev_index 39 24 25 (.slice (some ⟨g, off, none⟩) n cc) (.int .i64 (k : Int)) _ rfl (by kernel_rfl) (by kernel_rfl) (idx39 hk)) (fun _ => f0) ?_
  refine lateN (true :: true :: true :: true :: true :: true :: true :: true :: true :: true :: true :: false :: false :: true :: true :: false :: false :: false :: false :: false :: false :: false :: false :: []).toArray ⟨(.pointer (some ⟨p, 0, none⟩) :: .int .i64 (t : Int) :: y2 :: y3 :: y4 :: y5 :: y6 :: y7 :: .int .i64 (k : Int) :: y9 :: y10 :: y11 :: y12 :: y13 :: y14 :: y15 :: .pointer (some ⟨p, 0, none⟩) :: .pointer (some ⟨p, 0, none⟩) :: .pointer (some ⟨p, 351, none⟩) :: .slice (some ⟨g, off, none⟩) n cc :: .int .i64 (k : Int) :: .pointer (some ⟨p, 0, none⟩) :: .pointer (some ⟨p, 0, none⟩) :: .pointer (some ⟨p, 351, none⟩) :: .slice (some ⟨g, off, none⟩) n cc :: .int .i64 (k : Int) :: .pointer (some ⟨g, off + k * 15, none⟩) :: y27 :: y28 :: .pointer (some ⟨p, 0, none⟩) :: .int .i64 (t : Int) :: y31 :: y32 :: y33 :: y34 :: y35 :: y36 :: y37 :: y38 :: y39 :: y40 :: y41 :: y42 :: y43 :: y44 :: y45 :: y46 :: y47 :: y48 :: y49 :: y50 :: []).toArray, []⟩ ?_
  refine lateP 11 (.pointer (some ⟨g, off + k * 15 + 2, none⟩)) rfl (fun _ => ev_field 70 26 2 (.pointer (some ⟨g, off + k * 15, none⟩)) _ rfl (by kernel_rfl) (by kernel_rfl)) (fun _ => f0) ?_
  refine lateN (true :: true :: true :: true :: true :: true :: true :: true :: true :: true :: true :: true :: false :: true :: true :: false :: false :: false :: false :: false :: false :: false :: false :: []).toArray ⟨(.pointer (some ⟨p, 0, none⟩) :: .int .i64 (t : Int) :: y2 :: y3 :: y4 :: y5 :: y6 :: y7 :: .int .i64 (k : Int) :: y9 :: y10 :: y11 :: y12 :: y13 :: y14 :: y15 :: .pointer (some ⟨p, 0, none⟩) :: .pointer (some ⟨p, 0, none⟩) :: .pointer (some ⟨p, 351, none⟩) :: .slice (some ⟨g, off, none⟩) n cc :: .int .i64 (k : Int) :: .pointer (some ⟨p, 0, none⟩) :: .pointer (some ⟨p, 0, none⟩) :: .pointer (some ⟨p, 351, none⟩) :: .slice (some ⟨g, off, none⟩) n cc :: .int .i64 (k : Int) :: .pointer (some ⟨g, off + k * 15, none⟩) :: .pointer (some ⟨g, off + k * 15 + 2, none⟩) :: y28 :: .pointer (some ⟨p, 0, none⟩) :: .int .i64 (t : Int) :: y31 :: y32 :: y33 :: y34 :: y35 :: y36 :: y37 :: y38 :: y39 :: y40 :: y41 :: y42 :: y43 :: y44 :: y45 :: y46 :: y47 :: y48 :: y49 :: y50 :: []).toArray, []⟩ ?_
  refine lateT 12 (ckV c1) rfl (fun wz hz => ev_load 36 27 (.pointer (some ⟨g, off + k * 15 + 2, none⟩)) (ckV c1) rfl (by kernel_rfl) (ld_ck (HL1.out wz hz))) f0 ?_
  refine lateN (true :: true :: true :: true :: true :: true :: true :: true :: true :: true :: true :: true :: true :: true :: true :: false :: false :: false :: false :: false :: false :: false :: false :: []).toArray ⟨(.pointer (some ⟨p, 0, none⟩) :: .int .i64 (t : Int) :: y2 :: y3 :: y4 :: y5 :: y6 :: y7 :: .int .i64 (k : Int) :: y9 :: y10 :: y11 :: y12 :: y13 :: y14 :: y15 :: .pointer (some ⟨p, 0, none⟩) :: .pointer (some ⟨p, 0, none⟩) :: .pointer (some ⟨p, 351, none⟩) :: .slice (some ⟨g, off, none⟩) n cc :: .int .i64 (k : Int) :: .pointer (some ⟨p, 0, none⟩) :: .pointer (some ⟨p, 0, none⟩) :: .pointer (some ⟨p, 351, none⟩) :: .slice (some ⟨g, off, none⟩) n cc :: .int .i64 (k : Int) :: .pointer (some ⟨g, off + k * 15, none⟩) :: .pointer (some ⟨g, off + k * 15 + 2, none⟩) :: ckV c1 :: .pointer (some ⟨p, 0, none⟩) :: .int .i64 (t : Int) :: y31 :: y32 :: y33 :: y34 :: y35 :: y36 :: y37 :: y38 :: y39 :: y40 :: y41 :: y42 :: y43 :: y44 :: y45 :: y46 :: y47 :: y48 :: y49 :: y50 :: []).toArray, []⟩ ?_
  refine lateP 15 (.pointer (some ⟨p, 0, none⟩)) rfl (fun _ => ev_nil 29 ⟨p, 0, none⟩ rfl (by kernel_rfl)) (fun _ => f0) ?_
  refine lateN (true :: true :: true :: true :: true :: true :: true :: true :: true :: true :: true :: true :: true :: true :: true :: true :: false :: false :: false :: false :: false :: false :: false :: []).toArray ⟨(.pointer (some ⟨p, 0, none⟩) :: .int .i64 (t : Int) :: y2 :: y3 :: y4 :: y5 :: y6 :: y7 :: .int .i64 (k : Int) :: y9 :: y10 :: y11 :: y12 :: y13 :: y14 :: y15 :: .pointer (some ⟨p, 0, none⟩) :: .pointer (some ⟨p, 0, none⟩) :: .pointer (some ⟨p, 351, none⟩) :: .slice (some ⟨g, off, none⟩) n cc :: .int .i64 (k : Int) :: .pointer (some ⟨p, 0, none⟩) :: .pointer (some ⟨p, 0, none⟩) :: .pointer (some ⟨p, 351, none⟩) :: .slice (some ⟨g, off, none⟩) n cc :: .int .i64 (k : Int) :: .pointer (some ⟨g, off + k * 15, none⟩) :: .pointer (some ⟨g, off + k * 15 + 2, none⟩) :: ckV c1 :: .pointer (some ⟨p, 0, none⟩) :: .int .i64 (t : Int) :: .pointer (some ⟨p, 0, none⟩) :: y32 :: y33 :: y34 :: y35 :: y36 :: y37 :: y38 :: y39 :: y40 :: y41 :: y42 :: y43 :: y44 :: y45 :: y46 :: y47 :: y48 :: y49 :: y50 :: []).toArray, []⟩ ?_
  refine lateP 16 (.pointer (some ⟨p, 0, none⟩)) rfl (fun _ => ev_field 42 31 0 (.pointer (some ⟨p, 0, none⟩)) _ rfl (by kernel_rfl) (by kernel_rfl)) (fun _ => f0) ?_
  refine lateN (true :: true :: true :: true :: true :: true :: true :: true :: true :: true :: true :: true :: true :: true :: true :: true :: true :: false :: false :: false :: false :: false :: false :: []).toArray ⟨(.pointer (some ⟨p, 0, none⟩) :: .int .i64 (t : Int) :: y2 :: y3 :: y4 :: y5 :: y6 :: y7 :: .int .i64 (k : Int) :: y9 :: y10 :: y11 :: y12 :: y13 :: y14 :: y15 :: .pointer (some ⟨p, 0, none⟩) :: .pointer (some ⟨p, 0, none⟩) :: .pointer (some ⟨p, 351, none⟩) :: .slice (some ⟨g, off, none⟩) n cc :: .int .i64 (k : Int) :: .pointer (some ⟨p, 0, none⟩) :: .pointer (some ⟨p, 0, none⟩) :: .pointer (some ⟨p, 351, none⟩) :: .slice (some ⟨g, off, none⟩) n cc :: .int .i64 (k : Int) :: .pointer (some ⟨g, off + k * 15, none⟩) :: .pointer (some ⟨g, off + k * 15 + 2, none⟩) :: ckV c1 :: .pointer (some ⟨p, 0, none⟩) :: .int .i64 (t : Int) :: .pointer (some ⟨p, 0, none⟩) :: .pointer (some ⟨p, 0, none⟩) :: y33 :: y34 :: y35 :: y36 :: y37 :: y38 :: y39 :: y40 :: y41 :: y42 :: y43 :: y44 :: y45 :: y46 :: y47 :: y48 :: y49 :: y50 :: []).toArray, []⟩ ?_
  refine lateP 17 (.pointer (some ⟨p, t * 13, none⟩)) rfl (fun _ => ev_index 37 32 30 (.pointer (some ⟨p, 0, none⟩)) (.int .i64 (t : Int)) _ rfl (by kernel_rfl) (by kernel_rfl) (idx37 ht)) (fun _ => f0) ?_
  refine lateN (true :: true :: true :: true :: true :: true :: true :: true :: true :: true :: true :: true :: true :: true :: true :: true :: true :: true :: false :: false :: false :: false :: false :: []).toArray ⟨(.pointer (some ⟨p, 0, none⟩) :: .int .i64 (t : Int) :: y2 :: y3 :: y4 :: y5 :: y6 :: y7 :: .int .i64 (k : Int) :: y9 :: y10 :: y11 :: y12 :: y13 :: y14 :: y15 :: .pointer (some ⟨p, 0, none⟩) :: .pointer (some ⟨p, 0, none⟩) :: .pointer (some ⟨p, 351, none⟩) :: .slice (some ⟨g, off, none⟩) n cc :: .int .i64 (k : Int) :: .pointer (some ⟨p, 0, none⟩) :: .pointer (some ⟨p, 0, none⟩) :: .pointer (some ⟨p, 351, none⟩) :: .slice (some ⟨g, off, none⟩) n cc :: .int .i64 (k : Int) :: .pointer (some ⟨g, off + k * 15, none⟩) :: .pointer (some ⟨g, off + k * 15 + 2, none⟩) :: ckV c1 :: .pointer (some ⟨p, 0, none⟩) :: .int .i64 (t : Int) :: .pointer (some ⟨p, 0, none⟩) :: .pointer (some ⟨p, 0, none⟩) :: .pointer (some ⟨p, t * 13, none⟩) :: y34 :: y35 :: y36 :: y37 :: y38 :: y39 :: y40 :: y41 :: y42 :: y43 :: y44 :: y45 :: y46 :: y47 :: y48 :: y49 :: y50 :: []).toArray, []⟩ ?_
  refine lateT 18 (ckV c2) rfl (fun wz hz => ev_load 36 33 (.pointer (some ⟨p, t * 13, none⟩)) (ckV c2) rfl (by kernel_rfl) (ld_ck (HL2.out wz hz))) f0 ?_
  refine lateN (true :: true :: true :: true :: true :: true :: true :: true :: true :: true :: true :: true :: true :: true :: true :: true :: true :: true :: true :: false :: false :: false :: false :: []).toArray ⟨(.pointer (some ⟨p, 0, none⟩) :: .int .i64 (t : Int) :: y2 :: y3 :: y4 :: y5 :: y6 :: y7 :: .int .i64 (k : Int) :: y9 :: y10 :: y11 :: y12 :: y13 :: y14 :: y15 :: .pointer (some ⟨p, 0, none⟩) :: .pointer (some ⟨p, 0, none⟩) :: .pointer (some ⟨p, 351, none⟩) :: .slice (some ⟨g, off, none⟩) n cc :: .int .i64 (k : Int) :: .pointer (some ⟨p, 0, none⟩) :: .pointer (some ⟨p, 0, none⟩) :: .pointer (some ⟨p, 351, none⟩) :: .slice (some ⟨g, off, none⟩) n cc :: .int .i64 (k : Int) :: .pointer (some ⟨g, off + k * 15, none⟩) :: .pointer (some ⟨g, off + k * 15 + 2, none⟩) :: ckV c1 :: .pointer (some ⟨p, 0, none⟩) :: .int .i64 (t : Int) :: .pointer (some ⟨p, 0, none⟩) :: .pointer (some ⟨p, 0, none⟩) :: .pointer (some ⟨p, t * 13, none⟩) :: ckV c2 :: y35 :: y36 :: y37 :: y38 :: y39 :: y40 :: y41 :: y42 :: y43 :: y44 :: y45 :: y46 :: y47 :: y48 :: y49 :: y50 :: []).toArray, []⟩ ?_
  refine late_all [19] (by kernel_rfl) (by simp) (fun jj hjj => ?_)
  simp only [List.mem_singleton] at hjj
  subst hjj
  refine late_call rfl rfl (by kernel_rfl) ((join_any W.drew c1 c2 hb1 hb2).mono fun e w' h => (⟨_, h.1, rfl, h.2⟩ : ∃ v, e = .returned v ∧ (v = ckV (joinC c1 c2) ∧ Fr no W.drew w'))) ?_
  rintro v w1 ⟨rfl, F1⟩
  have f1 : Fr no W w1 := f0.and F1
  refine ⟨fun _ => f1, ?_⟩
  refine lateN (true :: true :: true :: true :: true :: true :: true :: true :: true :: true :: true :: true :: true :: true :: true :: true :: true :: true :: true :: true :: false :: false :: false :: []).toArray ⟨(.pointer (some ⟨p, 0, none⟩) :: .int .i64 (t : Int) :: y2 :: y3 :: y4 :: y5 :: y6 :: y7 :: .int .i64 (k : Int) :: y9 :: y10 :: y11 :: y12 :: y13 :: y14 :: y15 :: .pointer (some ⟨p, 0, none⟩) :: .pointer (some ⟨p, 0, none⟩) :: .pointer (some ⟨p, 351, none⟩) :: .slice (some ⟨g, off, none⟩) n cc :: .int .i64 (k : Int) :: .pointer (some ⟨p, 0, none⟩) :: .pointer (some ⟨p, 0, none⟩) :: .pointer (some ⟨p, 351, none⟩) :: .slice (some ⟨g, off, none⟩) n cc :: .int .i64 (k : Int) :: .pointer (some ⟨g, off + k * 15, none⟩) :: .pointer (some ⟨g, off + k * 15 + 2, none⟩) :: ckV c1 :: .pointer (some ⟨p, 0, none⟩) :: .int .i64 (t : Int) :: .pointer (some ⟨p, 0, none⟩) :: .pointer (some ⟨p, 0, none⟩) :: .pointer (some ⟨p, t * 13, none⟩) :: ckV c2 :: ckV (joinC c1 c2) :: y36 :: y37 :: y38 :: y39 :: y40 :: y41 :: y42 :: y43 :: y44 :: y45 :: y46 :: y47 :: y48 :: y49 :: y50 :: []).toArray, []⟩ ?_
  refine lateP 20 (.pointer (some ⟨g, off + k * 15, none⟩)) rfl (fun _ => ev_index 39 19 20 (.slice (some ⟨g, off, none⟩) n cc) (.int .i64 (k : Int)) _ rfl (by kernel_rfl) (by kernel_rfl) (idx39 hk)) (fun _ => f1) ?_
  refine lateN (true :: true :: true :: true :: true :: true :: true :: true :: true :: true :: true :: true :: true :: true :: true :: true :: true :: true :: true :: true :: true :: false :: false :: []).toArray ⟨(.pointer (some ⟨p, 0, none⟩) :: .int .i64 (t : Int) :: y2 :: y3 :: y4 :: y5 :: y6 :: y7 :: .int .i64 (k : Int) :: y9 :: y10 :: y11 :: y12 :: y13 :: y14 :: y15 :: .pointer (some ⟨p, 0, none⟩) :: .pointer (some ⟨p, 0, none⟩) :: .pointer (some ⟨p, 351, none⟩) :: .slice (some ⟨g, off, none⟩) n cc :: .int .i64 (k : Int) :: .pointer (some ⟨p, 0, none⟩) :: .pointer (some ⟨p, 0, none⟩) :: .pointer (some ⟨p, 351, none⟩) :: .slice (some ⟨g, off, none⟩) n cc :: .int .i64 (k : Int) :: .pointer (some ⟨g, off + k * 15, none⟩) :: .pointer (some ⟨g, off + k * 15 + 2, none⟩) :: ckV c1 :: .pointer (some ⟨p, 0, none⟩) :: .int .i64 (t : Int) :: .pointer (some ⟨p, 0, none⟩) :: .pointer (some ⟨p, 0, none⟩) :: .pointer (some ⟨p, t * 13, none⟩) :: ckV c2 :: ckV (joinC c1 c2) :: .pointer (some ⟨g, off + k * 15, none⟩) :: y37 :: y38 :: y39 :: y40 :: y41 :: y42 :: y43 :: y44 :: y45 :: y46 :: y47 :: y48 :: y49 :: y50 :: []).toArray, []⟩ ?_
  refine lateP 21 (.pointer (some ⟨g, off + k * 15 + 2, none⟩)) rfl (fun _ => ev_field 70 36 2 (.pointer (some ⟨g, off + k * 15, none⟩)) _ rfl (by kernel_rfl) (by kernel_rfl)) (fun _ => f1) ?_
  refine lateN (true :: true :: true :: true :: true :: true :: true :: true :: true :: true :: true :: true :: true :: true :: true :: true :: true :: true :: true :: true :: true :: true :: false :: []).toArray ⟨(.pointer (some ⟨p, 0, none⟩) :: .int .i64 (t : Int) :: y2 :: y3 :: y4 :: y5 :: y6 :: y7 :: .int .i64 (k : Int) :: y9 :: y10 :: y11 :: y12 :: y13 :: y14 :: y15 :: .pointer (some ⟨p, 0, none⟩) :: .pointer (some ⟨p, 0, none⟩) :: .pointer (some ⟨p, 351, none⟩) :: .slice (some ⟨g, off, none⟩) n cc :: .int .i64 (k : Int) :: .pointer (some ⟨p, 0, none⟩) :: .pointer (some ⟨p, 0, none⟩) :: .pointer (some ⟨p, 351, none⟩) :: .slice (some ⟨g, off, none⟩) n cc :: .int .i64 (k : Int) :: .pointer (some ⟨g, off + k * 15, none⟩) :: .pointer (some ⟨g, off + k * 15 + 2, none⟩) :: ckV c1 :: .pointer (some ⟨p, 0, none⟩) :: .int .i64 (t : Int) :: .pointer (some ⟨p, 0, none⟩) :: .pointer (some ⟨p, 0, none⟩) :: .pointer (some ⟨p, t * 13, none⟩) :: ckV c2 :: ckV (joinC c1 c2) :: .pointer (some ⟨g, off + k * 15, none⟩) :: .pointer (some ⟨g, off + k * 15 + 2, none⟩) :: y38 :: y39 :: y40 :: y41 :: y42 :: y43 :: y44 :: y45 :: y46 :: y47 :: y48 :: y49 :: y50 :: []).toArray, []⟩ ?_
  refine late_all [22] (by kernel_rfl) (by simp) (fun jj hjj => ?_)
  simp only [List.mem_singleton] at hjj
  subst hjj
  refine late_skip rfl (by kernel_rfl) (ev_store 36 37 35 (.pointer (some ⟨g, off + k * 15 + 2, none⟩)) (ckV (joinC c1 c2)) _ rfl (by kernel_rfl) (by kernel_rfl) (st_ck (joinC c1 c2) (HT.out w1 f1))) ?_
  refine ⟨fun h => by simp at h, ?_⟩
  refine lateN (true :: true :: true :: true :: true :: true :: true :: true :: true :: true :: true :: true :: true :: true :: true :: true :: true :: true :: true :: true :: true :: true :: true :: []).toArray ⟨(.pointer (some ⟨p, 0, none⟩) :: .int .i64 (t : Int) :: y2 :: y3 :: y4 :: y5 :: y6 :: y7 :: .int .i64 (k : Int) :: y9 :: y10 :: y11 :: y12 :: y13 :: y14 :: y15 :: .pointer (some ⟨p, 0, none⟩) :: .pointer (some ⟨p, 0, none⟩) :: .pointer (some ⟨p, 351, none⟩) :: .slice (some ⟨g, off, none⟩) n cc :: .int .i64 (k : Int) :: .pointer (some ⟨p, 0, none⟩) :: .pointer (some ⟨p, 0, none⟩) :: .pointer (some ⟨p, 351, none⟩) :: .slice (some ⟨g, off, none⟩) n cc :: .int .i64 (k : Int) :: .pointer (some ⟨g, off + k * 15, none⟩) :: .pointer (some ⟨g, off + k * 15 + 2, none⟩) :: ckV c1 :: .pointer (some ⟨p, 0, none⟩) :: .int .i64 (t : Int) :: .pointer (some ⟨p, 0, none⟩) :: .pointer (some ⟨p, 0, none⟩) :: .pointer (some ⟨p, t * 13, none⟩) :: ckV c2 :: ckV (joinC c1 c2) :: .pointer (some ⟨g, off + k * 15, none⟩) :: .pointer (some ⟨g, off + k * 15 + 2, none⟩) :: y38 :: y39 :: y40 :: y41 :: y42 :: y43 :: y44 :: y45 :: y46 :: y47 :: y48 :: y49 :: y50 :: []).toArray, []⟩ ?_
  refine late_done (by kernel_rfl) ?_
  exact HQ.out w1 f1

/-- Release. -/
def relW (T : Wt) (t : Int) : Wt := if isB t then tickW T t.toNat else T
def relK (T : Wt) (ks : List Kp) (t a i : Int) : List Kp := if isB t then (kAdd ks a i).set (kAt ks a i) ⟨(kGet ks a i).at_, (kGet ks a i).i, joinC (kGet ks a i).c (T.now t.toNat)⟩ else ks
set_option maxRecDepth 100000 in
set_option maxHeartbeats 1000000 in
theorem release_any (w : World) (p : Nat) (T : Wt) (ks : List Kp) (as' : List Ac) (n : Int) (h : RW w p T ks as' n) (hB : BW T 900000) (hK : BK ks 900000) (hk : ks.length ≤ 1000) (t a i : Int) :
    Calls Try.prog 21 #[.pointer (some ⟨p, 0, none⟩), .int .i64 t, .int .i64 a, .int .i64 i] w fun e w' => e = .returned (.tuple #[]) ∧ RW w' p (relW T t) (relK T ks t a i) as' n ∧ Fr (TD T.c w) w w' := by
  have IS := is_any
  have H : Hid _ := h
  clear h
  cases h1 : isB t
  · have hT : relW T t = T := by unfold relW; rw [h1, if_neg Bool.false_ne_true]
    have hT2 : relK T ks t a i = ks := by unfold relK; rw [h1, if_neg Bool.false_ne_true]
    rw [hT, hT2]
    clear hT hT2
    have I1 := IS w t
    rw [h1] at I1
    clear IS h1
    go_enter Try.func21, Try.ntmps21
    go_wp2_with fail
    refine I1.mono ?_
    rintro _ _ ⟨rfl, rfl⟩
    go_wp2_with fail
    refine bodyPost_ret (results_none rfl _ _ _) rfl ?_
    exact ⟨rfl, H.out, Fr.refl _ _⟩
  · have hT : relW T t = tickW T t.toNat := by unfold relW; rw [h1]; rfl
    have hT2 : relK T ks t a i = (kAdd ks a i).set (kAt ks a i) ⟨(kGet ks a i).at_, (kGet ks a i).i, joinC (kGet ks a i).c (T.now t.toNat)⟩ := by unfold relK; rw [h1]; rfl
    rw [hT, hT2]
    clear hT hT2
    have I1 := IS w t
    rw [h1] at I1
    obtain ⟨tn, rfl, ht, -⟩ := isB_nat h1
    clear IS h1
    simp only [Int.toNat_natCast]
    have HG : Hid _ := kGet_some ks a i
    have HBG : Hid (∀ j, 0 ≤ (kGet ks a i).c j ∧ (kGet ks a i).c j ≤ 900000) := fun j => hK.get (by omega) a i j
    have I2 := find_any w p T ks as' n H.out hk a i
    generalize hR : kAt ks a i = R at *
    generalize hS : kAdd ks a i = S at *
    generalize hX : kGet ks a i = X at *
    clear hR hS hX hK hk
    go_enter Try.func21, Try.ntmps21
    go_wp2_with fail
    refine I1.mono ?_
    rintro _ w0 ⟨rfl, rfl⟩
    go_wp2_with fail
    refine I2.mono ?_
    rintro _ wq ⟨rfl, R1, F1⟩
    go_upto_region 2 with fail
    obtain ⟨kv, ck, hO⟩ := R1.kept
    obtain ⟨oo, cc, rfl⟩ := hO.form
    obtain ⟨g, off, rfl, -, hr⟩ := kp_range hO HG.out
    have hlt : R < S.length := (List.getElem?_eq_some_iff.1 HG.out).1
    refine use_then ?_ (fun _ _ h => h)
    refine reg21r wq p tn g off S.length cc R ht hlt X.c (T.now tn) (fun j => ⟨(HBG.out j).1, by have := (HBG.out j).2; omega⟩) (hB.bn (by omega) tn) (fun w' f => f.cell ck (fun f => f)) (fun w' f => rangeAt_fr hr f (fun f => f)) (fun w' f => (R1.keep f).now_ tn ht) (fun w' f => own_there (hO.keep f) (rangeAt_fr hr f (fun f => f))) _ _ _ _ _ _ _ _ _ _ _ _ _ _ _ _ _ _ _ _ _ _ _ _ _ _ _ _ _ _ _ _ _ _ _ _ _ _ _ _ _ _ _ _ _ _ _ _ _ ?_
    intro w2 F2
    obtain ⟨R2, F3⟩ := (R1.keep F2).setKc (F2.cell ck (fun f => f)) (hO.keep F2) HG.out (joinC X.c (T.now tn))
    have FF : Fr (TD T.c w0) w0 (w2.setCells g (off + R * 15 + 2) (ckL (joinC X.c (T.now tn)))) := F1.tk ((F2.up (S := TD T.c wq)).tk (F3.mono fun i _ e => e))
    generalize w2.setCells g (off + R * 15 + 2) (ckL (joinC X.c (T.now tn))) = w3 at *
    have c1 := (R2.now_ tn ht) tn _ (ckL_get _ tn ht)
    have fz := R2.frz
    have hv := hB tn tn
    have hv1 : T.now tn tn ≤ 900000 := hv.2.1
    have hv0 : 0 ≤ T.now tn tn := hv.1
    have hb' : (tn : Int) < 13 := by omega
    have hb1' : (0 : Int) ≤ (tn : Int) := by omega
    have R3 : RW (w3.setCell ⟨p, tn * 13 + tn, none⟩ (.int .i64 (T.now tn tn + 1))) p (tickW T tn) (S.set R ⟨X.at_, X.i, joinC X.c (T.now tn)⟩) as' n := R2.setOne ht ht (T.now tn tn + 1)
    have HX : Hid (_ ∧ _) := ⟨R3.keep ((Fr.refl no _).drew), (FF.tk (R2.td (fr_set w3 p (tn * 13 + tn) (.int .i64 (T.now tn tn + 1))))).drew⟩
    clear R2 R3 FF F3 hv F2 F1 R1 hr hO ck
    show Exit.then _ _ Exit.normal _ _
    go_wp2_with fail
    go_region
    go_wp2_with fail
    go_end0
    exact ⟨rfl, HX.out.1, HX.out.2⟩
end Go.Proofs.Ytnineggppoipiaa
