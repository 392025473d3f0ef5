/- Free blocks that touch become one; Release. -/
import Derived.Test.YtopcbcdigllenaaFac
namespace Go.Proofs.Ytopcbcdigllenaa
open Go.ChangeShapes Go.WideShapes Go.ChangeAt Go.RowKit

/-- Free blocks that touch are one. -/
def joinB : List Blk → List Blk
  | [] => []
  | [b] => [b]
  | .free i :: .free j :: r => joinB (.free (i ++ (2 * (j.length + 1)) :: j) :: r)
  | b :: c :: r => b :: joinB (c :: r)
  termination_by l => l.length

theorem joinB_nil : joinB [] = [] := by unfold joinB; rfl
theorem joinB_one (b : Blk) : joinB [b] = [b] := by unfold joinB; rfl
theorem joinB_two (i j : List Nat) (r : List Blk) : joinB (.free i :: .free j :: r) = joinB (.free (i ++ (2 * (j.length + 1)) :: j) :: r) := by rw [joinB]
theorem joinB_obj (c : Nat) (ws : List Nat) (r : List Blk) : joinB (.obj c ws :: r) = .obj c ws :: joinB r := by
  cases r with
  | nil => rw [joinB_one, joinB_nil]
  | cons b r => rw [joinB]; simp
theorem joinB_free_obj (i : List Nat) (c : Nat) (ws : List Nat) (r : List Blk) : joinB (.free i :: .obj c ws :: r) = .free i :: joinB (.obj c ws :: r) := by rw [joinB]; simp


theorem joinB_free_one (i : List Nat) : joinB [.free i] = .free i :: joinB [] := by rw [joinB_one, joinB_nil]

theorem flat_merge (pre r : List Blk) (i j : List Nat) : (flat (pre ++ .free i :: .free j :: r)).set (siz pre) (2 * (i.length + 1 + (j.length + 1))) = flat (pre ++ .free (i ++ (2 * (j.length + 1)) :: j) :: r) := by
  have := flat_set pre (.free j :: r) (.free i) 0 (2 * (i.length + 1 + (j.length + 1))) (by simp [Blk.len])
  rw [Nat.add_zero] at this
  rw [this, flat_append, flat_cons, flat_cons]
  simp [Blk.words]
  omega

def Blk.rel : Blk → Blk
  | .obj c ws => .free (c :: ws)
  | .free j => .free j

/-- The object at an address becomes free. -/
def relB : List Blk → Int → List Blk
  | [], _ => []
  | b :: r, a => if a = 1 then b.rel :: r else b :: relB r (a - (b.len : Int))

theorem relB_at (pre post : List Blk) (c : Nat) (ws : List Nat) : relB (pre ++ .obj c ws :: post) ((siz pre : Int) + 1) = pre ++ .free (c :: ws) :: post := by
  induction pre with
  | nil => simp [relB, siz_nil, Blk.rel]
  | cons x r ih =>
    have := x.len_pos
    rw [List.cons_append, relB, if_neg (by rw [siz_cons]; omega), siz_cons]
    rw [show ((x.len + siz r : Nat) : Int) + 1 - (x.len : Int) = (siz r : Int) + 1 by omega, ih]
    rfl

section
variable {P : Program} {a : Act} {w : World} {Q : Exit → Act → World → Prop}

theorem least {T : Nat → Prop} (n : Nat) (h : T n) : ∃ m, T m ∧ ∀ k, T k → m ≤ k := by
  induction n using Nat.strongRecOn with
  | _ n ih =>
    by_cases hx : ∃ k, k < n ∧ T k
    · obtain ⟨k, hk, hT⟩ := hx
      exact ih k hk hT
    · exact ⟨n, h, fun k hk => Nat.le_of_not_lt fun hl => hx ⟨k, hl, hk⟩⟩

open Classical in
/-- One label; the relation bears a number that falls. -/
theorem wp_label_fuel {c R0 : Code} (l0 : Nat) (J : Nat → Act → World → Prop) (hf0 : findLabel c l0 = some (.seq .skip R0))
    (first : ∀ K : Exit → Act → World → Prop, (∀ n a w, J n a w → R0.wp P K a w) → (∀ a w, Q .ret a w → K .ret a w) → (∀ a w, Q .normal a w → K .normal a w) → c.wp P K a w)
    (pass0 : ∀ n a w, J n a w → ∀ K : Exit → Act → World → Prop, (∀ m a' w', m < n → J m a' w' → K (.goto l0) a' w') → (∀ a w, Q .ret a w → K .ret a w) → (∀ a w, Q .normal a w → K .normal a w) → R0.wp P K a w) :
    (Code.scope c).wp P Q a w := by
  have mn : ∀ a w, (∃ n, J n a w) → ∃ m, J m a w ∧ ∀ k, J k a w → m ≤ k := fun a w ⟨n, h⟩ => least n h
  refine wp_label_one l0 (fun a w => ∃ n, J n a w) (fun a w => if h : ∃ n, J n a w then Classical.choose (mn a w h) else 0) hf0 ?_ ?_
  · intro K h0 hr hn
    exact first K (fun n a w h => h0 a w ⟨n, h⟩) hr hn
  · rintro a w h K hj hr hn
    have hs := Classical.choose_spec (mn a w h)
    refine pass0 _ a w hs.1 K (fun m a' w' hm hJ => hj a' w' ⟨m, hJ⟩ ?_) hr hn
    rw [dif_pos h, dif_pos ⟨m, hJ⟩]
    exact Nat.lt_of_le_of_lt ((Classical.choose_spec (mn a' w' ⟨m, hJ⟩)).2 m hJ) hm
end

def JoinAt (w : World) (p g : Nat) (bs : List Blk) (n : Nat) (x : Act) (wr : World) : Prop :=
  ∃ (k : Nat) (pre post : List Blk) (z : Int) (u1 u3 u4 u5 u6 u7 u8 u9 u10 u11 u12 u13 u14 u15 u16 u17 u18 u19 u20 u21 u22 u23 u24 u25 u26 u27 u28 u29 u30 u31 u32 u33 u34 u35 u36 u37 u38 u39 u40 u41 u42 u43 u44 u45 : Value), x = { tmps := #[.pointer (some ⟨p, 0, none⟩), u1, .int .i64 z, u3, u4, u5, u6, u7, u8, u9, u10, u11, u12, u13, u14, u15, u16, u17, u18, u19, u20, u21, u22, u23, u24, u25, u26, u27, u28, u29, u30, u31, u32, u33, u34, u35, u36, u37, u38, u39, u40, u41, u42, u43, u44, u45], defers := [] } ∧ z = (k : Int) + 1 ∧ k = siz pre ∧ n = post.length ∧ HP wr p g (pre ++ post) ∧ joinB bs = pre ++ joinB post ∧ Fr (fun k => k = g) w wr

set_option maxRecDepth 100000 in
set_option maxHeartbeats 2000000 in
theorem join_any (w : World) (p g : Nat) (bs : List Blk) (h : HP w p g bs) :
    Calls Try.prog 42 #[.pointer (some ⟨p, 0, none⟩)] w fun e w' => e = .returned (.tuple #[]) ∧ HP w' p g (joinB bs) ∧ Fr (fun k => k = g) w w' := by
  have HH : Hid (HP w p g bs) := h
  clear h
  go_enter Try.func42, Try.ntmps42
  go_wp2_with fail
  refine wp_label_fuel 0 (JoinAt w p g bs) rfl ?_ ?_
  · intro K h0 hr hn
    go_wp2_with fail
    go_step3
    rename_i hk
    exact hk _ _ (h0 bs.length _ _ ⟨0, [], bs, _, _, _, _, _, _, _, _, _, _, _, _, _, _, _, _, _, _, _, _, _, _, _, _, _, _, _, _, _, _, _, _, _, _, _, _, _, _, _, _, _, _, _, _, _, rfl, rfl, rfl, rfl, HH.out, rfl, Fr.refl _ _⟩)
  · rintro n x wr ⟨k, pre, post, z, u1, u3, u4, u5, u6, u7, u8, u9, u10, u11, u12, u13, u14, u15, u16, u17, u18, u19, u20, u21, u22, u23, u24, u25, u26, u27, u28, u29, u30, u31, u32, u33, u34, u35, u36, u37, u38, u39, u40, u41, u42, u43, u44, u45, rfl, rfl, hk, hnn, hp, hb, hf⟩ K hj hr hn
    have HP1 : Hid (HP wr p g (pre ++ post)) := hp
    have HB : Hid (joinB bs = pre ++ joinB post) := hb
    have HK : Hid (k = siz pre) := hk
    have HF : Hid (Fr (fun k => k = g) w wr) := hf
    have HN : Hid (n = post.length) := hnn
    have hc := hp.cell
    have hl := hp.len
    have hq : (flat (pre ++ post)).length = k + siz post := by
      have : siz (pre ++ post) = k + siz post := by rw [siz_append, hk]
      exact this
    rw [hq] at hc hl
    clear hp hb hk hf hnn hq
    cases post with
    | nil =>
      rw [siz_nil, Nat.add_zero] at hc hl
      have HX : Hid (HP wr p g (joinB bs)) := by
        rw [Hid, HB.out, joinB_nil]
        exact HP1.out
      go_wp2_with fail
      refine hr _ _ ?_
      exact bodyPost_ret (results_none rfl _ _ _) rfl ⟨rfl, HX.out, HF.out⟩
    | cons b r =>
      have hbl := b.len_pos
      have hsc : siz (b :: r) = b.len + siz r := siz_cons b r
      rw [hsc] at hc hl
      have hd : (flat (pre ++ b :: r))[k]? = some (2 * b.len + b.bit) := by rw [HK.out]; exact flat_head pre b r
      have IOb : ∀ m, Calls Try.prog 54 #[.pointer (some ⟨p, 0, none⟩), .int .i64 ((k : Int) + 1)] (wr.drewN m) fun e w' => e = .returned (.bool b.isObj) ∧ ∃ m', w' = (wr.drewN m).drewN m' := fun m => by
        rw [← b.bit_obj]
        exact isObject_any (wr.drewN m) p g _ (HP1.out.drewN m) k b.len b.bit hd (by omega) b.bit_le
      have LO : ∀ m, Calls Try.prog 41 #[.pointer (some ⟨p, 0, none⟩), .int .i64 ((k : Int) + 1)] (wr.drewN m) fun e w' => e = .returned (.int .i64 (b.len : Int)) ∧ ∃ m', w' = (wr.drewN m).drewN m' :=
        fun m => length_any (wr.drewN m) p g _ (HP1.out.drewN m) k b.len b.bit hd (by omega) b.bit_le
      have LO0 : Calls Try.prog 41 #[.pointer (some ⟨p, 0, none⟩), .int .i64 ((k : Int) + 1)] wr fun e w' => e = .returned (.int .i64 (b.len : Int)) ∧ ∃ m', w' = wr.drewN m' := LO 0
      have MV : Hid (joinB (b :: r) = b :: joinB r → HP wr p g ((pre ++ [b]) ++ r) ∧ joinB bs = (pre ++ [b]) ++ joinB r ∧ k + b.len = siz (pre ++ [b]) ∧ r.length < n) := fun e => by
        refine ⟨by have := HP1.out; simpa using this, by rw [HB.out, e]; simp, by rw [siz_append, siz_cons, siz_nil, HK.out]; omega, by rw [HN.out]; simp⟩
      clear hd
      cases r with
      | nil =>
        rw [siz_nil, Nat.add_zero] at hc hl
        obtain ⟨M1, M2, M3, M4⟩ := MV.out (by rw [joinB_one, joinB_nil])
        have HM : Hid (HP wr p g ((pre ++ [b]) ++ []) ∧ joinB bs = (pre ++ [b]) ++ joinB [] ∧ k + b.len = siz (pre ++ [b]) ∧ ([] : List Blk).length < n) := ⟨M1, M2, M3, M4⟩
        clear MV M1 M2 M3 M4
        generalize b.len = d at *
        have ht : ¬ (((k + d : Nat) : Int) < (k : Int) + 1) := by omega
        have ht2 : decide ((k : Int) + 1 + (d : Int) ≤ ((k + d : Nat) : Int)) = false := decide_eq_false (by omega)
        generalize hqd : k + d = q at hc hl ht ht2
        go_wp2_with fail
        refine LO0.mono ?_
        rintro e w1 ⟨rfl, m1, hw1⟩
        have HW1 : Hid (w1 = wr.drewN m1) := hw1
        have hc1 : w1.cell? ⟨p, 0, none⟩ = some (.slice (some ⟨g, 0, none⟩) q q) := by rw [hw1]; exact hc
        clear hw1
        go_wp2_with fail
        go_step3
        refine hj _ _ _ HM.out.2.2.2 ⟨k + d, pre ++ [b], [], _, _, _, _, _, _, _, _, _, _, _, _, _, _, _, _, _, _, _, _, _, _, _, _, _, _, _, _, _, _, _, _, _, _, _, _, _, _, _, _, _, _, _, _, _, rfl, by omega, HM.out.2.2.1, rfl, by rw [HW1.out]; exact HM.out.1.drewN m1, HM.out.2.1, by rw [HW1.out]; exact HF.out.drewN m1⟩
      | cons b2 r2 =>
        have hbl2 := b2.len_pos
        rw [siz_cons b2 r2] at hc hl
        have hd2 : (flat (pre ++ b :: b2 :: r2))[k + b.len]? = some (2 * b2.len + b2.bit) := by
          have := flat_head (pre ++ [b]) b2 r2
          rw [siz_append, siz_cons, siz_nil, Nat.add_zero, ← HK.out] at this
          simpa using this
        have ea : ((k + b.len : Nat) : Int) + 1 = (k : Int) + 1 + (b.len : Int) := by omega
        have IO2 : ∀ m, Calls Try.prog 54 #[.pointer (some ⟨p, 0, none⟩), .int .i64 ((k : Int) + 1 + (b.len : Int))] (wr.drewN m) fun e w' => e = .returned (.bool b2.isObj) ∧ ∃ m', w' = (wr.drewN m).drewN m' := fun m => by
          rw [← b2.bit_obj, ← ea]
          exact isObject_any (wr.drewN m) p g _ (HP1.out.drewN m) (k + b.len) b2.len b2.bit hd2 (by omega) b2.bit_le
        have LO2 : ∀ m, Calls Try.prog 41 #[.pointer (some ⟨p, 0, none⟩), .int .i64 ((k : Int) + 1 + (b.len : Int))] (wr.drewN m) fun e w' => e = .returned (.int .i64 (b2.len : Int)) ∧ ∃ m', w' = (wr.drewN m).drewN m' := fun m => by
          rw [← ea]
          exact length_any (wr.drewN m) p g _ (HP1.out.drewN m) (k + b.len) b2.len b2.bit hd2 (by omega) b2.bit_le
        have LY : Hid (∀ (m t n : Nat), t < (flat (pre ++ b :: b2 :: r2)).length → n ≤ 4096 → Calls Try.prog 36 #[.pointer (some ⟨p, 0, none⟩), .int .i64 ((t : Int) + 1), .int .i64 (n : Int), .int .u64 0] (wr.drewN m) fun e w' => e = .returned (.tuple #[]) ∧ HW w' p g ((flat (pre ++ b :: b2 :: r2)).set t (2 * n)) ∧ Fr (fun k => k = g) w w') := fun m t n ht hn => by
          have := lay_any (wr.drewN m) p g _ (HP1.out.drewN m) t n 0 ht hn (by omega)
          exact this.mono fun e w' ⟨a1, a2, a3⟩ => ⟨a1, a2, (HF.out.drewN m).trans a3 (fun _ _ x => x) (fun _ _ x => x)⟩
        clear hd2 ea
        generalize hqd : k + (b.len + (b2.len + siz r2)) = q at hc hl
        have ht : ¬ ((q : Int) < (k : Int) + 1) := by omega
        have ht2 : (k : Int) + 1 + (b.len : Int) ≤ (q : Int) := by omega
        have FIN : Hid (joinB (b :: b2 :: r2) = b :: joinB (b2 :: r2) → ∀ (m : Nat) (a' : Act) (w' : World) (z : Int), w' = wr.drewN m → z = (k : Int) + 1 + (b.len : Int) → (∃ u1 u3 u4 u5 u6 u7 u8 u9 u10 u11 u12 u13 u14 u15 u16 u17 u18 u19 u20 u21 u22 u23 u24 u25 u26 u27 u28 u29 u30 u31 u32 u33 u34 u35 u36 u37 u38 u39 u40 u41 u42 u43 u44 u45, a' = { tmps := #[.pointer (some ⟨p, 0, none⟩), u1, .int .i64 z, u3, u4, u5, u6, u7, u8, u9, u10, u11, u12, u13, u14, u15, u16, u17, u18, u19, u20, u21, u22, u23, u24, u25, u26, u27, u28, u29, u30, u31, u32, u33, u34, u35, u36, u37, u38, u39, u40, u41, u42, u43, u44, u45], defers := [] }) → K (.goto 0) a' w') := by
          intro e m a' w' z hw hz hx
          obtain ⟨u1, u3, u4, u5, u6, u7, u8, u9, u10, u11, u12, u13, u14, u15, u16, u17, u18, u19, u20, u21, u22, u23, u24, u25, u26, u27, u28, u29, u30, u31, u32, u33, u34, u35, u36, u37, u38, u39, u40, u41, u42, u43, u44, u45, hx⟩ := hx
          obtain ⟨M1, M2, M3, M4⟩ := MV.out e
          exact hj _ _ _ M4 ⟨k + b.len, pre ++ [b], b2 :: r2, z, u1, u3, u4, u5, u6, u7, u8, u9, u10, u11, u12, u13, u14, u15, u16, u17, u18, u19, u20, u21, u22, u23, u24, u25, u26, u27, u28, u29, u30, u31, u32, u33, u34, u35, u36, u37, u38, u39, u40, u41, u42, u43, u44, u45, hx, by omega, M3, rfl, by rw [hw]; exact M1.drewN m, M2, by rw [hw]; exact HF.out.drewN m⟩
        cases b with
        | obj c ws =>
          have JE : Hid (joinB (.obj c ws :: b2 :: r2) = .obj c ws :: joinB (b2 :: r2)) := joinB_obj _ _ _
          have IOb' : ∀ m, Calls Try.prog 54 #[.pointer (some ⟨p, 0, none⟩), .int .i64 ((k : Int) + 1)] (wr.drewN m) fun e w' => e = .returned (.bool true) ∧ ∃ m', w' = (wr.drewN m).drewN m' := IOb
          clear MV LY LO LO2 IO2 IOb hj
          generalize (Blk.obj c ws).len = d at *
          go_wp2_with fail
          refine LO0.mono ?_
          rintro e w1 ⟨rfl, m1, hw1⟩
          have HW1 : Hid (w1 = wr.drewN m1) := hw1
          have hc1 : w1.cell? ⟨p, 0, none⟩ = some (.slice (some ⟨g, 0, none⟩) q q) := by rw [hw1]; exact hc
          have IO1 := IOb' m1
          rw [← hw1] at IO1
          clear hw1
          go_wp2_with fail
          refine IO1.mono ?_
          rintro e w2 ⟨rfl, m2, rfl⟩
          go_wp2_with fail
          go_step3
          exact FIN.out JE.out (m1 + m2) _ _ _ (by rw [HW1.out]; simp) rfl ⟨_, _, _, _, _, _, _, _, _, _, _, _, _, _, _, _, _, _, _, _, _, _, _, _, _, _, _, _, _, _, _, _, _, _, _, _, _, _, _, _, _, _, _, _, rfl⟩
        | free i =>
          have IOb' : ∀ m, Calls Try.prog 54 #[.pointer (some ⟨p, 0, none⟩), .int .i64 ((k : Int) + 1)] (wr.drewN m) fun e w' => e = .returned (.bool false) ∧ ∃ m', w' = (wr.drewN m).drewN m' := IOb
          cases b2 with
          | obj c ws =>
            have JE : Hid (joinB (.free i :: .obj c ws :: r2) = .free i :: joinB (.obj c ws :: r2)) := joinB_free_obj _ _ _ _
            have IO2' : ∀ m, Calls Try.prog 54 #[.pointer (some ⟨p, 0, none⟩), .int .i64 ((k : Int) + 1 + ((Blk.free i).len : Int))] (wr.drewN m) fun e w' => e = .returned (.bool true) ∧ ∃ m', w' = (wr.drewN m).drewN m' := IO2
            clear MV LY LO LO2 IO2 IOb hj
            generalize (Blk.free i).len = d at *
            go_wp2_with fail
            refine LO0.mono ?_
            rintro e w1 ⟨rfl, m1, hw1⟩
            have HW1 : Hid (w1 = wr.drewN m1) := hw1
            have hc1 : w1.cell? ⟨p, 0, none⟩ = some (.slice (some ⟨g, 0, none⟩) q q) := by rw [hw1]; exact hc
            have IO1 := IOb' m1
            rw [← hw1] at IO1
            clear hw1
            go_wp2_with fail
            refine IO1.mono ?_
            rintro e w2 ⟨rfl, m2, hw2⟩
            have HW2 : Hid (w2 = wr.drewN (m1 + m2)) := by rw [Hid, hw2, HW1.out]; simp
            have IO3 := IO2' (m1 + m2)
            rw [← HW2.out] at IO3
            clear hw2
            go_wp2_with fail
            refine IO3.mono ?_
            rintro e w3 ⟨rfl, m3, rfl⟩
            go_wp2_with fail
            go_step3
            exact FIN.out JE.out (m1 + m2 + m3) _ _ _ (by rw [HW2.out]; simp) rfl ⟨_, _, _, _, _, _, _, _, _, _, _, _, _, _, _, _, _, _, _, _, _, _, _, _, _, _, _, _, _, _, _, _, _, _, _, _, _, _, _, _, _, _, _, _, rfl⟩
          | free j =>
            have JE : Hid (joinB bs = pre ++ joinB (.free (i ++ (2 * (j.length + 1)) :: j) :: r2)) := by rw [Hid, HB.out, joinB_two]
            have IO2' : ∀ m, Calls Try.prog 54 #[.pointer (some ⟨p, 0, none⟩), .int .i64 ((k : Int) + 1 + ((Blk.free i).len : Int))] (wr.drewN m) fun e w' => e = .returned (.bool false) ∧ ∃ m', w' = (wr.drewN m).drewN m' := IO2
            have LY' : ∀ m, Calls Try.prog 36 #[.pointer (some ⟨p, 0, none⟩), .int .i64 ((k : Int) + 1), .int .i64 (((Blk.free i).len : Int) + ((Blk.free j).len : Int)), .int .u64 0] (wr.drewN m) fun e w' => e = .returned (.tuple #[]) ∧ HW w' p g (flat (pre ++ .free (i ++ (2 * (j.length + 1)) :: j) :: r2)) ∧ Fr (fun k => k = g) w w' := fun m => by
              have e1 : k < (flat (pre ++ .free i :: .free j :: r2)).length := by
                have : siz (pre ++ .free i :: .free j :: r2) = k + ((Blk.free i).len + ((Blk.free j).len + siz r2)) := by rw [siz_append, siz_cons, siz_cons, HK.out]
                unfold siz at this
                omega
              have := LY.out m k (i.length + 1 + (j.length + 1)) e1 (by simp only [Blk.len] at hqd; omega)
              rw [show ((i.length + 1 + (j.length + 1) : Nat) : Int) = ((Blk.free i).len : Int) + ((Blk.free j).len : Int) by simp [Blk.len], HK.out, flat_merge, ← HK.out] at this
              exact this
            have HNN : Hid ((Blk.free (i ++ (2 * (j.length + 1)) :: j) :: r2).length < n) := by rw [Hid, HN.out]; simp
            have LO' := LO
            clear MV LY IO2 IOb FIN
            generalize (Blk.free i).len = d at *
            generalize (Blk.free j).len = d2 at *
            go_wp2_with fail
            refine LO0.mono ?_
            rintro e w1 ⟨rfl, m1, hw1⟩
            have HW1 : Hid (w1 = wr.drewN m1) := hw1
            have hc1 : w1.cell? ⟨p, 0, none⟩ = some (.slice (some ⟨g, 0, none⟩) q q) := by rw [hw1]; exact hc
            have IO1 := IOb' m1
            rw [← hw1] at IO1
            clear hw1
            go_wp2_with fail
            refine IO1.mono ?_
            rintro e w2 ⟨rfl, m2, hw2⟩
            have HW2 : Hid (w2 = wr.drewN (m1 + m2)) := by rw [Hid, hw2, HW1.out]; simp
            have IO3 := IO2' (m1 + m2)
            rw [← HW2.out] at IO3
            clear hw2
            go_wp2_with fail
            refine IO3.mono ?_
            rintro e w3 ⟨rfl, m3, hw3⟩
            have HW3 : Hid (w3 = wr.drewN (m1 + m2 + m3)) := by rw [Hid, hw3, HW2.out]; simp
            have LO3 := LO' (m1 + m2 + m3)
            rw [← HW3.out] at LO3
            clear hw3
            go_wp2_with fail
            refine LO3.mono ?_
            rintro e w4 ⟨rfl, m4, hw4⟩
            have HW4 : Hid (w4 = wr.drewN (m1 + m2 + m3 + m4)) := by rw [Hid, hw4, HW3.out]; simp
            have LO4 := LO2 (m1 + m2 + m3 + m4)
            rw [← HW4.out] at LO4
            clear hw4
            go_wp2_with fail
            refine LO4.mono ?_
            rintro e w5 ⟨rfl, m5, hw5⟩
            have LY5 := LY' (m1 + m2 + m3 + m4 + m5)
            have hw5' : w5 = wr.drewN (m1 + m2 + m3 + m4 + m5) := by rw [hw5, HW4.out]; simp
            rw [← hw5'] at LY5
            clear hw5 hw5' HW4 HW3 HW2 HW1
            go_wp2_with fail
            refine LY5.mono ?_
            rintro e w6 ⟨rfl, h6, f6⟩
            have H6 : Hid (HW w6 p g (flat (pre ++ .free (i ++ (2 * (j.length + 1)) :: j) :: r2)) ∧ Fr (fun k => k = g) w w6) := ⟨h6, f6⟩
            clear h6 f6
            go_wp2_with fail
            go_step3
            exact hj _ _ _ HNN.out ⟨k, pre, .free (i ++ (2 * (j.length + 1)) :: j) :: r2, _, _, _, _, _, _, _, _, _, _, _, _, _, _, _, _, _, _, _, _, _, _, _, _, _, _, _, _, _, _, _, _, _, _, _, _, _, _, _, _, _, _, _, _, _, rfl, rfl, HK.out, rfl, H6.out.1, JE.out, H6.out.2⟩

/-- What Release leaves. -/
def freeB (bs : List Blk) (a : Int) : List Blk := if beg bs a then joinB (relB bs a) else bs

set_option maxRecDepth 100000 in
theorem release_any (w : World) (p g : Nat) (bs : List Blk) (h : HP w p g bs) (a : Int) (ha : a ≤ 9223372036854775807) :
    Calls Try.prog 13 #[.pointer (some ⟨p, 0, none⟩), .int .i64 a] w fun e w' => e = .returned (.int .i64 (errA (beg bs a))) ∧ HP w' p g (freeB bs a) ∧ Fr (fun k => k = g) w w' := by
  have BG := begins_any w p g bs h a ha
  rcases at_cases bs a with ⟨ho, hb⟩ | ⟨pre, c, ws, post, he, rfl, hb, ho⟩
  · have HO : Hid (freeB bs a = bs) := by unfold Hid freeB; rw [hb]; rfl
    have HB : Hid (beg bs a = false) := hb
    have HH : Hid (HP w p g bs) := h
    rw [hb] at BG
    clear h ho hb
    go_enter Try.func13, Try.ntmps13
    go_wp2_with fail
    refine BG.mono ?_
    rintro e w1 ⟨rfl, m1, rfl⟩
    go_wp2_with fail
    go_ret
    exact ⟨by rw [HB.out]; rfl, by rw [HO.out]; exact HH.out.drewN m1, (Fr.refl _ w).drewN m1⟩
  · have HO : Hid (freeB bs ((siz pre : Int) + 1) = joinB (pre ++ .free (c :: ws) :: post)) := by unfold Hid freeB; rw [hb, he, relB_at]; rfl
    have HB : Hid (beg bs ((siz pre : Int) + 1) = true) := hb
    rw [hb] at BG
    have hl := h.len
    have hsz : siz pre + (ws.length + 2) ≤ (flat bs).length := by rw [he]; exact siz_le (pre := pre) (b := .obj c ws) (post := post) (Nat.le_refl _)
    have LO : ∀ m, Calls Try.prog 41 #[.pointer (some ⟨p, 0, none⟩), .int .i64 ((siz pre : Int) + 1)] (w.drewN m) fun e w' => e = .returned (.int .i64 ((ws.length + 2 : Nat) : Int)) ∧ ∃ m', w' = (w.drewN m).drewN m' :=
      fun m => length_any (w.drewN m) p g (flat bs) (h.drewN m) (siz pre) (ws.length + 2) 1 (by rw [he]; exact flat_head pre (.obj c ws) post) (by omega) (by omega)
    have LY : ∀ m, Calls Try.prog 36 #[.pointer (some ⟨p, 0, none⟩), .int .i64 ((siz pre : Int) + 1), .int .i64 ((ws.length + 2 : Nat) : Int), .int .u64 0] (w.drewN m) fun e w' => e = .returned (.tuple #[]) ∧ HP w' p g (pre ++ .free (c :: ws) :: post) ∧ Fr (fun k => k = g) w w' := fun m => by
      have := lay_any (w.drewN m) p g (flat bs) (h.drewN m) (siz pre) (ws.length + 2) 0 (by omega) (by omega) (by omega)
      refine this.mono fun e w' ⟨a1, a2, a3⟩ => ⟨a1, ?_, ((Fr.refl (fun k => k = g) w).drewN m).trans a3 (fun _ _ x => x) (fun _ _ x => x)⟩
      have e1 : (flat bs).set (siz pre) (2 * (ws.length + 2) + 0) = flat (pre ++ .free (c :: ws) :: post) := by
        have := flat_set pre post (.obj c ws) 0 (2 * (ws.length + 2)) (by simp [Blk.len])
        rw [Nat.add_zero] at this
        rw [he, Nat.add_zero, this, flat_append, flat_cons]
        simp [Blk.words]
      rw [e1] at a2
      exact a2
    have JN : Hid (∀ w2, HP w2 p g (pre ++ .free (c :: ws) :: post) → Calls Try.prog 42 #[.pointer (some ⟨p, 0, none⟩)] w2 fun e w' => e = .returned (.tuple #[]) ∧ HP w' p g (joinB (pre ++ .free (c :: ws) :: post)) ∧ Fr (fun k => k = g) w2 w') := fun w2 h2 => join_any w2 p g _ h2
    clear h ho hb he hl hsz
    generalize siz pre = k at *
    generalize ws.length + 2 = n at *
    go_enter Try.func13, Try.ntmps13
    go_wp2_with fail
    refine BG.mono ?_
    rintro e w1 ⟨rfl, m1, rfl⟩
    go_wp2_with fail
    refine (LO m1).mono ?_
    rintro e w1 ⟨rfl, m2, rfl⟩
    go_wp2_with fail
    refine (LY (m1 + m2)).mono ?_
    rintro e w2 ⟨rfl, h2, f2⟩
    have J2 := JN.out w2 h2
    have F2 : Hid (Fr (fun k => k = g) w w2) := f2
    clear h2 f2
    go_wp2_with fail
    refine J2.mono ?_
    rintro e w3 ⟨rfl, h3, f3⟩
    have H3 : Hid (HP w3 p g (joinB (pre ++ .free (c :: ws) :: post)) ∧ Fr (fun k => k = g) w w3) := ⟨h3, F2.out.trans f3 (fun _ _ x => x) (fun _ _ x => x)⟩
    clear h3 f3
    go_wp2_with fail
    go_ret
    exact ⟨by rw [HB.out]; rfl, by rw [HO.out]; exact H3.out.1, H3.out.2⟩
end Go.Proofs.Ytopcbcdigllenaa
