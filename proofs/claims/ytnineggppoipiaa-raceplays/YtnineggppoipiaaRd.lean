/- The document's watch: End, Joined, Clock. -/
import Derived.Great.Walk
import Derived.Test.YtnineggppoipiaaRc
namespace Go.Proofs.Ytnineggppoipiaa
open Go.ChangeShapes Go.WideShapes Go.ChangeAt Go.RowKit

theorem ev_storeC {o : Oper} {a : Act} {w : World} (t : TypeId) (x : Nat) (c : Value) (p : Value) (w' : World) (ho : o.op = .store t (.tmp x) (.const c)) (hx : a.eval (.tmp x) = p) (hr : (Instr.storeAt t p c).run Try.prog w = .ok () w') : (execOp a.eval o).run Try.prog w = .ok .skip w' := by
  have hc : a.eval (.const c) = c := rfl
  unfold execOp
  simp only [ho, hx, hc]
  rw [Sem.run_bind, hr]
  rfl
theorem st_bool {w : World} {p o : Nat} {b b' : Bool} (h : w.cell? ⟨p, o, none⟩ = some (.bool b)) (z : w.frozen? ⟨p, o, none⟩ = false) : (Instr.storeAt 4 (.pointer (some ⟨p, o, none⟩)) (.bool b')).run Try.prog w = .ok () (w.setCell ⟨p, o, none⟩ (.bool b')) := by simp [go_sem, h, z]

noncomputable def reg15eC : Code := ((Try.f15.body.bind (regionOf 1)).getD .skip)

set_option maxRecDepth 100000 in
theorem reg15e (W : World) (p t : Nat) (ht : t < 13) (c1 : Nat → Int) (b0 : Bool)
    (hL1 : ∀ w', Fr no W w' → w'.rangeAt p (t * 13) (ckL c1)) (hT : ∀ w', Fr no W w' → w'.there p (169 + t * 13) 13)
    (hE1 : (W.drew.setCells p (169 + t * 13) (ckL c1)).cell? ⟨p, 338 + t, none⟩ = some (.bool b0)) (hE2 : (W.drew.setCells p (169 + t * 13) (ckL c1)).frozen? ⟨p, 338 + t, none⟩ = false)
    (K : Act → World → Prop) (y2 y3 y4 y5 y6 y7 y8 y9 y10 y11 y12 y13 y14 y15 y16 y17 y18 y19 y20 y21 : Value)
    (hQ : K ⟨(.pointer (some ⟨p, 0, none⟩) :: .int .i64 (t : Int) :: y2 :: y3 :: y4 :: y5 :: .pointer (some ⟨p, 0, none⟩) :: .int .i64 (t : Int) :: .pointer (some ⟨p, 0, none⟩) :: .int .i64 (t : Int) :: .pointer (some ⟨p, 0, none⟩) :: .int .i64 (t : Int) :: .pointer (some ⟨p, 0, none⟩) :: .pointer (some ⟨p, 0, none⟩) :: .pointer (some ⟨p, t * 13, none⟩) :: ckV c1 :: .pointer (some ⟨p, 0, none⟩) :: .pointer (some ⟨p, 169, none⟩) :: .pointer (some ⟨p, 169 + t * 13, none⟩) :: .pointer (some ⟨p, 0, none⟩) :: .pointer (some ⟨p, 338, none⟩) :: .pointer (some ⟨p, 338 + t, none⟩) :: []).toArray, []⟩ ((W.drew.setCells p (169 + t * 13) (ckL c1)).setCell ⟨p, 338 + t, none⟩ (.bool true))) :
    Code.wp Try.prog reg15eC (Exit.then K (fun _ _ _ => False)) ⟨(.pointer (some ⟨p, 0, none⟩) :: .int .i64 (t : Int) :: y2 :: y3 :: y4 :: y5 :: y6 :: y7 :: y8 :: y9 :: y10 :: y11 :: y12 :: y13 :: y14 :: y15 :: y16 :: y17 :: y18 :: y19 :: y20 :: y21 :: []).toArray, []⟩ W := by
  have HQ : Hid _ := hQ
  have HL1 : Hid _ := hL1
  have HT : Hid _ := hT
  have HE : Hid (_ ∧ _) := ⟨hE1, hE2⟩
  have f0 : Fr no W W.drew := (Fr.refl _ W).drew
  clear hQ hL1 hT hE1 hE2
  unfold reg15eC
  conv => arg 2; whnf
  refine late_begin (S := fun w' => Fr no W w') (g := 13) (by kernel_rfl) ?_
  refine lateP 0 (.pointer (some ⟨p, 0, none⟩)) rfl (fun _ => ev_move 0 _ rfl (by kernel_rfl)) (fun _ => f0) ?_
  refine lateP 1 (.int .i64 (t : Int)) rfl (fun _ => ev_move 1 _ rfl (by kernel_rfl)) (fun _ => f0) ?_
  refine lateP 2 (.pointer (some ⟨p, 0, none⟩)) rfl (fun _ => ev_move 0 _ rfl (by kernel_rfl)) (fun _ => f0) ?_
  refine lateP 3 (.int .i64 (t : Int)) rfl (fun _ => ev_move 1 _ rfl (by kernel_rfl)) (fun _ => f0) ?_
  refine lateP 4 (.pointer (some ⟨p, 0, none⟩)) rfl (fun _ => ev_move 0 _ rfl (by kernel_rfl)) (fun _ => f0) ?_
  refine lateP 5 (.int .i64 (t : Int)) rfl (fun _ => ev_move 1 _ rfl (by kernel_rfl)) (fun _ => f0) ?_
  refine lateN (true :: true :: true :: true :: true :: true :: false :: false :: false :: false :: false :: false :: false :: false :: false :: false :: false :: false :: []).toArray ⟨(.pointer (some ⟨p, 0, none⟩) :: .int .i64 (t : Int) :: y2 :: y3 :: y4 :: y5 :: .pointer (some ⟨p, 0, none⟩) :: .int .i64 (t : Int) :: .pointer (some ⟨p, 0, none⟩) :: .int .i64 (t : Int) :: .pointer (some ⟨p, 0, none⟩) :: .int .i64 (t : Int) :: y12 :: y13 :: y14 :: y15 :: y16 :: y17 :: y18 :: y19 :: y20 :: y21 :: []).toArray, []⟩ ?_
  refine lateP 6 (.pointer (some ⟨p, 0, none⟩)) rfl (fun _ => ev_nil 10 ⟨p, 0, none⟩ rfl (by kernel_rfl)) (fun _ => f0) ?_
  refine lateN (true :: true :: true :: true :: true :: true :: true :: false :: false :: false :: false :: false :: false :: false :: false :: false :: false :: false :: []).toArray ⟨(.pointer (some ⟨p, 0, none⟩) :: .int .i64 (t : Int) :: y2 :: y3 :: y4 :: y5 :: .pointer (some ⟨p, 0, none⟩) :: .int .i64 (t : Int) :: .pointer (some ⟨p, 0, none⟩) :: .int .i64 (t : Int) :: .pointer (some ⟨p, 0, none⟩) :: .int .i64 (t : Int) :: .pointer (some ⟨p, 0, none⟩) :: y13 :: y14 :: y15 :: y16 :: y17 :: y18 :: y19 :: y20 :: y21 :: []).toArray, []⟩ ?_
  refine lateP 7 (.pointer (some ⟨p, 0, none⟩)) rfl (fun _ => ev_field 42 12 0 (.pointer (some ⟨p, 0, none⟩)) _ rfl (by kernel_rfl) (by kernel_rfl)) (fun _ => f0) ?_
  refine lateN (true :: true :: true :: true :: true :: true :: true :: true :: false :: false :: false :: false :: false :: false :: false :: false :: false :: false :: []).toArray ⟨(.pointer (some ⟨p, 0, none⟩) :: .int .i64 (t : Int) :: y2 :: y3 :: y4 :: y5 :: .pointer (some ⟨p, 0, none⟩) :: .int .i64 (t : Int) :: .pointer (some ⟨p, 0, none⟩) :: .int .i64 (t : Int) :: .pointer (some ⟨p, 0, none⟩) :: .int .i64 (t : Int) :: .pointer (some ⟨p, 0, none⟩) :: .pointer (some ⟨p, 0, none⟩) :: y14 :: y15 :: y16 :: y17 :: y18 :: y19 :: y20 :: y21 :: []).toArray, []⟩ ?_
  refine lateP 8 (.pointer (some ⟨p, t * 13, none⟩)) rfl (fun _ => ev_index 37 13 11 (.pointer (some ⟨p, 0, none⟩)) (.int .i64 (t : Int)) _ rfl (by kernel_rfl) (by kernel_rfl) (idx37 ht)) (fun _ => f0) ?_
  refine lateN (true :: true :: true :: true :: true :: true :: true :: true :: true :: false :: false :: false :: false :: false :: false :: false :: false :: false :: []).toArray ⟨(.pointer (some ⟨p, 0, none⟩) :: .int .i64 (t : Int) :: y2 :: y3 :: y4 :: y5 :: .pointer (some ⟨p, 0, none⟩) :: .int .i64 (t : Int) :: .pointer (some ⟨p, 0, none⟩) :: .int .i64 (t : Int) :: .pointer (some ⟨p, 0, none⟩) :: .int .i64 (t : Int) :: .pointer (some ⟨p, 0, none⟩) :: .pointer (some ⟨p, 0, none⟩) :: .pointer (some ⟨p, t * 13, none⟩) :: y15 :: y16 :: y17 :: y18 :: y19 :: y20 :: y21 :: []).toArray, []⟩ ?_
  refine lateT 9 (ckV c1) rfl (fun wz hz => ev_load 36 14 (.pointer (some ⟨p, t * 13, none⟩)) (ckV c1) rfl (by kernel_rfl) (ld_ck (HL1.out wz hz))) f0 ?_
  refine lateN (true :: true :: true :: true :: true :: true :: true :: true :: true :: true :: false :: false :: false :: false :: false :: false :: false :: false :: []).toArray ⟨(.pointer (some ⟨p, 0, none⟩) :: .int .i64 (t : Int) :: y2 :: y3 :: y4 :: y5 :: .pointer (some ⟨p, 0, none⟩) :: .int .i64 (t : Int) :: .pointer (some ⟨p, 0, none⟩) :: .int .i64 (t : Int) :: .pointer (some ⟨p, 0, none⟩) :: .int .i64 (t : Int) :: .pointer (some ⟨p, 0, none⟩) :: .pointer (some ⟨p, 0, none⟩) :: .pointer (some ⟨p, t * 13, none⟩) :: ckV c1 :: y16 :: y17 :: y18 :: y19 :: y20 :: y21 :: []).toArray, []⟩ ?_
  refine lateP 10 (.pointer (some ⟨p, 0, none⟩)) rfl (fun _ => ev_nil 6 ⟨p, 0, none⟩ rfl (by kernel_rfl)) (fun _ => f0) ?_
  refine lateN (true :: true :: true :: true :: true :: true :: true :: true :: true :: true :: true :: false :: false :: false :: false :: false :: false :: false :: []).toArray ⟨(.pointer (some ⟨p, 0, none⟩) :: .int .i64 (t : Int) :: y2 :: y3 :: y4 :: y5 :: .pointer (some ⟨p, 0, none⟩) :: .int .i64 (t : Int) :: .pointer (some ⟨p, 0, none⟩) :: .int .i64 (t : Int) :: .pointer (some ⟨p, 0, none⟩) :: .int .i64 (t : Int) :: .pointer (some ⟨p, 0, none⟩) :: .pointer (some ⟨p, 0, none⟩) :: .pointer (some ⟨p, t * 13, none⟩) :: ckV c1 :: .pointer (some ⟨p, 0, none⟩) :: y17 :: y18 :: y19 :: y20 :: y21 :: []).toArray, []⟩ ?_
  refine lateP 11 (.pointer (some ⟨p, 169, none⟩)) rfl (fun _ => ev_field 42 16 1 (.pointer (some ⟨p, 0, none⟩)) _ rfl (by kernel_rfl) (by kernel_rfl)) (fun _ => f0) ?_
  refine lateN (true :: true :: true :: true :: true :: true :: true :: true :: true :: true :: true :: true :: false :: false :: false :: false :: false :: false :: []).toArray ⟨(.pointer (some ⟨p, 0, none⟩) :: .int .i64 (t : Int) :: y2 :: y3 :: y4 :: y5 :: .pointer (some ⟨p, 0, none⟩) :: .int .i64 (t : Int) :: .pointer (some ⟨p, 0, none⟩) :: .int .i64 (t : Int) :: .pointer (some ⟨p, 0, none⟩) :: .int .i64 (t : Int) :: .pointer (some ⟨p, 0, none⟩) :: .pointer (some ⟨p, 0, none⟩) :: .pointer (some ⟨p, t * 13, none⟩) :: ckV c1 :: .pointer (some ⟨p, 0, none⟩) :: .pointer (some ⟨p, 169, none⟩) :: y18 :: y19 :: y20 :: y21 :: []).toArray, []⟩ ?_
  refine lateP 12 (.pointer (some ⟨p, 169 + t * 13, none⟩)) rfl (fun _ => ev_index 37 17 7 (.pointer (some ⟨p, 169, none⟩)) (.int .i64 (t : Int)) _ rfl (by kernel_rfl) (by kernel_rfl) (idx37f ht)) (fun _ => f0) ?_
  refine lateN (true :: true :: true :: true :: true :: true :: true :: true :: true :: true :: true :: true :: true :: false :: false :: false :: false :: false :: []).toArray ⟨(.pointer (some ⟨p, 0, none⟩) :: .int .i64 (t : Int) :: y2 :: y3 :: y4 :: y5 :: .pointer (some ⟨p, 0, none⟩) :: .int .i64 (t : Int) :: .pointer (some ⟨p, 0, none⟩) :: .int .i64 (t : Int) :: .pointer (some ⟨p, 0, none⟩) :: .int .i64 (t : Int) :: .pointer (some ⟨p, 0, none⟩) :: .pointer (some ⟨p, 0, none⟩) :: .pointer (some ⟨p, t * 13, none⟩) :: ckV c1 :: .pointer (some ⟨p, 0, none⟩) :: .pointer (some ⟨p, 169, none⟩) :: .pointer (some ⟨p, 169 + t * 13, none⟩) :: y19 :: y20 :: y21 :: []).toArray, []⟩ ?_
  refine lateP 14 (.pointer (some ⟨p, 0, none⟩)) rfl (fun _ => ev_nil 8 ⟨p, 0, none⟩ rfl (by kernel_rfl)) (fun _ => f0) ?_
  refine lateN (true :: true :: true :: true :: true :: true :: true :: true :: true :: true :: true :: true :: true :: false :: true :: false :: false :: false :: []).toArray ⟨(.pointer (some ⟨p, 0, none⟩) :: .int .i64 (t : Int) :: y2 :: y3 :: y4 :: y5 :: .pointer (some ⟨p, 0, none⟩) :: .int .i64 (t : Int) :: .pointer (some ⟨p, 0, none⟩) :: .int .i64 (t : Int) :: .pointer (some ⟨p, 0, none⟩) :: .int .i64 (t : Int) :: .pointer (some ⟨p, 0, none⟩) :: .pointer (some ⟨p, 0, none⟩) :: .pointer (some ⟨p, t * 13, none⟩) :: ckV c1 :: .pointer (some ⟨p, 0, none⟩) :: .pointer (some ⟨p, 169, none⟩) :: .pointer (some ⟨p, 169 + t * 13, none⟩) :: .pointer (some ⟨p, 0, none⟩) :: y20 :: y21 :: []).toArray, []⟩ ?_
  refine lateP 15 (.pointer (some ⟨p, 338, none⟩)) rfl (fun _ => ev_field 42 19 2 (.pointer (some ⟨p, 0, none⟩)) _ rfl (by kernel_rfl) (by kernel_rfl)) (fun _ => f0) ?_
  refine lateN (true :: true :: true :: true :: true :: true :: true :: true :: true :: true :: true :: true :: true :: false :: true :: true :: false :: false :: []).toArray ⟨(.pointer (some ⟨p, 0, none⟩) :: .int .i64 (t : Int) :: y2 :: y3 :: y4 :: y5 :: .pointer (some ⟨p, 0, none⟩) :: .int .i64 (t : Int) :: .pointer (some ⟨p, 0, none⟩) :: .int .i64 (t : Int) :: .pointer (some ⟨p, 0, none⟩) :: .int .i64 (t : Int) :: .pointer (some ⟨p, 0, none⟩) :: .pointer (some ⟨p, 0, none⟩) :: .pointer (some ⟨p, t * 13, none⟩) :: ckV c1 :: .pointer (some ⟨p, 0, none⟩) :: .pointer (some ⟨p, 169, none⟩) :: .pointer (some ⟨p, 169 + t * 13, none⟩) :: .pointer (some ⟨p, 0, none⟩) :: .pointer (some ⟨p, 338, none⟩) :: y21 :: []).toArray, []⟩ ?_
  refine late_all [13] (by kernel_rfl) (by simp) (fun jj hjj => ?_)
  simp only [List.mem_singleton] at hjj
  subst hjj
  refine late_skip rfl (by kernel_rfl) (ev_store 36 18 15 (.pointer (some ⟨p, 169 + t * 13, none⟩)) (ckV c1) _ rfl (by kernel_rfl) (by kernel_rfl) (st_ck c1 (HT.out W.drew f0))) ?_
  refine ⟨fun h => by simp at h, ?_⟩
  refine lateN (true :: true :: true :: true :: true :: true :: true :: true :: true :: true :: true :: true :: true :: true :: true :: true :: false :: false :: []).toArray ⟨(.pointer (some ⟨p, 0, none⟩) :: .int .i64 (t : Int) :: y2 :: y3 :: y4 :: y5 :: .pointer (some ⟨p, 0, none⟩) :: .int .i64 (t : Int) :: .pointer (some ⟨p, 0, none⟩) :: .int .i64 (t : Int) :: .pointer (some ⟨p, 0, none⟩) :: .int .i64 (t : Int) :: .pointer (some ⟨p, 0, none⟩) :: .pointer (some ⟨p, 0, none⟩) :: .pointer (some ⟨p, t * 13, none⟩) :: ckV c1 :: .pointer (some ⟨p, 0, none⟩) :: .pointer (some ⟨p, 169, none⟩) :: .pointer (some ⟨p, 169 + t * 13, none⟩) :: .pointer (some ⟨p, 0, none⟩) :: .pointer (some ⟨p, 338, none⟩) :: y21 :: []).toArray, []⟩ ?_
  refine lateP 16 (.pointer (some ⟨p, 338 + t, none⟩)) rfl (fun _ => ev_index 38 20 9 (.pointer (some ⟨p, 338, none⟩)) (.int .i64 (t : Int)) _ rfl (by kernel_rfl) (by kernel_rfl) (idx38 ht)) (fun h => by simp at h) ?_
  refine lateN (true :: true :: true :: true :: true :: true :: true :: true :: true :: true :: true :: true :: true :: true :: true :: true :: true :: false :: []).toArray ⟨(.pointer (some ⟨p, 0, none⟩) :: .int .i64 (t : Int) :: y2 :: y3 :: y4 :: y5 :: .pointer (some ⟨p, 0, none⟩) :: .int .i64 (t : Int) :: .pointer (some ⟨p, 0, none⟩) :: .int .i64 (t : Int) :: .pointer (some ⟨p, 0, none⟩) :: .int .i64 (t : Int) :: .pointer (some ⟨p, 0, none⟩) :: .pointer (some ⟨p, 0, none⟩) :: .pointer (some ⟨p, t * 13, none⟩) :: ckV c1 :: .pointer (some ⟨p, 0, none⟩) :: .pointer (some ⟨p, 169, none⟩) :: .pointer (some ⟨p, 169 + t * 13, none⟩) :: .pointer (some ⟨p, 0, none⟩) :: .pointer (some ⟨p, 338, none⟩) :: .pointer (some ⟨p, 338 + t, none⟩) :: []).toArray, []⟩ ?_
  refine late_all [17] (by kernel_rfl) (by simp) (fun jj hjj => ?_)
  simp only [List.mem_singleton] at hjj
  subst hjj
  refine late_skip rfl (by kernel_rfl) (ev_storeC 4 21 (.bool true) (.pointer (some ⟨p, 338 + t, none⟩)) _ rfl (by kernel_rfl) (st_bool HE.out.1 HE.out.2)) ?_
  refine ⟨fun h => by simp at h, ?_⟩
  refine lateN (true :: true :: true :: true :: true :: true :: true :: true :: true :: true :: true :: true :: true :: true :: true :: true :: true :: true :: []).toArray ⟨(.pointer (some ⟨p, 0, none⟩) :: .int .i64 (t : Int) :: y2 :: y3 :: y4 :: y5 :: .pointer (some ⟨p, 0, none⟩) :: .int .i64 (t : Int) :: .pointer (some ⟨p, 0, none⟩) :: .int .i64 (t : Int) :: .pointer (some ⟨p, 0, none⟩) :: .int .i64 (t : Int) :: .pointer (some ⟨p, 0, none⟩) :: .pointer (some ⟨p, 0, none⟩) :: .pointer (some ⟨p, t * 13, none⟩) :: ckV c1 :: .pointer (some ⟨p, 0, none⟩) :: .pointer (some ⟨p, 169, none⟩) :: .pointer (some ⟨p, 169 + t * 13, none⟩) :: .pointer (some ⟨p, 0, none⟩) :: .pointer (some ⟨p, 338, none⟩) :: .pointer (some ⟨p, 338 + t, none⟩) :: []).toArray, []⟩ ?_
  refine late_done (by kernel_rfl) ?_
  exact HQ.out

/-- End. -/
def endW (T : Wt) (t : Int) : Wt := if isB t then { T with fin := setT T.fin t.toNat (T.now t.toNat), ended := setT T.ended t.toNat true } else T
theorem BW.end_ {T : Wt} {M : Int} (h : BW T M) (t : Int) : BW (endW T t) M := by
  unfold endW
  split
  · intro t' j
    have h1 := h t' j
    have h2 := h t.toNat j
    refine ⟨h1.1, h1.2.1, ?_, ?_⟩
    · show 0 ≤ setT T.fin t.toNat _ t' j
      by_cases e : t' = t.toNat
      · subst e; rw [setT_same]; exact h2.1
      · rw [setT_ne _ _ e]; exact h1.2.2.1
    · show setT T.fin t.toNat _ t' j ≤ M
      by_cases e : t' = t.toNat
      · subst e; rw [setT_same]; exact h2.2.1
      · rw [setT_ne _ _ e]; exact h1.2.2.2
  · exact h
set_option maxRecDepth 100000 in
theorem end_any (w : World) (p : Nat) (T : Wt) (ks : List Kp) (as' : List Ac) (n : Int) (h : RW w p T ks as' n) (t : Int) :
    Calls Try.prog 15 #[.pointer (some ⟨p, 0, none⟩), .int .i64 t] w fun e w' => e = .returned (.tuple #[]) ∧ RW w' p (endW T t) ks as' n ∧ Fr (Bk p) w w' := by
  have I1 := is_any w t
  have H : Hid _ := h
  clear h
  cases h1 : isB t
  · have hT : endW T t = T := by unfold endW; rw [h1, if_neg Bool.false_ne_true]
    rw [hT]
    rw [h1] at I1
    clear hT h1
    go_enter Try.func15, Try.ntmps15
    go_wp2_with fail
    refine I1.mono ?_
    rintro _ _ ⟨rfl, rfl⟩
    go_wp2_with fail
    go_end0
    exact ⟨rfl, H.out, Fr.refl _ _⟩
  · have hT : endW T t = { T with fin := setT T.fin t.toNat (T.now t.toNat), ended := setT T.ended t.toNat true } := by unfold endW; rw [h1, if_pos rfl]
    rw [hT]
    rw [h1] at I1
    obtain ⟨tn, rfl, ht, -⟩ := isB_nat h1
    clear hT h1
    simp only [Int.toNat_natCast]
    go_enter Try.func15, Try.ntmps15
    go_wp2_with fail
    refine I1.mono ?_
    rintro _ wq ⟨rfl, rfl⟩
    have R0 := H.out.keep ((Fr.refl no wq).drew)
    have R1 := R0.setFin ht (T.now tn)
    have R2 := R1.setEnd ht
    have FF : Fr (Bk p) wq ((wq.drew.setCells p (169 + tn * 13) (ckL (T.now tn))).setCell ⟨p, 338 + tn, none⟩ (.bool true)) := (((Fr.refl (Bk p) wq).drew).bk (fr_sets _ _ _ _)).bk (fr_set _ _ _ _)
    have HX : Hid (_ ∧ _) := ⟨R2, FF⟩
    go_upto_region 1 with fail
    refine use_then ?_ (fun _ _ h => h)
    refine reg15e wq p tn ht (T.now tn) (T.ended tn) (fun w' f => (H.out.keep f).now_ tn ht) (fun w' f => (H.out.keep f).there _ _ (by omega)) (R1.end_ tn ht) (R1.frz _) _ _ _ _ _ _ _ _ _ _ _ _ _ _ _ _ _ _ _ _ _ ?_
    clear R0 R1 R2 FF I1
    go_end0
    exact ⟨rfl, HX.out.1, HX.out.2⟩

/-- Joined. -/
def joinedW (T : Wt) (t o : Int) : Wt := if isB t && (isB o && T.ended o.toNat) then joinW T t.toNat (T.fin o.toNat) else T
set_option maxRecDepth 100000 in
theorem joined_any (w : World) (p : Nat) (T : Wt) (ks : List Kp) (as' : List Ac) (n : Int) (h : RW w p T ks as' n) (hB : BW T 900000) (t o : Int) :
    Calls Try.prog 17 #[.pointer (some ⟨p, 0, none⟩), .int .i64 t, .int .i64 o] w fun e w' => e = .returned (.tuple #[]) ∧ RW w' p (joinedW T t o) ks as' n ∧ Fr (Bk p) w w' := by
  have I1 := is_any w t
  have I2 := fun w => is_any w o
  have H : Hid _ := h
  clear h
  cases h1 : isB t
  · have hT : joinedW T t o = T := by unfold joinedW; rw [h1, Bool.false_and, if_neg Bool.false_ne_true]
    rw [hT]
    rw [h1] at I1
    clear hT h1 I2
    go_enter Try.func17, Try.ntmps17
    go_wp2_with fail
    refine I1.mono ?_
    rintro _ _ ⟨rfl, rfl⟩
    go_wp2_with fail
    go_end0
    exact ⟨rfl, H.out, Fr.refl _ _⟩
  · cases h2 : isB o
    · have hT : joinedW T t o = T := by unfold joinedW; rw [h2, Bool.false_and, Bool.and_false, if_neg Bool.false_ne_true]
      rw [hT]
      rw [h1] at I1
      rw [h2] at I2
      clear hT h1 h2
      go_enter Try.func17, Try.ntmps17
      go_wp2_with fail
      refine I1.mono ?_
      rintro _ _ ⟨rfl, rfl⟩
      go_wp2_with fail
      refine (I2 _).mono ?_
      rintro _ _ ⟨rfl, rfl⟩
      go_wp2_with fail
      go_end0
      exact ⟨rfl, H.out, Fr.refl _ _⟩
    · obtain ⟨tn, rfl, ht, -⟩ := isB_nat h1
      obtain ⟨on, rfl, ho, -⟩ := isB_nat h2
      have HJ : Hid (joinedW T (tn : Int) (on : Int) = if T.ended on then joinW T tn (T.fin on) else T) := by
        show _ = _
        unfold joinedW
        rw [h1, h2]
        simp
      rw [h1] at I1
      rw [h2] at I2
      clear h1 h2
      have ho' : (on : Int) < 13 := by omega
      have ho0 : (0 : Int) ≤ (on : Int) := by omega
      have ce := H.out.end_ on ho
      generalize joinedW T (tn : Int) (on : Int) = TJ at *
      cases he : T.ended on
      · rw [he] at ce HJ
        go_enter Try.func17, Try.ntmps17
        go_wp2_with fail
        refine I1.mono ?_
        rintro _ _ ⟨rfl, rfl⟩
        go_wp2_with fail
        refine (I2 _).mono ?_
        rintro _ _ ⟨rfl, rfl⟩
        go_wp2_with fail
        go_end0
        exact ⟨rfl, by rw [HJ.out]; exact H.out, Fr.refl _ _⟩
      · rw [he] at ce HJ
        go_enter Try.func17, Try.ntmps17
        go_wp2_with fail
        refine I1.mono ?_
        rintro _ _ ⟨rfl, rfl⟩
        go_wp2_with fail
        refine (I2 _).mono ?_
        rintro _ wq ⟨rfl, rfl⟩
        go_upto_region 1 with fail
        refine use_then ?_ (fun _ _ h => h)
        refine reg17j wq p tn on ht ho (T.now tn) (T.fin on) (hB.bn (by omega) tn) (hB.bf (by omega) on) (fun w' f => (H.out.keep f).now_ tn ht) (fun w' f => (H.out.keep f).fin_ on ho) (fun w' f => (H.out.keep f).there _ _ (by omega)) _ _ _ _ _ _ _ _ _ _ _ _ _ _ _ _ _ _ _ _ _ _ _ _ _ _ _ _ _ _ _ _ _ _ _ _ ?_
        intro w2 F2
        have R2 : RW _ p (joinW T tn (T.fin on)) ks as' n := (H.out.keep F2).setNow ht (joinC (T.now tn) (T.fin on))
        have FF : Fr (Bk p) wq (w2.setCells p (tn * 13) (ckL (joinC (T.now tn) (T.fin on)))) := F2.tob.bk (fr_sets _ _ _ _)
        have HX : Hid (_ ∧ _) := ⟨R2, FF⟩
        clear R2 FF F2 I1 I2 ce
        go_end0
        exact ⟨rfl, by rw [HJ.out]; exact HX.out.1, HX.out.2⟩

/-- Clock. -/
def clockW (T : Wt) (t : Int) : Nat → Int := if isB t then T.now t.toNat else fun _ => 0
set_option maxRecDepth 100000 in
theorem clock_any (w : World) (p : Nat) (T : Wt) (ks : List Kp) (as' : List Ac) (n : Int) (h : RW w p T ks as' n) (t : Int) :
    Calls Try.prog 28 #[.pointer (some ⟨p, 0, none⟩), .int .i64 t] w fun e w' => e = .returned (ckV (clockW T t)) ∧ Fr no w w' := by
  have I1 := fun w => is_any w t
  have H : Hid _ := h
  clear h
  have HR := heap_alloc_new w (.cells z13 36)
  have F0 := (Fr.refl no w).alloc z13 36
  have hp := H.out.lt
  have R0 := H.out.keep F0
  cases h1 : isB t
  · have hT : clockW T t = fun _ => 0 := by unfold clockW; rw [h1, if_neg Bool.false_ne_true]
    rw [hT]
    rw [h1] at I1
    clear hT h1 H R0
    go_enter Try.func28, Try.ntmps28
    go_upto_region 1 with fail
    have HX : Hid (_ ∧ _) := ⟨HR, F0⟩
    clear HR F0
    unfold z13 at HX
    generalize w.alloc (.cells #[.int .i64 0, .int .i64 0, .int .i64 0, .int .i64 0, .int .i64 0, .int .i64 0, .int .i64 0, .int .i64 0, .int .i64 0, .int .i64 0, .int .i64 0, .int .i64 0, .int .i64 0] 36) = W at *
    have HB : Hid (w.heap.size ≤ w.heap.size) := Nat.le_refl _
    generalize hb : w.heap.size = b at HX HB ⊢
    have HBE : Hid _ := hb
    clear hb
    go_wp2_with fail
    refine (I1 _).mono ?_
    rintro _ wq ⟨rfl, rfl⟩
    have ht : wq.there b 0 13 := there_row HX.out.1
    have hr := World.rangeAt_setCells_same wq b 0 (ckL fun _ => 0) (by rw [ckL_len]; exact ht)
    have HF : Hid (_ ∧ _ ∧ _) := ⟨hr, HX.out.2.newBk (fr_sets wq b 0 (ckL fun _ => 0)) (Nat.le_of_eq HBE.out), ht⟩
    clear hr ht HX
    go_upto_region 2 with fail
    apply wp_region_lit
    refine wpList_buildTo rfl 36 _ rfl (some 8) rfl z13 (by as_aux_lemma => kernel_rfl) ?_
    refine wpList_store_mid rfl 36 (.tmp 4) (.tmp 8) rfl b 0 (ckL fun _ => 0).toArray rfl rfl (by rw [ck_size]; exact HF.out.2.2) (by rw [ck_size]; exact info36) (ck_one _) ?_
    refine wpList_nil ?_
    show Exit.then _ _ Exit.normal _ _
    go_wp2_with fail
    refine ret_ck HF.out.1 ?_
    exact ⟨rfl, HF.out.2.1⟩
  · have hT : clockW T t = T.now t.toNat := by unfold clockW; rw [h1, if_pos rfl]
    rw [hT]
    rw [h1] at I1
    obtain ⟨tn, rfl, ht, -⟩ := isB_nat h1
    clear hT h1
    simp only [Int.toNat_natCast]
    go_enter Try.func28, Try.ntmps28
    go_upto_region 1 with fail
    have HX : Hid (_ ∧ _ ∧ _) := ⟨HR, F0, R0⟩
    clear HR F0 R0
    unfold z13 at HX
    generalize w.alloc (.cells #[.int .i64 0, .int .i64 0, .int .i64 0, .int .i64 0, .int .i64 0, .int .i64 0, .int .i64 0, .int .i64 0, .int .i64 0, .int .i64 0, .int .i64 0, .int .i64 0, .int .i64 0] 36) = W at *
    generalize hb : w.heap.size = b at HX hp ⊢
    have HBE : Hid _ := hb
    clear hb
    go_wp2_with fail
    refine (I1 _).mono ?_
    rintro _ wq ⟨rfl, rfl⟩
    have hth : wq.there b 0 13 := there_row HX.out.1
    have hr := World.rangeAt_setCells_same wq b 0 (ckL (T.now tn)) (by rw [ckL_len]; exact hth)
    have HF : Hid (_ ∧ _ ∧ _ ∧ _) := ⟨hr, HX.out.2.1.newBk (fr_sets wq b 0 (ckL (T.now tn))) (Nat.le_of_eq HBE.out), hth, HX.out.2.2.now_ tn ht⟩
    clear hr hth HX
    have ht0 : (0 : Int) ≤ (tn : Int) := by omega
    have ht1 : (tn : Int) < 13 := by omega
    go_upto_region 3 with fail
    apply wp_region_lit
    refine Great.wpList_runTo rfl (some 9) rfl (.pointer (some ⟨p, 0, none⟩)) wq (by as_aux_lemma => kernel_rfl) ?_
    refine Great.wpList_runTo rfl (some 10) rfl (.int .i64 (tn : Int)) wq (by as_aux_lemma => kernel_rfl) ?_
    refine Great.wpList_runTo rfl (some 11) rfl (.pointer (some ⟨p, 0, none⟩)) wq (by as_aux_lemma => kernel_rfl) ?_
    refine Great.wpList_runTo rfl (some 12) rfl (.pointer (some ⟨p, 0, none⟩)) wq (by as_aux_lemma => kernel_rfl) ?_
    refine Great.wpList_runTo rfl (some 13) rfl (.pointer (some ⟨p, tn * 13, none⟩)) wq (ev_index 37 12 10 (.pointer (some ⟨p, 0, none⟩)) (.int .i64 (tn : Int)) _ rfl (by kernel_rfl) (by kernel_rfl) (idx37 ht)) ?_
    refine wpList_load_mid rfl 36 (.tmp 13) rfl p (tn * 13) (by kernel_rfl) (ckL (T.now tn)) _ HF.out.2.2.2 Try.underlying36 rfl (by rw [ckL_len]; exact info36) ?_
    refine wpList_store_mid rfl 36 (.tmp 4) (.tmp 14) rfl b 0 (ckL (T.now tn)).toArray (by kernel_rfl) (by kernel_rfl) (by rw [ck_size]; exact HF.out.2.2.1) (by rw [ck_size]; exact info36) (ck_one _) ?_
    refine wpList_nil ?_
    show Exit.then _ _ Exit.normal _ _
    go_wp2_with fail
    refine ret_ck HF.out.1 ?_
    exact ⟨rfl, HF.out.2.1⟩
end Go.Proofs.Ytnineggppoipiaa
