/- The document's Release. -/
import Derived.Test.YtopcbcdigllenaaRh
import Derived.Test.YtopcbcdigllenaaCut
namespace Go.Proofs.Ytopcbcdigllenaa
open Go.ChangeShapes Go.WideShapes Go.ChangeAt Go.RowKit

theorem elem41 : Try.prog.elem elO.t = elO.e := by kernel_rfl

theorem RR.thaw {w : World} {q g : Nat} {size : Int} {T : List Ob} (h : RR w q g size T) : w.frozen? ⟨q, 1, none⟩ = false := by
  obtain ⟨v, h1, -⟩ := h.hd
  simp [World.frozen?, h1]

/-- Another row in the arena's place. -/
theorem RR.put {w w2 : World} {q g : Nat} {size : Int} {T T' : List Ob} {v2 : Value} (h : RR w q g size T) (f : Fr no w w2) (o : OwnG elO w2 v2 T') (hw : ∀ x ∈ T', ∃ b, x.blk = some b ∧ b ≠ g ∧ w2.heap[b]? = some (.cells (cg elU x.ws).toArray 28 (0, 0))) (hd : (T'.map (·.blk)).Nodup) :
    RR (w2.setCell ⟨q, 1, none⟩ v2) q g size T' ∧ Fr (fun k => k = q) w (w2.setCell ⟨q, 1, none⟩ v2) := by
  obtain ⟨v, h1, -⟩ := h.hd
  have hq := f.heap h1 (fun x => x)
  have F : Fr (fun k => k = q) w2 (w2.setCell ⟨q, 1, none⟩ v2) := (Fr.refl (fun k => k = q) w2).setCell (p := ⟨q, 1, none⟩) (fun _ => rfl) _
  have hne : ∀ k cs t, w2.heap[k]? = some (.cells cs t (0, 0)) → t ≠ 43 → k ≠ q := fun k cs t hk ht e => by
    subst e
    rw [hq] at hk
    simp at hk
    exact ht hk.2.symm
  refine ⟨⟨⟨v2, ?_, o.kept F (fun k hk e => ?_)⟩, fun x hx => ?_, hd⟩, f.up.trans F (fun _ _ x => x) (fun _ _ x => x)⟩
  · unfold World.setCell
    simp only [Array.getElem?_modify, if_true, hq]
    simp
  · obtain ⟨cur, hc⟩ := o.tag hk
    exact hne k _ _ hc (by decide) e
  · obtain ⟨b, h2, h3, h4⟩ := hw x hx
    exact ⟨b, h2, h3, F.heap h4 (hne b _ _ h4 (by decide))⟩

theorem find_split {T : List Ob} {a : Int} {i : Nat} (h : findO T a = some i) : ∃ x, T[i]? = some x ∧ x.at_ = a ∧ i < T.length := by
  unfold findO at h
  rw [List.findIdx?_eq_some_iff_getElem] at h
  obtain ⟨h1, h2, -⟩ := h
  exact ⟨T[i], List.getElem?_eq_getElem h1, by simpa using h2, h1⟩

set_option maxRecDepth 100000 in
set_option maxHeartbeats 2000000 in
theorem refRelease_any (w : World) (q g : Nat) (size : Int) (T : List Ob) (h : RR w q g size T) (a : Int) (hl : T.length ≤ 3000) :
    Calls Try.prog 14 #[.pointer (some ⟨q, 0, none⟩), .int .i64 a] w fun e w' => e = .returned (.int .i64 (errA (findO T a).isSome)) ∧
      RR w' q g size (match findO T a with | some i => T.take i ++ T.drop (i + 1) | none => T) ∧ Fr (fun k => k = q) w w' ∧ ((findO T a).isSome = true → ∀ v, w'.cell? ⟨q, 1, none⟩ = some v → NewV w v) := by
  have FD := find_any w q g size T h a hl
  have HH : Hid (RR w q g size T) := h
  cases hfo : findO T a with
  | none =>
    rw [hfo] at FD
    simp only [fdA] at FD
    clear h
    go_enter Try.func14, Try.ntmps14
    go_wp2_with fail
    refine FD.mono ?_
    rintro e w1 ⟨rfl, rfl⟩
    go_wp2_with fail
    go_ret
    exact ⟨rfl, HH.out, Fr.refl _ _, fun e => by simp at e⟩
  | some i =>
    rw [hfo] at FD
    simp only [fdA] at FD
    obtain ⟨x, hx, hxa, hil⟩ := find_split hfo
    obtain ⟨v, hq, ho⟩ := h.hd
    obtain ⟨gg, oo, cc, cur, hv, hcur⟩ : ∃ gg oo cc cur, v = .slice (some ⟨gg, oo, none⟩) T.length cc ∧ w.heap[gg]? = some (.cells cur 40 (0, 0)) := by
      rcases ho with ⟨_, rfl⟩ | ⟨gg, oo, cc, cur, hv, hc, _⟩
      · simp at hil
      · exact ⟨gg, oo, cc, cur, hv, hc⟩
    subst hv
    have hcq : w.cell? ⟨q, 1, none⟩ = some (.slice (some ⟨gg, oo, none⟩) T.length cc) := by simp [World.cell?, hq]
    obtain ⟨sv1, r1, r2, s1⟩ := cut_low elO_ok elem41 ho i (by omega)
    obtain ⟨sv2, q1, q2, s2, -⟩ := cut_high elO_ok elem41 ho (i + 1) (by omega)
    have e1 : ((i + 1 : Nat) : Int) = (i : Int) + 1 := by omega
    rw [e1] at q1 q2
    have HS1 : Hid (Src Try.prog elO.n 41 sv1 (T.take i).length (cg elO (T.take i)) w.drew) := s1 w.drew rfl
    have HFIN : Hid (∀ v1 w1, OwnG elO w1 v1 ([] ++ T.take i) → Sp (.slice none 0 0) w.drew v1 w1 → (Src Try.prog elO.n 41 sv2 (T.drop (i + 1)).length (cg elO (T.drop (i + 1))) w1 ∧ w1.cell? ⟨q, 1, none⟩ = some (.slice (some ⟨gg, oo, none⟩) T.length cc)) ∧
        ∀ v2 w2, OwnG elO w2 v2 (([] ++ T.take i) ++ T.drop (i + 1)) → Sp v1 w1 v2 w2 → (w2.cell? ⟨q, 1, none⟩ = some (.slice (some ⟨gg, oo, none⟩) T.length cc) ∧ w2.frozen? ⟨q, 1, none⟩ = false) ∧ RR (w2.setCell ⟨q, 1, none⟩ v2) q g size (T.take i ++ T.drop (i + 1)) ∧ Fr (fun k => k = q) w (w2.setCell ⟨q, 1, none⟩ v2) ∧ ∀ v, (w2.setCell ⟨q, 1, none⟩ v2).cell? ⟨q, 1, none⟩ = some v → NewV w v) := by
      intro v1 w1 o1 p1
      have f1 : Fr no w w1 := (Fr.refl no w).drew.new p1.1 (fun i hi e => by simp [Value.ownBlock] at e)
      have n1 : NewV w v1 := fun b hb => by
        by_cases hlt : b < w.drew.heap.size
        · have := p1.2 b hlt hb
          simp [Value.ownBlock] at this
        · have e : w.drew.heap.size = w.heap.size := rfl
          omega
      refine ⟨⟨s2 w1 ((f1.heap hcur (fun f => f)).trans hcur.symm), f1.cell hcq (fun x => x)⟩, fun v2 w2 o2 p2 => ?_⟩
      obtain ⟨nv2, f2⟩ := n1.step f1 p2
      rw [List.nil_append] at o2
      have hvv : ∀ v, (w2.setCell ⟨q, 1, none⟩ v2).cell? ⟨q, 1, none⟩ = some v → NewV w v := fun v hv => by
        have hq2 := f2.heap hq (fun x => x)
        have : (w2.setCell ⟨q, 1, none⟩ v2).heap[q]? = some (.cells #[.int .i64 size, v2] 43 (0, 0)) := by
          unfold World.setCell
          simp only [Array.getElem?_modify, if_true, hq2]
          simp
        have hc : (w2.setCell ⟨q, 1, none⟩ v2).cell? ⟨q, 1, none⟩ = some v2 := by
          generalize w2.setCell ⟨q, 1, none⟩ v2 = w9 at *
          simp [World.cell?, this]
        rw [hc] at hv
        simp only [Option.some.injEq] at hv
        rw [← hv]
        exact nv2
      suffices hpp : RR (w2.setCell ⟨q, 1, none⟩ v2) q g size (T.take i ++ T.drop (i + 1)) ∧ Fr (fun k => k = q) w (w2.setCell ⟨q, 1, none⟩ v2) from ⟨⟨f2.cell hcq (fun x => x), (HH.out.keep f2).thaw⟩, hpp.1, hpp.2, hvv⟩
      refine HH.out.put f2 o2 (fun y hy => ?_) ?_
      · have hyT : y ∈ T := by
          rcases List.mem_append.1 hy with hy | hy
          · exact List.mem_of_mem_take hy
          · exact List.mem_of_mem_drop hy
        obtain ⟨b, hb, hg, hc⟩ := HH.out.wd y hyT
        exact ⟨b, hb, hg, f2.heap hc (fun x => x)⟩
      · have hd := HH.out.dup
        rw [show T = T.take i ++ x :: T.drop (i + 1) by
          obtain ⟨h1, h2⟩ := List.getElem?_eq_some_iff.1 hx
          rw [← h2, List.getElem_cons_drop, List.take_append_drop]] at hd
        rw [List.map_append, List.map_cons, List.nodup_append, List.nodup_cons] at hd
        rw [List.map_append, List.nodup_append]
        exact ⟨hd.1, hd.2.1.2, fun a ha b hb => hd.2.2 a ha b (List.mem_cons_of_mem _ hb)⟩
    have hla : ([] : List Ob).length + (T.take i).length ≤ 1000000 := by simp <;> omega
    have hlb : ([] ++ T.take i).length + (T.drop (i + 1)).length ≤ 1000000 := by simp <;> omega
    have hwp : IntKind.i64.wrap ((i : Int) + 1) = (i : Int) + 1 := by rw [IntKind.wrap_i64]; omega
    have hge : ¬ ((i : Int) < 0) := by omega
    simp only [elO] at r1 r2 q1 q2
    clear h ho hq hcur s1 s2 hx hxa
    generalize hn : T.length = n at *
    go_enter Try.func14, Try.ntmps14
    go_wp2_with fail
    refine FD.mono ?_
    rintro e w1 ⟨rfl, rfl⟩
    go_wp2_with fail
    go_region_law (first | (refine step_apdG elO_ok w1.drew rfl rfl (.const (.slice none 0 0)) (.tmp 17) rfl (.slice none 0 0) [] (by kernel_rfl) (OwnG.nil _ _) sv1 (by kernel_rfl) (T.take i) HS1.out hla ?_; intro v1 w6 o6 s6; have HO6 : Hid (OwnG elO w6 v1 ([] ++ T.take i)) := o6; have HS6 : Hid _ := HFIN.out v1 w6 o6 s6; have hc6 := HS6.out.1.2; clear o6 s6) | (refine step_apdG elO_ok w6 rfl rfl (.tmp 18) (.tmp 25) rfl v1 ([] ++ T.take i) (by kernel_rfl) HO6.out sv2 (by kernel_rfl) (T.drop (i + 1)) HS6.out.1.1 hlb ?_; intro v2 w7 o7 s7; have HA7 : Hid _ := HS6.out.2 v2 w7 o7 s7; obtain ⟨ov2, cv2, hv2⟩ := o7.form; have hc7 := HA7.out.1.1; have hz7 := HA7.out.1.2; clear o7 s7; subst hv2; generalize (([] ++ List.take i T) ++ List.drop (i + 1) T).length = l2 at *))
    all_goals
      have HA8 : Hid (RR (w7.setCell ⟨q, 1, none⟩ (.slice ov2 l2 cv2)) q g size (T.take i ++ T.drop (i + 1)) ∧ Fr (fun k => k = q) w1 (w7.setCell ⟨q, 1, none⟩ (.slice ov2 l2 cv2)) ∧ ∀ v, (w7.setCell ⟨q, 1, none⟩ (.slice ov2 l2 cv2)).cell? ⟨q, 1, none⟩ = some v → NewV w1 v) := HA7.out.2
      clear HA7 HS6 HFIN HS1 HO6 hc7 hz7 hc6
      generalize w7.setCell ⟨q, 1, none⟩ (.slice ov2 l2 cv2) = w8 at *
      go_wp2_with fail
      go_ret
      exact ⟨rfl, HA8.out.1, HA8.out.2.1, fun _ => HA8.out.2.2⟩
end Go.Proofs.Ytopcbcdigllenaa
