/- Forget of the document. -/
import Derived.Test.YtkkpimpmhnnbjaaDg
namespace Go.Proofs.Ytkkpimpmhnnbjaa
open Go.ChangeShapes Go.WideShapes Go.ChangeAt Go.RowKit

theorem ld27 {w : World} {q i : Nat} {o : Option Addr} {l c : Nat} (h : w.cell? ⟨q, i, none⟩ = some (.slice o l c)) : (Instr.loadAt 27 (.pointer (some ⟨q, i, none⟩))).run Try.prog w = .ok (.slice o l c) w := by simp [go_sem, h]
theorem st27 {w : World} {q i : Nat} {o o' : Option Addr} {l c l' c' : Nat} (h : w.cell? ⟨q, i, none⟩ = some (.slice o l c)) (z : w.frozen? ⟨q, i, none⟩ = false) : (Instr.storeAt 27 (.pointer (some ⟨q, i, none⟩)) (.slice o' l' c')).run Try.prog w = .ok () (w.setCell ⟨q, i, none⟩ (.slice o' l' c')) := by simp [go_sem, h, z]
theorem ev_sliceH {o : Oper} {a : Act} {w : World} (x y : Nat) (v u c1 : Value) (ho : o.op = .slice 27 (.tmp x) none (some (.tmp y)) none) (hx : a.eval (.tmp x) = v) (hy : a.eval (.tmp y) = c1) (hr : (Instr.sliceAt 27 v none (some c1) none).run Try.prog w = .ok u w) : (execOp a.eval o).run Try.prog w = .ok (.value u) w := by
  unfold execOp; simp [ho, hx, hy, hr]
theorem ev_sliceL {o : Oper} {a : Act} {w : World} (x y : Nat) (v u c1 : Value) (ho : o.op = .slice 27 (.tmp x) (some (.tmp y)) none none) (hx : a.eval (.tmp x) = v) (hy : a.eval (.tmp y) = c1) (hr : (Instr.sliceAt 27 v (some c1) none none).run Try.prog w = .ok u w) : (execOp a.eval o).run Try.prog w = .ok (.value u) w := by
  unfold execOp; simp [ho, hx, hy, hr]
theorem ev_add1 {o : Oper} {a : Act} {w : World} (x i : Nat) (hi : i ≤ 100000) (ho : o.op = .binOp .add 3 (.tmp x) (.const (.int .i64 1)) 3) (hx : a.eval (.tmp x) = .int .i64 (i : Int)) : (execOp a.eval o).run Try.prog w = .ok (.value (.int .i64 ((i + 1 : Nat) : Int))) w := by
  have hc : a.eval (.const (.int .i64 1)) = .int .i64 1 := rfl
  have hw : IntKind.i64.wrap ((i : Int) + 1) = (i : Int) + 1 := by rw [IntKind.wrap_i64]; omega
  unfold execOp; rw [ho]; simp only [hx, hc]; simp [go_sem, hw]
theorem ev_appendC {o : Oper} {a : Act} {w : World} (y : Nat) (u v' : Value) (w' : World) (ht : o.type = 27) (ho : o.op = Op.call { callee := Callee.builtin Builtin.append, args := #[.const (.slice none 0 0), .tmp y], argTypes := #[27, 27] }) (hy : a.eval (.tmp y) = u) (hr : (Builtin.append_ #[27, 27] 27 #[.slice none 0 0, u]).run Try.prog w = .ok v' w') : (execOp a.eval o).run Try.prog w = .ok (.value v') w' := by
  have hc : a.eval (.const (.slice none 0 0)) = .slice none 0 0 := rfl
  unfold execOp; simp [ho, ht, hc, hy, resolve, invoke, builtin, hr, Result.andThen]
theorem elem27 : Try.prog.elem 27 = 72 := by kernel_rfl

/-- The document's table gets another row. -/
theorem DT.put {c : Nat} {w w2 : World} {q : Nat} {D D' : List Dl} (h : DT c w q D) (f : Fr no w w2) {v' : Value} (o2 : OwnG elK w2 v' D') (hn : NewV w v') (hs : ∀ d ∈ D', d ∈ D) :
    w2.frozen? ⟨q, 0, none⟩ = false ∧ DT c (w2.setCell ⟨q, 0, none⟩ v') q D' ∧ Fr (Td c w) w (w2.setCell ⟨q, 0, none⟩ v') := by
  obtain ⟨vl, h1, h2, h3⟩ := h.hd
  have hqlt := lt_of_heap h1
  have hcq := h.cq
  have hq2 := f.heap h1 (fun f => f)
  have fs := (Fr.refl (fun k => k = q) w2).setCell (p := ⟨q, 0, none⟩) (fun _ => rfl) v'
  have rk : ∀ {v : Value} {l : List (Int × Int)}, OwnG elD w v l → OwnG elD (w2.setCell ⟨q, 0, none⟩ v') v l := by
    intro v l ho
    refine (ho.keep f).kept fs (fun k hk e => ?_)
    obtain ⟨cur, hc⟩ := ho.tag hk
    rw [e, h1] at hc
    simp [elD] at hc
  refine ⟨(cells1 hq2).2, ⟨hcq, ⟨v', ?_, o2.kept fs (fun k hk e => ?_), fun b hb => ?_⟩, fun d hd => ⟨rk (h.rows d (hs d hd)).1, rk (h.rows d (hs d hd)).2⟩⟩, f.trans fs (fun _ _ e => e.elim) (fun k _ e => ?_)⟩
  · unfold World.setCell
    simp [Array.getElem?_modify, hq2]
  · have := hn k hk
    omega
  · have := hn b hb
    omega
  · rw [e]
    exact ⟨hcq, _, 29, h1, .inl rfl⟩

noncomputable def dreg19C : Code := ((Try.f19.body.bind (regionOf 6)).getD .skip)


set_option maxRecDepth 100000 in
theorem dreg19 {c : Nat} {W : World} {q : Nat} {D : List Dl} (h : DT c W q D) (i g o n cp : Nat) (hc : W.cell? ⟨q, 0, none⟩ = some (.slice (some ⟨g, o, none⟩) n cp)) (hlt : i < D.length) (hl : D.length ≤ 3000)
    (sv1 sv2 : Value) (h1 : (∀ w', (Instr.sliceAt 27 (.slice (some ⟨g, o, none⟩) n cp) none (some (.int .i64 (i : Int))) none).run Try.prog w' = .ok sv1 w') ∧ ∀ w', w'.heap[g]? = W.heap[g]? → Src Try.prog elK.n elK.t sv1 (D.take i).length (cg elK (D.take i)) w')
    (h2 : (∀ w', (Instr.sliceAt 27 (.slice (some ⟨g, o, none⟩) n cp) (some (.int .i64 ((i + 1 : Nat) : Int))) none none).run Try.prog w' = .ok sv2 w') ∧ ∀ w', w'.heap[g]? = W.heap[g]? → Src Try.prog elK.n elK.t sv2 (D.drop (i + 1)).length (cg elK (D.drop (i + 1))) w') (hgl : g < W.heap.size)
    (K : Act → World → Prop) (y1 y2 y3 y4 y6 y7 y8 y9 y10 y11 y12 y13 y14 y15 y16 y17 y18 y19 y20 y21 y22 y23 y24 y25 y26 y27 y28 y29 y30 y31 y32 y33 y34 y35 y36 y37 y38 y39 y40 y41 y42 y43 y44 y45 y46 y47 y48 y49 y50 y51 y52 y53 y54 y55 y56 y57 y58 y59 y60 y61 : Value)
    (hQ : ∀ v1 ov lf cv w2, DT c w2 q (D.take i ++ D.drop (i + 1)) → Fr (Td c W) W w2 → K ⟨(.pointer (some ⟨q, 0, none⟩) :: y1 :: y2 :: y3 :: y4 :: .int .i64 (i : Int) :: y6 :: y7 :: y8 :: y9 :: y10 :: y11 :: y12 :: y13 :: y14 :: y15 :: y16 :: y17 :: y18 :: y19 :: y20 :: y21 :: y22 :: y23 :: y24 :: y25 :: y26 :: y27 :: y28 :: y29 :: y30 :: y31 :: y32 :: y33 :: y34 :: y35 :: y36 :: y37 :: y38 :: y39 :: y40 :: y41 :: y42 :: y43 :: .pointer (some ⟨q, 0, none⟩) :: .pointer (some ⟨q, 0, none⟩) :: .pointer (some ⟨q, 0, none⟩) :: .pointer (some ⟨q, 0, none⟩) :: .slice (some ⟨g, o, none⟩) n cp :: .int .i64 (i : Int) :: sv1 :: v1 :: .pointer (some ⟨q, 0, none⟩) :: .pointer (some ⟨q, 0, none⟩) :: .pointer (some ⟨q, 0, none⟩) :: .slice (some ⟨g, o, none⟩) n cp :: .int .i64 (i : Int) :: .int .i64 ((i + 1 : Nat) : Int) :: sv2 :: .slice ov lf cv :: .pointer (some ⟨q, 0, none⟩) :: .pointer (some ⟨q, 0, none⟩) :: []).toArray, []⟩ w2) :
    Code.wp Try.prog dreg19C (Exit.then K (fun _ _ _ => False)) ⟨(.pointer (some ⟨q, 0, none⟩) :: y1 :: y2 :: y3 :: y4 :: .int .i64 (i : Int) :: y6 :: y7 :: y8 :: y9 :: y10 :: y11 :: y12 :: y13 :: y14 :: y15 :: y16 :: y17 :: y18 :: y19 :: y20 :: y21 :: y22 :: y23 :: y24 :: y25 :: y26 :: y27 :: y28 :: y29 :: y30 :: y31 :: y32 :: y33 :: y34 :: y35 :: y36 :: y37 :: y38 :: y39 :: y40 :: y41 :: y42 :: y43 :: y44 :: y45 :: y46 :: y47 :: y48 :: y49 :: y50 :: y51 :: y52 :: y53 :: y54 :: y55 :: y56 :: y57 :: y58 :: y59 :: y60 :: y61 :: []).toArray, []⟩ W := by
  have HQ : Hid _ := hQ
  have hi : i ≤ 100000 := by omega
  have HC : Hid (∀ w', Fr no W w' → w'.cell? ⟨q, 0, none⟩ = some (.slice (some ⟨g, o, none⟩) n cp)) := fun w' f => f.cell hc (fun h => h)
  have HS1 : Hid ((∀ w', (Instr.sliceAt 27 (.slice (some ⟨g, o, none⟩) n cp) none (some (.int .i64 (i : Int))) none).run Try.prog w' = .ok sv1 w') ∧ ∀ w', Fr no W w' → Src Try.prog elK.n elK.t sv1 (D.take i).length (cg elK (D.take i)) w') := ⟨h1.1, fun w' f => h1.2 w' (f.block g hgl (fun h => h))⟩
  have HS2 : Hid ((∀ w', (Instr.sliceAt 27 (.slice (some ⟨g, o, none⟩) n cp) (some (.int .i64 ((i + 1 : Nat) : Int))) none none).run Try.prog w' = .ok sv2 w') ∧ ∀ w', Fr no W w' → Src Try.prog elK.n elK.t sv2 (D.drop (i + 1)).length (cg elK (D.drop (i + 1))) w') := ⟨h2.1, fun w' f => h2.2 w' (f.block g hgl (fun h => h))⟩
  have HL1 : Hid (([] : List Dl).length + (D.take i).length ≤ 1000000) := by simp only [Hid, List.length_nil, List.length_take]; omega
  have HL2 : Hid (([] ++ D.take i).length + (D.drop (i + 1)).length ≤ 1000000) := by simp only [Hid, List.nil_append, List.length_take, List.length_drop]; omega
  have LEM : Hid (∀ v2 w2, OwnG elK w2 v2 ([] ++ D.take i ++ D.drop (i + 1)) → NewV W v2 → Fr no W w2 → ∃ ov lf cv, v2 = .slice ov lf cv ∧ w2.cell? ⟨q, 0, none⟩ = some (.slice (some ⟨g, o, none⟩) n cp) ∧ w2.frozen? ⟨q, 0, none⟩ = false ∧ Hid (DT c (w2.setCell ⟨q, 0, none⟩ (.slice ov lf cv)) q (D.take i ++ D.drop (i + 1)) ∧ Fr (Td c W) W (w2.setCell ⟨q, 0, none⟩ (.slice ov lf cv)))) := by
    intro v2 w2 o2 n2 f2
    rw [List.nil_append] at o2
    obtain ⟨e1, e2, e3⟩ := h.put f2 o2 n2 (fun d hd => by
      rcases List.mem_append.1 hd with hd | hd
      · exact List.mem_of_mem_take hd
      · exact List.mem_of_mem_drop hd)
    obtain ⟨ov, cv, rfl⟩ := o2.form
    exact ⟨ov, _, cv, rfl, HC.out w2 f2, e1, e2, e3⟩
  have f0 : Fr no W W.drew := (Fr.refl no W).drew
  clear hQ h h1 h2 hc
  unfold dreg19C
  conv => arg 2; whnf
  refine late_begin (S := fun w' => Fr no W w') (g := 18) (by kernel_rfl) ?_
  refine lateP 0 (.pointer (some ⟨q, 0, none⟩)) rfl (fun _ => ev_move 0 _ rfl (by kernel_rfl)) (fun _ => f0) ?_
  refine lateP 1 (.pointer (some ⟨q, 0, none⟩)) rfl (fun _ => ev_move 0 _ rfl (by kernel_rfl)) (fun _ => f0) ?_
  refine lateP 2 (.pointer (some ⟨q, 0, none⟩)) rfl (fun _ => ev_nil 45 ⟨q, 0, none⟩ rfl (by kernel_rfl)) (fun _ => f0) ?_
  refine lateP 3 (.pointer (some ⟨q, 0, none⟩)) rfl (fun _ => ev_field 29 46 0 (.pointer (some ⟨q, 0, none⟩)) _ rfl (by kernel_rfl) (by kernel_rfl)) (fun _ => f0) ?_
  refine lateN (true :: true :: true :: true :: false :: false :: false :: false :: false :: false :: false :: false :: false :: false :: false :: false :: false :: false :: false :: []).toArray ⟨(.pointer (some ⟨q, 0, none⟩) :: y1 :: y2 :: y3 :: y4 :: .int .i64 (i : Int) :: y6 :: y7 :: y8 :: y9 :: y10 :: y11 :: y12 :: y13 :: y14 :: y15 :: y16 :: y17 :: y18 :: y19 :: y20 :: y21 :: y22 :: y23 :: y24 :: y25 :: y26 :: y27 :: y28 :: y29 :: y30 :: y31 :: y32 :: y33 :: y34 :: y35 :: y36 :: y37 :: y38 :: y39 :: y40 :: y41 :: y42 :: y43 :: .pointer (some ⟨q, 0, none⟩) :: .pointer (some ⟨q, 0, none⟩) :: .pointer (some ⟨q, 0, none⟩) :: .pointer (some ⟨q, 0, none⟩) :: y48 :: y49 :: y50 :: y51 :: y52 :: y53 :: y54 :: y55 :: y56 :: y57 :: y58 :: y59 :: y60 :: y61 :: []).toArray, []⟩ ?_
  refine lateT 4 (.slice (some ⟨g, o, none⟩) n cp) rfl (fun wz hz => ev_load 27 47 (.pointer (some ⟨q, 0, none⟩)) (.slice (some ⟨g, o, none⟩) n cp) rfl (by kernel_rfl) (ld27 (HC.out wz hz))) f0 ?_
  refine lateN (true :: true :: true :: true :: true :: false :: false :: false :: false :: false :: false :: false :: false :: false :: false :: false :: false :: false :: false :: []).toArray ⟨(.pointer (some ⟨q, 0, none⟩) :: y1 :: y2 :: y3 :: y4 :: .int .i64 (i : Int) :: y6 :: y7 :: y8 :: y9 :: y10 :: y11 :: y12 :: y13 :: y14 :: y15 :: y16 :: y17 :: y18 :: y19 :: y20 :: y21 :: y22 :: y23 :: y24 :: y25 :: y26 :: y27 :: y28 :: y29 :: y30 :: y31 :: y32 :: y33 :: y34 :: y35 :: y36 :: y37 :: y38 :: y39 :: y40 :: y41 :: y42 :: y43 :: .pointer (some ⟨q, 0, none⟩) :: .pointer (some ⟨q, 0, none⟩) :: .pointer (some ⟨q, 0, none⟩) :: .pointer (some ⟨q, 0, none⟩) :: .slice (some ⟨g, o, none⟩) n cp :: y49 :: y50 :: y51 :: y52 :: y53 :: y54 :: y55 :: y56 :: y57 :: y58 :: y59 :: y60 :: y61 :: []).toArray, []⟩ ?_
  refine lateP 5 (.int .i64 (i : Int)) rfl (fun _ => ev_move 5 _ rfl (by kernel_rfl)) (fun _ => f0) ?_
  refine lateP 6 (sv1) rfl (fun _ => ev_sliceH 48 49 (.slice (some ⟨g, o, none⟩) n cp) sv1 (.int .i64 (i : Int)) rfl (by kernel_rfl) (by kernel_rfl) (HS1.out.1 _)) (fun _ => f0) ?_
  refine lateN (true :: true :: true :: true :: true :: true :: true :: false :: false :: false :: false :: false :: false :: false :: false :: false :: false :: false :: false :: []).toArray ⟨(.pointer (some ⟨q, 0, none⟩) :: y1 :: y2 :: y3 :: y4 :: .int .i64 (i : Int) :: y6 :: y7 :: y8 :: y9 :: y10 :: y11 :: y12 :: y13 :: y14 :: y15 :: y16 :: y17 :: y18 :: y19 :: y20 :: y21 :: y22 :: y23 :: y24 :: y25 :: y26 :: y27 :: y28 :: y29 :: y30 :: y31 :: y32 :: y33 :: y34 :: y35 :: y36 :: y37 :: y38 :: y39 :: y40 :: y41 :: y42 :: y43 :: .pointer (some ⟨q, 0, none⟩) :: .pointer (some ⟨q, 0, none⟩) :: .pointer (some ⟨q, 0, none⟩) :: .pointer (some ⟨q, 0, none⟩) :: .slice (some ⟨g, o, none⟩) n cp :: .int .i64 (i : Int) :: sv1 :: y51 :: y52 :: y53 :: y54 :: y55 :: y56 :: y57 :: y58 :: y59 :: y60 :: y61 :: []).toArray, []⟩ ?_
  refine lateP 8 (.pointer (some ⟨q, 0, none⟩)) rfl (fun _ => ev_move 0 _ rfl (by kernel_rfl)) (fun _ => f0) ?_
  refine lateP 9 (.pointer (some ⟨q, 0, none⟩)) rfl (fun _ => ev_nil 52 ⟨q, 0, none⟩ rfl (by kernel_rfl)) (fun _ => f0) ?_
  refine lateP 10 (.pointer (some ⟨q, 0, none⟩)) rfl (fun _ => ev_field 29 53 0 (.pointer (some ⟨q, 0, none⟩)) _ rfl (by kernel_rfl) (by kernel_rfl)) (fun _ => f0) ?_
  refine lateN (true :: true :: true :: true :: true :: true :: true :: false :: true :: true :: true :: false :: false :: false :: false :: false :: false :: false :: false :: []).toArray ⟨(.pointer (some ⟨q, 0, none⟩) :: y1 :: y2 :: y3 :: y4 :: .int .i64 (i : Int) :: y6 :: y7 :: y8 :: y9 :: y10 :: y11 :: y12 :: y13 :: y14 :: y15 :: y16 :: y17 :: y18 :: y19 :: y20 :: y21 :: y22 :: y23 :: y24 :: y25 :: y26 :: y27 :: y28 :: y29 :: y30 :: y31 :: y32 :: y33 :: y34 :: y35 :: y36 :: y37 :: y38 :: y39 :: y40 :: y41 :: y42 :: y43 :: .pointer (some ⟨q, 0, none⟩) :: .pointer (some ⟨q, 0, none⟩) :: .pointer (some ⟨q, 0, none⟩) :: .pointer (some ⟨q, 0, none⟩) :: .slice (some ⟨g, o, none⟩) n cp :: .int .i64 (i : Int) :: sv1 :: y51 :: .pointer (some ⟨q, 0, none⟩) :: .pointer (some ⟨q, 0, none⟩) :: .pointer (some ⟨q, 0, none⟩) :: y55 :: y56 :: y57 :: y58 :: y59 :: y60 :: y61 :: []).toArray, []⟩ ?_
  refine lateT 11 (.slice (some ⟨g, o, none⟩) n cp) rfl (fun wz hz => ev_load 27 54 (.pointer (some ⟨q, 0, none⟩)) (.slice (some ⟨g, o, none⟩) n cp) rfl (by kernel_rfl) (ld27 (HC.out wz hz))) f0 ?_
  refine lateN (true :: true :: true :: true :: true :: true :: true :: false :: true :: true :: true :: true :: false :: false :: false :: false :: false :: false :: false :: []).toArray ⟨(.pointer (some ⟨q, 0, none⟩) :: y1 :: y2 :: y3 :: y4 :: .int .i64 (i : Int) :: y6 :: y7 :: y8 :: y9 :: y10 :: y11 :: y12 :: y13 :: y14 :: y15 :: y16 :: y17 :: y18 :: y19 :: y20 :: y21 :: y22 :: y23 :: y24 :: y25 :: y26 :: y27 :: y28 :: y29 :: y30 :: y31 :: y32 :: y33 :: y34 :: y35 :: y36 :: y37 :: y38 :: y39 :: y40 :: y41 :: y42 :: y43 :: .pointer (some ⟨q, 0, none⟩) :: .pointer (some ⟨q, 0, none⟩) :: .pointer (some ⟨q, 0, none⟩) :: .pointer (some ⟨q, 0, none⟩) :: .slice (some ⟨g, o, none⟩) n cp :: .int .i64 (i : Int) :: sv1 :: y51 :: .pointer (some ⟨q, 0, none⟩) :: .pointer (some ⟨q, 0, none⟩) :: .pointer (some ⟨q, 0, none⟩) :: .slice (some ⟨g, o, none⟩) n cp :: y56 :: y57 :: y58 :: y59 :: y60 :: y61 :: []).toArray, []⟩ ?_
  refine lateP 12 (.int .i64 (i : Int)) rfl (fun _ => ev_move 5 _ rfl (by kernel_rfl)) (fun _ => f0) ?_
  refine lateP 13 (.int .i64 ((i + 1 : Nat) : Int)) rfl (fun _ => ev_add1 56 i hi rfl (by kernel_rfl)) (fun _ => f0) ?_
  refine lateP 14 (sv2) rfl (fun _ => ev_sliceL 55 57 (.slice (some ⟨g, o, none⟩) n cp) sv2 (.int .i64 ((i + 1 : Nat) : Int)) rfl (by kernel_rfl) (by kernel_rfl) (HS2.out.1 _)) (fun _ => f0) ?_
  refine lateN (true :: true :: true :: true :: true :: true :: true :: false :: true :: true :: true :: true :: true :: true :: true :: false :: false :: false :: false :: []).toArray ⟨(.pointer (some ⟨q, 0, none⟩) :: y1 :: y2 :: y3 :: y4 :: .int .i64 (i : Int) :: y6 :: y7 :: y8 :: y9 :: y10 :: y11 :: y12 :: y13 :: y14 :: y15 :: y16 :: y17 :: y18 :: y19 :: y20 :: y21 :: y22 :: y23 :: y24 :: y25 :: y26 :: y27 :: y28 :: y29 :: y30 :: y31 :: y32 :: y33 :: y34 :: y35 :: y36 :: y37 :: y38 :: y39 :: y40 :: y41 :: y42 :: y43 :: .pointer (some ⟨q, 0, none⟩) :: .pointer (some ⟨q, 0, none⟩) :: .pointer (some ⟨q, 0, none⟩) :: .pointer (some ⟨q, 0, none⟩) :: .slice (some ⟨g, o, none⟩) n cp :: .int .i64 (i : Int) :: sv1 :: y51 :: .pointer (some ⟨q, 0, none⟩) :: .pointer (some ⟨q, 0, none⟩) :: .pointer (some ⟨q, 0, none⟩) :: .slice (some ⟨g, o, none⟩) n cp :: .int .i64 (i : Int) :: .int .i64 ((i + 1 : Nat) : Int) :: sv2 :: y59 :: y60 :: y61 :: []).toArray, []⟩ ?_
  refine late_all [7] (by kernel_rfl) (by simp) (fun jj hjj => ?_)
  simp only [List.mem_singleton] at hjj
  subst hjj
  obtain ⟨v1, w1, hr1, o1, s1⟩ := run_apdG elK_ok W.drew (.slice none 0 0) [] (OwnG.nil _ _) sv1 (D.take i) (HS1.out.2 _ f0) HL1.out
  have n1 := (NewV.nil W).step f0 s1
  have f1 := n1.2
  refine late_op rfl rfl (ev_appendC 50 _ _ _ rfl rfl (by kernel_rfl) hr1) ?_
  refine ⟨fun _ => f1, ?_⟩
  refine lateN (true :: true :: true :: true :: true :: true :: true :: true :: true :: true :: true :: true :: true :: true :: true :: false :: false :: false :: false :: []).toArray ⟨(.pointer (some ⟨q, 0, none⟩) :: y1 :: y2 :: y3 :: y4 :: .int .i64 (i : Int) :: y6 :: y7 :: y8 :: y9 :: y10 :: y11 :: y12 :: y13 :: y14 :: y15 :: y16 :: y17 :: y18 :: y19 :: y20 :: y21 :: y22 :: y23 :: y24 :: y25 :: y26 :: y27 :: y28 :: y29 :: y30 :: y31 :: y32 :: y33 :: y34 :: y35 :: y36 :: y37 :: y38 :: y39 :: y40 :: y41 :: y42 :: y43 :: .pointer (some ⟨q, 0, none⟩) :: .pointer (some ⟨q, 0, none⟩) :: .pointer (some ⟨q, 0, none⟩) :: .pointer (some ⟨q, 0, none⟩) :: .slice (some ⟨g, o, none⟩) n cp :: .int .i64 (i : Int) :: sv1 :: v1 :: .pointer (some ⟨q, 0, none⟩) :: .pointer (some ⟨q, 0, none⟩) :: .pointer (some ⟨q, 0, none⟩) :: .slice (some ⟨g, o, none⟩) n cp :: .int .i64 (i : Int) :: .int .i64 ((i + 1 : Nat) : Int) :: sv2 :: y59 :: y60 :: y61 :: []).toArray, []⟩ ?_
  refine late_all [15] (by kernel_rfl) (by simp) (fun jj hjj => ?_)
  simp only [List.mem_singleton] at hjj
  subst hjj
  obtain ⟨v2, w2, hr2, o2, s2⟩ := run_apdG elK_ok w1 v1 ([] ++ D.take i) o1 sv2 (D.drop (i + 1)) (HS2.out.2 _ f1) HL2.out
  have n2 := n1.1.step f1 s2
  have f2 := n2.2
  obtain ⟨ov, lf, cv, rfl, c3, z3, T4⟩ := LEM.out v2 w2 o2 n2.1 f2
  refine late_op rfl rfl (ev_append 27 51 58 _ _ _ _ rfl rfl (by kernel_rfl) (by kernel_rfl) hr2) ?_
  refine ⟨fun _ => f2, ?_⟩
  refine lateN (true :: true :: true :: true :: true :: true :: true :: true :: true :: true :: true :: true :: true :: true :: true :: true :: false :: false :: false :: []).toArray ⟨(.pointer (some ⟨q, 0, none⟩) :: y1 :: y2 :: y3 :: y4 :: .int .i64 (i : Int) :: y6 :: y7 :: y8 :: y9 :: y10 :: y11 :: y12 :: y13 :: y14 :: y15 :: y16 :: y17 :: y18 :: y19 :: y20 :: y21 :: y22 :: y23 :: y24 :: y25 :: y26 :: y27 :: y28 :: y29 :: y30 :: y31 :: y32 :: y33 :: y34 :: y35 :: y36 :: y37 :: y38 :: y39 :: y40 :: y41 :: y42 :: y43 :: .pointer (some ⟨q, 0, none⟩) :: .pointer (some ⟨q, 0, none⟩) :: .pointer (some ⟨q, 0, none⟩) :: .pointer (some ⟨q, 0, none⟩) :: .slice (some ⟨g, o, none⟩) n cp :: .int .i64 (i : Int) :: sv1 :: v1 :: .pointer (some ⟨q, 0, none⟩) :: .pointer (some ⟨q, 0, none⟩) :: .pointer (some ⟨q, 0, none⟩) :: .slice (some ⟨g, o, none⟩) n cp :: .int .i64 (i : Int) :: .int .i64 ((i + 1 : Nat) : Int) :: sv2 :: .slice ov lf cv :: y60 :: y61 :: []).toArray, []⟩ ?_
  refine lateP 16 (.pointer (some ⟨q, 0, none⟩)) rfl (fun _ => ev_nil 44 ⟨q, 0, none⟩ rfl (by kernel_rfl)) (fun _ => f2) ?_
  refine lateP 17 (.pointer (some ⟨q, 0, none⟩)) rfl (fun _ => ev_field 29 60 0 (.pointer (some ⟨q, 0, none⟩)) _ rfl (by kernel_rfl) (by kernel_rfl)) (fun _ => f2) ?_
  refine lateN (true :: true :: true :: true :: true :: true :: true :: true :: true :: true :: true :: true :: true :: true :: true :: true :: true :: true :: false :: []).toArray ⟨(.pointer (some ⟨q, 0, none⟩) :: y1 :: y2 :: y3 :: y4 :: .int .i64 (i : Int) :: y6 :: y7 :: y8 :: y9 :: y10 :: y11 :: y12 :: y13 :: y14 :: y15 :: y16 :: y17 :: y18 :: y19 :: y20 :: y21 :: y22 :: y23 :: y24 :: y25 :: y26 :: y27 :: y28 :: y29 :: y30 :: y31 :: y32 :: y33 :: y34 :: y35 :: y36 :: y37 :: y38 :: y39 :: y40 :: y41 :: y42 :: y43 :: .pointer (some ⟨q, 0, none⟩) :: .pointer (some ⟨q, 0, none⟩) :: .pointer (some ⟨q, 0, none⟩) :: .pointer (some ⟨q, 0, none⟩) :: .slice (some ⟨g, o, none⟩) n cp :: .int .i64 (i : Int) :: sv1 :: v1 :: .pointer (some ⟨q, 0, none⟩) :: .pointer (some ⟨q, 0, none⟩) :: .pointer (some ⟨q, 0, none⟩) :: .slice (some ⟨g, o, none⟩) n cp :: .int .i64 (i : Int) :: .int .i64 ((i + 1 : Nat) : Int) :: sv2 :: .slice ov lf cv :: .pointer (some ⟨q, 0, none⟩) :: .pointer (some ⟨q, 0, none⟩) :: []).toArray, []⟩ ?_
  refine late_all [18] (by kernel_rfl) (by simp) (fun jj hjj => ?_)
  simp only [List.mem_singleton] at hjj
  subst hjj
  refine late_skip rfl (by kernel_rfl) (ev_store 27 61 59 (.pointer (some ⟨q, 0, none⟩)) (.slice ov lf cv) _ rfl (by kernel_rfl) (by kernel_rfl) (st27 c3 z3)) ?_
  refine ⟨fun h => by simp at h, ?_⟩
  refine lateN (true :: true :: true :: true :: true :: true :: true :: true :: true :: true :: true :: true :: true :: true :: true :: true :: true :: true :: true :: []).toArray ⟨(.pointer (some ⟨q, 0, none⟩) :: y1 :: y2 :: y3 :: y4 :: .int .i64 (i : Int) :: y6 :: y7 :: y8 :: y9 :: y10 :: y11 :: y12 :: y13 :: y14 :: y15 :: y16 :: y17 :: y18 :: y19 :: y20 :: y21 :: y22 :: y23 :: y24 :: y25 :: y26 :: y27 :: y28 :: y29 :: y30 :: y31 :: y32 :: y33 :: y34 :: y35 :: y36 :: y37 :: y38 :: y39 :: y40 :: y41 :: y42 :: y43 :: .pointer (some ⟨q, 0, none⟩) :: .pointer (some ⟨q, 0, none⟩) :: .pointer (some ⟨q, 0, none⟩) :: .pointer (some ⟨q, 0, none⟩) :: .slice (some ⟨g, o, none⟩) n cp :: .int .i64 (i : Int) :: sv1 :: v1 :: .pointer (some ⟨q, 0, none⟩) :: .pointer (some ⟨q, 0, none⟩) :: .pointer (some ⟨q, 0, none⟩) :: .slice (some ⟨g, o, none⟩) n cp :: .int .i64 (i : Int) :: .int .i64 ((i + 1 : Nat) : Int) :: sv2 :: .slice ov lf cv :: .pointer (some ⟨q, 0, none⟩) :: .pointer (some ⟨q, 0, none⟩) :: []).toArray, []⟩ ?_
  refine late_done (by kernel_rfl) ?_
  exact HQ.out v1 ov lf cv _ T4.out.1 T4.out.2

def dForgetP (a : Int) (T : List (Int × Lk)) : Int × List (Int × Lk) :=
  match fdT T a with
  | none => (0, T)
  | some i => match T[i]? with
    | none => (0, T)
    | some x => if x.2.owner = 0 ∧ x.2.entry = [] ∧ x.2.wait = [] then (0, T.take i ++ T.drop (i + 1)) else (130, T)

theorem told_cut (D : List Dl) (i : Nat) : told (D.take i ++ D.drop (i + 1)) = (told D).take i ++ (told D).drop (i + 1) := by
  unfold told
  rw [List.map_append, List.map_take, List.map_drop]

set_option maxRecDepth 100000 in
set_option maxHeartbeats 1000000 in
theorem dForget_any {c : Nat} {w : World} {q : Nat} {T : List (Int × Lk)} (h : DB c w q T) (a : Int) (hl : T.length ≤ 2000) :
    Calls Try.prog 19 #[.pointer (some ⟨q, 0, none⟩), .int .i64 a] w fun e w' => e = .returned (.int .i64 (dForgetP a T).1) ∧ DB c w' q (dForgetP a T).2 ∧ Fr (Td c w) w w' := by
  obtain ⟨D, hD, rfl⟩ := h
  rw [told_length] at hl
  have FD := find_any hD a (by omega)
  have HZ : Hid (DB c w q (told D) ∧ Fr (Td c w) w w) := ⟨⟨D, hD, rfl⟩, Fr.refl _ _⟩
  cases hf : fdT (told D) a with
  | none =>
    rw [hf] at FD
    have HP : Hid (dForgetP a (told D) = (0, told D)) := by unfold Hid dForgetP; rw [hf]
    have e : fdA none = -1 := rfl
    rw [e] at FD
    clear hD hf e
    go_enter Try.func19, Try.ntmps19
    go_wp2_with fail
    refine FD.mono ?_
    rintro _ w ⟨rfl, rfl⟩
    clear FD
    go_wp2_with fail
    go_ret
    rw [HP.out]
    exact ⟨rfl, HZ.out⟩
  | some i =>
    rw [hf] at FD
    obtain ⟨x, hx, -⟩ := fdT_at hf
    obtain ⟨d, hd, hda, hdx⟩ := told_at hx
    have e : fdA (some i) = (i : Int) := rfl
    rw [e] at FD
    obtain ⟨o, cap, k1, -, -, hg⟩ := hD.get
    obtain ⟨b, r, rfl, hX⟩ := hg i d hd
    obtain ⟨-, c1, -, -, c4, c5⟩ := hX.cells
    obtain ⟨r1, r2⟩ := hX.rows
    obtain ⟨oe, ce, hee⟩ := r1.form
    obtain ⟨ow, cw, hww⟩ := r2.form
    rw [hee] at c4
    rw [hww] at c5
    have hlt := (List.getElem?_eq_some_iff.1 hd).1
    have hi0 : ¬ ((i : Int) < 0) := by omega
    have hi1 : (i : Int) < (D.length : Int) := by omega
    subst hdx
    by_cases hfr : d.x.owner = 0 ∧ d.x.entry = [] ∧ d.x.wait = []
    · have HP : Hid (dForgetP a (told D) = (0, (told D).take i ++ (told D).drop (i + 1))) := by unfold Hid dForgetP; rw [hf]; simp only [hx]; rw [if_pos hfr]
      obtain ⟨h0, h1, h2⟩ := hfr
      rw [h1, List.length_nil] at c4
      rw [h2, List.length_nil] at c5
      rw [h0] at c1
      obtain ⟨cap', o', hq, hr, hK, -⟩ := hX.own
      have ek : (.slice (some ⟨b, r, none⟩) D.length cap : Value) = .slice (some ⟨b, o', none⟩) D.length cap' := by
        have := (cells1 hq).1
        rw [k1] at this
        exact Option.some.inj this
      simp only [Value.slice.injEq, Option.some.injEq, Addr.mk.injEq, true_and, and_true] at ek
      obtain ⟨rfl, rfl⟩ := ek
      obtain ⟨sv1, -, s12, s13⟩ := cut_low elK_ok elem27 hK i (by omega)
      obtain ⟨sv2, -, s22, s23, -⟩ := cut_high elK_ok elem27 hK (i + 1) (by omega)
      have hgl : b < w.heap.size := hK.lt rfl
      have HR : Hid (DT c w q D) := hD
      have HX1 : Hid _ := And.intro s12 s13
      have HX2 : Hid _ := And.intro s22 s23
      clear hD hf hX hg r1 r2 hee hww hd hx hda h0 h1 h2 hq hr hK s12 s13 s22 s23 e HZ
      generalize hn : D.length = n at k1 HX1 HX2 hi1
      have hltn : i < D.length := hlt
      go_enter Try.func19, Try.ntmps19
      go_wp2_with fail
      refine FD.mono ?_
      rintro _ w ⟨rfl, rfl⟩
      clear FD
      go_upto_region 6 with fail
      rename_i K0 h0x
      refine Code.wp_mono (Q := Exit.then K0 (fun _ _ _ => False)) (fun e a w h => by cases e <;> first | exact h | exact False.elim h) ?_
      refine dreg19 HR.out i b r n cap k1 hltn (by omega) sv1 sv2 HX1.out HX2.out hgl K0 _ _ _ _ _ _ _ _ _ _ _ _ _ _ _ _ _ _ _ _ _ _ _ _ _ _ _ _ _ _ _ _ _ _ _ _ _ _ _ _ _ _ _ _ _ _ _ _ _ _ _ _ _ _ _ _ _ _ _ _ (fun v1 ov lf cv w2 t2 f2 => ?_)
      have HY : Hid (DB c w2 q ((told D).take i ++ (told D).drop (i + 1)) ∧ Fr (Td c w) w w2) := ⟨⟨_, t2, told_cut D i⟩, f2⟩
      clear t2 f2 HR HX1 HX2
      refine h0x _ _ ?_
      go_wp2_with fail
      go_ret
      rw [HP.out]
      exact ⟨rfl, HY.out⟩
    · have HP : Hid (dForgetP a (told D) = (130, told D)) := by unfold Hid dForgetP; rw [hf]; simp only [hx]; rw [if_neg hfr]
      have hle : 0 < d.x.entry.length ∨ d.x.entry = [] := by cases d.x.entry <;> simp
      have hlw : 0 < d.x.wait.length ∨ d.x.wait = [] := by cases d.x.wait <;> simp
      have H3 : d.x.owner ≠ 0 ∨ (d.x.owner = 0 ∧ 0 < d.x.entry.length) ∨ (d.x.owner = 0 ∧ d.x.entry.length = 0 ∧ 0 < d.x.wait.length) := by
        by_cases h0 : d.x.owner = 0
        · rcases hle with h1 | h1
          · exact .inr (.inl ⟨h0, h1⟩)
          · rcases hlw with h2 | h2
            · exact .inr (.inr ⟨h0, by rw [h1]; rfl, h2⟩)
            · exact absurd ⟨h0, h1, h2⟩ hfr
        · exact .inl h0
      clear hD hf hX hg r1 r2 hee hww hd hx hda hle hlw hfr e
      generalize d.x.entry.length = le at *
      generalize d.x.wait.length = lw at *
      generalize d.x.owner = ow0 at *
      generalize D.length = n at *
      rcases H3 with h0 | ⟨h0, h1⟩ | ⟨h0, h1, h2⟩
      · have hne : (ow0 != 0) = true := by simp [h0]
        have hne' : (ow0 == 0) = false := by simp [h0]
        go_enter Try.func19, Try.ntmps19
        go_wp2_with fail
        refine FD.mono ?_
        rintro _ w ⟨rfl, rfl⟩
        clear FD
        go_wp2_with fail
        go_ret
        rw [HP.out]
        exact ⟨rfl, HZ.out⟩
      · subst h0
        have h1' : (0 : Int) < (le : Int) := by omega
        go_enter Try.func19, Try.ntmps19
        go_wp2_with fail
        refine FD.mono ?_
        rintro _ w ⟨rfl, rfl⟩
        clear FD
        go_wp2_with fail
        go_ret
        rw [HP.out]
        exact ⟨rfl, HZ.out⟩
      · subst h0 h1
        have h1' : (0 : Int) < (lw : Int) := by omega
        go_enter Try.func19, Try.ntmps19
        go_wp2_with fail
        refine FD.mono ?_
        rintro _ w ⟨rfl, rfl⟩
        clear FD
        go_wp2_with fail
        go_ret
        rw [HP.out]
        exact ⟨rfl, HZ.out⟩
end Go.Proofs.Ytkkpimpmhnnbjaa
