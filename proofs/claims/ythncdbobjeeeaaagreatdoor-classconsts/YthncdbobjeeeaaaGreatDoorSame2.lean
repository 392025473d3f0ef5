/- Classes that hold the same are told so. -/
import Derived.Test.YthncdbobjeeeaaaGreatDoorSame1
import Derived.Test.YthncdbobjeeeaaaGreatDoorCheck
import Derived.Test.YthncdbobjeeeaaaGreatDoorRd2
namespace Go.Proofs.YthncdbobjeeeaaaGreatDoor
open Go.ChangeShapes Go.WideShapes Go.ChangeAt Go.RowKit

set_option maxRecDepth 100000 in
set_option maxHeartbeats 1000000 in
theorem sameConst_any (w : World) (x : Cs) : Calls Tryz.prog 34 #[.agg #[.int .i64 x.k, .int .i64 x.n, .complex .f64 x.re x.im, .string x.c, .string x.m], .agg #[.int .i64 x.k, .int .i64 x.n, .complex .f64 x.re x.im, .string x.c, .string x.m]] w fun e w' => e = .returned (.bool true) ∧ Fr no w w' := by
  have f1 : Fr no w (w.alloc (.cells #[.int .i64 x.k, .int .i64 x.n, .complex .f64 x.re x.im, .string x.c, .string x.m] 39)) := (Fr.refl no w).alloc _ _
  have b1 := heap_alloc_new w (.cells #[.int .i64 x.k, .int .i64 x.n, .complex .f64 x.re x.im, .string x.c, .string x.m] 39)
  have s1 := size_alloc w (.cells #[.int .i64 x.k, .int .i64 x.n, .complex .f64 x.re x.im, .string x.c, .string x.m] 39)
  generalize hW : w.alloc (.cells #[.int .i64 x.k, .int .i64 x.n, .complex .f64 x.re x.im, .string x.c, .string x.m] 39) = W at *
  have f2 : Fr no W (W.alloc (.cells #[.int .i64 x.k, .int .i64 x.n, .complex .f64 x.re x.im, .string x.c, .string x.m] 39)) := (Fr.refl no W).alloc _ _
  have b2 := heap_alloc_new W (.cells #[.int .i64 x.k, .int .i64 x.n, .complex .f64 x.re x.im, .string x.c, .string x.m] 39)
  have b1' := f2.heap b1 (fun f => f)
  rw [s1] at b2
  have f12 := f1.new f2 (fun _ _ f => f)
  generalize hV : W.alloc (.cells #[.int .i64 x.k, .int .i64 x.n, .complex .f64 x.re x.im, .string x.c, .string x.m] 39) = V at *
  obtain ⟨⟨c0, c1, c2, c3, c4⟩, _⟩ := cells5z b1'
  obtain ⟨⟨d0, d1, d2, d3, d4⟩, _⟩ := cells5z b2
  have B := fun w => sameBits_any w x.re x.im x.re x.im
  clear f1 f2 b1 b1' b2
  go_enter Tryz.func34, Tryz.ntmps34
  go_wp2_with fail
  refine (B _).mono ?_
  rintro e w1 ⟨rfl, rfl⟩
  go_wp2_with fail
  go_ret
  exact ⟨rfl, f12⟩

set_option maxRecDepth 100000 in
theorem eql46 (k : Int) (c : ByteArray) (W : World) : (binOp .eql 46 (.agg #[.int .i64 k, .string c]) (.agg #[.int .i64 k, .string c])).run Tryz.prog W = .ok (.bool true) W := by
  have u3 := Tryz.underlying3
  have hS : Tryz.prog.underlying 46 = some (.struct (Tryz.prog.fieldsOf 46)) := by kernel_rfl
  have hp : Tryz.prog.stoodInHeld 46 = false := by kernel_rfl
  rw [run_eql_struct, show (10000 : Nat) = 9999 + 1 from rfl, run_equalIn_agg W 9999 46 _ _ hS hp]
  simp only [Program.fieldsOf, Tryz.underlying46]
  go_simp

set_option maxRecDepth 100000 in
set_option maxHeartbeats 2000000 in
theorem sameMethod_any (w : World) (x y : Ms) (m : Mt) (hx : MtAt w x m) (hy : MtAt w y m) : Calls Tryz.prog 37 #[.agg #[.string x.name, .slice x.p.a x.p.n x.p.c, .int .i64 x.ret.k, .string x.ret.c, .int .i64 x.lo, .int .i64 x.st, .slice x.c.a x.c.n x.c.c, .slice x.h.a x.h.n x.h.c], .agg #[.string y.name, .slice y.p.a y.p.n y.p.c, .int .i64 y.ret.k, .string y.ret.c, .int .i64 y.lo, .int .i64 y.st, .slice y.c.a y.c.n y.c.c, .slice y.h.a y.h.n y.h.c]] w fun e w' => e = .returned (.bool true) ∧ Fr no w w' := by
  obtain ⟨n, p, ret, lo, st, c, h⟩ := x
  obtain ⟨n', p', ret', lo', st', c', h'⟩ := y
  obtain ⟨rfl, rfl, rfl, rfl, xp, xc, xh⟩ := hx
  obtain ⟨e1, e2, e3, e4, yp, yc, yh⟩ := hy
  simp only [] at e1 e2 e3 e4 xp xc xh yp yc yh ⊢
  subst e1 e2 e3 e4
  have f1 : Fr no w (w.alloc (.cells #[.string m.name, .slice p.a p.n p.c, .int .i64 m.ret.k, .string m.ret.c, .int .i64 m.lo, .int .i64 m.st, .slice c.a c.n c.c, .slice h.a h.n h.c] 53)) := (Fr.refl no w).alloc _ _
  have b1 := heap_alloc_new w (.cells #[.string m.name, .slice p.a p.n p.c, .int .i64 m.ret.k, .string m.ret.c, .int .i64 m.lo, .int .i64 m.st, .slice c.a c.n c.c, .slice h.a h.n h.c] 53)
  have s1 := size_alloc w (.cells #[.string m.name, .slice p.a p.n p.c, .int .i64 m.ret.k, .string m.ret.c, .int .i64 m.lo, .int .i64 m.st, .slice c.a c.n c.c, .slice h.a h.n h.c] 53)
  generalize hW : w.alloc (.cells #[.string m.name, .slice p.a p.n p.c, .int .i64 m.ret.k, .string m.ret.c, .int .i64 m.lo, .int .i64 m.st, .slice c.a c.n c.c, .slice h.a h.n h.c] 53) = W at *
  have f2 : Fr no W (W.alloc (.cells #[.string m.name, .slice p'.a p'.n p'.c, .int .i64 m.ret.k, .string m.ret.c, .int .i64 m.lo, .int .i64 m.st, .slice c'.a c'.n c'.c, .slice h'.a h'.n h'.c] 53)) := (Fr.refl no W).alloc _ _
  have b2 := heap_alloc_new W (.cells #[.string m.name, .slice p'.a p'.n p'.c, .int .i64 m.ret.k, .string m.ret.c, .int .i64 m.lo, .int .i64 m.st, .slice c'.a c'.n c'.c, .slice h'.a h'.n h'.c] 53)
  have b1' := f2.heap b1 (fun f => f)
  rw [s1] at b2
  have f12 := f1.new f2 (fun _ _ f => f)
  generalize hV : W.alloc (.cells #[.string m.name, .slice p'.a p'.n p'.c, .int .i64 m.ret.k, .string m.ret.c, .int .i64 m.lo, .int .i64 m.st, .slice c'.a c'.n c'.c, .slice h'.a h'.n h'.c] 53) = V at *
  have HB : Hid (∀ w1, Fr no V w1 → w1.heap[w.heap.size]? = some (.cells #[.string m.name, .slice p.a p.n p.c, .int .i64 m.ret.k, .string m.ret.c, .int .i64 m.lo, .int .i64 m.st, .slice c.a c.n c.c, .slice h.a h.n h.c] 53 (0, 0)) ∧ w1.heap[w.heap.size + 1]? = some (.cells #[.string m.name, .slice p'.a p'.n p'.c, .int .i64 m.ret.k, .string m.ret.c, .int .i64 m.lo, .int .i64 m.st, .slice c'.a c'.n c'.c, .slice h'.a h'.n h'.c] 53 (0, 0))) := fun w1 g => ⟨g.heap b1' (fun f => f), g.heap b2 (fun f => f)⟩
  have E1 : Hid (∀ w1, Fr no V w1 → Calls Tryz.prog 88 #[.slice p.a p.n p.c, .slice p'.a p'.n p'.c] w1 fun e w' => e = .returned (.bool true) ∧ Fr no w1 w') := fun w1 g => equalTy_any w1 _ _ m.params (xp.kept (f12.new g (fun _ _ f => f))) (yp.kept (f12.new g (fun _ _ f => f)))
  have E2 : Hid (∀ w1, Fr no V w1 → Calls Tryz.prog 89 #[.slice c.a c.n c.c, .slice c'.a c'.n c'.c] w1 fun e w' => e = .returned (.bool true) ∧ Fr no w1 w') := fun w1 g => equalIn_any w1 _ _ m.code (xc.kept (f12.new g (fun _ _ f => f))).g (yc.kept (f12.new g (fun _ _ f => f))).g
  have E3 : Hid (∀ w1, Fr no V w1 → Calls Tryz.prog 90 #[.slice h.a h.n h.c, .slice h'.a h'.n h'.c] w1 fun e w' => e = .returned (.bool true) ∧ Fr no w1 w') := fun w1 g => equalHd_any w1 _ _ m.hands (xh.kept (f12.new g (fun _ _ f => f))) (yh.kept (f12.new g (fun _ _ f => f)))
  have HF : Hid (Fr no w V) := f12
  have heq := eql46 m.ret.k m.ret.c
  obtain ⟨k1, k2⟩ := HB.out V (Fr.refl no V)
  obtain ⟨⟨c0, c1, c2, c3, c4, c5, c6, c7⟩, _⟩ := cells8z k1
  obtain ⟨⟨d0, d1, d2, d3, d4, d5, d6, d7⟩, _⟩ := cells8z k2
  clear k1 k2
  clear f1 f2 b1 b1' b2 f12 xp xc xh yp yc yh
  go_enter Tryz.func37, Tryz.ntmps37
  go_wp2_with fail
  refine (E1.out V (Fr.refl no V)).mono ?_
  rintro e w1 ⟨rfl, g1⟩
  clear c0 c1 c2 c3 c4 c5 c6 c7 d0 d1 d2 d3 d4 d5 d6 d7
  obtain ⟨k1, k2⟩ := HB.out w1 g1
  obtain ⟨⟨c0, c1, c2, c3, c4, c5, c6, c7⟩, _⟩ := cells8z k1
  obtain ⟨⟨d0, d1, d2, d3, d4, d5, d6, d7⟩, _⟩ := cells8z k2
  clear k1 k2
  go_wp2_with fail
  refine (E2.out w1 g1).mono ?_
  rintro e w2 ⟨rfl, g2⟩
  clear c0 c1 c2 c3 c4 c5 c6 c7 d0 d1 d2 d3 d4 d5 d6 d7
  have g2' := g1.new g2 (fun _ _ f => f)
  obtain ⟨k1, k2⟩ := HB.out w2 g2'
  obtain ⟨⟨c0, c1, c2, c3, c4, c5, c6, c7⟩, _⟩ := cells8z k1
  obtain ⟨⟨d0, d1, d2, d3, d4, d5, d6, d7⟩, _⟩ := cells8z k2
  clear k1 k2
  go_wp2_with fail
  refine (E3.out w2 g2').mono ?_
  rintro e w3 ⟨rfl, g3⟩
  go_wp2_with fail
  go_ret
  exact ⟨rfl, HF.out.new (g2'.new g3 (fun _ _ f => f)) (fun _ _ f => f)⟩
end Go.Proofs.YthncdbobjeeeaaaGreatDoor
