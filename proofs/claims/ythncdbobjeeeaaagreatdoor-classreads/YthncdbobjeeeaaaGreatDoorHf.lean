/- Classes that hold the same are told so: the document's answer. -/
import Derived.Test.YthncdbobjeeeaaaGreatDoorHc
import Derived.Test.YthncdbobjeeeaaaGreatDoorGp
import Derived.BigRegion
import Derived.Test.YthncdbobjeeeaaaGreatDoorGm
import Derived.Deep.RegionHeld3
namespace Go.Proofs.YthncdbobjeeeaaaGreatDoor
open Go.ChangeShapes Go.WideShapes Go.ChangeAt Go.RowKit

theorem docBits_same (w : World) (a b : Nat) : Calls Tryz.prog 38 #[.complex .f64 a b, .complex .f64 a b] w fun e w' => e = .returned (.bool true) ∧ w' = w := by
  have B := bits_any a b w
  go_enter Tryz.func38, Tryz.ntmps38
  go_wp2_with fail
  refine B.mono ?_
  rintro e w1 ⟨rfl, h1⟩
  replace h1 := h1.symm
  subst h1
  go_wp2_with fail
  refine B.mono ?_
  rintro e w1 ⟨rfl, h1⟩
  replace h1 := h1.symm
  subst h1
  go_wp2_with fail
  go_ret
  exact ⟨rfl, rfl⟩

set_option maxRecDepth 100000 in
set_option maxHeartbeats 2000000 in
theorem docTypes_any (w : World) (v v' : Value) (l : List Ty) (h : SlG elTy w v l) (h' : SlG elTy w v' l) :
    Calls Tryz.prog 92 #[v, v'] w fun e w' => e = .returned (.bool true) ∧ Fr no w w' := by
  obtain ⟨ad, cp, rfl, hcap, hmx, hit⟩ := h
  obtain ⟨ad', cp', rfl, hcap', hmx', hit'⟩ := h'
  unfold maxLen at hmx
  have HI : Hid (∀ (i : Nat) (x : Ty), l[i]? = some x → (∃ b off, ad = some ⟨b, off, none⟩ ∧ w.cell? ⟨b, off + i * 2, none⟩ = some (.int .i64 x.k) ∧ w.cell? ⟨b, off + i * 2 + 1, none⟩ = some (.string x.c)) ∧ ∃ b off, ad' = some ⟨b, off, none⟩ ∧ w.cell? ⟨b, off + i * 2, none⟩ = some (.int .i64 x.k) ∧ w.cell? ⟨b, off + i * 2 + 1, none⟩ = some (.string x.c)) := fun i x hx => by
    obtain ⟨b, off, e, hj⟩ := hit i x hx
    obtain ⟨b', off', e', hj'⟩ := hit' i x hx
    exact ⟨⟨b, off, e, hj 0 _ rfl, hj 1 _ rfl⟩, b', off', e', hj' 0 _ rfl, hj' 1 _ rfl⟩
  clear hit hit' hcap' hmx'
  go_enter Tryz.func92, Tryz.ntmps92
  go_wp2_with fail
  go_loopw [5] (fun i wr => ∃ (k : Nat), i = .int .i64 (k : Int) ∧ k ≤ l.length ∧ Fr no w wr) (fun i _ => l.length - (intOf i).toNat)
  case atStart => exact ⟨0, rfl, by omega, Fr.refl _ _⟩
  case round =>
    obtain ⟨k, rfl, hk, hw⟩ := hrel
    by_cases hlt : k < l.length
    · obtain ⟨x, hx⟩ : ∃ x, l[k]? = some x := ⟨_, List.getElem?_eq_getElem hlt⟩
      obtain ⟨⟨b, off, rfl, c0', c1'⟩, b', off', rfl, d0', d1'⟩ := HI.out k x hx
      have c0 := hw.cell c0' (fun f => f)
      have c1 := hw.cell c1' (fun f => f)
      have d0 := hw.cell d0' (fun f => f)
      have d1 := hw.cell d1' (fun f => f)
      have hneq := neq46 x
      have hlt' : (k : Int) < (l.length : Int) := by omega
      clear hx c0' c1' d0' d1'
      go_wp2_with fail
      go_quiet (fail)
      go_wp2_with fail
      go_roundw
      case rel => exact ⟨k + 1, by go_num, by omega, hw.drewN _⟩
      case measure => simp [intOf]; omega
    · go_wp2_with fail
      go_ret
      exact ⟨rfl, hw⟩

set_option maxRecDepth 100000 in
set_option maxHeartbeats 8000000 in
theorem docMethods_any (w : World) (x y : Ms) (m : Mt) (hx : MtAt w x m) (hy : MtAt w y m) : Calls Tryz.prog 39 #[msV x, msV y] w fun e w' => e = .returned (.bool true) ∧ Fr no w w' := by
  have HX : Hid (MtAt w x m) := hx
  have HY : Hid (MtAt w y m) := hy
  obtain ⟨pa, pc, ca, cc, ha, hc, rfl, -, ⟨hc1, hc2⟩, ⟨hh1, hh2⟩⟩ := hx.open3
  obtain ⟨pa', pc', ca', cc', ha', hc', rfl, -, -, -⟩ := hy.open3
  clear hx hy
  have xp := HX.out.p
  have yp := HY.out.p
  have xc := HX.out.c
  have yc := HY.out.c
  have xh := HX.out.h
  have yh := HY.out.h
  simp only [] at xp yp xc yc xh yh
  obtain ⟨a1, k1, q1, -, -, hcI⟩ := xc
  obtain ⟨a2, k2, q2, -, -, hcI'⟩ := yc
  obtain ⟨a3, k3, q3, -, -, hhI⟩ := xh
  obtain ⟨a4, k4, q4, -, -, hhI'⟩ := yh
  simp only [Value.slice.injEq, true_and] at q1 q2 q3 q4
  obtain ⟨rfl, rfl⟩ := q1
  obtain ⟨rfl, rfl⟩ := q2
  obtain ⟨rfl, rfl⟩ := q3
  obtain ⟨rfl, rfl⟩ := q4
  have HCI : Hid (∀ (i : Nat) (x : Int × Int), m.code[i]? = some x → (∃ b off, ca = some ⟨b, off, none⟩ ∧ w.cell? ⟨b, off + i * 2, none⟩ = some (.int .i64 x.1) ∧ w.cell? ⟨b, off + i * 2 + 1, none⟩ = some (.int .i64 x.2)) ∧ ∃ b off, ca' = some ⟨b, off, none⟩ ∧ w.cell? ⟨b, off + i * 2, none⟩ = some (.int .i64 x.1) ∧ w.cell? ⟨b, off + i * 2 + 1, none⟩ = some (.int .i64 x.2)) := fun i x hx => ⟨hcI i x hx, hcI' i x hx⟩
  have HHI : Hid (∀ (i : Nat) (x : Hd), m.hands[i]? = some x → (∃ b off, ha = some ⟨b, off, none⟩ ∧ w.cell? ⟨b, off + i * 5, none⟩ = some (.int .i64 x.fr) ∧ w.cell? ⟨b, off + i * 5 + 1, none⟩ = some (.int .i64 x.to) ∧ w.cell? ⟨b, off + i * 5 + 2, none⟩ = some (.int .i64 x.tg) ∧ w.cell? ⟨b, off + i * 5 + 3, none⟩ = some (.int .i64 x.cl) ∧ w.cell? ⟨b, off + i * 5 + 4, none⟩ = some (.int .i64 x.dp)) ∧ ∃ b off, ha' = some ⟨b, off, none⟩ ∧ w.cell? ⟨b, off + i * 5, none⟩ = some (.int .i64 x.fr) ∧ w.cell? ⟨b, off + i * 5 + 1, none⟩ = some (.int .i64 x.to) ∧ w.cell? ⟨b, off + i * 5 + 2, none⟩ = some (.int .i64 x.tg) ∧ w.cell? ⟨b, off + i * 5 + 3, none⟩ = some (.int .i64 x.cl) ∧ w.cell? ⟨b, off + i * 5 + 4, none⟩ = some (.int .i64 x.dp)) := fun i x hx => by
    obtain ⟨b, off, e, hj⟩ := hhI i x hx
    obtain ⟨b', off', e', hj'⟩ := hhI' i x hx
    exact ⟨⟨b, off, e, hj 0 _ rfl, hj 1 _ rfl, hj 2 _ rfl, hj 3 _ rfl, hj 4 _ rfl⟩, b', off', e', hj' 0 _ rfl, hj' 1 _ rfl, hj' 2 _ rfl, hj' 3 _ rfl, hj' 4 _ rfl⟩
  clear hcI hcI' hhI hhI' HX HY
  unfold maxLen at hc2 hh2
  unfold msV
  simp only []
  have s1 := size_alloc w (.cells #[.string m.name, .slice pa m.params.length pc, .int .i64 m.ret.k, .string m.ret.c, .int .i64 m.lo, .int .i64 m.st, .slice ca m.code.length cc, .slice ha m.hands.length hc] 53)
  have b1 := heap_alloc_new w (.cells #[.string m.name, .slice pa m.params.length pc, .int .i64 m.ret.k, .string m.ret.c, .int .i64 m.lo, .int .i64 m.st, .slice ca m.code.length cc, .slice ha m.hands.length hc] 53)
  have f1 : Fr no w (w.alloc (.cells #[.string m.name, .slice pa m.params.length pc, .int .i64 m.ret.k, .string m.ret.c, .int .i64 m.lo, .int .i64 m.st, .slice ca m.code.length cc, .slice ha m.hands.length hc] 53)) := (Fr.refl no w).alloc _ _
  generalize hW1 : w.alloc (.cells #[.string m.name, .slice pa m.params.length pc, .int .i64 m.ret.k, .string m.ret.c, .int .i64 m.lo, .int .i64 m.st, .slice ca m.code.length cc, .slice ha m.hands.length hc] 53) = W at *
  have b2 := heap_alloc_new W (.cells #[.string m.name, .slice pa' m.params.length pc', .int .i64 m.ret.k, .string m.ret.c, .int .i64 m.lo, .int .i64 m.st, .slice ca' m.code.length cc', .slice ha' m.hands.length hc'] 53)
  have f2 : Fr no W (W.alloc (.cells #[.string m.name, .slice pa' m.params.length pc', .int .i64 m.ret.k, .string m.ret.c, .int .i64 m.lo, .int .i64 m.st, .slice ca' m.code.length cc', .slice ha' m.hands.length hc'] 53)) := (Fr.refl no W).alloc _ _
  generalize hW2 : W.alloc (.cells #[.string m.name, .slice pa' m.params.length pc', .int .i64 m.ret.k, .string m.ret.c, .int .i64 m.lo, .int .i64 m.st, .slice ca' m.code.length cc', .slice ha' m.hands.length hc'] 53) = V at *
  rw [s1] at b2
  have b1' := f2.heap b1 (fun f => f)
  have HW : Hid (Fr no w V) := f1.new f2 (fun _ _ f => f)
  have HB : Hid (∀ w1, Fr no V w1 → w1.heap[w.heap.size]? = some (.cells #[.string m.name, .slice pa m.params.length pc, .int .i64 m.ret.k, .string m.ret.c, .int .i64 m.lo, .int .i64 m.st, .slice ca m.code.length cc, .slice ha m.hands.length hc] 53 (0, 0)) ∧ w1.heap[w.heap.size + 1]? = some (.cells #[.string m.name, .slice pa' m.params.length pc', .int .i64 m.ret.k, .string m.ret.c, .int .i64 m.lo, .int .i64 m.st, .slice ca' m.code.length cc', .slice ha' m.hands.length hc'] 53 (0, 0))) := fun w1 g => ⟨g.heap b1' (fun f => f), g.heap b2 (fun f => f)⟩
  have T := docTypes_any V _ _ m.params (xp.kept HW.out) (yp.kept HW.out)
  obtain ⟨k1, k2⟩ := HB.out V (Fr.refl no _)
  obtain ⟨C0, C1, C2, C3, C4, C5, C6, C7⟩ := box8 k1
  obtain ⟨D0, D1, D2, D3, D4, D5, D6, D7⟩ := box8 k2
  clear k1 k2 b1 b1' b2 f1 f2 xp yp
  have hret := neq46 m.ret
  go_enter Tryz.func39, Tryz.ntmps39
  go_wp2_with fail
  refine T.mono ?_
  rintro e w1 ⟨rfl, g1⟩
  clear C0 C1 C2 C3 C4 C5 C6 C7 D0 D1 D2 D3 D4 D5 D6 D7 T hW1 hW2
  obtain ⟨k1, k2⟩ := HB.out w1 g1
  obtain ⟨C0, C1, C2, C3, C4, C5, C6, C7⟩ := box8 k1
  obtain ⟨D0, D1, D2, D3, D4, D5, D6, D7⟩ := box8 k2
  clear k1 k2
  go_wp2_with fail
  clear C0 C1 C2 C3 C4 C5 C6 C7 D0 D1 D2 D3 D4 D5 D6 D7
  go_loopw [5] (fun i wr => ∃ (k : Nat), i = .int .i64 (k : Int) ∧ k ≤ m.code.length ∧ Fr no V wr) (fun i _ => m.code.length - (intOf i).toNat)
  case atStart => exact ⟨0, rfl, Nat.zero_le _, g1⟩
  case round =>
    obtain ⟨k, rfl, hk, hw⟩ := hrel
    obtain ⟨k1, k2⟩ := HB.out wr hw
    obtain ⟨C0, C1, C2, C3, C4, C5, C6, C7⟩ := box8 k1
    obtain ⟨D0, D1, D2, D3, D4, D5, D6, D7⟩ := box8 k2
    clear k1 k2
    by_cases hlt : k < m.code.length
    · obtain ⟨x, hx⟩ : ∃ x, m.code[k]? = some x := ⟨_, List.getElem?_eq_getElem hlt⟩
      obtain ⟨⟨b, off, rfl, c0', c1'⟩, b', off', rfl, d0', d1'⟩ := HCI.out k x hx
      have f0 := HW.out.new hw (fun _ _ f => f)
      have c0 := f0.cell c0' (fun f => f)
      have d0 := f0.cell d0' (fun f => f)
      have c1 := f0.cell c1' (fun f => f)
      have d1 := f0.cell d1' (fun f => f)
      have hneq := neq57 x
      have hlt' : (k : Int) < (m.code.length : Int) := by omega
      clear hx f0 c0' d0' c1' d1'
      go_wp2_with fail
      go_quiet (fail)
      go_wp2_with fail
      go_roundw
      case rel => exact ⟨k + 1, by go_num, by omega, hw.drewN _⟩
      case measure => simp [intOf]; omega
    · go_wp2_with fail
      go_loopw [6] (fun i wr => ∃ (k : Nat), i = .int .i64 (k : Int) ∧ k ≤ m.hands.length ∧ Fr no V wr) (fun i _ => m.hands.length - (intOf i).toNat)
      case atStart => exact ⟨0, rfl, Nat.zero_le _, hw⟩
      case round =>
        clear hw C0 C1 C2 C3 C4 C5 C6 C7 D0 D1 D2 D3 D4 D5 D6 D7
        obtain ⟨k, rfl, hk, hw⟩ := hrel
        obtain ⟨k1, k2⟩ := HB.out wr hw
        obtain ⟨C0, C1, C2, C3, C4, C5, C6, C7⟩ := box8 k1
        obtain ⟨D0, D1, D2, D3, D4, D5, D6, D7⟩ := box8 k2
        clear k1 k2
        by_cases hlt : k < m.hands.length
        · obtain ⟨x, hx⟩ : ∃ x, m.hands[k]? = some x := ⟨_, List.getElem?_eq_getElem hlt⟩
          obtain ⟨⟨b, off, rfl, c0', c1', c2', c3', c4'⟩, b', off', rfl, d0', d1', d2', d3', d4'⟩ := HHI.out k x hx
          have f0 := HW.out.new hw (fun _ _ f => f)
          have c0 := f0.cell c0' (fun f => f)
          have d0 := f0.cell d0' (fun f => f)
          have c1 := f0.cell c1' (fun f => f)
          have d1 := f0.cell d1' (fun f => f)
          have c2 := f0.cell c2' (fun f => f)
          have d2 := f0.cell d2' (fun f => f)
          have c3 := f0.cell c3' (fun f => f)
          have d3 := f0.cell d3' (fun f => f)
          have c4 := f0.cell c4' (fun f => f)
          have d4 := f0.cell d4' (fun f => f)
          have hneq := neq59 x
          have hlt' : (k : Int) < (m.hands.length : Int) := by omega
          clear hx f0 c0' d0' c1' d1' c2' d2' c3' d3' c4' d4'
          go_wp2_with fail
          go_quiet (fail)
          go_wp2_with fail
          go_roundw
          case rel => exact ⟨k + 1, by go_num, by omega, hw.drewN _⟩
          case measure => simp [intOf]; omega
        · go_wp2_with fail
          go_ret
          exact ⟨rfl, HW.out.new hw (fun _ _ f => f)⟩
end Go.Proofs.YthncdbobjeeeaaaGreatDoor

/- Classes that hold the same are told so: the document's answer, whole. -/
namespace Go.Proofs.YthncdbobjeeeaaaGreatDoor
open Go.ChangeShapes Go.WideShapes Go.ChangeAt Go.RowKit

theorem lt_cell {w : World} {a : Addr} {v : Value} (h : w.cell? a = some v) : a.block < w.heap.size := by
  obtain ⟨cur, t, fz, hg, _⟩ := cell_mem h
  exact lt_of_heap hg

set_option maxRecDepth 100000 in
set_option maxHeartbeats 8000000 in
theorem docSame_any (w : World) (x y : Ks) (c : Cl) (hx : ClAt w x c) (hy : ClAt w y c) : Calls Tryz.prog 11 #[ksV x, ksV y] w fun e w' => e = .returned (.bool true) ∧ Fr no w w' := by
  obtain ⟨n, s, ⟨pa, pn, pc⟩, ⟨fa, fn, fc⟩, ⟨ma, mn, mc⟩⟩ := x
  obtain ⟨n', s', ⟨pa', pn', pc'⟩, ⟨fa', fn', fc'⟩, ⟨ma', mn', mc'⟩⟩ := y
  obtain ⟨e1, e2, xp, xf, ls, xm, xa⟩ := hx
  obtain ⟨e3, e4, yp, yf, ls', ym, ya⟩ := hy
  simp only [] at e1 e2 e3 e4 xp xf xm yp yf ym
  subst e1 e2 e3 e4
  have HA : Hid (AtAll w ls c.methods) := xa
  have HA' : Hid (AtAll w ls' c.methods) := ya
  have HL1 : Hid (ls.length = c.methods.length) := xa.1
  have HL2 : Hid (ls'.length = c.methods.length) := ya.1
  have hlls : ls'.length = ls.length := by rw [xa.1, ya.1]
  obtain ⟨a1, k1, q1, p1, p2, hpI⟩ := xp
  obtain ⟨a2, k2, q2, -, -, hpI'⟩ := yp
  obtain ⟨a3, k3, q3, p3, p4, hfI⟩ := xf
  obtain ⟨a4, k4, q4, -, -, hfI'⟩ := yf
  obtain ⟨a5, k5, q5, p5, p6, hmI⟩ := xm
  obtain ⟨a6, k6, q6, -, -, hmI'⟩ := ym
  simp only [Value.slice.injEq] at q1 q2 q3 q4 q5 q6
  obtain ⟨rfl, rfl, rfl⟩ := q1
  obtain ⟨rfl, rfl, rfl⟩ := q2
  obtain ⟨rfl, rfl, rfl⟩ := q3
  obtain ⟨rfl, rfl, rfl⟩ := q4
  obtain ⟨rfl, rfl, rfl⟩ := q5
  obtain ⟨rfl, rfl, rfl⟩ := q6
  have HPI : Hid (∀ (i : Nat) (x : Cs), c.pool[i]? = some x → (∃ b off, pa = some ⟨b, off, none⟩ ∧ w.cell? ⟨b, off + i * 5, none⟩ = some (.int .i64 x.k) ∧ w.cell? ⟨b, off + i * 5 + 1, none⟩ = some (.int .i64 x.n) ∧ w.cell? ⟨b, off + i * 5 + 2, none⟩ = some (.complex .f64 x.re x.im) ∧ w.cell? ⟨b, off + i * 5 + 3, none⟩ = some (.string x.c) ∧ w.cell? ⟨b, off + i * 5 + 4, none⟩ = some (.string x.m)) ∧ ∃ b off, pa' = some ⟨b, off, none⟩ ∧ w.cell? ⟨b, off + i * 5, none⟩ = some (.int .i64 x.k) ∧ w.cell? ⟨b, off + i * 5 + 1, none⟩ = some (.int .i64 x.n) ∧ w.cell? ⟨b, off + i * 5 + 2, none⟩ = some (.complex .f64 x.re x.im) ∧ w.cell? ⟨b, off + i * 5 + 3, none⟩ = some (.string x.c) ∧ w.cell? ⟨b, off + i * 5 + 4, none⟩ = some (.string x.m)) := fun i x hx => by
    obtain ⟨b, off, e, hj⟩ := hpI i x hx
    obtain ⟨b', off', e', hj'⟩ := hpI' i x hx
    exact ⟨⟨b, off, e, hj 0 _ rfl, hj 1 _ rfl, hj 2 _ rfl, hj 3 _ rfl, hj 4 _ rfl⟩, b', off', e', hj' 0 _ rfl, hj' 1 _ rfl, hj' 2 _ rfl, hj' 3 _ rfl, hj' 4 _ rfl⟩
  have HFI : Hid (∀ (i : Nat) (x : Fd), c.fields[i]? = some x → (∃ b off, fa = some ⟨b, off, none⟩ ∧ w.cell? ⟨b, off + i * 4, none⟩ = some (.string x.name) ∧ w.cell? ⟨b, off + i * 4 + 1, none⟩ = some (.int .i64 x.ty.k) ∧ w.cell? ⟨b, off + i * 4 + 2, none⟩ = some (.string x.ty.c) ∧ w.cell? ⟨b, off + i * 4 + 3, none⟩ = some (.bool x.vol)) ∧ ∃ b off, fa' = some ⟨b, off, none⟩ ∧ w.cell? ⟨b, off + i * 4, none⟩ = some (.string x.name) ∧ w.cell? ⟨b, off + i * 4 + 1, none⟩ = some (.int .i64 x.ty.k) ∧ w.cell? ⟨b, off + i * 4 + 2, none⟩ = some (.string x.ty.c) ∧ w.cell? ⟨b, off + i * 4 + 3, none⟩ = some (.bool x.vol)) := fun i x hx => by
    obtain ⟨b, off, e, hj⟩ := hfI i x hx
    obtain ⟨b', off', e', hj'⟩ := hfI' i x hx
    exact ⟨⟨b, off, e, hj 0 _ rfl, hj 1 _ rfl, hj 2 _ rfl, hj 3 _ rfl⟩, b', off', e', hj' 0 _ rfl, hj' 1 _ rfl, hj' 2 _ rfl, hj' 3 _ rfl⟩
  have HMI : Hid (∀ (i : Nat) (s : Ms), ls[i]? = some s → ∃ b off, ma = some ⟨b, off, none⟩ ∧ ∀ (j : Nat) (u : Value), (msC s)[j]? = some u → w.cell? ⟨b, off + i * 8 + j, none⟩ = some u) := hmI
  have HMI' : Hid (∀ (i : Nat) (s : Ms), ls'[i]? = some s → ∃ b off, ma' = some ⟨b, off, none⟩ ∧ ∀ (j : Nat) (u : Value), (msC s)[j]? = some u → w.cell? ⟨b, off + i * 8 + j, none⟩ = some u) := hmI'
  clear hpI hpI' hfI hfI' hmI hmI' xa ya
  unfold maxLen at p2 p4 p6
  unfold ksV
  simp only []
  have s1 := size_alloc w (.cells #[.string c.name, .string c.super, .slice pa c.pool.length pc, .slice fa c.fields.length fc, .slice ma ls.length mc] 28)
  have b1 := heap_alloc_new w (.cells #[.string c.name, .string c.super, .slice pa c.pool.length pc, .slice fa c.fields.length fc, .slice ma ls.length mc] 28)
  have f1 : Fr no w (w.alloc (.cells #[.string c.name, .string c.super, .slice pa c.pool.length pc, .slice fa c.fields.length fc, .slice ma ls.length mc] 28)) := (Fr.refl no w).alloc _ _
  generalize hW1 : w.alloc (.cells #[.string c.name, .string c.super, .slice pa c.pool.length pc, .slice fa c.fields.length fc, .slice ma ls.length mc] 28) = W at *
  have b2 := heap_alloc_new W (.cells #[.string c.name, .string c.super, .slice pa' c.pool.length pc', .slice fa' c.fields.length fc', .slice ma' ls'.length mc'] 28)
  have f2 : Fr no W (W.alloc (.cells #[.string c.name, .string c.super, .slice pa' c.pool.length pc', .slice fa' c.fields.length fc', .slice ma' ls'.length mc'] 28)) := (Fr.refl no W).alloc _ _
  generalize hW2 : W.alloc (.cells #[.string c.name, .string c.super, .slice pa' c.pool.length pc', .slice fa' c.fields.length fc', .slice ma' ls'.length mc'] 28) = V at *
  rw [s1] at b2
  have b1' := f2.heap b1 (fun f => f)
  have HW : Hid (Fr no w V) := f1.new f2 (fun _ _ f => f)
  have HB : Hid (∀ w1, Fr no V w1 → w1.heap[w.heap.size]? = some (.cells #[.string c.name, .string c.super, .slice pa c.pool.length pc, .slice fa c.fields.length fc, .slice ma ls.length mc] 28 (0, 0)) ∧ w1.heap[w.heap.size + 1]? = some (.cells #[.string c.name, .string c.super, .slice pa' c.pool.length pc', .slice fa' c.fields.length fc', .slice ma' ls'.length mc'] 28 (0, 0))) := fun w1 g => ⟨g.heap b1' (fun f => f), g.heap b2 (fun f => f)⟩
  obtain ⟨k1, k2⟩ := HB.out V (Fr.refl no _)
  obtain ⟨C0, C1, C2, C3, C4⟩ := box5 k1
  obtain ⟨D0, D1, D2, D3, D4⟩ := box5 k2
  have hll1 : ((ls.length : Int) == (ls'.length : Int)) = true := by rw [hlls]; simp
  have hll2 : ((ls.length : Int) != (ls'.length : Int)) = false := by rw [hlls]; simp
  clear k1 k2 b1 b1' b2 f1 f2 hlls
  go_enter Tryz.func11, Tryz.ntmps11
  go_wp2_with fail
  clear C0 C1 C2 C3 C4 D0 D1 D2 D3 D4 hW1 hW2
  go_loopw [5] (fun i wr => ∃ (k : Nat), i = .int .i64 (k : Int) ∧ k ≤ c.pool.length ∧ Fr no V wr) (fun i _ => c.pool.length - (intOf i).toNat)
  case atStart => exact ⟨0, rfl, Nat.zero_le _, Fr.refl no _⟩
  case round =>
    obtain ⟨k, rfl, hk, hw⟩ := hrel
    obtain ⟨k1, k2⟩ := HB.out wr hw
    obtain ⟨C0, C1, C2, C3, C4⟩ := box5 k1
    obtain ⟨D0, D1, D2, D3, D4⟩ := box5 k2
    clear k1 k2
    by_cases hlt : k < c.pool.length
    · obtain ⟨x, hx⟩ : ∃ x, c.pool[k]? = some x := ⟨_, List.getElem?_eq_getElem hlt⟩
      obtain ⟨⟨b, off, rfl, c0', c1', c2', c3', c4'⟩, b', off', rfl, d0', d1', d2', d3', d4'⟩ := HPI.out k x hx
      have f0 := HW.out.new hw (fun _ _ f => f)
      have c0 := f0.cell c0' (fun f => f)
      have d0 := f0.cell d0' (fun f => f)
      have c1 := f0.cell c1' (fun f => f)
      have d1 := f0.cell d1' (fun f => f)
      have c2 := f0.cell c2' (fun f => f)
      have d2 := f0.cell d2' (fun f => f)
      have c3 := f0.cell c3' (fun f => f)
      have d3 := f0.cell d3' (fun f => f)
      have c4 := f0.cell c4' (fun f => f)
      have d4 := f0.cell d4' (fun f => f)
      have BS := fun w2 => docBits_same w2 x.re x.im
      have hstc := run_store_cx
      have hb1 : b < wr.heap.size := lt_cell c0
      have hb2 : b' < wr.heap.size := lt_cell d0
      have hb3 : w.heap.size + 1 < wr.heap.size := lt_cell D2
      have hb4 : w.heap.size < wr.heap.size := by omega
      have hlt' : (k : Int) < (c.pool.length : Int) := by omega
      clear hx f0 c0' d0' c1' d1' c2' d2' c3' d3' c4' d4'
      go_wp2_with fail
      go_region
      all_goals
        go_wp2_with fail
        refine (BS _).mono ?_
        rintro e w2 ⟨rfl, h2⟩
        go_wp2_with fail
        go_roundw
        case rel => exact ⟨k + 1, by go_num, by omega, by subst h2; exact ((hw.alloc _ _).alloc _ _).drew⟩
        case measure => simp [intOf]; omega
    · go_wp2_with fail
      go_loopw [8] (fun i wr => ∃ (k : Nat), i = .int .i64 (k : Int) ∧ k ≤ c.fields.length ∧ Fr no V wr) (fun i _ => c.fields.length - (intOf i).toNat)
      case atStart => exact ⟨0, rfl, Nat.zero_le _, hw⟩
      case round =>
        clear hw C0 C1 C2 C3 C4 D0 D1 D2 D3 D4
        obtain ⟨k, rfl, hk, hw⟩ := hrel
        obtain ⟨k1, k2⟩ := HB.out wr hw
        obtain ⟨C0, C1, C2, C3, C4⟩ := box5 k1
        obtain ⟨D0, D1, D2, D3, D4⟩ := box5 k2
        clear k1 k2
        by_cases hlt : k < c.fields.length
        · obtain ⟨x, hx⟩ : ∃ x, c.fields[k]? = some x := ⟨_, List.getElem?_eq_getElem hlt⟩
          obtain ⟨⟨b, off, rfl, c0', c1', c2', c3'⟩, b', off', rfl, d0', d1', d2', d3'⟩ := HFI.out k x hx
          have f0 := HW.out.new hw (fun _ _ f => f)
          have c0 := f0.cell c0' (fun f => f)
          have d0 := f0.cell d0' (fun f => f)
          have c1 := f0.cell c1' (fun f => f)
          have d1 := f0.cell d1' (fun f => f)
          have c2 := f0.cell c2' (fun f => f)
          have d2 := f0.cell d2' (fun f => f)
          have c3 := f0.cell c3' (fun f => f)
          have d3 := f0.cell d3' (fun f => f)
          have hneq := neq48 x
          have hlt' : (k : Int) < (c.fields.length : Int) := by omega
          clear hx f0 c0' d0' c1' d1' c2' d2' c3' d3'
          go_wp2_with fail
          go_quiet (fail)
          go_wp2_with fail
          go_roundw
          case rel => exact ⟨k + 1, by go_num, by omega, hw.drewN _⟩
          case measure => simp [intOf]; omega
        · go_wp2_with fail
          go_loopw [9] (fun i wr => ∃ (k : Nat), i = .int .i64 (k : Int) ∧ k ≤ ls.length ∧ Fr no V wr) (fun i _ => ls.length - (intOf i).toNat)
          case atStart => exact ⟨0, rfl, Nat.zero_le _, hw⟩
          case round =>
            clear hw C0 C1 C2 C3 C4 D0 D1 D2 D3 D4
            obtain ⟨k, rfl, hk, hw⟩ := hrel
            obtain ⟨k1, k2⟩ := HB.out wr hw
            obtain ⟨C0, C1, C2, C3, C4⟩ := box5 k1
            obtain ⟨D0, D1, D2, D3, D4⟩ := box5 k2
            clear k1 k2
            by_cases hlt : k < ls.length
            · obtain ⟨s, hs⟩ : ∃ s, ls[k]? = some s := ⟨_, List.getElem?_eq_getElem hlt⟩
              obtain ⟨s', hs'⟩ : ∃ s, ls'[k]? = some s := ⟨_, List.getElem?_eq_getElem (by have := HL1.out; have := HL2.out; omega)⟩
              obtain ⟨m, hm⟩ : ∃ m, c.methods[k]? = some m := ⟨_, List.getElem?_eq_getElem (by have := HL1.out; omega)⟩
              obtain ⟨b, off, rfl, he⟩ := HMI.out k s hs
              obtain ⟨b', off', rfl, he'⟩ := HMI'.out k s' hs'
              have f0 := HW.out.new hw (fun _ _ f => f)
              have T := fun w2 (g : Fr no V w2) => docMethods_any w2 s s' m ((HA.out.2 k s m hs hm).kept (HW.out.new g (fun _ _ f => f))) ((HA'.out.2 k s' m hs' hm).kept (HW.out.new g (fun _ _ f => f)))
              obtain ⟨qa, qc, ca, cc, ha, hc, rfl, -, -, -⟩ := (HA.out.2 k s m hs hm).open3
              obtain ⟨qa', qc', ca', cc', ha', hc', rfl, -, -, -⟩ := (HA'.out.2 k s' m hs' hm).open3
              have hlt1 : (k : Int) < (ls.length : Int) := by omega
              have hlt2 : (k : Int) < (ls'.length : Int) := by have := HL1.out; have := HL2.out; omega
              have KS : Hid (∀ w2, Fr no wr w2 → w2.cell? ⟨w.heap.size, 4, none⟩ = some (.slice (some ⟨b, off, none⟩) ls.length mc) ∧ w2.cell? ⟨w.heap.size + 1, 4, none⟩ = some (.slice (some ⟨b', off', none⟩) ls'.length mc') ∧ w2.cell? ⟨b, off + k * 8, none⟩ = some (.string m.name) ∧ w2.cell? ⟨b, off + k * 8 + 1, none⟩ = some (.slice qa m.params.length qc) ∧ w2.cell? ⟨b, off + k * 8 + 2, none⟩ = some (.int .i64 m.ret.k) ∧ w2.cell? ⟨b, off + k * 8 + 3, none⟩ = some (.string m.ret.c) ∧ w2.cell? ⟨b, off + k * 8 + 4, none⟩ = some (.int .i64 m.lo) ∧ w2.cell? ⟨b, off + k * 8 + 5, none⟩ = some (.int .i64 m.st) ∧ w2.cell? ⟨b, off + k * 8 + 6, none⟩ = some (.slice ca m.code.length cc) ∧ w2.cell? ⟨b, off + k * 8 + 7, none⟩ = some (.slice ha m.hands.length hc) ∧ w2.cell? ⟨b', off' + k * 8, none⟩ = some (.string m.name) ∧ w2.cell? ⟨b', off' + k * 8 + 1, none⟩ = some (.slice qa' m.params.length qc') ∧ w2.cell? ⟨b', off' + k * 8 + 2, none⟩ = some (.int .i64 m.ret.k) ∧ w2.cell? ⟨b', off' + k * 8 + 3, none⟩ = some (.string m.ret.c) ∧ w2.cell? ⟨b', off' + k * 8 + 4, none⟩ = some (.int .i64 m.lo) ∧ w2.cell? ⟨b', off' + k * 8 + 5, none⟩ = some (.int .i64 m.st) ∧ w2.cell? ⟨b', off' + k * 8 + 6, none⟩ = some (.slice ca' m.code.length cc') ∧ w2.cell? ⟨b', off' + k * 8 + 7, none⟩ = some (.slice ha' m.hands.length hc')) := fun w2 g => by
                have g0 := f0.new g (fun _ _ f => f)
                have hv := HB.out w2 (hw.new g (fun _ _ f => f))
                exact ⟨(box5 hv.1).2.2.2.2, (box5 hv.2).2.2.2.2, g0.cell (he 0 _ rfl) (fun f => f), g0.cell (he 1 _ rfl) (fun f => f), g0.cell (he 2 _ rfl) (fun f => f), g0.cell (he 3 _ rfl) (fun f => f), g0.cell (he 4 _ rfl) (fun f => f), g0.cell (he 5 _ rfl) (fun f => f), g0.cell (he 6 _ rfl) (fun f => f), g0.cell (he 7 _ rfl) (fun f => f), g0.cell (he' 0 _ rfl) (fun f => f), g0.cell (he' 1 _ rfl) (fun f => f), g0.cell (he' 2 _ rfl) (fun f => f), g0.cell (he' 3 _ rfl) (fun f => f), g0.cell (he' 4 _ rfl) (fun f => f), g0.cell (he' 5 _ rfl) (fun f => f), g0.cell (he' 6 _ rfl) (fun f => f), g0.cell (he' 7 _ rfl) (fun f => f)⟩
              unfold msV at T
              simp only [] at T
              have HT : Hid (∀ w2, Fr no wr w2 → _) := fun w2 g => T w2 (hw.new g (fun _ _ f => f))
              clear he he' f0 hs hs' hm T
              go_wp2_with fail
              go_region_held3 (fun w2 => w2.cell? ⟨w.heap.size, 4, none⟩ = some (.slice (some ⟨b, off, none⟩) ls.length mc) ∧ w2.cell? ⟨w.heap.size + 1, 4, none⟩ = some (.slice (some ⟨b', off', none⟩) ls'.length mc') ∧ w2.cell? ⟨b, off + k * 8, none⟩ = some (.string m.name) ∧ w2.cell? ⟨b, off + k * 8 + 1, none⟩ = some (.slice qa m.params.length qc) ∧ w2.cell? ⟨b, off + k * 8 + 2, none⟩ = some (.int .i64 m.ret.k) ∧ w2.cell? ⟨b, off + k * 8 + 3, none⟩ = some (.string m.ret.c) ∧ w2.cell? ⟨b, off + k * 8 + 4, none⟩ = some (.int .i64 m.lo) ∧ w2.cell? ⟨b, off + k * 8 + 5, none⟩ = some (.int .i64 m.st) ∧ w2.cell? ⟨b, off + k * 8 + 6, none⟩ = some (.slice ca m.code.length cc) ∧ w2.cell? ⟨b, off + k * 8 + 7, none⟩ = some (.slice ha m.hands.length hc) ∧ w2.cell? ⟨b', off' + k * 8, none⟩ = some (.string m.name) ∧ w2.cell? ⟨b', off' + k * 8 + 1, none⟩ = some (.slice qa' m.params.length qc') ∧ w2.cell? ⟨b', off' + k * 8 + 2, none⟩ = some (.int .i64 m.ret.k) ∧ w2.cell? ⟨b', off' + k * 8 + 3, none⟩ = some (.string m.ret.c) ∧ w2.cell? ⟨b', off' + k * 8 + 4, none⟩ = some (.int .i64 m.lo) ∧ w2.cell? ⟨b', off' + k * 8 + 5, none⟩ = some (.int .i64 m.st) ∧ w2.cell? ⟨b', off' + k * 8 + 6, none⟩ = some (.slice ca' m.code.length cc') ∧ w2.cell? ⟨b', off' + k * 8 + 7, none⟩ = some (.slice ha' m.hands.length hc')) (first | exact KS.out _ f3' | exact KS.out _ (Fr.refl no _).drew)
                (first | (go_at_call 39; refine (HT.out _ (Fr.refl no _).drew).mono ?_; rintro e w3 ⟨rfl, f3⟩; have f3' := (Fr.refl no wr).drew.new f3 (fun _ _ f => f)))
              go_wp2_with fail
              go_roundw
              case rel => exact ⟨k + 1, by go_num, by omega, hw.new f3' (fun _ _ f => f)⟩
              case measure => simp [intOf]; omega
            · go_wp2_with fail
              go_ret
              exact ⟨rfl, HW.out.new hw (fun _ _ f => f)⟩
end Go.Proofs.YthncdbobjeeeaaaGreatDoor

