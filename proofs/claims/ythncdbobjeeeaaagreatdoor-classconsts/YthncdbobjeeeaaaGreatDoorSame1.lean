/- Rows that hold the same are told so. -/
import Derived.Test.YthncdbobjeeeaaaGreatDoorEach2
import Derived.Laws.StructEq
namespace Go.Proofs.YthncdbobjeeeaaaGreatDoor
open Go.ChangeShapes Go.WideShapes Go.ChangeAt Go.RowKit

set_option maxRecDepth 100000 in
theorem equal46 (k : Int) (c : ByteArray) (W : World) : (Op.equalIn 9999 46 (.agg #[.int .i64 k, .string c]) (.agg #[.int .i64 k, .string c])).run Tryz.prog W = .ok true W := by
  have u3 := Tryz.underlying3
  have hS : Tryz.prog.underlying 46 = some (.struct (Tryz.prog.fieldsOf 46)) := by kernel_rfl
  have hp : Tryz.prog.stoodInHeld 46 = false := by kernel_rfl
  rw [show (9999 : Nat) = 9998 + 1 from rfl, run_equalIn_agg W 9998 46 _ _ hS hp]
  simp only [Program.fieldsOf, Tryz.underlying46]
  go_simp

set_option maxRecDepth 100000 in
theorem neq57 (x : (Int × Int)) (W : World) : (binOp .neq 57 (.agg #[.int .i64 x.1, .int .i64 x.2]) (.agg #[.int .i64 x.1, .int .i64 x.2])).run Tryz.prog W = .ok (.bool false) W := by
  have u3 := Tryz.underlying3
  have a3 := Tryz.isAgg3
  have z3 := Tryz.sizeOf3
  have hS : Tryz.prog.underlying 57 = some (.struct (Tryz.prog.fieldsOf 57)) := by kernel_rfl
  have hp : Tryz.prog.stoodInHeld 57 = false := by kernel_rfl
  rw [run_neq_struct, show (10000 : Nat) = 9999 + 1 from rfl, run_equalIn_agg W 9999 57 _ _ hS hp]
  simp only [Program.fieldsOf, Tryz.underlying57]
  go_simp

set_option maxRecDepth 100000 in
set_option maxHeartbeats 2000000 in
theorem equalIn_any (w : World) (v v' : Value) (l : List (Int × Int)) (h : SlG elIn w v l) (h' : SlG elIn w v' l) :
    Calls Tryz.prog 89 #[v, v'] w fun e w' => e = .returned (.bool true) ∧ Fr no w w' := by
  obtain ⟨ad, cp, rfl, hcap, hmx, hit⟩ := h
  obtain ⟨ad', cp', rfl, hcap', hmx', hit'⟩ := h'
  unfold maxLen at hmx
  have HI : Hid (∀ (i : Nat) (x : (Int × Int)), l[i]? = some x → ∃ b off, ad = some ⟨b, off, none⟩ ∧ ∀ (j : Nat) (u : Value), (elIn.f x)[j]? = some u → w.cell? ⟨b, off + i * elIn.n + j, none⟩ = some u) := hit
  have HI' : Hid (∀ (i : Nat) (x : (Int × Int)), l[i]? = some x → ∃ b off, ad' = some ⟨b, off, none⟩ ∧ ∀ (j : Nat) (u : Value), (elIn.f x)[j]? = some u → w.cell? ⟨b, off + i * elIn.n + j, none⟩ = some u) := hit'
  clear hit hit' hcap' hmx'
  go_enter Tryz.func89, Tryz.ntmps89
  go_wp2_with fail
  go_loopw [13] (fun i wr => ∃ (k : Nat), i = .int .i64 (k : Int) ∧ k ≤ l.length ∧ Fr no w wr) (fun i _ => l.length - (intOf i).toNat)
  case atStart => exact ⟨0, rfl, by omega, Fr.refl _ _⟩
  case round =>
    obtain ⟨k, rfl, hk, hw⟩ := hrel
    by_cases hlt : k < l.length
    · obtain ⟨x, hx⟩ : ∃ x, l[k]? = some x := ⟨_, List.getElem?_eq_getElem hlt⟩
      obtain ⟨b, off, rfl, hc0⟩ := HI.out k x hx
      obtain ⟨b', off', rfl, hc0'⟩ := HI'.out k x hx
      have hc : ∀ (j : Nat) (u : Value), (elIn.f x)[j]? = some u → w.cell? ⟨b, off + k * 2 + j, none⟩ = some u := hc0
      have hc' : ∀ (j : Nat) (u : Value), (elIn.f x)[j]? = some u → w.cell? ⟨b', off' + k * 2 + j, none⟩ = some u := hc0'
      clear hc0 hc0'
      have c0 : wr.cell? ⟨b, off + k * 2, none⟩ = some (.int .i64 x.1) := hw.cell (hc 0 _ rfl) (fun f => f)
      have c1 : wr.cell? ⟨b, off + k * 2 + 1, none⟩ = some (.int .i64 x.2) := hw.cell (hc 1 _ rfl) (fun f => f)
      have d0 : wr.cell? ⟨b', off' + k * 2, none⟩ = some (.int .i64 x.1) := hw.cell (hc' 0 _ rfl) (fun f => f)
      have d1 : wr.cell? ⟨b', off' + k * 2 + 1, none⟩ = some (.int .i64 x.2) := hw.cell (hc' 1 _ rfl) (fun f => f)
      have HW : Hid (Fr no w wr) := hw
      have hneq := neq57 x
      have KS : ∀ w2, Fr no wr w2 → Fr no wr w2 ∧ w2.cell? ⟨b, off + k * 2, none⟩ = some (.int .i64 x.1) ∧ w2.cell? ⟨b, off + k * 2 + 1, none⟩ = some (.int .i64 x.2) ∧ w2.cell? ⟨b', off' + k * 2, none⟩ = some (.int .i64 x.1) ∧ w2.cell? ⟨b', off' + k * 2 + 1, none⟩ = some (.int .i64 x.2) := fun w2 f2 => ⟨f2, f2.cell c0 (fun f => f), f2.cell c1 (fun f => f), f2.cell d0 (fun f => f), f2.cell d1 (fun f => f)⟩
      clear hx hc hc' hw
      go_wp2_with fail
      go_region_held3 (fun w2 => Fr no wr w2 ∧ w2.cell? ⟨b, off + k * 2, none⟩ = some (.int .i64 x.1) ∧ w2.cell? ⟨b, off + k * 2 + 1, none⟩ = some (.int .i64 x.2) ∧ w2.cell? ⟨b', off' + k * 2, none⟩ = some (.int .i64 x.1) ∧ w2.cell? ⟨b', off' + k * 2 + 1, none⟩ = some (.int .i64 x.2)) (exact KS _ (Fr.refl no _).drew) (fail)
      all_goals
        go_wp2_with fail
        go_roundw
        case rel => exact ⟨k + 1, by go_num, by omega, HW.out.drew⟩
        case measure => simp [intOf]; omega
    · have : k = l.length := by omega
      subst this
      go_wp2_with fail
      go_ret
      exact ⟨rfl, hw⟩

set_option maxRecDepth 100000 in
theorem neq46 (x : Ty) (W : World) : (binOp .neq 46 (.agg #[.int .i64 x.k, .string x.c]) (.agg #[.int .i64 x.k, .string x.c])).run Tryz.prog W = .ok (.bool false) W := by
  have u3 := Tryz.underlying3
  have a3 := Tryz.isAgg3
  have z3 := Tryz.sizeOf3
  have hS : Tryz.prog.underlying 46 = some (.struct (Tryz.prog.fieldsOf 46)) := by kernel_rfl
  have hp : Tryz.prog.stoodInHeld 46 = false := by kernel_rfl
  rw [run_neq_struct, show (10000 : Nat) = 9999 + 1 from rfl, run_equalIn_agg W 9999 46 _ _ hS hp]
  simp only [Program.fieldsOf, Tryz.underlying46]
  go_simp

set_option maxRecDepth 100000 in
set_option maxHeartbeats 2000000 in
theorem equalTy_any (w : World) (v v' : Value) (l : List Ty) (h : SlG elTy w v l) (h' : SlG elTy w v' l) :
    Calls Tryz.prog 88 #[v, v'] w fun e w' => e = .returned (.bool true) ∧ Fr no w w' := by
  obtain ⟨ad, cp, rfl, hcap, hmx, hit⟩ := h
  obtain ⟨ad', cp', rfl, hcap', hmx', hit'⟩ := h'
  unfold maxLen at hmx
  have HI : Hid (∀ (i : Nat) (x : Ty), l[i]? = some x → ∃ b off, ad = some ⟨b, off, none⟩ ∧ ∀ (j : Nat) (u : Value), (elTy.f x)[j]? = some u → w.cell? ⟨b, off + i * elTy.n + j, none⟩ = some u) := hit
  have HI' : Hid (∀ (i : Nat) (x : Ty), l[i]? = some x → ∃ b off, ad' = some ⟨b, off, none⟩ ∧ ∀ (j : Nat) (u : Value), (elTy.f x)[j]? = some u → w.cell? ⟨b, off + i * elTy.n + j, none⟩ = some u) := hit'
  clear hit hit' hcap' hmx'
  go_enter Tryz.func88, Tryz.ntmps88
  go_wp2_with fail
  go_loopw [13] (fun i wr => ∃ (k : Nat), i = .int .i64 (k : Int) ∧ k ≤ l.length ∧ Fr no w wr) (fun i _ => l.length - (intOf i).toNat)
  case atStart => exact ⟨0, rfl, by omega, Fr.refl _ _⟩
  case round =>
    obtain ⟨k, rfl, hk, hw⟩ := hrel
    by_cases hlt : k < l.length
    · obtain ⟨x, hx⟩ : ∃ x, l[k]? = some x := ⟨_, List.getElem?_eq_getElem hlt⟩
      obtain ⟨b, off, rfl, hc0⟩ := HI.out k x hx
      obtain ⟨b', off', rfl, hc0'⟩ := HI'.out k x hx
      have hc : ∀ (j : Nat) (u : Value), (elTy.f x)[j]? = some u → w.cell? ⟨b, off + k * 2 + j, none⟩ = some u := hc0
      have hc' : ∀ (j : Nat) (u : Value), (elTy.f x)[j]? = some u → w.cell? ⟨b', off' + k * 2 + j, none⟩ = some u := hc0'
      clear hc0 hc0'
      have c0 : wr.cell? ⟨b, off + k * 2, none⟩ = some (.int .i64 x.k) := hw.cell (hc 0 _ rfl) (fun f => f)
      have c1 : wr.cell? ⟨b, off + k * 2 + 1, none⟩ = some (.string x.c) := hw.cell (hc 1 _ rfl) (fun f => f)
      have d0 : wr.cell? ⟨b', off' + k * 2, none⟩ = some (.int .i64 x.k) := hw.cell (hc' 0 _ rfl) (fun f => f)
      have d1 : wr.cell? ⟨b', off' + k * 2 + 1, none⟩ = some (.string x.c) := hw.cell (hc' 1 _ rfl) (fun f => f)
      have HW : Hid (Fr no w wr) := hw
      have hneq := neq46 x
      have KS : ∀ w2, Fr no wr w2 → Fr no wr w2 ∧ w2.cell? ⟨b, off + k * 2, none⟩ = some (.int .i64 x.k) ∧ w2.cell? ⟨b, off + k * 2 + 1, none⟩ = some (.string x.c) ∧ w2.cell? ⟨b', off' + k * 2, none⟩ = some (.int .i64 x.k) ∧ w2.cell? ⟨b', off' + k * 2 + 1, none⟩ = some (.string x.c) := fun w2 f2 => ⟨f2, f2.cell c0 (fun f => f), f2.cell c1 (fun f => f), f2.cell d0 (fun f => f), f2.cell d1 (fun f => f)⟩
      clear hx hc hc' hw
      go_wp2_with fail
      go_region_held3 (fun w2 => Fr no wr w2 ∧ w2.cell? ⟨b, off + k * 2, none⟩ = some (.int .i64 x.k) ∧ w2.cell? ⟨b, off + k * 2 + 1, none⟩ = some (.string x.c) ∧ w2.cell? ⟨b', off' + k * 2, none⟩ = some (.int .i64 x.k) ∧ w2.cell? ⟨b', off' + k * 2 + 1, none⟩ = some (.string x.c)) (exact KS _ (Fr.refl no _).drew) (fail)
      all_goals
        go_wp2_with fail
        go_roundw
        case rel => exact ⟨k + 1, by go_num, by omega, HW.out.drew⟩
        case measure => simp [intOf]; omega
    · have : k = l.length := by omega
      subst this
      go_wp2_with fail
      go_ret
      exact ⟨rfl, hw⟩

set_option maxRecDepth 100000 in
theorem neq59 (x : Hd) (W : World) : (binOp .neq 59 (.agg #[.int .i64 x.fr, .int .i64 x.to, .int .i64 x.tg, .int .i64 x.cl, .int .i64 x.dp]) (.agg #[.int .i64 x.fr, .int .i64 x.to, .int .i64 x.tg, .int .i64 x.cl, .int .i64 x.dp])).run Tryz.prog W = .ok (.bool false) W := by
  have u3 := Tryz.underlying3
  have a3 := Tryz.isAgg3
  have z3 := Tryz.sizeOf3
  have hS : Tryz.prog.underlying 59 = some (.struct (Tryz.prog.fieldsOf 59)) := by kernel_rfl
  have hp : Tryz.prog.stoodInHeld 59 = false := by kernel_rfl
  rw [run_neq_struct, show (10000 : Nat) = 9999 + 1 from rfl, run_equalIn_agg W 9999 59 _ _ hS hp]
  simp only [Program.fieldsOf, Tryz.underlying59]
  go_simp

set_option maxRecDepth 100000 in
set_option maxHeartbeats 2000000 in
theorem equalHd_any (w : World) (v v' : Value) (l : List Hd) (h : SlG elHd w v l) (h' : SlG elHd w v' l) :
    Calls Tryz.prog 90 #[v, v'] w fun e w' => e = .returned (.bool true) ∧ Fr no w w' := by
  obtain ⟨ad, cp, rfl, hcap, hmx, hit⟩ := h
  obtain ⟨ad', cp', rfl, hcap', hmx', hit'⟩ := h'
  unfold maxLen at hmx
  have HI : Hid (∀ (i : Nat) (x : Hd), l[i]? = some x → ∃ b off, ad = some ⟨b, off, none⟩ ∧ ∀ (j : Nat) (u : Value), (elHd.f x)[j]? = some u → w.cell? ⟨b, off + i * elHd.n + j, none⟩ = some u) := hit
  have HI' : Hid (∀ (i : Nat) (x : Hd), l[i]? = some x → ∃ b off, ad' = some ⟨b, off, none⟩ ∧ ∀ (j : Nat) (u : Value), (elHd.f x)[j]? = some u → w.cell? ⟨b, off + i * elHd.n + j, none⟩ = some u) := hit'
  clear hit hit' hcap' hmx'
  go_enter Tryz.func90, Tryz.ntmps90
  go_wp2_with fail
  go_loopw [13] (fun i wr => ∃ (k : Nat), i = .int .i64 (k : Int) ∧ k ≤ l.length ∧ Fr no w wr) (fun i _ => l.length - (intOf i).toNat)
  case atStart => exact ⟨0, rfl, by omega, Fr.refl _ _⟩
  case round =>
    obtain ⟨k, rfl, hk, hw⟩ := hrel
    by_cases hlt : k < l.length
    · obtain ⟨x, hx⟩ : ∃ x, l[k]? = some x := ⟨_, List.getElem?_eq_getElem hlt⟩
      obtain ⟨b, off, rfl, hc0⟩ := HI.out k x hx
      obtain ⟨b', off', rfl, hc0'⟩ := HI'.out k x hx
      have hc : ∀ (j : Nat) (u : Value), (elHd.f x)[j]? = some u → w.cell? ⟨b, off + k * 5 + j, none⟩ = some u := hc0
      have hc' : ∀ (j : Nat) (u : Value), (elHd.f x)[j]? = some u → w.cell? ⟨b', off' + k * 5 + j, none⟩ = some u := hc0'
      clear hc0 hc0'
      have c0 : wr.cell? ⟨b, off + k * 5, none⟩ = some (.int .i64 x.fr) := hw.cell (hc 0 _ rfl) (fun f => f)
      have c1 : wr.cell? ⟨b, off + k * 5 + 1, none⟩ = some (.int .i64 x.to) := hw.cell (hc 1 _ rfl) (fun f => f)
      have c2 : wr.cell? ⟨b, off + k * 5 + 2, none⟩ = some (.int .i64 x.tg) := hw.cell (hc 2 _ rfl) (fun f => f)
      have c3 : wr.cell? ⟨b, off + k * 5 + 3, none⟩ = some (.int .i64 x.cl) := hw.cell (hc 3 _ rfl) (fun f => f)
      have c4 : wr.cell? ⟨b, off + k * 5 + 4, none⟩ = some (.int .i64 x.dp) := hw.cell (hc 4 _ rfl) (fun f => f)
      have d0 : wr.cell? ⟨b', off' + k * 5, none⟩ = some (.int .i64 x.fr) := hw.cell (hc' 0 _ rfl) (fun f => f)
      have d1 : wr.cell? ⟨b', off' + k * 5 + 1, none⟩ = some (.int .i64 x.to) := hw.cell (hc' 1 _ rfl) (fun f => f)
      have d2 : wr.cell? ⟨b', off' + k * 5 + 2, none⟩ = some (.int .i64 x.tg) := hw.cell (hc' 2 _ rfl) (fun f => f)
      have d3 : wr.cell? ⟨b', off' + k * 5 + 3, none⟩ = some (.int .i64 x.cl) := hw.cell (hc' 3 _ rfl) (fun f => f)
      have d4 : wr.cell? ⟨b', off' + k * 5 + 4, none⟩ = some (.int .i64 x.dp) := hw.cell (hc' 4 _ rfl) (fun f => f)
      have HW : Hid (Fr no w wr) := hw
      have hneq := neq59 x
      have KS : ∀ w2, Fr no wr w2 → Fr no wr w2 ∧ w2.cell? ⟨b, off + k * 5, none⟩ = some (.int .i64 x.fr) ∧ w2.cell? ⟨b, off + k * 5 + 1, none⟩ = some (.int .i64 x.to) ∧ w2.cell? ⟨b, off + k * 5 + 2, none⟩ = some (.int .i64 x.tg) ∧ w2.cell? ⟨b, off + k * 5 + 3, none⟩ = some (.int .i64 x.cl) ∧ w2.cell? ⟨b, off + k * 5 + 4, none⟩ = some (.int .i64 x.dp) ∧ w2.cell? ⟨b', off' + k * 5, none⟩ = some (.int .i64 x.fr) ∧ w2.cell? ⟨b', off' + k * 5 + 1, none⟩ = some (.int .i64 x.to) ∧ w2.cell? ⟨b', off' + k * 5 + 2, none⟩ = some (.int .i64 x.tg) ∧ w2.cell? ⟨b', off' + k * 5 + 3, none⟩ = some (.int .i64 x.cl) ∧ w2.cell? ⟨b', off' + k * 5 + 4, none⟩ = some (.int .i64 x.dp) := fun w2 f2 => ⟨f2, f2.cell c0 (fun f => f), f2.cell c1 (fun f => f), f2.cell c2 (fun f => f), f2.cell c3 (fun f => f), f2.cell c4 (fun f => f), f2.cell d0 (fun f => f), f2.cell d1 (fun f => f), f2.cell d2 (fun f => f), f2.cell d3 (fun f => f), f2.cell d4 (fun f => f)⟩
      clear hx hc hc' hw
      go_wp2_with fail
      go_region_held3 (fun w2 => Fr no wr w2 ∧ w2.cell? ⟨b, off + k * 5, none⟩ = some (.int .i64 x.fr) ∧ w2.cell? ⟨b, off + k * 5 + 1, none⟩ = some (.int .i64 x.to) ∧ w2.cell? ⟨b, off + k * 5 + 2, none⟩ = some (.int .i64 x.tg) ∧ w2.cell? ⟨b, off + k * 5 + 3, none⟩ = some (.int .i64 x.cl) ∧ w2.cell? ⟨b, off + k * 5 + 4, none⟩ = some (.int .i64 x.dp) ∧ w2.cell? ⟨b', off' + k * 5, none⟩ = some (.int .i64 x.fr) ∧ w2.cell? ⟨b', off' + k * 5 + 1, none⟩ = some (.int .i64 x.to) ∧ w2.cell? ⟨b', off' + k * 5 + 2, none⟩ = some (.int .i64 x.tg) ∧ w2.cell? ⟨b', off' + k * 5 + 3, none⟩ = some (.int .i64 x.cl) ∧ w2.cell? ⟨b', off' + k * 5 + 4, none⟩ = some (.int .i64 x.dp)) (exact KS _ (Fr.refl no _).drew) (fail)
      all_goals
        go_wp2_with fail
        go_roundw
        case rel => exact ⟨k + 1, by go_num, by omega, HW.out.drew⟩
        case measure => simp [intOf]; omega
    · have : k = l.length := by omega
      subst this
      go_wp2_with fail
      go_ret
      exact ⟨rfl, hw⟩

set_option maxRecDepth 100000 in
theorem neq48 (x : Fd) (W : World) : (binOp .neq 48 (.agg #[.string x.name, .int .i64 x.ty.k, .string x.ty.c, .bool x.vol]) (.agg #[.string x.name, .int .i64 x.ty.k, .string x.ty.c, .bool x.vol])).run Tryz.prog W = .ok (.bool false) W := by
  have u3 := Tryz.underlying3
  have a3 := Tryz.isAgg3
  have z3 := Tryz.sizeOf3
  have hS : Tryz.prog.underlying 48 = some (.struct (Tryz.prog.fieldsOf 48)) := by kernel_rfl
  have hp : Tryz.prog.stoodInHeld 48 = false := by kernel_rfl
  have e46 := equal46 x.ty.k x.ty.c W
  rw [run_neq_struct, show (10000 : Nat) = 9999 + 1 from rfl, run_equalIn_agg W 9999 48 _ _ hS hp]
  simp only [Program.fieldsOf, Tryz.underlying48]
  go_simp

set_option maxRecDepth 100000 in
set_option maxHeartbeats 2000000 in
theorem equalFd_any (w : World) (v v' : Value) (l : List Fd) (h : SlG elFd w v l) (h' : SlG elFd w v' l) :
    Calls Tryz.prog 35 #[v, v'] w fun e w' => e = .returned (.bool true) ∧ Fr no w w' := by
  obtain ⟨ad, cp, rfl, hcap, hmx, hit⟩ := h
  obtain ⟨ad', cp', rfl, hcap', hmx', hit'⟩ := h'
  unfold maxLen at hmx
  have HI : Hid (∀ (i : Nat) (x : Fd), l[i]? = some x → ∃ b off, ad = some ⟨b, off, none⟩ ∧ ∀ (j : Nat) (u : Value), (elFd.f x)[j]? = some u → w.cell? ⟨b, off + i * elFd.n + j, none⟩ = some u) := hit
  have HI' : Hid (∀ (i : Nat) (x : Fd), l[i]? = some x → ∃ b off, ad' = some ⟨b, off, none⟩ ∧ ∀ (j : Nat) (u : Value), (elFd.f x)[j]? = some u → w.cell? ⟨b, off + i * elFd.n + j, none⟩ = some u) := hit'
  clear hit hit' hcap' hmx'
  go_enter Tryz.func35, Tryz.ntmps35
  go_wp2_with fail
  go_loopw [13] (fun i wr => ∃ (k : Nat), i = .int .i64 (k : Int) ∧ k ≤ l.length ∧ Fr no w wr) (fun i _ => l.length - (intOf i).toNat)
  case atStart => exact ⟨0, rfl, by omega, Fr.refl _ _⟩
  case round =>
    obtain ⟨k, rfl, hk, hw⟩ := hrel
    by_cases hlt : k < l.length
    · obtain ⟨x, hx⟩ : ∃ x, l[k]? = some x := ⟨_, List.getElem?_eq_getElem hlt⟩
      obtain ⟨b, off, rfl, hc0⟩ := HI.out k x hx
      obtain ⟨b', off', rfl, hc0'⟩ := HI'.out k x hx
      have hc : ∀ (j : Nat) (u : Value), (elFd.f x)[j]? = some u → w.cell? ⟨b, off + k * 4 + j, none⟩ = some u := hc0
      have hc' : ∀ (j : Nat) (u : Value), (elFd.f x)[j]? = some u → w.cell? ⟨b', off' + k * 4 + j, none⟩ = some u := hc0'
      clear hc0 hc0'
      have c0 : wr.cell? ⟨b, off + k * 4, none⟩ = some (.string x.name) := hw.cell (hc 0 _ rfl) (fun f => f)
      have c1 : wr.cell? ⟨b, off + k * 4 + 1, none⟩ = some (.int .i64 x.ty.k) := hw.cell (hc 1 _ rfl) (fun f => f)
      have c2 : wr.cell? ⟨b, off + k * 4 + 2, none⟩ = some (.string x.ty.c) := hw.cell (hc 2 _ rfl) (fun f => f)
      have c3 : wr.cell? ⟨b, off + k * 4 + 3, none⟩ = some (.bool x.vol) := hw.cell (hc 3 _ rfl) (fun f => f)
      have d0 : wr.cell? ⟨b', off' + k * 4, none⟩ = some (.string x.name) := hw.cell (hc' 0 _ rfl) (fun f => f)
      have d1 : wr.cell? ⟨b', off' + k * 4 + 1, none⟩ = some (.int .i64 x.ty.k) := hw.cell (hc' 1 _ rfl) (fun f => f)
      have d2 : wr.cell? ⟨b', off' + k * 4 + 2, none⟩ = some (.string x.ty.c) := hw.cell (hc' 2 _ rfl) (fun f => f)
      have d3 : wr.cell? ⟨b', off' + k * 4 + 3, none⟩ = some (.bool x.vol) := hw.cell (hc' 3 _ rfl) (fun f => f)
      have HW : Hid (Fr no w wr) := hw
      have hneq := neq48 x
      have KS : ∀ w2, Fr no wr w2 → Fr no wr w2 ∧ w2.cell? ⟨b, off + k * 4, none⟩ = some (.string x.name) ∧ w2.cell? ⟨b, off + k * 4 + 1, none⟩ = some (.int .i64 x.ty.k) ∧ w2.cell? ⟨b, off + k * 4 + 2, none⟩ = some (.string x.ty.c) ∧ w2.cell? ⟨b, off + k * 4 + 3, none⟩ = some (.bool x.vol) ∧ w2.cell? ⟨b', off' + k * 4, none⟩ = some (.string x.name) ∧ w2.cell? ⟨b', off' + k * 4 + 1, none⟩ = some (.int .i64 x.ty.k) ∧ w2.cell? ⟨b', off' + k * 4 + 2, none⟩ = some (.string x.ty.c) ∧ w2.cell? ⟨b', off' + k * 4 + 3, none⟩ = some (.bool x.vol) := fun w2 f2 => ⟨f2, f2.cell c0 (fun f => f), f2.cell c1 (fun f => f), f2.cell c2 (fun f => f), f2.cell c3 (fun f => f), f2.cell d0 (fun f => f), f2.cell d1 (fun f => f), f2.cell d2 (fun f => f), f2.cell d3 (fun f => f)⟩
      clear hx hc hc' hw
      go_wp2_with fail
      go_region_held3 (fun w2 => Fr no wr w2 ∧ w2.cell? ⟨b, off + k * 4, none⟩ = some (.string x.name) ∧ w2.cell? ⟨b, off + k * 4 + 1, none⟩ = some (.int .i64 x.ty.k) ∧ w2.cell? ⟨b, off + k * 4 + 2, none⟩ = some (.string x.ty.c) ∧ w2.cell? ⟨b, off + k * 4 + 3, none⟩ = some (.bool x.vol) ∧ w2.cell? ⟨b', off' + k * 4, none⟩ = some (.string x.name) ∧ w2.cell? ⟨b', off' + k * 4 + 1, none⟩ = some (.int .i64 x.ty.k) ∧ w2.cell? ⟨b', off' + k * 4 + 2, none⟩ = some (.string x.ty.c) ∧ w2.cell? ⟨b', off' + k * 4 + 3, none⟩ = some (.bool x.vol)) (exact KS _ (Fr.refl no _).drew) (fail)
      all_goals
        go_wp2_with fail
        go_roundw
        case rel => exact ⟨k + 1, by go_num, by omega, HW.out.drew⟩
        case measure => simp [intOf]; omega
    · have : k = l.length := by omega
      subst this
      go_wp2_with fail
      go_ret
      exact ⟨rfl, hw⟩
end Go.Proofs.YthncdbobjeeeaaaGreatDoor
