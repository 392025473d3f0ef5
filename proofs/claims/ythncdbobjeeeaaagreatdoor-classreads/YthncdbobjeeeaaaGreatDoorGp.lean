/- Rows that hold the same are told so. -/
import Derived.Test.YthncdbobjeeeaaaGreatDoorGi
import Derived.Laws.StructEq
import Derived.Test.YthncdbobjeeeaaaGreatDoorGk
import Derived.Test.YthncdbobjeeeaaaGreatDoorGm
namespace Go.Proofs.YthncdbobjeeeaaaGreatDoor
open Go.ChangeShapes Go.WideShapes Go.ChangeAt Go.RowKit

set_option maxRecDepth 100000 in
theorem equal46 (k : Int) (c : ByteArray) (W : World) : (Op.equalIn 9999 46 (.agg #[.int .i64 k, .string c]) (.agg #[.int .i64 k, .string c])).run Tryz.prog W = .ok true W := by
  have u3 := Tryz.underlying3
  have hS : Tryz.prog.underlying 46 = some (.struct (Tryz.prog.fieldsOf 46)) := by kernel_rfl
  have hp : Tryz.prog.stoodInHeld 46 = false := by kernel_rfl
  rw [show (9999 : Nat) = 9998 + 1 from rfl, run_equalIn_agg W 9998 46 _ _ hS hp]
  simp only [Program.fieldsOf, Tryz.underlying46]
  go_simp

set_option maxRecDepth 100000 in
theorem neq57 (x : (Int × Int)) (W : World) : (binOp .neq 57 (.agg #[.int .i64 x.1, .int .i64 x.2]) (.agg #[.int .i64 x.1, .int .i64 x.2])).run Tryz.prog W = .ok (.bool false) W := by
  have u3 := Tryz.underlying3
  have a3 := Tryz.isAgg3
  have z3 := Tryz.sizeOf3
  have hS : Tryz.prog.underlying 57 = some (.struct (Tryz.prog.fieldsOf 57)) := by kernel_rfl
  have hp : Tryz.prog.stoodInHeld 57 = false := by kernel_rfl
  rw [run_neq_struct, show (10000 : Nat) = 9999 + 1 from rfl, run_equalIn_agg W 9999 57 _ _ hS hp]
  simp only [Program.fieldsOf, Tryz.underlying57]
  go_simp

set_option maxRecDepth 100000 in
set_option maxHeartbeats 2000000 in
theorem equalIn_any (w : World) (v v' : Value) (l : List (Int × Int)) (h : SlG elIn w v l) (h' : SlG elIn w v' l) :
    Calls Tryz.prog 89 #[v, v'] w fun e w' => e = .returned (.bool true) ∧ Fr no w w' := by
  obtain ⟨ad, cp, rfl, hcap, hmx, hit⟩ := h
  obtain ⟨ad', cp', rfl, hcap', hmx', hit'⟩ := h'
  unfold maxLen at hmx
  have HI : Hid (∀ (i : Nat) (x : (Int × Int)), l[i]? = some x → ∃ b off, ad = some ⟨b, off, none⟩ ∧ ∀ (j : Nat) (u : Value), (elIn.f x)[j]? = some u → w.cell? ⟨b, off + i * elIn.n + j, none⟩ = some u) := hit
  have HI' : Hid (∀ (i : Nat) (x : (Int × Int)), l[i]? = some x → ∃ b off, ad' = some ⟨b, off, none⟩ ∧ ∀ (j : Nat) (u : Value), (elIn.f x)[j]? = some u → w.cell? ⟨b, off + i * elIn.n + j, none⟩ = some u) := hit'
  clear hit hit' hcap' hmx'
  go_enter Tryz.func89, Tryz.ntmps89
  go_wp2_with fail
  go_loopw [13] (fun i wr => ∃ (k : Nat), i = .int .i64 (k : Int) ∧ k ≤ l.length ∧ Fr no w wr) (fun i _ => l.length - (intOf i).toNat)
  case atStart => exact ⟨0, rfl, by omega, Fr.refl _ _⟩
  case round =>
    obtain ⟨k, rfl, hk, hw⟩ := hrel
    by_cases hlt : k < l.length
    · obtain ⟨x, hx⟩ : ∃ x, l[k]? = some x := ⟨_, List.getElem?_eq_getElem hlt⟩
      obtain ⟨b, off, rfl, hc0⟩ := HI.out k x hx
      obtain ⟨b', off', rfl, hc0'⟩ := HI'.out k x hx
      have hc : ∀ (j : Nat) (u : Value), (elIn.f x)[j]? = some u → w.cell? ⟨b, off + k * 2 + j, none⟩ = some u := hc0
      have hc' : ∀ (j : Nat) (u : Value), (elIn.f x)[j]? = some u → w.cell? ⟨b', off' + k * 2 + j, none⟩ = some u := hc0'
      clear hc0 hc0'
      have c0 : wr.cell? ⟨b, off + k * 2, none⟩ = some (.int .i64 x.1) := hw.cell (hc 0 _ rfl) (fun f => f)
      have c1 : wr.cell? ⟨b, off + k * 2 + 1, none⟩ = some (.int .i64 x.2) := hw.cell (hc 1 _ rfl) (fun f => f)
      have d0 : wr.cell? ⟨b', off' + k * 2, none⟩ = some (.int .i64 x.1) := hw.cell (hc' 0 _ rfl) (fun f => f)
      have d1 : wr.cell? ⟨b', off' + k * 2 + 1, none⟩ = some (.int .i64 x.2) := hw.cell (hc' 1 _ rfl) (fun f => f)
      have HW : Hid (Fr no w wr) := hw
      have hneq := neq57 x
      have KS : ∀ w2, Fr no wr w2 → Fr no wr w2 ∧ w2.cell? ⟨b, off + k * 2, none⟩ = some (.int .i64 x.1) ∧ w2.cell? ⟨b, off + k * 2 + 1, none⟩ = some (.int .i64 x.2) ∧ w2.cell? ⟨b', off' + k * 2, none⟩ = some (.int .i64 x.1) ∧ w2.cell? ⟨b', off' + k * 2 + 1, none⟩ = some (.int .i64 x.2) := fun w2 f2 => ⟨f2, f2.cell c0 (fun f => f), f2.cell c1 (fun f => f), f2.cell d0 (fun f => f), f2.cell d1 (fun f => f)⟩
      clear hx hc hc' hw
      go_wp2_with fail
      go_region_held3 (fun w2 => Fr no wr w2 ∧ w2.cell? ⟨b, off + k * 2, none⟩ = some (.int .i64 x.1) ∧ w2.cell? ⟨b, off + k * 2 + 1, none⟩ = some (.int .i64 x.2) ∧ w2.cell? ⟨b', off' + k * 2, none⟩ = some (.int .i64 x.1) ∧ w2.cell? ⟨b', off' + k * 2 + 1, none⟩ = some (.int .i64 x.2)) (exact KS _ (Fr.refl no _).drew) (fail)
      all_goals
        go_wp2_with fail
        go_roundw
        case rel => exact ⟨k + 1, by go_num, by omega, HW.out.drew⟩
        case measure => simp [intOf]; omega
    · have : k = l.length := by omega
      subst this
      go_wp2_with fail
      go_ret
      exact ⟨rfl, hw⟩

set_option maxRecDepth 100000 in
theorem neq46 (x : Ty) (W : World) : (binOp .neq 46 (.agg #[.int .i64 x.k, .string x.c]) (.agg #[.int .i64 x.k, .string x.c])).run Tryz.prog W = .ok (.bool false) W := by
  have u3 := Tryz.underlying3
  have a3 := Tryz.isAgg3
  have z3 := Tryz.sizeOf3
  have hS : Tryz.prog.underlying 46 = some (.struct (Tryz.prog.fieldsOf 46)) := by kernel_rfl
  have hp : Tryz.prog.stoodInHeld 46 = false := by kernel_rfl
  rw [run_neq_struct, show (10000 : Nat) = 9999 + 1 from rfl, run_equalIn_agg W 9999 46 _ _ hS hp]
  simp only [Program.fieldsOf, Tryz.underlying46]
  go_simp

set_option maxRecDepth 100000 in
set_option maxHeartbeats 2000000 in
theorem equalTy_any (w : World) (v v' : Value) (l : List Ty) (h : SlG elTy w v l) (h' : SlG elTy w v' l) :
    Calls Tryz.prog 88 #[v, v'] w fun e w' => e = .returned (.bool true) ∧ Fr no w w' := by
  obtain ⟨ad, cp, rfl, hcap, hmx, hit⟩ := h
  obtain ⟨ad', cp', rfl, hcap', hmx', hit'⟩ := h'
  unfold maxLen at hmx
  have HI : Hid (∀ (i : Nat) (x : Ty), l[i]? = some x → ∃ b off, ad = some ⟨b, off, none⟩ ∧ ∀ (j : Nat) (u : Value), (elTy.f x)[j]? = some u → w.cell? ⟨b, off + i * elTy.n + j, none⟩ = some u) := hit
  have HI' : Hid (∀ (i : Nat) (x : Ty), l[i]? = some x → ∃ b off, ad' = some ⟨b, off, none⟩ ∧ ∀ (j : Nat) (u : Value), (elTy.f x)[j]? = some u → w.cell? ⟨b, off + i * elTy.n + j, none⟩ = some u) := hit'
  clear hit hit' hcap' hmx'
  go_enter Tryz.func88, Tryz.ntmps88
  go_wp2_with fail
  go_loopw [13] (fun i wr => ∃ (k : Nat), i = .int .i64 (k : Int) ∧ k ≤ l.length ∧ Fr no w wr) (fun i _ => l.length - (intOf i).toNat)
  case atStart => exact ⟨0, rfl, by omega, Fr.refl _ _⟩
  case round =>
    obtain ⟨k, rfl, hk, hw⟩ := hrel
    by_cases hlt : k < l.length
    · obtain ⟨x, hx⟩ : ∃ x, l[k]? = some x := ⟨_, List.getElem?_eq_getElem hlt⟩
      obtain ⟨b, off, rfl, hc0⟩ := HI.out k x hx
      obtain ⟨b', off', rfl, hc0'⟩ := HI'.out k x hx
      have hc : ∀ (j : Nat) (u : Value), (elTy.f x)[j]? = some u → w.cell? ⟨b, off + k * 2 + j, none⟩ = some u := hc0
      have hc' : ∀ (j : Nat) (u : Value), (elTy.f x)[j]? = some u → w.cell? ⟨b', off' + k * 2 + j, none⟩ = some u := hc0'
      clear hc0 hc0'
      have c0 : wr.cell? ⟨b, off + k * 2, none⟩ = some (.int .i64 x.k) := hw.cell (hc 0 _ rfl) (fun f => f)
      have c1 : wr.cell? ⟨b, off + k * 2 + 1, none⟩ = some (.string x.c) := hw.cell (hc 1 _ rfl) (fun f => f)
      have d0 : wr.cell? ⟨b', off' + k * 2, none⟩ = some (.int .i64 x.k) := hw.cell (hc' 0 _ rfl) (fun f => f)
      have d1 : wr.cell? ⟨b', off' + k * 2 + 1, none⟩ = some (.string x.c) := hw.cell (hc' 1 _ rfl) (fun f => f)
      have HW : Hid (Fr no w wr) := hw
      have hneq := neq46 x
      have KS : ∀ w2, Fr no wr w2 → Fr no wr w2 ∧ w2.cell? ⟨b, off + k * 2, none⟩ = some (.int .i64 x.k) ∧ w2.cell? ⟨b, off + k * 2 + 1, none⟩ = some (.string x.c) ∧ w2.cell? ⟨b', off' + k * 2, none⟩ = some (.int .i64 x.k) ∧ w2.cell? ⟨b', off' + k * 2 + 1, none⟩ = some (.string x.c) := fun w2 f2 => ⟨f2, f2.cell c0 (fun f => f), f2.cell c1 (fun f => f), f2.cell d0 (fun f => f), f2.cell d1 (fun f => f)⟩
      clear hx hc hc' hw
      go_wp2_with fail
      go_region_held3 (fun w2 => Fr no wr w2 ∧ w2.cell? ⟨b, off + k * 2, none⟩ = some (.int .i64 x.k) ∧ w2.cell? ⟨b, off + k * 2 + 1, none⟩ = some (.string x.c) ∧ w2.cell? ⟨b', off' + k * 2, none⟩ = some (.int .i64 x.k) ∧ w2.cell? ⟨b', off' + k * 2 + 1, none⟩ = some (.string x.c)) (exact KS _ (Fr.refl no _).drew) (fail)
      all_goals
        go_wp2_with fail
        go_roundw
        case rel => exact ⟨k + 1, by go_num, by omega, HW.out.drew⟩
        case measure => simp [intOf]; omega
    · have : k = l.length := by omega
      subst this
      go_wp2_with fail
      go_ret
      exact ⟨rfl, hw⟩

set_option maxRecDepth 100000 in
theorem neq59 (x : Hd) (W : World) : (binOp .neq 59 (.agg #[.int .i64 x.fr, .int .i64 x.to, .int .i64 x.tg, .int .i64 x.cl, .int .i64 x.dp]) (.agg #[.int .i64 x.fr, .int .i64 x.to, .int .i64 x.tg, .int .i64 x.cl, .int .i64 x.dp])).run Tryz.prog W = .ok (.bool false) W := by
  have u3 := Tryz.underlying3
  have a3 := Tryz.isAgg3
  have z3 := Tryz.sizeOf3
  have hS : Tryz.prog.underlying 59 = some (.struct (Tryz.prog.fieldsOf 59)) := by kernel_rfl
  have hp : Tryz.prog.stoodInHeld 59 = false := by kernel_rfl
  rw [run_neq_struct, show (10000 : Nat) = 9999 + 1 from rfl, run_equalIn_agg W 9999 59 _ _ hS hp]
  simp only [Program.fieldsOf, Tryz.underlying59]
  go_simp

set_option maxRecDepth 100000 in
set_option maxHeartbeats 2000000 in
theorem equalHd_any (w : World) (v v' : Value) (l : List Hd) (h : SlG elHd w v l) (h' : SlG elHd w v' l) :
    Calls Tryz.prog 90 #[v, v'] w fun e w' => e = .returned (.bool true) ∧ Fr no w w' := by
  obtain ⟨ad, cp, rfl, hcap, hmx, hit⟩ := h
  obtain ⟨ad', cp', rfl, hcap', hmx', hit'⟩ := h'
  unfold maxLen at hmx
  have HI : Hid (∀ (i : Nat) (x : Hd), l[i]? = some x → ∃ b off, ad = some ⟨b, off, none⟩ ∧ ∀ (j : Nat) (u : Value), (elHd.f x)[j]? = some u → w.cell? ⟨b, off + i * elHd.n + j, none⟩ = some u) := hit
  have HI' : Hid (∀ (i : Nat) (x : Hd), l[i]? = some x → ∃ b off, ad' = some ⟨b, off, none⟩ ∧ ∀ (j : Nat) (u : Value), (elHd.f x)[j]? = some u → w.cell? ⟨b, off + i * elHd.n + j, none⟩ = some u) := hit'
  clear hit hit' hcap' hmx'
  go_enter Tryz.func90, Tryz.ntmps90
  go_wp2_with fail
  go_loopw [13] (fun i wr => ∃ (k : Nat), i = .int .i64 (k : Int) ∧ k ≤ l.length ∧ Fr no w wr) (fun i _ => l.length - (intOf i).toNat)
  case atStart => exact ⟨0, rfl, by omega, Fr.refl _ _⟩
  case round =>
    obtain ⟨k, rfl, hk, hw⟩ := hrel
    by_cases hlt : k < l.length
    · obtain ⟨x, hx⟩ : ∃ x, l[k]? = some x := ⟨_, List.getElem?_eq_getElem hlt⟩
      obtain ⟨b, off, rfl, hc0⟩ := HI.out k x hx
      obtain ⟨b', off', rfl, hc0'⟩ := HI'.out k x hx
      have hc : ∀ (j : Nat) (u : Value), (elHd.f x)[j]? = some u → w.cell? ⟨b, off + k * 5 + j, none⟩ = some u := hc0
      have hc' : ∀ (j : Nat) (u : Value), (elHd.f x)[j]? = some u → w.cell? ⟨b', off' + k * 5 + j, none⟩ = some u := hc0'
      clear hc0 hc0'
      have c0 : wr.cell? ⟨b, off + k * 5, none⟩ = some (.int .i64 x.fr) := hw.cell (hc 0 _ rfl) (fun f => f)
      have c1 : wr.cell? ⟨b, off + k * 5 + 1, none⟩ = some (.int .i64 x.to) := hw.cell (hc 1 _ rfl) (fun f => f)
      have c2 : wr.cell? ⟨b, off + k * 5 + 2, none⟩ = some (.int .i64 x.tg) := hw.cell (hc 2 _ rfl) (fun f => f)
      have c3 : wr.cell? ⟨b, off + k * 5 + 3, none⟩ = some (.int .i64 x.cl) := hw.cell (hc 3 _ rfl) (fun f => f)
      have c4 : wr.cell? ⟨b, off + k * 5 + 4, none⟩ = some (.int .i64 x.dp) := hw.cell (hc 4 _ rfl) (fun f => f)
      have d0 : wr.cell? ⟨b', off' + k * 5, none⟩ = some (.int .i64 x.fr) := hw.cell (hc' 0 _ rfl) (fun f => f)
      have d1 : wr.cell? ⟨b', off' + k * 5 + 1, none⟩ = some (.int .i64 x.to) := hw.cell (hc' 1 _ rfl) (fun f => f)
      have d2 : wr.cell? ⟨b', off' + k * 5 + 2, none⟩ = some (.int .i64 x.tg) := hw.cell (hc' 2 _ rfl) (fun f => f)
      have d3 : wr.cell? ⟨b', off' + k * 5 + 3, none⟩ = some (.int .i64 x.cl) := hw.cell (hc' 3 _ rfl) (fun f => f)
      have d4 : wr.cell? ⟨b', off' + k * 5 + 4, none⟩ = some (.int .i64 x.dp) := hw.cell (hc' 4 _ rfl) (fun f => f)
      have HW : Hid (Fr no w wr) := hw
      have hneq := neq59 x
      have KS : ∀ w2, Fr no wr w2 → Fr no wr w2 ∧ w2.cell? ⟨b, off + k * 5, none⟩ = some (.int .i64 x.fr) ∧ w2.cell? ⟨b, off + k * 5 + 1, none⟩ = some (.int .i64 x.to) ∧ w2.cell? ⟨b, off + k * 5 + 2, none⟩ = some (.int .i64 x.tg) ∧ w2.cell? ⟨b, off + k * 5 + 3, none⟩ = some (.int .i64 x.cl) ∧ w2.cell? ⟨b, off + k * 5 + 4, none⟩ = some (.int .i64 x.dp) ∧ w2.cell? ⟨b', off' + k * 5, none⟩ = some (.int .i64 x.fr) ∧ w2.cell? ⟨b', off' + k * 5 + 1, none⟩ = some (.int .i64 x.to) ∧ w2.cell? ⟨b', off' + k * 5 + 2, none⟩ = some (.int .i64 x.tg) ∧ w2.cell? ⟨b', off' + k * 5 + 3, none⟩ = some (.int .i64 x.cl) ∧ w2.cell? ⟨b', off' + k * 5 + 4, none⟩ = some (.int .i64 x.dp) := fun w2 f2 => ⟨f2, f2.cell c0 (fun f => f), f2.cell c1 (fun f => f), f2.cell c2 (fun f => f), f2.cell c3 (fun f => f), f2.cell c4 (fun f => f), f2.cell d0 (fun f => f), f2.cell d1 (fun f => f), f2.cell d2 (fun f => f), f2.cell d3 (fun f => f), f2.cell d4 (fun f => f)⟩
      clear hx hc hc' hw
      go_wp2_with fail
      go_region_held3 (fun w2 => Fr no wr w2 ∧ w2.cell? ⟨b, off + k * 5, none⟩ = some (.int .i64 x.fr) ∧ w2.cell? ⟨b, off + k * 5 + 1, none⟩ = some (.int .i64 x.to) ∧ w2.cell? ⟨b, off + k * 5 + 2, none⟩ = some (.int .i64 x.tg) ∧ w2.cell? ⟨b, off + k * 5 + 3, none⟩ = some (.int .i64 x.cl) ∧ w2.cell? ⟨b, off + k * 5 + 4, none⟩ = some (.int .i64 x.dp) ∧ w2.cell? ⟨b', off' + k * 5, none⟩ = some (.int .i64 x.fr) ∧ w2.cell? ⟨b', off' + k * 5 + 1, none⟩ = some (.int .i64 x.to) ∧ w2.cell? ⟨b', off' + k * 5 + 2, none⟩ = some (.int .i64 x.tg) ∧ w2.cell? ⟨b', off' + k * 5 + 3, none⟩ = some (.int .i64 x.cl) ∧ w2.cell? ⟨b', off' + k * 5 + 4, none⟩ = some (.int .i64 x.dp)) (exact KS _ (Fr.refl no _).drew) (fail)
      all_goals
        go_wp2_with fail
        go_roundw
        case rel => exact ⟨k + 1, by go_num, by omega, HW.out.drew⟩
        case measure => simp [intOf]; omega
    · have : k = l.length := by omega
      subst this
      go_wp2_with fail
      go_ret
      exact ⟨rfl, hw⟩

set_option maxRecDepth 100000 in
theorem neq48 (x : Fd) (W : World) : (binOp .neq 48 (.agg #[.string x.name, .int .i64 x.ty.k, .string x.ty.c, .bool x.vol]) (.agg #[.string x.name, .int .i64 x.ty.k, .string x.ty.c, .bool x.vol])).run Tryz.prog W = .ok (.bool false) W := by
  have u3 := Tryz.underlying3
  have a3 := Tryz.isAgg3
  have z3 := Tryz.sizeOf3
  have hS : Tryz.prog.underlying 48 = some (.struct (Tryz.prog.fieldsOf 48)) := by kernel_rfl
  have hp : Tryz.prog.stoodInHeld 48 = false := by kernel_rfl
  have e46 := equal46 x.ty.k x.ty.c W
  rw [run_neq_struct, show (10000 : Nat) = 9999 + 1 from rfl, run_equalIn_agg W 9999 48 _ _ hS hp]
  simp only [Program.fieldsOf, Tryz.underlying48]
  go_simp

set_option maxRecDepth 100000 in
set_option maxHeartbeats 2000000 in
theorem equalFd_any (w : World) (v v' : Value) (l : List Fd) (h : SlG elFd w v l) (h' : SlG elFd w v' l) :
    Calls Tryz.prog 35 #[v, v'] w fun e w' => e = .returned (.bool true) ∧ Fr no w w' := by
  obtain ⟨ad, cp, rfl, hcap, hmx, hit⟩ := h
  obtain ⟨ad', cp', rfl, hcap', hmx', hit'⟩ := h'
  unfold maxLen at hmx
  have HI : Hid (∀ (i : Nat) (x : Fd), l[i]? = some x → ∃ b off, ad = some ⟨b, off, none⟩ ∧ ∀ (j : Nat) (u : Value), (elFd.f x)[j]? = some u → w.cell? ⟨b, off + i * elFd.n + j, none⟩ = some u) := hit
  have HI' : Hid (∀ (i : Nat) (x : Fd), l[i]? = some x → ∃ b off, ad' = some ⟨b, off, none⟩ ∧ ∀ (j : Nat) (u : Value), (elFd.f x)[j]? = some u → w.cell? ⟨b, off + i * elFd.n + j, none⟩ = some u) := hit'
  clear hit hit' hcap' hmx'
  go_enter Tryz.func35, Tryz.ntmps35
  go_wp2_with fail
  go_loopw [13] (fun i wr => ∃ (k : Nat), i = .int .i64 (k : Int) ∧ k ≤ l.length ∧ Fr no w wr) (fun i _ => l.length - (intOf i).toNat)
  case atStart => exact ⟨0, rfl, by omega, Fr.refl _ _⟩
  case round =>
    obtain ⟨k, rfl, hk, hw⟩ := hrel
    by_cases hlt : k < l.length
    · obtain ⟨x, hx⟩ : ∃ x, l[k]? = some x := ⟨_, List.getElem?_eq_getElem hlt⟩
      obtain ⟨b, off, rfl, hc0⟩ := HI.out k x hx
      obtain ⟨b', off', rfl, hc0'⟩ := HI'.out k x hx
      have hc : ∀ (j : Nat) (u : Value), (elFd.f x)[j]? = some u → w.cell? ⟨b, off + k * 4 + j, none⟩ = some u := hc0
      have hc' : ∀ (j : Nat) (u : Value), (elFd.f x)[j]? = some u → w.cell? ⟨b', off' + k * 4 + j, none⟩ = some u := hc0'
      clear hc0 hc0'
      have c0 : wr.cell? ⟨b, off + k * 4, none⟩ = some (.string x.name) := hw.cell (hc 0 _ rfl) (fun f => f)
      have c1 : wr.cell? ⟨b, off + k * 4 + 1, none⟩ = some (.int .i64 x.ty.k) := hw.cell (hc 1 _ rfl) (fun f => f)
      have c2 : wr.cell? ⟨b, off + k * 4 + 2, none⟩ = some (.string x.ty.c) := hw.cell (hc 2 _ rfl) (fun f => f)
      have c3 : wr.cell? ⟨b, off + k * 4 + 3, none⟩ = some (.bool x.vol) := hw.cell (hc 3 _ rfl) (fun f => f)
      have d0 : wr.cell? ⟨b', off' + k * 4, none⟩ = some (.string x.name) := hw.cell (hc' 0 _ rfl) (fun f => f)
      have d1 : wr.cell? ⟨b', off' + k * 4 + 1, none⟩ = some (.int .i64 x.ty.k) := hw.cell (hc' 1 _ rfl) (fun f => f)
      have d2 : wr.cell? ⟨b', off' + k * 4 + 2, none⟩ = some (.string x.ty.c) := hw.cell (hc' 2 _ rfl) (fun f => f)
      have d3 : wr.cell? ⟨b', off' + k * 4 + 3, none⟩ = some (.bool x.vol) := hw.cell (hc' 3 _ rfl) (fun f => f)
      have HW : Hid (Fr no w wr) := hw
      have hneq := neq48 x
      have KS : ∀ w2, Fr no wr w2 → Fr no wr w2 ∧ w2.cell? ⟨b, off + k * 4, none⟩ = some (.string x.name) ∧ w2.cell? ⟨b, off + k * 4 + 1, none⟩ = some (.int .i64 x.ty.k) ∧ w2.cell? ⟨b, off + k * 4 + 2, none⟩ = some (.string x.ty.c) ∧ w2.cell? ⟨b, off + k * 4 + 3, none⟩ = some (.bool x.vol) ∧ w2.cell? ⟨b', off' + k * 4, none⟩ = some (.string x.name) ∧ w2.cell? ⟨b', off' + k * 4 + 1, none⟩ = some (.int .i64 x.ty.k) ∧ w2.cell? ⟨b', off' + k * 4 + 2, none⟩ = some (.string x.ty.c) ∧ w2.cell? ⟨b', off' + k * 4 + 3, none⟩ = some (.bool x.vol) := fun w2 f2 => ⟨f2, f2.cell c0 (fun f => f), f2.cell c1 (fun f => f), f2.cell c2 (fun f => f), f2.cell c3 (fun f => f), f2.cell d0 (fun f => f), f2.cell d1 (fun f => f), f2.cell d2 (fun f => f), f2.cell d3 (fun f => f)⟩
      clear hx hc hc' hw
      go_wp2_with fail
      go_region_held3 (fun w2 => Fr no wr w2 ∧ w2.cell? ⟨b, off + k * 4, none⟩ = some (.string x.name) ∧ w2.cell? ⟨b, off + k * 4 + 1, none⟩ = some (.int .i64 x.ty.k) ∧ w2.cell? ⟨b, off + k * 4 + 2, none⟩ = some (.string x.ty.c) ∧ w2.cell? ⟨b, off + k * 4 + 3, none⟩ = some (.bool x.vol) ∧ w2.cell? ⟨b', off' + k * 4, none⟩ = some (.string x.name) ∧ w2.cell? ⟨b', off' + k * 4 + 1, none⟩ = some (.int .i64 x.ty.k) ∧ w2.cell? ⟨b', off' + k * 4 + 2, none⟩ = some (.string x.ty.c) ∧ w2.cell? ⟨b', off' + k * 4 + 3, none⟩ = some (.bool x.vol)) (exact KS _ (Fr.refl no _).drew) (fail)
      all_goals
        go_wp2_with fail
        go_roundw
        case rel => exact ⟨k + 1, by go_num, by omega, HW.out.drew⟩
        case measure => simp [intOf]; omega
    · have : k = l.length := by omega
      subst this
      go_wp2_with fail
      go_ret
      exact ⟨rfl, hw⟩
end Go.Proofs.YthncdbobjeeeaaaGreatDoor

/- Classes that hold the same are told so. -/
namespace Go.Proofs.YthncdbobjeeeaaaGreatDoor
open Go.ChangeShapes Go.WideShapes Go.ChangeAt Go.RowKit

set_option maxRecDepth 100000 in
set_option maxHeartbeats 1000000 in
theorem sameConst_any (w : World) (x : Cs) : Calls Tryz.prog 34 #[.agg #[.int .i64 x.k, .int .i64 x.n, .complex .f64 x.re x.im, .string x.c, .string x.m], .agg #[.int .i64 x.k, .int .i64 x.n, .complex .f64 x.re x.im, .string x.c, .string x.m]] w fun e w' => e = .returned (.bool true) ∧ Fr no w w' := by
  have f1 : Fr no w (w.alloc (.cells #[.int .i64 x.k, .int .i64 x.n, .complex .f64 x.re x.im, .string x.c, .string x.m] 39)) := (Fr.refl no w).alloc _ _
  have b1 := heap_alloc_new w (.cells #[.int .i64 x.k, .int .i64 x.n, .complex .f64 x.re x.im, .string x.c, .string x.m] 39)
  have s1 := size_alloc w (.cells #[.int .i64 x.k, .int .i64 x.n, .complex .f64 x.re x.im, .string x.c, .string x.m] 39)
  generalize hW : w.alloc (.cells #[.int .i64 x.k, .int .i64 x.n, .complex .f64 x.re x.im, .string x.c, .string x.m] 39) = W at *
  have f2 : Fr no W (W.alloc (.cells #[.int .i64 x.k, .int .i64 x.n, .complex .f64 x.re x.im, .string x.c, .string x.m] 39)) := (Fr.refl no W).alloc _ _
  have b2 := heap_alloc_new W (.cells #[.int .i64 x.k, .int .i64 x.n, .complex .f64 x.re x.im, .string x.c, .string x.m] 39)
  have b1' := f2.heap b1 (fun f => f)
  rw [s1] at b2
  have f12 := f1.new f2 (fun _ _ f => f)
  generalize hV : W.alloc (.cells #[.int .i64 x.k, .int .i64 x.n, .complex .f64 x.re x.im, .string x.c, .string x.m] 39) = V at *
  obtain ⟨⟨c0, c1, c2, c3, c4⟩, _⟩ := cells5z b1'
  obtain ⟨⟨d0, d1, d2, d3, d4⟩, _⟩ := cells5z b2
  have B := fun w => sameBits_any w x.re x.im x.re x.im
  clear f1 f2 b1 b1' b2
  go_enter Tryz.func34, Tryz.ntmps34
  go_wp2_with fail
  refine (B _).mono ?_
  rintro e w1 ⟨rfl, rfl⟩
  go_wp2_with fail
  go_ret
  exact ⟨rfl, f12⟩

set_option maxRecDepth 100000 in
theorem eql46 (k : Int) (c : ByteArray) (W : World) : (binOp .eql 46 (.agg #[.int .i64 k, .string c]) (.agg #[.int .i64 k, .string c])).run Tryz.prog W = .ok (.bool true) W := by
  have u3 := Tryz.underlying3
  have hS : Tryz.prog.underlying 46 = some (.struct (Tryz.prog.fieldsOf 46)) := by kernel_rfl
  have hp : Tryz.prog.stoodInHeld 46 = false := by kernel_rfl
  rw [run_eql_struct, show (10000 : Nat) = 9999 + 1 from rfl, run_equalIn_agg W 9999 46 _ _ hS hp]
  simp only [Program.fieldsOf, Tryz.underlying46]
  go_simp

set_option maxRecDepth 100000 in
set_option maxHeartbeats 2000000 in
theorem sameMethod_any (w : World) (x y : Ms) (m : Mt) (hx : MtAt w x m) (hy : MtAt w y m) : Calls Tryz.prog 37 #[.agg #[.string x.name, .slice x.p.a x.p.n x.p.c, .int .i64 x.ret.k, .string x.ret.c, .int .i64 x.lo, .int .i64 x.st, .slice x.c.a x.c.n x.c.c, .slice x.h.a x.h.n x.h.c], .agg #[.string y.name, .slice y.p.a y.p.n y.p.c, .int .i64 y.ret.k, .string y.ret.c, .int .i64 y.lo, .int .i64 y.st, .slice y.c.a y.c.n y.c.c, .slice y.h.a y.h.n y.h.c]] w fun e w' => e = .returned (.bool true) ∧ Fr no w w' := by
  obtain ⟨n, p, ret, lo, st, c, h⟩ := x
  obtain ⟨n', p', ret', lo', st', c', h'⟩ := y
  obtain ⟨rfl, rfl, rfl, rfl, xp, xc, xh⟩ := hx
  obtain ⟨e1, e2, e3, e4, yp, yc, yh⟩ := hy
  simp only [] at e1 e2 e3 e4 xp xc xh yp yc yh ⊢
  subst e1 e2 e3 e4
  have f1 : Fr no w (w.alloc (.cells #[.string m.name, .slice p.a p.n p.c, .int .i64 m.ret.k, .string m.ret.c, .int .i64 m.lo, .int .i64 m.st, .slice c.a c.n c.c, .slice h.a h.n h.c] 53)) := (Fr.refl no w).alloc _ _
  have b1 := heap_alloc_new w (.cells #[.string m.name, .slice p.a p.n p.c, .int .i64 m.ret.k, .string m.ret.c, .int .i64 m.lo, .int .i64 m.st, .slice c.a c.n c.c, .slice h.a h.n h.c] 53)
  have s1 := size_alloc w (.cells #[.string m.name, .slice p.a p.n p.c, .int .i64 m.ret.k, .string m.ret.c, .int .i64 m.lo, .int .i64 m.st, .slice c.a c.n c.c, .slice h.a h.n h.c] 53)
  generalize hW : w.alloc (.cells #[.string m.name, .slice p.a p.n p.c, .int .i64 m.ret.k, .string m.ret.c, .int .i64 m.lo, .int .i64 m.st, .slice c.a c.n c.c, .slice h.a h.n h.c] 53) = W at *
  have f2 : Fr no W (W.alloc (.cells #[.string m.name, .slice p'.a p'.n p'.c, .int .i64 m.ret.k, .string m.ret.c, .int .i64 m.lo, .int .i64 m.st, .slice c'.a c'.n c'.c, .slice h'.a h'.n h'.c] 53)) := (Fr.refl no W).alloc _ _
  have b2 := heap_alloc_new W (.cells #[.string m.name, .slice p'.a p'.n p'.c, .int .i64 m.ret.k, .string m.ret.c, .int .i64 m.lo, .int .i64 m.st, .slice c'.a c'.n c'.c, .slice h'.a h'.n h'.c] 53)
  have b1' := f2.heap b1 (fun f => f)
  rw [s1] at b2
  have f12 := f1.new f2 (fun _ _ f => f)
  generalize hV : W.alloc (.cells #[.string m.name, .slice p'.a p'.n p'.c, .int .i64 m.ret.k, .string m.ret.c, .int .i64 m.lo, .int .i64 m.st, .slice c'.a c'.n c'.c, .slice h'.a h'.n h'.c] 53) = V at *
  have HB : Hid (∀ w1, Fr no V w1 → w1.heap[w.heap.size]? = some (.cells #[.string m.name, .slice p.a p.n p.c, .int .i64 m.ret.k, .string m.ret.c, .int .i64 m.lo, .int .i64 m.st, .slice c.a c.n c.c, .slice h.a h.n h.c] 53 (0, 0)) ∧ w1.heap[w.heap.size + 1]? = some (.cells #[.string m.name, .slice p'.a p'.n p'.c, .int .i64 m.ret.k, .string m.ret.c, .int .i64 m.lo, .int .i64 m.st, .slice c'.a c'.n c'.c, .slice h'.a h'.n h'.c] 53 (0, 0))) := fun w1 g => ⟨g.heap b1' (fun f => f), g.heap b2 (fun f => f)⟩
  have E1 : Hid (∀ w1, Fr no V w1 → Calls Tryz.prog 88 #[.slice p.a p.n p.c, .slice p'.a p'.n p'.c] w1 fun e w' => e = .returned (.bool true) ∧ Fr no w1 w') := fun w1 g => equalTy_any w1 _ _ m.params (xp.kept (f12.new g (fun _ _ f => f))) (yp.kept (f12.new g (fun _ _ f => f)))
  have E2 : Hid (∀ w1, Fr no V w1 → Calls Tryz.prog 89 #[.slice c.a c.n c.c, .slice c'.a c'.n c'.c] w1 fun e w' => e = .returned (.bool true) ∧ Fr no w1 w') := fun w1 g => equalIn_any w1 _ _ m.code (xc.kept (f12.new g (fun _ _ f => f))).g (yc.kept (f12.new g (fun _ _ f => f))).g
  have E3 : Hid (∀ w1, Fr no V w1 → Calls Tryz.prog 90 #[.slice h.a h.n h.c, .slice h'.a h'.n h'.c] w1 fun e w' => e = .returned (.bool true) ∧ Fr no w1 w') := fun w1 g => equalHd_any w1 _ _ m.hands (xh.kept (f12.new g (fun _ _ f => f))) (yh.kept (f12.new g (fun _ _ f => f)))
  have HF : Hid (Fr no w V) := f12
  have heq := eql46 m.ret.k m.ret.c
  obtain ⟨k1, k2⟩ := HB.out V (Fr.refl no V)
  obtain ⟨⟨c0, c1, c2, c3, c4, c5, c6, c7⟩, _⟩ := cells8z k1
  obtain ⟨⟨d0, d1, d2, d3, d4, d5, d6, d7⟩, _⟩ := cells8z k2
  clear k1 k2
  clear f1 f2 b1 b1' b2 f12 xp xc xh yp yc yh
  go_enter Tryz.func37, Tryz.ntmps37
  go_wp2_with fail
  refine (E1.out V (Fr.refl no V)).mono ?_
  rintro e w1 ⟨rfl, g1⟩
  clear c0 c1 c2 c3 c4 c5 c6 c7 d0 d1 d2 d3 d4 d5 d6 d7
  obtain ⟨k1, k2⟩ := HB.out w1 g1
  obtain ⟨⟨c0, c1, c2, c3, c4, c5, c6, c7⟩, _⟩ := cells8z k1
  obtain ⟨⟨d0, d1, d2, d3, d4, d5, d6, d7⟩, _⟩ := cells8z k2
  clear k1 k2
  go_wp2_with fail
  refine (E2.out w1 g1).mono ?_
  rintro e w2 ⟨rfl, g2⟩
  clear c0 c1 c2 c3 c4 c5 c6 c7 d0 d1 d2 d3 d4 d5 d6 d7
  have g2' := g1.new g2 (fun _ _ f => f)
  obtain ⟨k1, k2⟩ := HB.out w2 g2'
  obtain ⟨⟨c0, c1, c2, c3, c4, c5, c6, c7⟩, _⟩ := cells8z k1
  obtain ⟨⟨d0, d1, d2, d3, d4, d5, d6, d7⟩, _⟩ := cells8z k2
  clear k1 k2
  go_wp2_with fail
  refine (E3.out w2 g2').mono ?_
  rintro e w3 ⟨rfl, g3⟩
  go_wp2_with fail
  go_ret
  exact ⟨rfl, HF.out.new (g2'.new g3 (fun _ _ f => f)) (fun _ _ f => f)⟩
end Go.Proofs.YthncdbobjeeeaaaGreatDoor

/- Classes that hold the same are told so: lists of constants, of methods; the whole. -/
namespace Go.Proofs.YthncdbobjeeeaaaGreatDoor
open Go.ChangeShapes Go.WideShapes Go.ChangeAt Go.RowKit

set_option maxRecDepth 100000 in
set_option maxHeartbeats 4000000 in
theorem equalCs_any (w : World) (v v' : Value) (l : List Cs) (h : SlG elCs w v l) (h' : SlG elCs w v' l) :
    Calls Tryz.prog 33 #[v, v', .func (.func 34) #[] #[]] w fun e w' => e = .returned (.bool true) ∧ Fr no w w' := by
  have hstc := run_store_cx
  obtain ⟨ad, cp, rfl, hcap, hmx, hit⟩ := h
  obtain ⟨ad', cp', rfl, hcap', hmx', hit'⟩ := h'
  unfold maxLen at hmx
  have HI : Hid (∀ (i : Nat) (x : Cs), l[i]? = some x → ∃ b off, ad = some ⟨b, off, none⟩ ∧ ∀ (j : Nat) (u : Value), (elCs.f x)[j]? = some u → w.cell? ⟨b, off + i * elCs.n + j, none⟩ = some u) := hit
  have HI' : Hid (∀ (i : Nat) (x : Cs), l[i]? = some x → ∃ b off, ad' = some ⟨b, off, none⟩ ∧ ∀ (j : Nat) (u : Value), (elCs.f x)[j]? = some u → w.cell? ⟨b, off + i * elCs.n + j, none⟩ = some u) := hit'
  clear hit hit' hcap' hmx'
  go_enter Tryz.func33, Tryz.ntmps33
  go_wp2_with fail
  go_loopw [17] (fun i wr => ∃ (k : Nat), i = .int .i64 (k : Int) ∧ k ≤ l.length ∧ Fr no w wr) (fun i _ => l.length - (intOf i).toNat)
  case atStart => exact ⟨0, rfl, by omega, Fr.refl _ _⟩
  case round =>
    obtain ⟨k, rfl, hk, hw⟩ := hrel
    by_cases hlt : k < l.length
    · obtain ⟨x, hx⟩ : ∃ x, l[k]? = some x := ⟨_, List.getElem?_eq_getElem hlt⟩
      have hy := hx
      obtain ⟨b, off, rfl, hc0⟩ := HI.out k x hx
      obtain ⟨b', off', rfl, hc0'⟩ := HI'.out k x hy
      have hc : ∀ (j : Nat) (u : Value), (elCs.f x)[j]? = some u → w.cell? ⟨b, off + k * 5 + j, none⟩ = some u := hc0
      have hc' : ∀ (j : Nat) (u : Value), (elCs.f x)[j]? = some u → w.cell? ⟨b', off' + k * 5 + j, none⟩ = some u := hc0'
      clear hc0 hc0'
      have f1 : Fr no wr (wr.alloc (.cells #[.int .i64 0, .int .i64 0, .complex .f64 0 0, .string ⟨#[]⟩, .string ⟨#[]⟩] 39)) := (Fr.refl no wr).alloc _ _
      have b1 := heap_alloc_new wr (.cells #[.int .i64 0, .int .i64 0, .complex .f64 0 0, .string ⟨#[]⟩, .string ⟨#[]⟩] 39)
      have s1 := size_alloc wr (.cells #[.int .i64 0, .int .i64 0, .complex .f64 0 0, .string ⟨#[]⟩, .string ⟨#[]⟩] 39)
      generalize hW1 : wr.alloc (.cells #[.int .i64 0, .int .i64 0, .complex .f64 0 0, .string ⟨#[]⟩, .string ⟨#[]⟩] 39) = W1 at *
      have b1v : (World.setCell (World.setCell (World.setCell (World.setCell (World.setCell W1 ⟨wr.heap.size, 0, none⟩ (.int .i64 x.k)) ⟨wr.heap.size, 1, none⟩ (.int .i64 x.n)) ⟨wr.heap.size, 2, none⟩ (.complex .f64 x.re x.im)) ⟨wr.heap.size, 3, none⟩ (.string x.c)) ⟨wr.heap.size, 4, none⟩ (.string x.m)).heap[wr.heap.size]? = some (.cells #[.int .i64 x.k, .int .i64 x.n, .complex .f64 x.re x.im, .string x.c, .string x.m] 39 (0, 0)) := set_chain5 b1
      have f1v : Fr (fun k => k = wr.heap.size) W1 (World.setCell (World.setCell (World.setCell (World.setCell (World.setCell W1 ⟨wr.heap.size, 0, none⟩ (.int .i64 x.k)) ⟨wr.heap.size, 1, none⟩ (.int .i64 x.n)) ⟨wr.heap.size, 2, none⟩ (.complex .f64 x.re x.im)) ⟨wr.heap.size, 3, none⟩ (.string x.c)) ⟨wr.heap.size, 4, none⟩ (.string x.m)) := fr_chain5 W1 wr.heap.size (.int .i64 x.k) (.int .i64 x.n) (.complex .f64 x.re x.im) (.string x.c) (.string x.m)
      generalize hV1 : (World.setCell (World.setCell (World.setCell (World.setCell (World.setCell W1 ⟨wr.heap.size, 0, none⟩ (.int .i64 x.k)) ⟨wr.heap.size, 1, none⟩ (.int .i64 x.n)) ⟨wr.heap.size, 2, none⟩ (.complex .f64 x.re x.im)) ⟨wr.heap.size, 3, none⟩ (.string x.c)) ⟨wr.heap.size, 4, none⟩ (.string x.m)) = V1 at *
      have f1' : Fr no wr V1 := f1.trans f1v (fun _ _ f => f) (fun i hi e => by omega)
      have hsz1 : V1.heap.size = wr.heap.size + 1 := by rw [← s1, ← hV1]; simp
      have f2 : Fr no V1 (V1.alloc (.cells #[.int .i64 0, .int .i64 0, .complex .f64 0 0, .string ⟨#[]⟩, .string ⟨#[]⟩] 39)) := (Fr.refl no V1).alloc _ _
      have b2 := heap_alloc_new V1 (.cells #[.int .i64 0, .int .i64 0, .complex .f64 0 0, .string ⟨#[]⟩, .string ⟨#[]⟩] 39)
      have s2 := size_alloc V1 (.cells #[.int .i64 0, .int .i64 0, .complex .f64 0 0, .string ⟨#[]⟩, .string ⟨#[]⟩] 39)
      have b12 := f2.heap b1v (fun f => f)
      rw [hsz1] at b2 s2
      generalize hW2 : V1.alloc (.cells #[.int .i64 0, .int .i64 0, .complex .f64 0 0, .string ⟨#[]⟩, .string ⟨#[]⟩] 39) = W2 at *
      have b2v : (World.setCell (World.setCell (World.setCell (World.setCell (World.setCell W2 ⟨wr.heap.size + 1, 0, none⟩ (.int .i64 x.k)) ⟨wr.heap.size + 1, 1, none⟩ (.int .i64 x.n)) ⟨wr.heap.size + 1, 2, none⟩ (.complex .f64 x.re x.im)) ⟨wr.heap.size + 1, 3, none⟩ (.string x.c)) ⟨wr.heap.size + 1, 4, none⟩ (.string x.m)).heap[wr.heap.size + 1]? = some (.cells #[.int .i64 x.k, .int .i64 x.n, .complex .f64 x.re x.im, .string x.c, .string x.m] 39 (0, 0)) := set_chain5 b2
      have f2v : Fr (fun k => k = wr.heap.size + 1) W2 (World.setCell (World.setCell (World.setCell (World.setCell (World.setCell W2 ⟨wr.heap.size + 1, 0, none⟩ (.int .i64 x.k)) ⟨wr.heap.size + 1, 1, none⟩ (.int .i64 x.n)) ⟨wr.heap.size + 1, 2, none⟩ (.complex .f64 x.re x.im)) ⟨wr.heap.size + 1, 3, none⟩ (.string x.c)) ⟨wr.heap.size + 1, 4, none⟩ (.string x.m)) := fr_chain5 W2 (wr.heap.size + 1) (.int .i64 x.k) (.int .i64 x.n) (.complex .f64 x.re x.im) (.string x.c) (.string x.m)
      have b12v := f2v.heap b12 (fun e => by omega)
      generalize hV2 : (World.setCell (World.setCell (World.setCell (World.setCell (World.setCell W2 ⟨wr.heap.size + 1, 0, none⟩ (.int .i64 x.k)) ⟨wr.heap.size + 1, 1, none⟩ (.int .i64 x.n)) ⟨wr.heap.size + 1, 2, none⟩ (.complex .f64 x.re x.im)) ⟨wr.heap.size + 1, 3, none⟩ (.string x.c)) ⟨wr.heap.size + 1, 4, none⟩ (.string x.m)) = V2 at *
      have f2' : Fr no V1 V2 := f2.trans f2v (fun _ _ f => f) (fun i hi e => by omega)
      have fV := f1'.new f2' (fun _ _ f => f)
      have c0 : wr.cell? ⟨b, off + k * 5, none⟩ = some (.int .i64 x.k) := hw.cell (hc 0 _ rfl) (fun f => f)
      have c1 : wr.cell? ⟨b, off + k * 5 + 1, none⟩ = some (.int .i64 x.n) := hw.cell (hc 1 _ rfl) (fun f => f)
      have c2 : wr.cell? ⟨b, off + k * 5 + 2, none⟩ = some (.complex .f64 x.re x.im) := hw.cell (hc 2 _ rfl) (fun f => f)
      have c3 : wr.cell? ⟨b, off + k * 5 + 3, none⟩ = some (.string x.c) := hw.cell (hc 3 _ rfl) (fun f => f)
      have c4 : wr.cell? ⟨b, off + k * 5 + 4, none⟩ = some (.string x.m) := hw.cell (hc 4 _ rfl) (fun f => f)
      have d0 : V1.cell? ⟨b', off' + k * 5, none⟩ = some (.int .i64 x.k) := f1'.cell (hw.cell (hc' 0 _ rfl) (fun f => f)) (fun f => f)
      have d1 : V1.cell? ⟨b', off' + k * 5 + 1, none⟩ = some (.int .i64 x.n) := f1'.cell (hw.cell (hc' 1 _ rfl) (fun f => f)) (fun f => f)
      have d2 : V1.cell? ⟨b', off' + k * 5 + 2, none⟩ = some (.complex .f64 x.re x.im) := f1'.cell (hw.cell (hc' 2 _ rfl) (fun f => f)) (fun f => f)
      have d3 : V1.cell? ⟨b', off' + k * 5 + 3, none⟩ = some (.string x.c) := f1'.cell (hw.cell (hc' 3 _ rfl) (fun f => f)) (fun f => f)
      have d4 : V1.cell? ⟨b', off' + k * 5 + 4, none⟩ = some (.string x.m) := f1'.cell (hw.cell (hc' 4 _ rfl) (fun f => f)) (fun f => f)
      have HW : Hid (Fr no w V2) := hw.new fV (fun _ _ f => f)
      have S := sameConst_any V2 x
      obtain ⟨⟨g0, g1, g2, g3, g4⟩, gz0, gz1, gz2, gz3, gz4⟩ := cells5z b1
      obtain ⟨⟨i0, i1, i2, i3, i4⟩, iz0, iz1, iz2, iz3, iz4⟩ := cells5z b2
      obtain ⟨⟨p0, p1, p2, p3, p4⟩, _⟩ := cells5z b12v
      obtain ⟨⟨q0, q1, q2, q3, q4⟩, _⟩ := cells5z b2v
      clear hx hy hc hc' hw fV f1 f1' f1v f2 f2' f2v b1 b1v b2 b2v b12 b12v
      go_wp2_with fail
      refine S.mono ?_
      rintro e w3 ⟨rfl, f3⟩
      go_wp2_with fail
      go_roundw
      case rel => exact ⟨k + 1, by go_num, by omega, HW.out.new f3 (fun _ _ f => f)⟩
      case measure => simp [intOf]; omega
    · have : k = l.length := by omega
      subst this
      go_wp2_with fail
      go_ret
      exact ⟨rfl, hw⟩

set_option maxRecDepth 100000 in
set_option maxHeartbeats 4000000 in
theorem equalMs_any (w : World) (v v' : Value) (l : List Mt) (ls ls' : List Ms) (h : SlG elMs w v ls) (ha : AtAll w ls l) (h' : SlG elMs w v' ls') (ha' : AtAll w ls' l) :
    Calls Tryz.prog 36 #[v, v', .func (.func 37) #[] #[]] w fun e w' => e = .returned (.bool true) ∧ Fr no w w' := by
  have hstc := run_store_cx
  obtain ⟨ad, cp, rfl, hcap, hmx, hit⟩ := h
  obtain ⟨ad', cp', rfl, hcap', hmx', hit'⟩ := h'
  unfold maxLen at hmx
  have HI : Hid (∀ (i : Nat) (x : Ms), ls[i]? = some x → ∃ b off, ad = some ⟨b, off, none⟩ ∧ ∀ (j : Nat) (u : Value), (elMs.f x)[j]? = some u → w.cell? ⟨b, off + i * elMs.n + j, none⟩ = some u) := hit
  have HI' : Hid (∀ (i : Nat) (x : Ms), ls'[i]? = some x → ∃ b off, ad' = some ⟨b, off, none⟩ ∧ ∀ (j : Nat) (u : Value), (elMs.f x)[j]? = some u → w.cell? ⟨b, off + i * elMs.n + j, none⟩ = some u) := hit'
  have hle : ls'.length = ls.length := ha'.1.trans ha.1.symm
  have HA : Hid (AtAll w ls l ∧ AtAll w ls' l) := ⟨ha, ha'⟩
  rw [hle]
  clear ha ha' hle
  clear hit hit' hcap' hmx'
  go_enter Tryz.func36, Tryz.ntmps36
  go_wp2_with fail
  go_loopw [17] (fun i wr => ∃ (k : Nat), i = .int .i64 (k : Int) ∧ k ≤ ls.length ∧ Fr no w wr) (fun i _ => ls.length - (intOf i).toNat)
  case atStart => exact ⟨0, rfl, by omega, Fr.refl _ _⟩
  case round =>
    obtain ⟨k, rfl, hk, hw⟩ := hrel
    by_cases hlt : k < ls.length
    · obtain ⟨x, hx⟩ : ∃ x, ls[k]? = some x := ⟨_, List.getElem?_eq_getElem hlt⟩
      obtain ⟨y, hy⟩ : ∃ y, ls'[k]? = some y := ⟨_, List.getElem?_eq_getElem (by have := HA.out.1.1; have := HA.out.2.1; omega)⟩
      obtain ⟨m, hm⟩ : ∃ m, l[k]? = some m := ⟨_, List.getElem?_eq_getElem (by have := HA.out.1.1; omega)⟩
      obtain ⟨b, off, rfl, hc0⟩ := HI.out k x hx
      obtain ⟨b', off', rfl, hc0'⟩ := HI'.out k y hy
      have hc : ∀ (j : Nat) (u : Value), (elMs.f x)[j]? = some u → w.cell? ⟨b, off + k * 8 + j, none⟩ = some u := hc0
      have hc' : ∀ (j : Nat) (u : Value), (elMs.f y)[j]? = some u → w.cell? ⟨b', off' + k * 8 + j, none⟩ = some u := hc0'
      clear hc0 hc0'
      have f1 : Fr no wr (wr.alloc (.cells #[.string ⟨#[]⟩, .slice none 0 0, .int .i64 0, .string ⟨#[]⟩, .int .i64 0, .int .i64 0, .slice none 0 0, .slice none 0 0] 53)) := (Fr.refl no wr).alloc _ _
      have b1 := heap_alloc_new wr (.cells #[.string ⟨#[]⟩, .slice none 0 0, .int .i64 0, .string ⟨#[]⟩, .int .i64 0, .int .i64 0, .slice none 0 0, .slice none 0 0] 53)
      have s1 := size_alloc wr (.cells #[.string ⟨#[]⟩, .slice none 0 0, .int .i64 0, .string ⟨#[]⟩, .int .i64 0, .int .i64 0, .slice none 0 0, .slice none 0 0] 53)
      generalize hW1 : wr.alloc (.cells #[.string ⟨#[]⟩, .slice none 0 0, .int .i64 0, .string ⟨#[]⟩, .int .i64 0, .int .i64 0, .slice none 0 0, .slice none 0 0] 53) = W1 at *
      have b1v : (World.setCell (World.setCell (World.setCell (World.setCell (World.setCell (World.setCell (World.setCell (World.setCell W1 ⟨wr.heap.size, 0, none⟩ (.string x.name)) ⟨wr.heap.size, 1, none⟩ (.slice x.p.a x.p.n x.p.c)) ⟨wr.heap.size, 2, none⟩ (.int .i64 x.ret.k)) ⟨wr.heap.size, 3, none⟩ (.string x.ret.c)) ⟨wr.heap.size, 4, none⟩ (.int .i64 x.lo)) ⟨wr.heap.size, 5, none⟩ (.int .i64 x.st)) ⟨wr.heap.size, 6, none⟩ (.slice x.c.a x.c.n x.c.c)) ⟨wr.heap.size, 7, none⟩ (.slice x.h.a x.h.n x.h.c)).heap[wr.heap.size]? = some (.cells #[.string x.name, .slice x.p.a x.p.n x.p.c, .int .i64 x.ret.k, .string x.ret.c, .int .i64 x.lo, .int .i64 x.st, .slice x.c.a x.c.n x.c.c, .slice x.h.a x.h.n x.h.c] 53 (0, 0)) := set_chain8 b1
      have f1v : Fr (fun k => k = wr.heap.size) W1 (World.setCell (World.setCell (World.setCell (World.setCell (World.setCell (World.setCell (World.setCell (World.setCell W1 ⟨wr.heap.size, 0, none⟩ (.string x.name)) ⟨wr.heap.size, 1, none⟩ (.slice x.p.a x.p.n x.p.c)) ⟨wr.heap.size, 2, none⟩ (.int .i64 x.ret.k)) ⟨wr.heap.size, 3, none⟩ (.string x.ret.c)) ⟨wr.heap.size, 4, none⟩ (.int .i64 x.lo)) ⟨wr.heap.size, 5, none⟩ (.int .i64 x.st)) ⟨wr.heap.size, 6, none⟩ (.slice x.c.a x.c.n x.c.c)) ⟨wr.heap.size, 7, none⟩ (.slice x.h.a x.h.n x.h.c)) := fr_chain8 W1 wr.heap.size (.string x.name) (.slice x.p.a x.p.n x.p.c) (.int .i64 x.ret.k) (.string x.ret.c) (.int .i64 x.lo) (.int .i64 x.st) (.slice x.c.a x.c.n x.c.c) (.slice x.h.a x.h.n x.h.c)
      generalize hV1 : (World.setCell (World.setCell (World.setCell (World.setCell (World.setCell (World.setCell (World.setCell (World.setCell W1 ⟨wr.heap.size, 0, none⟩ (.string x.name)) ⟨wr.heap.size, 1, none⟩ (.slice x.p.a x.p.n x.p.c)) ⟨wr.heap.size, 2, none⟩ (.int .i64 x.ret.k)) ⟨wr.heap.size, 3, none⟩ (.string x.ret.c)) ⟨wr.heap.size, 4, none⟩ (.int .i64 x.lo)) ⟨wr.heap.size, 5, none⟩ (.int .i64 x.st)) ⟨wr.heap.size, 6, none⟩ (.slice x.c.a x.c.n x.c.c)) ⟨wr.heap.size, 7, none⟩ (.slice x.h.a x.h.n x.h.c)) = V1 at *
      have f1' : Fr no wr V1 := f1.trans f1v (fun _ _ f => f) (fun i hi e => by omega)
      have hsz1 : V1.heap.size = wr.heap.size + 1 := by rw [← s1, ← hV1]; simp
      have f2 : Fr no V1 (V1.alloc (.cells #[.string ⟨#[]⟩, .slice none 0 0, .int .i64 0, .string ⟨#[]⟩, .int .i64 0, .int .i64 0, .slice none 0 0, .slice none 0 0] 53)) := (Fr.refl no V1).alloc _ _
      have b2 := heap_alloc_new V1 (.cells #[.string ⟨#[]⟩, .slice none 0 0, .int .i64 0, .string ⟨#[]⟩, .int .i64 0, .int .i64 0, .slice none 0 0, .slice none 0 0] 53)
      have s2 := size_alloc V1 (.cells #[.string ⟨#[]⟩, .slice none 0 0, .int .i64 0, .string ⟨#[]⟩, .int .i64 0, .int .i64 0, .slice none 0 0, .slice none 0 0] 53)
      have b12 := f2.heap b1v (fun f => f)
      rw [hsz1] at b2 s2
      generalize hW2 : V1.alloc (.cells #[.string ⟨#[]⟩, .slice none 0 0, .int .i64 0, .string ⟨#[]⟩, .int .i64 0, .int .i64 0, .slice none 0 0, .slice none 0 0] 53) = W2 at *
      have b2v : (World.setCell (World.setCell (World.setCell (World.setCell (World.setCell (World.setCell (World.setCell (World.setCell W2 ⟨wr.heap.size + 1, 0, none⟩ (.string y.name)) ⟨wr.heap.size + 1, 1, none⟩ (.slice y.p.a y.p.n y.p.c)) ⟨wr.heap.size + 1, 2, none⟩ (.int .i64 y.ret.k)) ⟨wr.heap.size + 1, 3, none⟩ (.string y.ret.c)) ⟨wr.heap.size + 1, 4, none⟩ (.int .i64 y.lo)) ⟨wr.heap.size + 1, 5, none⟩ (.int .i64 y.st)) ⟨wr.heap.size + 1, 6, none⟩ (.slice y.c.a y.c.n y.c.c)) ⟨wr.heap.size + 1, 7, none⟩ (.slice y.h.a y.h.n y.h.c)).heap[wr.heap.size + 1]? = some (.cells #[.string y.name, .slice y.p.a y.p.n y.p.c, .int .i64 y.ret.k, .string y.ret.c, .int .i64 y.lo, .int .i64 y.st, .slice y.c.a y.c.n y.c.c, .slice y.h.a y.h.n y.h.c] 53 (0, 0)) := set_chain8 b2
      have f2v : Fr (fun k => k = wr.heap.size + 1) W2 (World.setCell (World.setCell (World.setCell (World.setCell (World.setCell (World.setCell (World.setCell (World.setCell W2 ⟨wr.heap.size + 1, 0, none⟩ (.string y.name)) ⟨wr.heap.size + 1, 1, none⟩ (.slice y.p.a y.p.n y.p.c)) ⟨wr.heap.size + 1, 2, none⟩ (.int .i64 y.ret.k)) ⟨wr.heap.size + 1, 3, none⟩ (.string y.ret.c)) ⟨wr.heap.size + 1, 4, none⟩ (.int .i64 y.lo)) ⟨wr.heap.size + 1, 5, none⟩ (.int .i64 y.st)) ⟨wr.heap.size + 1, 6, none⟩ (.slice y.c.a y.c.n y.c.c)) ⟨wr.heap.size + 1, 7, none⟩ (.slice y.h.a y.h.n y.h.c)) := fr_chain8 W2 (wr.heap.size + 1) (.string y.name) (.slice y.p.a y.p.n y.p.c) (.int .i64 y.ret.k) (.string y.ret.c) (.int .i64 y.lo) (.int .i64 y.st) (.slice y.c.a y.c.n y.c.c) (.slice y.h.a y.h.n y.h.c)
      have b12v := f2v.heap b12 (fun e => by omega)
      generalize hV2 : (World.setCell (World.setCell (World.setCell (World.setCell (World.setCell (World.setCell (World.setCell (World.setCell W2 ⟨wr.heap.size + 1, 0, none⟩ (.string y.name)) ⟨wr.heap.size + 1, 1, none⟩ (.slice y.p.a y.p.n y.p.c)) ⟨wr.heap.size + 1, 2, none⟩ (.int .i64 y.ret.k)) ⟨wr.heap.size + 1, 3, none⟩ (.string y.ret.c)) ⟨wr.heap.size + 1, 4, none⟩ (.int .i64 y.lo)) ⟨wr.heap.size + 1, 5, none⟩ (.int .i64 y.st)) ⟨wr.heap.size + 1, 6, none⟩ (.slice y.c.a y.c.n y.c.c)) ⟨wr.heap.size + 1, 7, none⟩ (.slice y.h.a y.h.n y.h.c)) = V2 at *
      have f2' : Fr no V1 V2 := f2.trans f2v (fun _ _ f => f) (fun i hi e => by omega)
      have fV := f1'.new f2' (fun _ _ f => f)
      have c0 : wr.cell? ⟨b, off + k * 8, none⟩ = some (.string x.name) := hw.cell (hc 0 _ rfl) (fun f => f)
      have c1 : wr.cell? ⟨b, off + k * 8 + 1, none⟩ = some (.slice x.p.a x.p.n x.p.c) := hw.cell (hc 1 _ rfl) (fun f => f)
      have c2 : wr.cell? ⟨b, off + k * 8 + 2, none⟩ = some (.int .i64 x.ret.k) := hw.cell (hc 2 _ rfl) (fun f => f)
      have c3 : wr.cell? ⟨b, off + k * 8 + 3, none⟩ = some (.string x.ret.c) := hw.cell (hc 3 _ rfl) (fun f => f)
      have c4 : wr.cell? ⟨b, off + k * 8 + 4, none⟩ = some (.int .i64 x.lo) := hw.cell (hc 4 _ rfl) (fun f => f)
      have c5 : wr.cell? ⟨b, off + k * 8 + 5, none⟩ = some (.int .i64 x.st) := hw.cell (hc 5 _ rfl) (fun f => f)
      have c6 : wr.cell? ⟨b, off + k * 8 + 6, none⟩ = some (.slice x.c.a x.c.n x.c.c) := hw.cell (hc 6 _ rfl) (fun f => f)
      have c7 : wr.cell? ⟨b, off + k * 8 + 7, none⟩ = some (.slice x.h.a x.h.n x.h.c) := hw.cell (hc 7 _ rfl) (fun f => f)
      have d0 : V1.cell? ⟨b', off' + k * 8, none⟩ = some (.string y.name) := f1'.cell (hw.cell (hc' 0 _ rfl) (fun f => f)) (fun f => f)
      have d1 : V1.cell? ⟨b', off' + k * 8 + 1, none⟩ = some (.slice y.p.a y.p.n y.p.c) := f1'.cell (hw.cell (hc' 1 _ rfl) (fun f => f)) (fun f => f)
      have d2 : V1.cell? ⟨b', off' + k * 8 + 2, none⟩ = some (.int .i64 y.ret.k) := f1'.cell (hw.cell (hc' 2 _ rfl) (fun f => f)) (fun f => f)
      have d3 : V1.cell? ⟨b', off' + k * 8 + 3, none⟩ = some (.string y.ret.c) := f1'.cell (hw.cell (hc' 3 _ rfl) (fun f => f)) (fun f => f)
      have d4 : V1.cell? ⟨b', off' + k * 8 + 4, none⟩ = some (.int .i64 y.lo) := f1'.cell (hw.cell (hc' 4 _ rfl) (fun f => f)) (fun f => f)
      have d5 : V1.cell? ⟨b', off' + k * 8 + 5, none⟩ = some (.int .i64 y.st) := f1'.cell (hw.cell (hc' 5 _ rfl) (fun f => f)) (fun f => f)
      have d6 : V1.cell? ⟨b', off' + k * 8 + 6, none⟩ = some (.slice y.c.a y.c.n y.c.c) := f1'.cell (hw.cell (hc' 6 _ rfl) (fun f => f)) (fun f => f)
      have d7 : V1.cell? ⟨b', off' + k * 8 + 7, none⟩ = some (.slice y.h.a y.h.n y.h.c) := f1'.cell (hw.cell (hc' 7 _ rfl) (fun f => f)) (fun f => f)
      have HW : Hid (Fr no w V2) := hw.new fV (fun _ _ f => f)
      have S := sameMethod_any V2 x y m ((HA.out.1.2 k x m hx hm).kept HW.out) ((HA.out.2.2 k y m hy hm).kept HW.out)
      obtain ⟨⟨g0, g1, g2, g3, g4, g5, g6, g7⟩, gz0, gz1, gz2, gz3, gz4, gz5, gz6, gz7⟩ := cells8z b1
      obtain ⟨⟨i0, i1, i2, i3, i4, i5, i6, i7⟩, iz0, iz1, iz2, iz3, iz4, iz5, iz6, iz7⟩ := cells8z b2
      obtain ⟨⟨p0, p1, p2, p3, p4, p5, p6, p7⟩, _⟩ := cells8z b12v
      obtain ⟨⟨q0, q1, q2, q3, q4, q5, q6, q7⟩, _⟩ := cells8z b2v
      clear hx hy hc hc' hw fV f1 f1' f1v f2 f2' f2v b1 b1v b2 b2v b12 b12v
      go_wp2_with fail
      refine S.mono ?_
      rintro e w3 ⟨rfl, f3⟩
      go_wp2_with fail
      go_roundw
      case rel => exact ⟨k + 1, by go_num, by omega, HW.out.new f3 (fun _ _ f => f)⟩
      case measure => simp [intOf]; omega
    · have : k = ls.length := by omega
      subst this
      go_wp2_with fail
      go_ret
      exact ⟨rfl, hw⟩

set_option maxRecDepth 100000 in
set_option maxHeartbeats 2000000 in
theorem same_any (w : World) (x y : Ks) (c : Cl) (hx : ClAt w x c) (hy : ClAt w y c) : Calls Tryz.prog 10 #[ksV x, ksV y] w fun e w' => e = .returned (.bool true) ∧ Fr no w w' := by
  obtain ⟨n, s, p, f, m⟩ := x
  obtain ⟨n', s', p', f', m'⟩ := y
  obtain ⟨rfl, rfl, xp, xf, ls, xm, xa⟩ := hx
  obtain ⟨e1, e2, yp, yf, ls', ym, ya⟩ := hy
  unfold ksV
  simp only [] at e1 e2 xp xf xm yp yf ym ⊢
  subst e1 e2
  have f1 : Fr no w (w.alloc (.cells #[.string c.name, .string c.super, .slice p.a p.n p.c, .slice f.a f.n f.c, .slice m.a m.n m.c] 28)) := (Fr.refl no w).alloc _ _
  have b1 := heap_alloc_new w (.cells #[.string c.name, .string c.super, .slice p.a p.n p.c, .slice f.a f.n f.c, .slice m.a m.n m.c] 28)
  have s1 := size_alloc w (.cells #[.string c.name, .string c.super, .slice p.a p.n p.c, .slice f.a f.n f.c, .slice m.a m.n m.c] 28)
  generalize hW : w.alloc (.cells #[.string c.name, .string c.super, .slice p.a p.n p.c, .slice f.a f.n f.c, .slice m.a m.n m.c] 28) = W at *
  have f2 : Fr no W (W.alloc (.cells #[.string c.name, .string c.super, .slice p'.a p'.n p'.c, .slice f'.a f'.n f'.c, .slice m'.a m'.n m'.c] 28)) := (Fr.refl no W).alloc _ _
  have b2 := heap_alloc_new W (.cells #[.string c.name, .string c.super, .slice p'.a p'.n p'.c, .slice f'.a f'.n f'.c, .slice m'.a m'.n m'.c] 28)
  have b1' := f2.heap b1 (fun f => f)
  rw [s1] at b2
  have f12 := f1.new f2 (fun _ _ f => f)
  generalize hV : W.alloc (.cells #[.string c.name, .string c.super, .slice p'.a p'.n p'.c, .slice f'.a f'.n f'.c, .slice m'.a m'.n m'.c] 28) = V at *
  have HB : Hid (∀ w1, Fr no V w1 → w1.heap[w.heap.size]? = some (.cells #[.string c.name, .string c.super, .slice p.a p.n p.c, .slice f.a f.n f.c, .slice m.a m.n m.c] 28 (0, 0)) ∧ w1.heap[w.heap.size + 1]? = some (.cells #[.string c.name, .string c.super, .slice p'.a p'.n p'.c, .slice f'.a f'.n f'.c, .slice m'.a m'.n m'.c] 28 (0, 0))) := fun w1 g => ⟨g.heap b1' (fun f => f), g.heap b2 (fun f => f)⟩
  have E1 : Hid (∀ w1, Fr no V w1 → Calls Tryz.prog 33 #[.slice p.a p.n p.c, .slice p'.a p'.n p'.c, .func (.func 34) #[] #[]] w1 fun e w' => e = .returned (.bool true) ∧ Fr no w1 w') := fun w1 g => equalCs_any w1 _ _ c.pool (xp.kept (f12.new g (fun _ _ f => f))) (yp.kept (f12.new g (fun _ _ f => f)))
  have E2 : Hid (∀ w1, Fr no V w1 → Calls Tryz.prog 35 #[.slice f.a f.n f.c, .slice f'.a f'.n f'.c] w1 fun e w' => e = .returned (.bool true) ∧ Fr no w1 w') := fun w1 g => equalFd_any w1 _ _ c.fields (xf.kept (f12.new g (fun _ _ f => f))) (yf.kept (f12.new g (fun _ _ f => f)))
  have E3 : Hid (∀ w1, Fr no V w1 → Calls Tryz.prog 36 #[.slice m.a m.n m.c, .slice m'.a m'.n m'.c, .func (.func 37) #[] #[]] w1 fun e w' => e = .returned (.bool true) ∧ Fr no w1 w') := fun w1 g => equalMs_any w1 _ _ c.methods ls ls' (xm.kept (f12.new g (fun _ _ f => f))) (xa.kept (f12.new g (fun _ _ f => f))) (ym.kept (f12.new g (fun _ _ f => f))) (ya.kept (f12.new g (fun _ _ f => f)))
  have HF : Hid (Fr no w V) := f12
  obtain ⟨k1, k2⟩ := HB.out V (Fr.refl no V)
  obtain ⟨⟨c0, c1, c2, c3, c4⟩, _⟩ := cells5z k1
  obtain ⟨⟨d0, d1, d2, d3, d4⟩, _⟩ := cells5z k2
  clear k1 k2
  clear f1 f2 b1 b1' b2 f12 xp xf xm xa yp yf ym ya
  go_enter Tryz.func10, Tryz.ntmps10
  go_wp2_with fail
  refine (E1.out V (Fr.refl no V)).mono ?_
  rintro e w1 ⟨rfl, g1⟩
  clear c0 c1 c2 c3 c4 d0 d1 d2 d3 d4
  obtain ⟨k1, k2⟩ := HB.out w1 g1
  obtain ⟨⟨c0, c1, c2, c3, c4⟩, _⟩ := cells5z k1
  obtain ⟨⟨d0, d1, d2, d3, d4⟩, _⟩ := cells5z k2
  clear k1 k2
  go_wp2_with fail
  refine (E2.out w1 g1).mono ?_
  rintro e w2 ⟨rfl, g2⟩
  clear c0 c1 c2 c3 c4 d0 d1 d2 d3 d4
  have g2' := g1.new g2 (fun _ _ f => f)
  obtain ⟨k1, k2⟩ := HB.out w2 g2'
  obtain ⟨⟨c0, c1, c2, c3, c4⟩, _⟩ := cells5z k1
  obtain ⟨⟨d0, d1, d2, d3, d4⟩, _⟩ := cells5z k2
  clear k1 k2
  go_wp2_with fail
  refine (E3.out w2 g2').mono ?_
  rintro e w3 ⟨rfl, g3⟩
  go_wp2_with fail
  go_ret
  exact ⟨rfl, HF.out.new (g2'.new g3 (fun _ _ f => f)) (fun _ _ f => f)⟩
end Go.Proofs.YthncdbobjeeeaaaGreatDoor

