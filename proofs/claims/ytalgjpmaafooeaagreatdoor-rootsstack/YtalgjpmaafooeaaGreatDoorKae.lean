/- What the library's Clone tells: a new row of the same things. -/
import Derived.Test.YtalgjpmaafooeaaGreatDoorKad
import Derived.Deep.MidRow
import Derived.Test.YtalgjpmaafooeaaGreatDoorKaa
import Derived.OrdersHeld
namespace Go.Proofs.YtalgjpmaafooeaaGreatDoor
open Go.ChangeShapes Go.WideShapes Go.ChangeAt Go.RowKit
theorem nil_eqTy (w : World) (n c : Nat) : (binOp .eql 42 (.slice none n c) (.slice none 0 0)).run Tryz.prog w = .ok (.bool true) w := by kernel_rfl
theorem some_eqTy (w : World) (a : Addr) (n c : Nat) : (binOp .eql 42 (.slice (some a) n c) (.slice none 0 0)).run Tryz.prog w = .ok (.bool false) w := by kernel_rfl
set_option maxRecDepth 100000 in
theorem cloneTy_any (w : World) (v : Value) (l : List Ty) (h : SlG elTy w v l) (hb : l.length ≤ 1000) :
 Calls Tryz.prog 94 #[v] w fun e w' => ∃ v', e = .returned v' ∧ OwnG elTy w' v' l ∧ NewV w v' ∧ Fr no w w' := by
 have hn := nil_eqTy
 have hsm := some_eqTy
 obtain ⟨o, cap, hv⟩ := h.form
 subst hv
 cases o with
 | none =>
  obtain rfl := h.none_nil
  clear h
  go_enter Tryz.func94, Tryz.ntmps94
  go_wp2_with fail
  go_ret
  exact ⟨_, rfl, OwnG.nil _ _, NewV.nil _, Fr.refl _ _⟩
 | some ad =>
  have HF : Hid (Fr no w (w.alloc (.cells #[] 44))) := (Fr.refl no w).alloc _ _
  have HS : Hid (SlG elTy (w.alloc (.cells #[] 44)) (.slice (some ad) l.length cap) l) := h.kept HF.out
  have HE : Hid (OwnG elTy (w.alloc (.cells #[] 44)) (.slice (some ⟨w.heap.size, 0, none⟩) 0 0) []) := own_empty w
  clear h
  generalize hln : l.length = n at *
  go_enter Tryz.func94, Tryz.ntmps94
  go_wp2_with (first | (at_builtin; refine wpList_apdG okTy _ rfl rfl _ _ rfl (.slice (some ⟨w.heap.size, 0, none⟩) 0 0) [] rfl HE.out _ rfl l (HS.out.src okTy) (by simp) (by simp; omega) ?_; intro v' w1 o1 s1) | go_in)
  go_wp2_with fail
  go_ret
  have N0 : NewV w (.slice (some ⟨w.heap.size, 0, none⟩) 0 0) := fun k hk => by
   simp only [Value.ownBlock, Option.some.injEq] at hk
   omega
  obtain ⟨n1, f1⟩ := N0.step HF.out s1
  exact ⟨_, rfl, by simpa using o1, n1, f1⟩
theorem nil_eqIn (w : World) (n c : Nat) : (binOp .eql 24 (.slice none n c) (.slice none 0 0)).run Tryz.prog w = .ok (.bool true) w := by kernel_rfl
theorem some_eqIn (w : World) (a : Addr) (n c : Nat) : (binOp .eql 24 (.slice (some a) n c) (.slice none 0 0)).run Tryz.prog w = .ok (.bool false) w := by kernel_rfl
set_option maxRecDepth 100000 in
theorem cloneIn_any (w : World) (v : Value) (l : List (Int × Int)) (h : SlG elIn w v l) (hb : l.length ≤ 1000) :
 Calls Tryz.prog 95 #[v] w fun e w' => ∃ v', e = .returned v' ∧ OwnG elIn w' v' l ∧ NewV w v' ∧ Fr no w w' := by
 have hn := nil_eqIn
 have hsm := some_eqIn
 obtain ⟨o, cap, hv⟩ := h.form
 subst hv
 cases o with
 | none =>
  obtain rfl := h.none_nil
  clear h
  go_enter Tryz.func95, Tryz.ntmps95
  go_wp2_with fail
  go_ret
  exact ⟨_, rfl, OwnG.nil _ _, NewV.nil _, Fr.refl _ _⟩
 | some ad =>
  have HF : Hid (Fr no w (w.alloc (.cells #[] 27))) := (Fr.refl no w).alloc _ _
  have HS : Hid (SlG elIn (w.alloc (.cells #[] 27)) (.slice (some ad) l.length cap) l) := h.kept HF.out
  have HE : Hid (OwnG elIn (w.alloc (.cells #[] 27)) (.slice (some ⟨w.heap.size, 0, none⟩) 0 0) []) := own_empty w
  clear h
  generalize hln : l.length = n at *
  go_enter Tryz.func95, Tryz.ntmps95
  go_wp2_with (first | (at_builtin; refine wpList_apdG okIn _ rfl rfl _ _ rfl (.slice (some ⟨w.heap.size, 0, none⟩) 0 0) [] rfl HE.out _ rfl l (HS.out.src okIn) (by simp) (by simp; omega) ?_; intro v' w1 o1 s1) | go_in)
  go_wp2_with fail
  go_ret
  have N0 : NewV w (.slice (some ⟨w.heap.size, 0, none⟩) 0 0) := fun k hk => by
   simp only [Value.ownBlock, Option.some.injEq] at hk
   omega
  obtain ⟨n1, f1⟩ := N0.step HF.out s1
  exact ⟨_, rfl, by simpa using o1, n1, f1⟩
theorem nil_eqHd (w : World) (n c : Nat) : (binOp .eql 45 (.slice none n c) (.slice none 0 0)).run Tryz.prog w = .ok (.bool true) w := by kernel_rfl
theorem some_eqHd (w : World) (a : Addr) (n c : Nat) : (binOp .eql 45 (.slice (some a) n c) (.slice none 0 0)).run Tryz.prog w = .ok (.bool false) w := by kernel_rfl
set_option maxRecDepth 100000 in
theorem cloneHd_any (w : World) (v : Value) (l : List Hd) (h : SlG elHd w v l) (hb : l.length ≤ 1000) :
 Calls Tryz.prog 96 #[v] w fun e w' => ∃ v', e = .returned v' ∧ OwnG elHd w' v' l ∧ NewV w v' ∧ Fr no w w' := by
 have hn := nil_eqHd
 have hsm := some_eqHd
 obtain ⟨o, cap, hv⟩ := h.form
 subst hv
 cases o with
 | none =>
  obtain rfl := h.none_nil
  clear h
  go_enter Tryz.func96, Tryz.ntmps96
  go_wp2_with fail
  go_ret
  exact ⟨_, rfl, OwnG.nil _ _, NewV.nil _, Fr.refl _ _⟩
 | some ad =>
  have HF : Hid (Fr no w (w.alloc (.cells #[] 156))) := (Fr.refl no w).alloc _ _
  have HS : Hid (SlG elHd (w.alloc (.cells #[] 156)) (.slice (some ad) l.length cap) l) := h.kept HF.out
  have HE : Hid (OwnG elHd (w.alloc (.cells #[] 156)) (.slice (some ⟨w.heap.size, 0, none⟩) 0 0) []) := own_empty w
  clear h
  generalize hln : l.length = n at *
  go_enter Tryz.func96, Tryz.ntmps96
  go_wp2_with (first | (at_builtin; refine wpList_apdG okHd _ rfl rfl _ _ rfl (.slice (some ⟨w.heap.size, 0, none⟩) 0 0) [] rfl HE.out _ rfl l (HS.out.src okHd) (by simp) (by simp; omega) ?_; intro v' w1 o1 s1) | go_in)
  go_wp2_with fail
  go_ret
  have N0 : NewV w (.slice (some ⟨w.heap.size, 0, none⟩) 0 0) := fun k hk => by
   simp only [Value.ownBlock, Option.some.injEq] at hk
   omega
  obtain ⟨n1, f1⟩ := N0.step HF.out s1
  exact ⟨_, rfl, by simpa using o1, n1, f1⟩
theorem nil_eqCs (w : World) (n c : Nat) : (binOp .eql 36 (.slice none n c) (.slice none 0 0)).run Tryz.prog w = .ok (.bool true) w := by kernel_rfl
theorem some_eqCs (w : World) (a : Addr) (n c : Nat) : (binOp .eql 36 (.slice (some a) n c) (.slice none 0 0)).run Tryz.prog w = .ok (.bool false) w := by kernel_rfl
set_option maxRecDepth 100000 in
theorem cloneCs_any (w : World) (v : Value) (l : List Cs) (h : SlG elCs w v l) (hb : l.length ≤ 1000) :
 Calls Tryz.prog 81 #[v] w fun e w' => ∃ v', e = .returned v' ∧ OwnG elCs w' v' l ∧ NewV w v' ∧ Fr no w w' := by
 have hn := nil_eqCs
 have hsm := some_eqCs
 obtain ⟨o, cap, hv⟩ := h.form
 subst hv
 cases o with
 | none =>
  obtain rfl := h.none_nil
  clear h
  go_enter Tryz.func81, Tryz.ntmps81
  go_wp2_with fail
  go_ret
  exact ⟨_, rfl, OwnG.nil _ _, NewV.nil _, Fr.refl _ _⟩
 | some ad =>
  have HF : Hid (Fr no w (w.alloc (.cells #[] 35))) := (Fr.refl no w).alloc _ _
  have HS : Hid (SlG elCs (w.alloc (.cells #[] 35)) (.slice (some ad) l.length cap) l) := h.kept HF.out
  have HE : Hid (OwnG elCs (w.alloc (.cells #[] 35)) (.slice (some ⟨w.heap.size, 0, none⟩) 0 0) []) := own_empty w
  clear h
  generalize hln : l.length = n at *
  go_enter Tryz.func81, Tryz.ntmps81
  go_wp2_with (first | (at_builtin; refine wpList_apdG okCs _ rfl rfl _ _ rfl (.slice (some ⟨w.heap.size, 0, none⟩) 0 0) [] rfl HE.out _ rfl l (HS.out.src okCs) (by simp) (by simp; omega) ?_; intro v' w1 o1 s1) | go_in)
  go_wp2_with fail
  go_ret
  have N0 : NewV w (.slice (some ⟨w.heap.size, 0, none⟩) 0 0) := fun k hk => by
   simp only [Value.ownBlock, Option.some.injEq] at hk
   omega
  obtain ⟨n1, f1⟩ := N0.step HF.out s1
  exact ⟨_, rfl, by simpa using o1, n1, f1⟩
theorem nil_eqFd (w : World) (n c : Nat) : (binOp .eql 49 (.slice none n c) (.slice none 0 0)).run Tryz.prog w = .ok (.bool true) w := by kernel_rfl
theorem some_eqFd (w : World) (a : Addr) (n c : Nat) : (binOp .eql 49 (.slice (some a) n c) (.slice none 0 0)).run Tryz.prog w = .ok (.bool false) w := by kernel_rfl
set_option maxRecDepth 100000 in
theorem cloneFd_any (w : World) (v : Value) (l : List Fd) (h : SlG elFd w v l) (hb : l.length ≤ 1000) :
 Calls Tryz.prog 82 #[v] w fun e w' => ∃ v', e = .returned v' ∧ OwnG elFd w' v' l ∧ NewV w v' ∧ Fr no w w' := by
 have hn := nil_eqFd
 have hsm := some_eqFd
 obtain ⟨o, cap, hv⟩ := h.form
 subst hv
 cases o with
 | none =>
  obtain rfl := h.none_nil
  clear h
  go_enter Tryz.func82, Tryz.ntmps82
  go_wp2_with fail
  go_ret
  exact ⟨_, rfl, OwnG.nil _ _, NewV.nil _, Fr.refl _ _⟩
 | some ad =>
  have HF : Hid (Fr no w (w.alloc (.cells #[] 109))) := (Fr.refl no w).alloc _ _
  have HS : Hid (SlG elFd (w.alloc (.cells #[] 109)) (.slice (some ad) l.length cap) l) := h.kept HF.out
  have HE : Hid (OwnG elFd (w.alloc (.cells #[] 109)) (.slice (some ⟨w.heap.size, 0, none⟩) 0 0) []) := own_empty w
  clear h
  generalize hln : l.length = n at *
  go_enter Tryz.func82, Tryz.ntmps82
  go_wp2_with (first | (at_builtin; refine wpList_apdG okFd _ rfl rfl _ _ rfl (.slice (some ⟨w.heap.size, 0, none⟩) 0 0) [] rfl HE.out _ rfl l (HS.out.src okFd) (by simp) (by simp; omega) ?_; intro v' w1 o1 s1) | go_in)
  go_wp2_with fail
  go_ret
  have N0 : NewV w (.slice (some ⟨w.heap.size, 0, none⟩) 0 0) := fun k hk => by
   simp only [Value.ownBlock, Option.some.injEq] at hk
   omega
  obtain ⟨n1, f1⟩ := N0.step HF.out s1
  exact ⟨_, rfl, by simpa using o1, n1, f1⟩
theorem nil_eqMs (w : World) (n c : Nat) : (binOp .eql 48 (.slice none n c) (.slice none 0 0)).run Tryz.prog w = .ok (.bool true) w := by kernel_rfl
theorem some_eqMs (w : World) (a : Addr) (n c : Nat) : (binOp .eql 48 (.slice (some a) n c) (.slice none 0 0)).run Tryz.prog w = .ok (.bool false) w := by kernel_rfl
set_option maxRecDepth 100000 in
theorem cloneMs_any (w : World) (v : Value) (l : List Ms) (h : SlG elMs w v l) (hb : l.length ≤ 1000) :
 Calls Tryz.prog 83 #[v] w fun e w' => ∃ v', e = .returned v' ∧ OwnG elMs w' v' l ∧ NewV w v' ∧ Fr no w w' := by
 have hn := nil_eqMs
 have hsm := some_eqMs
 obtain ⟨o, cap, hv⟩ := h.form
 subst hv
 cases o with
 | none =>
  obtain rfl := h.none_nil
  clear h
  go_enter Tryz.func83, Tryz.ntmps83
  go_wp2_with fail
  go_ret
  exact ⟨_, rfl, OwnG.nil _ _, NewV.nil _, Fr.refl _ _⟩
 | some ad =>
  have HF : Hid (Fr no w (w.alloc (.cells #[] 47))) := (Fr.refl no w).alloc _ _
  have HS : Hid (SlG elMs (w.alloc (.cells #[] 47)) (.slice (some ad) l.length cap) l) := h.kept HF.out
  have HE : Hid (OwnG elMs (w.alloc (.cells #[] 47)) (.slice (some ⟨w.heap.size, 0, none⟩) 0 0) []) := own_empty w
  clear h
  generalize hln : l.length = n at *
  go_enter Tryz.func83, Tryz.ntmps83
  go_wp2_with (first | (at_builtin; refine wpList_apdG okMs _ rfl rfl _ _ rfl (.slice (some ⟨w.heap.size, 0, none⟩) 0 0) [] rfl HE.out _ rfl l (HS.out.src okMs) (by simp) (by simp; omega) ?_; intro v' w1 o1 s1) | go_in)
  go_wp2_with fail
  go_ret
  have N0 : NewV w (.slice (some ⟨w.heap.size, 0, none⟩) 0 0) := fun k hk => by
   simp only [Value.ownBlock, Option.some.injEq] at hk
   omega
  obtain ⟨n1, f1⟩ := N0.step HF.out s1
  exact ⟨_, rfl, by simpa using o1, n1, f1⟩
end Go.Proofs.YtalgjpmaafooeaaGreatDoor
/- What copies of a method and of a class hold. -/
namespace Go.Proofs.YtalgjpmaafooeaaGreatDoor
open Go.ChangeShapes Go.WideShapes Go.ChangeAt Go.RowKit
theorem set_at {w : World} {p o : Nat} {u : Value} {cur : Array Value} {t : TypeId} (h : w.heap[p]? = some (.cells cur t (0, 0))) : (w.setCell ⟨p, o, none⟩ u).heap[p]? = some (.cells (cur.setIfInBounds o u) t (0, 0)) := by
 unfold World.setCell
 rw [Array.getElem?_modify, if_pos rfl, h]
 rfl
theorem frozen_at {w : World} {p o : Nat} {cur : Array Value} {t : TypeId} (h : w.heap[p]? = some (.cells cur t (0, 0))) : w.frozen? ⟨p, o, none⟩ = false := by
 unfold World.frozen?
 simp [h]
theorem cell_at {w : World} {p o : Nat} {cur : Array Value} {t : TypeId} (h : w.heap[p]? = some (.cells cur t (0, 0))) : w.cell? ⟨p, o, none⟩ = cur[o]? := by
 unfold World.cell?
 simp [h]
theorem chain2 {w : World} {p : Nat} {t : TypeId} {c0 c1 : Value} (h : w.heap[p]? = some (.cells #[c0, c1] t (0, 0))) (x0 x1 : Value) : ((w.setCell ⟨p, 0, none⟩ x0).setCell ⟨p, 1, none⟩ x1).heap[p]? = some (.cells #[x0, x1] t (0, 0)) := by
 have h0 : (w.setCell ⟨p, 0, none⟩ x0).heap[p]? = some (.cells #[x0, c1] t (0, 0)) := set_at h
 have h1 : ((w.setCell ⟨p, 0, none⟩ x0).setCell ⟨p, 1, none⟩ x1).heap[p]? = some (.cells #[x0, x1] t (0, 0)) := set_at h0
 exact h1
theorem frc2 (w : World) (p : Nat) (x0 x1 : Value) : Fr (fun k => k = p) w ((w.setCell ⟨p, 0, none⟩ x0).setCell ⟨p, 1, none⟩ x1) := ((Fr.refl (fun k => k = p) w).setCell (p := ⟨p, 0, none⟩) (fun _ => rfl) x0).setCell (p := ⟨p, 1, none⟩) (fun _ => rfl) x1
theorem chain5 {w : World} {p : Nat} {t : TypeId} {c0 c1 c2 c3 c4 : Value} (h : w.heap[p]? = some (.cells #[c0, c1, c2, c3, c4] t (0, 0))) (x0 x1 x2 x3 x4 : Value) : (((((w.setCell ⟨p, 0, none⟩ x0).setCell ⟨p, 1, none⟩ x1).setCell ⟨p, 2, none⟩ x2).setCell ⟨p, 3, none⟩ x3).setCell ⟨p, 4, none⟩ x4).heap[p]? = some (.cells #[x0, x1, x2, x3, x4] t (0, 0)) := by
 have h0 : (w.setCell ⟨p, 0, none⟩ x0).heap[p]? = some (.cells #[x0, c1, c2, c3, c4] t (0, 0)) := set_at h
 have h1 : ((w.setCell ⟨p, 0, none⟩ x0).setCell ⟨p, 1, none⟩ x1).heap[p]? = some (.cells #[x0, x1, c2, c3, c4] t (0, 0)) := set_at h0
 have h2 : (((w.setCell ⟨p, 0, none⟩ x0).setCell ⟨p, 1, none⟩ x1).setCell ⟨p, 2, none⟩ x2).heap[p]? = some (.cells #[x0, x1, x2, c3, c4] t (0, 0)) := set_at h1
 have h3 : ((((w.setCell ⟨p, 0, none⟩ x0).setCell ⟨p, 1, none⟩ x1).setCell ⟨p, 2, none⟩ x2).setCell ⟨p, 3, none⟩ x3).heap[p]? = some (.cells #[x0, x1, x2, x3, c4] t (0, 0)) := set_at h2
 have h4 : (((((w.setCell ⟨p, 0, none⟩ x0).setCell ⟨p, 1, none⟩ x1).setCell ⟨p, 2, none⟩ x2).setCell ⟨p, 3, none⟩ x3).setCell ⟨p, 4, none⟩ x4).heap[p]? = some (.cells #[x0, x1, x2, x3, x4] t (0, 0)) := set_at h3
 exact h4
theorem frc5 (w : World) (p : Nat) (x0 x1 x2 x3 x4 : Value) : Fr (fun k => k = p) w (((((w.setCell ⟨p, 0, none⟩ x0).setCell ⟨p, 1, none⟩ x1).setCell ⟨p, 2, none⟩ x2).setCell ⟨p, 3, none⟩ x3).setCell ⟨p, 4, none⟩ x4) := (((((Fr.refl (fun k => k = p) w).setCell (p := ⟨p, 0, none⟩) (fun _ => rfl) x0).setCell (p := ⟨p, 1, none⟩) (fun _ => rfl) x1).setCell (p := ⟨p, 2, none⟩) (fun _ => rfl) x2).setCell (p := ⟨p, 3, none⟩) (fun _ => rfl) x3).setCell (p := ⟨p, 4, none⟩) (fun _ => rfl) x4
theorem chain6 {w : World} {p : Nat} {t : TypeId} {c0 c1 c2 c3 c4 c5 : Value} (h : w.heap[p]? = some (.cells #[c0, c1, c2, c3, c4, c5] t (0, 0))) (x0 x1 x2 x3 x4 x5 : Value) : ((((((w.setCell ⟨p, 0, none⟩ x0).setCell ⟨p, 1, none⟩ x1).setCell ⟨p, 2, none⟩ x2).setCell ⟨p, 3, none⟩ x3).setCell ⟨p, 4, none⟩ x4).setCell ⟨p, 5, none⟩ x5).heap[p]? = some (.cells #[x0, x1, x2, x3, x4, x5] t (0, 0)) := by
 have h0 : (w.setCell ⟨p, 0, none⟩ x0).heap[p]? = some (.cells #[x0, c1, c2, c3, c4, c5] t (0, 0)) := set_at h
 have h1 : ((w.setCell ⟨p, 0, none⟩ x0).setCell ⟨p, 1, none⟩ x1).heap[p]? = some (.cells #[x0, x1, c2, c3, c4, c5] t (0, 0)) := set_at h0
 have h2 : (((w.setCell ⟨p, 0, none⟩ x0).setCell ⟨p, 1, none⟩ x1).setCell ⟨p, 2, none⟩ x2).heap[p]? = some (.cells #[x0, x1, x2, c3, c4, c5] t (0, 0)) := set_at h1
 have h3 : ((((w.setCell ⟨p, 0, none⟩ x0).setCell ⟨p, 1, none⟩ x1).setCell ⟨p, 2, none⟩ x2).setCell ⟨p, 3, none⟩ x3).heap[p]? = some (.cells #[x0, x1, x2, x3, c4, c5] t (0, 0)) := set_at h2
 have h4 : (((((w.setCell ⟨p, 0, none⟩ x0).setCell ⟨p, 1, none⟩ x1).setCell ⟨p, 2, none⟩ x2).setCell ⟨p, 3, none⟩ x3).setCell ⟨p, 4, none⟩ x4).heap[p]? = some (.cells #[x0, x1, x2, x3, x4, c5] t (0, 0)) := set_at h3
 have h5 : ((((((w.setCell ⟨p, 0, none⟩ x0).setCell ⟨p, 1, none⟩ x1).setCell ⟨p, 2, none⟩ x2).setCell ⟨p, 3, none⟩ x3).setCell ⟨p, 4, none⟩ x4).setCell ⟨p, 5, none⟩ x5).heap[p]? = some (.cells #[x0, x1, x2, x3, x4, x5] t (0, 0)) := set_at h4
 exact h5
theorem frc6 (w : World) (p : Nat) (x0 x1 x2 x3 x4 x5 : Value) : Fr (fun k => k = p) w ((((((w.setCell ⟨p, 0, none⟩ x0).setCell ⟨p, 1, none⟩ x1).setCell ⟨p, 2, none⟩ x2).setCell ⟨p, 3, none⟩ x3).setCell ⟨p, 4, none⟩ x4).setCell ⟨p, 5, none⟩ x5) := ((((((Fr.refl (fun k => k = p) w).setCell (p := ⟨p, 0, none⟩) (fun _ => rfl) x0).setCell (p := ⟨p, 1, none⟩) (fun _ => rfl) x1).setCell (p := ⟨p, 2, none⟩) (fun _ => rfl) x2).setCell (p := ⟨p, 3, none⟩) (fun _ => rfl) x3).setCell (p := ⟨p, 4, none⟩) (fun _ => rfl) x4).setCell (p := ⟨p, 5, none⟩) (fun _ => rfl) x5
theorem chain8 {w : World} {p : Nat} {t : TypeId} {c0 c1 c2 c3 c4 c5 c6 c7 : Value} (h : w.heap[p]? = some (.cells #[c0, c1, c2, c3, c4, c5, c6, c7] t (0, 0))) (x0 x1 x2 x3 x4 x5 x6 x7 : Value) : ((((((((w.setCell ⟨p, 0, none⟩ x0).setCell ⟨p, 1, none⟩ x1).setCell ⟨p, 2, none⟩ x2).setCell ⟨p, 3, none⟩ x3).setCell ⟨p, 4, none⟩ x4).setCell ⟨p, 5, none⟩ x5).setCell ⟨p, 6, none⟩ x6).setCell ⟨p, 7, none⟩ x7).heap[p]? = some (.cells #[x0, x1, x2, x3, x4, x5, x6, x7] t (0, 0)) := by
 have h0 : (w.setCell ⟨p, 0, none⟩ x0).heap[p]? = some (.cells #[x0, c1, c2, c3, c4, c5, c6, c7] t (0, 0)) := set_at h
 have h1 : ((w.setCell ⟨p, 0, none⟩ x0).setCell ⟨p, 1, none⟩ x1).heap[p]? = some (.cells #[x0, x1, c2, c3, c4, c5, c6, c7] t (0, 0)) := set_at h0
 have h2 : (((w.setCell ⟨p, 0, none⟩ x0).setCell ⟨p, 1, none⟩ x1).setCell ⟨p, 2, none⟩ x2).heap[p]? = some (.cells #[x0, x1, x2, c3, c4, c5, c6, c7] t (0, 0)) := set_at h1
 have h3 : ((((w.setCell ⟨p, 0, none⟩ x0).setCell ⟨p, 1, none⟩ x1).setCell ⟨p, 2, none⟩ x2).setCell ⟨p, 3, none⟩ x3).heap[p]? = some (.cells #[x0, x1, x2, x3, c4, c5, c6, c7] t (0, 0)) := set_at h2
 have h4 : (((((w.setCell ⟨p, 0, none⟩ x0).setCell ⟨p, 1, none⟩ x1).setCell ⟨p, 2, none⟩ x2).setCell ⟨p, 3, none⟩ x3).setCell ⟨p, 4, none⟩ x4).heap[p]? = some (.cells #[x0, x1, x2, x3, x4, c5, c6, c7] t (0, 0)) := set_at h3
 have h5 : ((((((w.setCell ⟨p, 0, none⟩ x0).setCell ⟨p, 1, none⟩ x1).setCell ⟨p, 2, none⟩ x2).setCell ⟨p, 3, none⟩ x3).setCell ⟨p, 4, none⟩ x4).setCell ⟨p, 5, none⟩ x5).heap[p]? = some (.cells #[x0, x1, x2, x3, x4, x5, c6, c7] t (0, 0)) := set_at h4
 have h6 : (((((((w.setCell ⟨p, 0, none⟩ x0).setCell ⟨p, 1, none⟩ x1).setCell ⟨p, 2, none⟩ x2).setCell ⟨p, 3, none⟩ x3).setCell ⟨p, 4, none⟩ x4).setCell ⟨p, 5, none⟩ x5).setCell ⟨p, 6, none⟩ x6).heap[p]? = some (.cells #[x0, x1, x2, x3, x4, x5, x6, c7] t (0, 0)) := set_at h5
 have h7 : ((((((((w.setCell ⟨p, 0, none⟩ x0).setCell ⟨p, 1, none⟩ x1).setCell ⟨p, 2, none⟩ x2).setCell ⟨p, 3, none⟩ x3).setCell ⟨p, 4, none⟩ x4).setCell ⟨p, 5, none⟩ x5).setCell ⟨p, 6, none⟩ x6).setCell ⟨p, 7, none⟩ x7).heap[p]? = some (.cells #[x0, x1, x2, x3, x4, x5, x6, x7] t (0, 0)) := set_at h6
 exact h7
theorem frc8 (w : World) (p : Nat) (x0 x1 x2 x3 x4 x5 x6 x7 : Value) : Fr (fun k => k = p) w ((((((((w.setCell ⟨p, 0, none⟩ x0).setCell ⟨p, 1, none⟩ x1).setCell ⟨p, 2, none⟩ x2).setCell ⟨p, 3, none⟩ x3).setCell ⟨p, 4, none⟩ x4).setCell ⟨p, 5, none⟩ x5).setCell ⟨p, 6, none⟩ x6).setCell ⟨p, 7, none⟩ x7) := ((((((((Fr.refl (fun k => k = p) w).setCell (p := ⟨p, 0, none⟩) (fun _ => rfl) x0).setCell (p := ⟨p, 1, none⟩) (fun _ => rfl) x1).setCell (p := ⟨p, 2, none⟩) (fun _ => rfl) x2).setCell (p := ⟨p, 3, none⟩) (fun _ => rfl) x3).setCell (p := ⟨p, 4, none⟩) (fun _ => rfl) x4).setCell (p := ⟨p, 5, none⟩) (fun _ => rfl) x5).setCell (p := ⟨p, 6, none⟩) (fun _ => rfl) x6).setCell (p := ⟨p, 7, none⟩) (fun _ => rfl) x7
structure SmallM (m : Mt) : Prop where
 p : m.params.length ≤ 1000
 c : m.code.length ≤ 1000
 h : m.hands.length ≤ 1000
structure MtOwn (w : World) (s : Ms) (m : Mt) : Prop where
 name : s.name = m.name
 ret : s.ret = m.ret
 lo : s.lo = m.lo
 st : s.st = m.st
 p : OwnG elTy w (.slice s.p.a s.p.n s.p.c) m.params
 c : OwnG elIn w (.slice s.c.a s.c.n s.c.c) m.code
 h : OwnG elHd w (.slice s.h.a s.h.n s.h.c) m.hands
theorem MtOwn.at' {w : World} {s : Ms} {m : Mt} (h : MtOwn w s m) : MtAt w s m := ⟨h.name, h.ret, h.lo, h.st, h.p.sl okTy, (h.c.sl okIn).i, h.h.sl okHd⟩
def Apart (S : Nat → Prop) (w : World) : Prop := ∀ k, S k → ∀ cur e, w.heap[k]? = some (.cells cur e (0, 0)) → e ≠ 35 ∧ e ≠ 109 ∧ e ≠ 47 ∧ e ≠ 44 ∧ e ≠ 27 ∧ e ≠ 156
theorem Apart.no (w : World) : Apart no w := fun _ f => f.elim
def ApartM (S : Nat → Prop) (w : World) : Prop := ∀ k, S k → ∀ cur e, w.heap[k]? = some (.cells cur e (0, 0)) → e ≠ 44 ∧ e ≠ 27 ∧ e ≠ 156
theorem Apart.m {S : Nat → Prop} {w : World} (h : Apart S w) : ApartM S w := fun k hk cur e hc => (h k hk cur e hc).2.2.2
theorem MtOwn.kept {S : Nat → Prop} {w w' : World} {s : Ms} {m : Mt} (h : MtOwn w s m) (hf : Fr S w w') (hS : ApartM S w) : MtOwn w' s m := by
 refine ⟨h.name, h.ret, h.lo, h.st, h.p.kept hf (fun k hk hs => ?_), h.c.kept hf (fun k hk hs => ?_), h.h.kept hf (fun k hk hs => ?_)⟩
 · obtain ⟨cur, hc⟩ := h.p.tag hk
   exact (hS k hs cur _ hc).1 rfl
 · obtain ⟨cur, hc⟩ := h.c.tag hk
   exact (hS k hs cur _ hc).2.1 rfl
 · obtain ⟨cur, hc⟩ := h.h.tag hk
   exact (hS k hs cur _ hc).2.2 rfl
structure SmallC (c : Cl) : Prop where
 p : c.pool.length ≤ 1000
 f : c.fields.length ≤ 1000
 m : c.methods.length ≤ 1000
 ms : ∀ m ∈ c.methods, SmallM m
theorem results_26 (w : World) (r : Nat) (x0 x1 x2 x3 x4 x5 x6 x7 : Value) (h : w.heap[r]? = some (.cells #[x0, x1, x2, x3, x4, x5, x6, x7] 47 (0, 0))) (tmps : Array Value) (h2 : tmps.getD 2 undef = .pointer (some ⟨r, 0, none⟩)) :
 (results Tryz.f58 tmps).run Tryz.prog w = .ok (.agg #[x0, x1, x2, x3, x4, x5, x6, x7]) w := by
 have hl : (loadVar 47 ⟨r, 0, none⟩).run Tryz.prog w = .ok (.agg #[x0, x1, x2, x3, x4, x5, x6, x7]) w := run_loadVar_row (P := Tryz.prog) w r 47 47 #[x0, x1, x2, x3, x4, x5, x6, x7] (0, 0) _ h Tryz.underlying47 rfl (by kernel_rfl)
 have h2' : tmps[2]?.getD undef = .pointer (some ⟨r, 0, none⟩) := by simpa using h2
 simp [results, asAddr, h2', hl]
set_option maxRecDepth 100000 in
set_option maxHeartbeats 2000000 in
theorem copyMethod_any (w : World) (s : Ms) (m : Mt) (h : MtAt w s m) (hs : SmallM m) :
 Calls Tryz.prog 58 #[msV s] w fun e w' => ∃ s', e = .returned (msV s') ∧ MtOwn w' s' m ∧ Fr no w w' := by
 obtain ⟨sn, sp, sr, slo, sst, sc, sh⟩ := s
 obtain ⟨e1, e2, e3, e4, hp, hc, hh⟩ := h
 simp only [] at e1 e2 e3 e4 hp hc hh
 subst e1 e2 e3 e4
 unfold msV
 simp only []
 have HW : Hid (∃ W0, W0 = (w.alloc (.cells #[.string m.name, .slice sp.a sp.n sp.c, .int .i64 m.ret.k, .string m.ret.c, .int .i64 m.lo, .int .i64 m.st, .slice sc.a sc.n sc.c, .slice sh.a sh.n sh.c] 47)).alloc (.cells #[.string ⟨#[]⟩, .slice none 0 0, .int .i64 0, .string ⟨#[]⟩, .int .i64 0, .int .i64 0, .slice none 0 0, .slice none 0 0] 47)) := ⟨_, rfl⟩
 obtain ⟨W0, hW0⟩ := HW.out
 have F0 : Fr no w W0 := by rw [hW0]; exact ((Fr.refl no w).alloc _ _).alloc _ _
 have A0 : W0.heap[w.heap.size]? = some (.cells #[.string m.name, .slice sp.a sp.n sp.c, .int .i64 m.ret.k, .string m.ret.c, .int .i64 m.lo, .int .i64 m.st, .slice sc.a sc.n sc.c, .slice sh.a sh.n sh.c] 47 (0, 0)) := by
  rw [hW0]
  exact (Below.heap_alloc _ _ _ (by simp)).trans (heap_alloc_new w _)
 have B0 : W0.heap[w.heap.size + 1]? = some (.cells #[.string ⟨#[]⟩, .slice none 0 0, .int .i64 0, .string ⟨#[]⟩, .int .i64 0, .int .i64 0, .slice none 0 0, .slice none 0 0] 47 (0, 0)) := by
  rw [hW0]
  have : (w.alloc (.cells #[.string m.name, .slice sp.a sp.n sp.c, .int .i64 m.ret.k, .string m.ret.c, .int .i64 m.lo, .int .i64 m.st, .slice sc.a sc.n sc.c, .slice sh.a sh.n sh.c] 47)).heap.size = w.heap.size + 1 := by simp
  rw [← this]
  exact heap_alloc_new _ _
 have Z0 : W0.heap.size = w.heap.size + 1 + 1 := by rw [hW0]; simp
 have C1 := cloneTy_any W0 _ _ (hp.kept F0) hs.p
 have H2 : Hid (∀ x, Fr no w x → Calls Tryz.prog 95 #[.slice sc.a sc.n sc.c] x fun e w' => ∃ v', e = .returned v' ∧ OwnG elIn w' v' m.code ∧ NewV x v' ∧ Fr no x w') := fun x f => cloneIn_any x _ _ (hc.g.kept f) hs.c
 have H3 : Hid (∀ x, Fr no w x → Calls Tryz.prog 96 #[.slice sh.a sh.n sh.c] x fun e w' => ∃ v', e = .returned v' ∧ OwnG elHd w' v' m.hands ∧ NewV x v' ∧ Fr no x w') := fun x f => cloneHd_any x _ _ (hh.kept f) hs.h
 have hlt : w.heap.size < W0.heap.size := by omega
 have HZ : Hid (W0.heap.size = w.heap.size + 1 + 1) := Z0
 have HA : Hid (_ ∧ _) := ⟨A0, B0⟩
 have HF : Hid (Fr no w W0) := F0
 obtain ⟨a0, a1, a2, a3, a4, a5, a6, a7⟩ := box8 A0
 clear hp hc hh hs A0 B0 F0 Z0 HW
 generalize hmn : m.name = mn at *
 generalize hmr : m.ret = mr at *
 generalize hml : m.lo = ml at *
 generalize hmt : m.st = mt at *
 go_enter Tryz.func58, Tryz.ntmps58
 go_wp2_with fail
 rw [← hW0]
 go_wp2_with fail
 refine C1.mono ?_
 rintro e w1 ⟨v1, rfl, o1, n1, f1⟩
 obtain ⟨q1, c1, rfl⟩ := o1.form
 have F1 : Fr no w w1 := HF.out.new f1 (fun _ _ f => f)
 have A1 := f1.heap HA.out.1 (fun f => f)
 have B1 := f1.heap HA.out.2 (fun f => f)
 have fz1 := frozen_at (o := 1) A1
 clear a0 a1 a2 a3 a4 a5 a6 a7
 obtain ⟨a0, a1, a2, a3, a4, a5, a6, a7⟩ := box8 A1
 have D1 : Fr (fun k => k = w.heap.size) w1 (w1.setCell ⟨w.heap.size, 1, none⟩ (.slice q1 m.params.length c1)) := (Fr.refl (fun k => k = w.heap.size) w1).setCell (p := ⟨w.heap.size, 1, none⟩) (fun _ => rfl) _
 have A1' : (w1.setCell ⟨w.heap.size, 1, none⟩ (.slice q1 m.params.length c1)).heap[w.heap.size]? = some (.cells #[.string mn, .slice q1 m.params.length c1, .int .i64 mr.k, .string mr.c, .int .i64 ml, .int .i64 mt, .slice sc.a sc.n sc.c, .slice sh.a sh.n sh.c] 47 (0, 0)) := set_at A1
 have B1' := D1.heap B1 (by omega)
 have F1' : Fr no w (w1.setCell ⟨w.heap.size, 1, none⟩ (.slice q1 m.params.length c1)) := F1.new D1 (fun i hi e => by omega)
 have O1' := o1.kept D1 (fun k hk e => by have := n1 k hk; omega)
 have Z1 : w.heap.size + 1 + 1 ≤ w1.heap.size := by have := f1.size; have := HZ.out; omega
 have HK1 : Hid (_ ∧ _ ∧ _ ∧ _) := ⟨A1', B1', F1', O1'⟩
 clear A1' B1' F1' O1' A1 B1 F1 D1 o1 n1 f1
 go_wp2_with fail
 refine (H2.out _ HK1.out.2.2.1).mono ?_
 rintro e w2 ⟨v2, rfl, o2, n2, f2⟩
 obtain ⟨q2, c2, rfl⟩ := o2.form
 have F2 : Fr no w w2 := HK1.out.2.2.1.new f2 (fun _ _ f => f)
 have A2 := f2.heap HK1.out.1 (fun f => f)
 have B2 := f2.heap HK1.out.2.1 (fun f => f)
 have O12 := HK1.out.2.2.2.keep f2
 have Z2 : w.heap.size + 1 + 1 ≤ w2.heap.size := by have := f2.size; simp [World.setCell] at this; omega
 have fz2 := frozen_at (o := 6) A2
 clear a0 a1 a2 a3 a4 a5 a6 a7
 obtain ⟨a0, a1, a2, a3, a4, a5, a6, a7⟩ := box8 A2
 have D2 : Fr (fun k => k = w.heap.size) w2 (w2.setCell ⟨w.heap.size, 6, none⟩ (.slice q2 m.code.length c2)) := (Fr.refl (fun k => k = w.heap.size) w2).setCell (p := ⟨w.heap.size, 6, none⟩) (fun _ => rfl) _
 have A2' : (w2.setCell ⟨w.heap.size, 6, none⟩ (.slice q2 m.code.length c2)).heap[w.heap.size]? = some (.cells #[.string mn, .slice q1 m.params.length c1, .int .i64 mr.k, .string mr.c, .int .i64 ml, .int .i64 mt, .slice q2 m.code.length c2, .slice sh.a sh.n sh.c] 47 (0, 0)) := set_at A2
 have B2' := D2.heap B2 (by omega)
 have F2' : Fr no w (w2.setCell ⟨w.heap.size, 6, none⟩ (.slice q2 m.code.length c2)) := F2.new D2 (fun i hi e => by omega)
 have nq1 : ∀ k, (Value.slice q1 m.params.length c1).ownBlock = some k → ¬ k = w.heap.size := fun k hk e => by
  obtain ⟨cur, hc⟩ := O12.tag hk
  rw [e, A2] at hc
  simp [elTy] at hc
 have nq2 : ∀ k, (Value.slice q2 m.code.length c2).ownBlock = some k → ¬ k = w.heap.size := fun k hk e => by
  obtain ⟨cur, hc⟩ := o2.tag hk
  rw [e, A2] at hc
  simp [elIn] at hc
 have P12 := O12.kept D2 nq1
 have P22 := o2.kept D2 nq2
 have HK2 : Hid (_ ∧ _ ∧ _ ∧ _ ∧ _) := ⟨A2', B2', F2', P12, P22⟩
 clear A2' B2' F2' P12 P22 A2 B2 F2 D2 o2 n2 f2 nq1 nq2 O12 HK1
 go_wp2_with fail
 refine (H3.out _ HK2.out.2.2.1).mono ?_
 rintro e w3 ⟨v3, rfl, o3, n3, f3⟩
 obtain ⟨q3, c3, rfl⟩ := o3.form
 have F3 : Fr no w w3 := HK2.out.2.2.1.new f3 (fun _ _ f => f)
 have A3 := f3.heap HK2.out.1 (fun f => f)
 have B3 := f3.heap HK2.out.2.1 (fun f => f)
 have O13 := HK2.out.2.2.2.1.keep f3
 have O23 := HK2.out.2.2.2.2.keep f3
 have fz3 := frozen_at (o := 7) A3
 clear a0 a1 a2 a3 a4 a5 a6 a7
 have D3 : Fr (fun k => k = w.heap.size) w3 (w3.setCell ⟨w.heap.size, 7, none⟩ (.slice q3 m.hands.length c3)) := (Fr.refl (fun k => k = w.heap.size) w3).setCell (p := ⟨w.heap.size, 7, none⟩) (fun _ => rfl) _
 have A3' : (w3.setCell ⟨w.heap.size, 7, none⟩ (.slice q3 m.hands.length c3)).heap[w.heap.size]? = some (.cells #[.string mn, .slice q1 m.params.length c1, .int .i64 mr.k, .string mr.c, .int .i64 ml, .int .i64 mt, .slice q2 m.code.length c2, .slice q3 m.hands.length c3] 47 (0, 0)) := set_at A3
 have B3' := D3.heap B3 (by omega)
 have F3' : Fr no w (w3.setCell ⟨w.heap.size, 7, none⟩ (.slice q3 m.hands.length c3)) := F3.new D3 (fun i hi e => by omega)
 have nt : ∀ {α : Type} {K : El α} {v : Value} {l : List α}, OwnG K w3 v l → K.e ≠ 47 → ∀ k, v.ownBlock = some k → ¬ k = w.heap.size := fun h hK k hk e => by
  obtain ⟨cur, hc⟩ := h.tag hk
  rw [e, A3] at hc
  simp only [Option.some.injEq, Obj.cells.injEq] at hc
  exact hK hc.2.1.symm
 have P13 := O13.kept D3 (nt O13 (by decide))
 have P23 := O23.kept D3 (nt O23 (by decide))
 have P33 := o3.kept D3 (nt o3 (by decide))
 clear nt
 obtain ⟨y0, y1, y2, y3, y4, y5, y6, y7⟩ := box8 A3
 obtain ⟨a0, a1, a2, a3, a4, a5, a6, a7⟩ := box8 A3'
 obtain ⟨b0, b1, b2, b3, b4, b5, b6, b7⟩ := box8 B3'
 have fb := fun o => frozen_at (o := o) B3'
 have HK3 : Hid (_ ∧ _ ∧ _ ∧ _ ∧ _) := ⟨B3', F3', P13, P23, P33⟩
 clear A3' B3' F3' P13 P23 P33 A3 B3 F3 D3 o3 n3 f3 O13 O23 HK2
 generalize hV : w3.setCell ⟨w.heap.size, 7, none⟩ (.slice q3 m.hands.length c3) = V at *
 go_wp2_with fail
 refine bodyPost_ret (results_26 _ (w.heap.size + 1) _ _ _ _ _ _ _ _ (chain8 HK3.out.1 _ _ _ _ _ _ _ _) _ rfl) rfl ?_
 have FC := frc8 V (w.heap.size + 1) (.string mn) (.slice q1 m.params.length c1) (.int .i64 mr.k) (.string mr.c) (.int .i64 ml) (.int .i64 mt) (.slice q2 m.code.length c2) (.slice q3 m.hands.length c3)
 have nt : ∀ {α : Type} {K : El α} {v : Value} {l : List α}, OwnG K V v l → K.e ≠ 47 → ∀ k, v.ownBlock = some k → ¬ k = w.heap.size + 1 := fun h hK k hk e => by
  obtain ⟨cur, hc⟩ := h.tag hk
  rw [e, HK3.out.1] at hc
  simp only [Option.some.injEq, Obj.cells.injEq] at hc
  exact hK hc.2.1.symm
 exact ⟨⟨mn, ⟨q1, _, c1⟩, mr, ml, mt, ⟨q2, _, c2⟩, ⟨q3, _, c3⟩⟩, rfl, ⟨hmn.symm, hmr.symm, hml.symm, hmt.symm, HK3.out.2.2.1.kept FC (nt HK3.out.2.2.1 (by decide)), HK3.out.2.2.2.1.kept FC (nt HK3.out.2.2.2.1 (by decide)), HK3.out.2.2.2.2.kept FC (nt HK3.out.2.2.2.2 (by decide))⟩, HK3.out.2.1.new FC (fun i hi e => by omega)⟩
end Go.Proofs.YtalgjpmaafooeaaGreatDoor
/- A thing of a row of one's own is written anew. -/
namespace Go.Proofs.YtalgjpmaafooeaaGreatDoor
open Go.ChangeShapes Go.WideShapes Go.ChangeAt Go.RowKit
def sets (cur : Array Value) (o : Nat) : List Value → Array Value
 | [] => cur
 | u :: r => sets (cur.setIfInBounds o u) (o + 1) r
theorem sets_size : ∀ (us : List Value) (cur : Array Value) (o : Nat), (sets cur o us).size = cur.size
 | [], _, _ => rfl
 | u :: r, cur, o => by unfold sets; rw [sets_size r]; simp
theorem sets_out : ∀ (us : List Value) (cur : Array Value) (o j : Nat), (j < o ∨ o + us.length ≤ j) → (sets cur o us)[j]? = cur[j]?
 | [], _, _, _, _ => rfl
 | u :: r, cur, o, j, h => by
  unfold sets
  simp only [List.length_cons] at h
  rw [sets_out r _ (o + 1) j (by omega), Array.getElem?_setIfInBounds, if_neg (by omega)]
theorem sets_in : ∀ (us : List Value) (cur : Array Value) (o j : Nat) (u : Value), us[j]? = some u → o + us.length ≤ cur.size → (sets cur o us)[o + j]? = some u
 | [], _, _, _, _, h, _ => by simp at h
 | x :: r, cur, o, 0, u, h, hs => by
  simp only [List.length_cons] at hs
  simp only [List.getElem?_cons_zero, Option.some.injEq] at h
  subst h
  unfold sets
  show (sets (cur.setIfInBounds o x) (o + 1) r)[o]? = some x
  rw [sets_out r _ (o + 1) o (by omega), Array.getElem?_setIfInBounds, if_pos rfl, if_pos (by omega)]
 | x :: r, cur, o, j + 1, u, h, hs => by
  simp only [List.length_cons] at hs
  unfold sets
  have := sets_in r (cur.setIfInBounds o x) (o + 1) j u (by simpa using h) (by simp; omega)
  rwa [show o + 1 + j = o + (j + 1) by omega] at this
section
variable {α : Type} {K : El α}
theorem OwnG.cur {w : World} {g n cap : Nat} {l : List α} (h : OwnG K w (.slice (some ⟨g, 0, none⟩) n cap) l) : ∃ cur, w.heap[g]? = some (.cells cur K.e (0, 0)) ∧ n = l.length ∧ l.length ≤ cap ∧ cap ≤ maxLen ∧ cur.size = cap * K.n ∧ cur.toList.take (l.length * K.n) = cg K l ∧ ∀ u ∈ cur.toList, nob u := by
 rcases h.1.2 with ⟨e, _⟩ | ⟨g', cap', cur, e, hb, hg, hn, hm, hs, ht⟩
 · simp at e
 · simp only [Value.slice.injEq, Option.some.injEq, Addr.mk.injEq] at e
   obtain ⟨⟨rfl, _⟩, rfl, rfl⟩ := e
   exact ⟨cur, hg, rfl, hn, hm, hs, ht, h.2 g cur K.e (0, 0) rfl hg⟩
theorem OwnG.cell (hK : K.Ok) {w : World} {g n cap : Nat} {l : List α} (h : OwnG K w (.slice (some ⟨g, 0, none⟩) n cap) l) {i : Nat} {x : α} (hx : l[i]? = some x) {j : Nat} {u : Value} (hj : (K.f x)[j]? = some u) : w.cell? ⟨g, i * K.n + j, none⟩ = some u := by
 have := World.ownsRow.cells h.1 (g := g) rfl (i * K.n + j) _ (cg_get hK l i x hx j u hj)
 rw [Addr.add_lit] at this
 simpa using this
theorem OwnG.put (hK : K.Ok) {w w' : World} {g n cap : Nat} {l : List α} (h : OwnG K w (.slice (some ⟨g, 0, none⟩) n cap) l) {cur cur' : Array Value} (hb : w.heap[g]? = some (.cells cur K.e (0, 0))) (hb' : w'.heap[g]? = some (.cells cur' K.e (0, 0)))
 (hsz : cur'.size = cur.size) {k : Nat} (hk : k < l.length) (x : α) (hin : ∀ j u, (K.f x)[j]? = some u → cur'[k * K.n + j]? = some u) (hout : ∀ j, (j < k * K.n ∨ k * K.n + K.n ≤ j) → cur'[j]? = cur[j]?) :
 OwnG K w' (.slice (some ⟨g, 0, none⟩) n cap) (l.set k x) := by
 obtain ⟨c0, hc0, rfl, hn, hm, hs, ht, hnb⟩ := h.cur
 rw [hb] at hc0
 simp only [Option.some.injEq, Obj.cells.injEq] at hc0
 obtain ⟨rfl, _, _⟩ := hc0
 have hp := hK.pos
 have hcap : (l.length) * K.n ≤ cap * K.n := Nat.mul_le_mul_right _ hn
 have htk : cur'.toList.take (l.length * K.n) = cg K (l.set k x) := by
  apply List.ext_getElem?
  intro i
  by_cases hi : i < l.length * K.n
  · have hq : i / K.n < l.length := Nat.div_lt_of_lt_mul (by rw [Nat.mul_comm]; exact hi)
    have hd : i / K.n * K.n + i % K.n = i := by rw [Nat.mul_comm]; exact Nat.div_add_mod i K.n
    have hmod : i % K.n < K.n := Nat.mod_lt _ hp
    rw [List.getElem?_take, if_pos hi, Array.getElem?_toList]
    by_cases hqk : i / K.n = k
    · have hx : (l.set k x)[i / K.n]? = some x := by rw [hqk, List.getElem?_set_self hk]
      obtain ⟨u, hu⟩ : ∃ u, (K.f x)[i % K.n]? = some u := ⟨_, List.getElem?_eq_getElem (by rw [hK.len]; exact hmod)⟩
      have e1 := cg_get hK (l.set k x) _ x hx _ u hu
      have e2 := hin _ u hu
      rw [hd] at e1
      rw [← hqk, hd] at e2
      rw [e1, e2]
    · obtain ⟨y, hy⟩ : ∃ y, l[i / K.n]? = some y := ⟨_, List.getElem?_eq_getElem hq⟩
      have hx : (l.set k x)[i / K.n]? = some y := by rw [List.getElem?_set_ne (Ne.symm hqk)]; exact hy
      obtain ⟨u, hu⟩ : ∃ u, (K.f y)[i % K.n]? = some u := ⟨_, List.getElem?_eq_getElem (by rw [hK.len]; exact hmod)⟩
      have e1 := cg_get hK (l.set k x) _ y hx _ u hu
      have e2 := cg_get hK l _ y hy _ u hu
      rw [hd] at e1 e2
      rw [e1, ← e2, ← ht, List.getElem?_take, if_pos hi, Array.getElem?_toList]
      refine hout i ?_
      rcases Nat.lt_or_gt_of_ne hqk with hlt | hgt
      · left
        have : (i / K.n + 1) * K.n ≤ k * K.n := Nat.mul_le_mul_right _ hlt
        rw [Nat.add_mul, Nat.one_mul] at this
        omega
      · right
        have : (k + 1) * K.n ≤ i / K.n * K.n := Nat.mul_le_mul_right _ hgt
        rw [Nat.add_mul, Nat.one_mul] at this
        omega
  · rw [List.getElem?_eq_none (by rw [List.length_take]; omega), List.getElem?_eq_none (by rw [cg_length hK, List.length_set]; omega)]
 refine ⟨⟨by rw [cg_length hK], .inr ⟨g, cap, cur', by simp, Nat.zero_le _, hb', by simpa using hn, hm, by rw [hsz, hs], ?_⟩⟩, fun k' cu t fz hk' hc => ?_⟩
 · rw [List.length_set]; exact htk
 · simp only [Value.ownBlock, Option.some.injEq] at hk'
   subst hk'
   rw [hb'] at hc
   simp only [Option.some.injEq, Obj.cells.injEq] at hc
   obtain ⟨rfl, _, _⟩ := hc
   intro u hu
   obtain ⟨j, hj⟩ := List.mem_iff_getElem?.1 hu
   rw [Array.getElem?_toList] at hj
   by_cases hr : j < k * K.n ∨ k * K.n + K.n ≤ j
   · rw [hout j hr] at hj
     exact hnb u (Array.mem_toList_iff.2 (Array.mem_of_getElem? hj))
   · obtain ⟨v, hv⟩ : ∃ v, (K.f x)[j - k * K.n]? = some v := ⟨_, List.getElem?_eq_getElem (by rw [hK.len]; omega)⟩
     have := hin _ v hv
     rw [show k * K.n + (j - k * K.n) = j by omega, hj] at this
     simp only [Option.some.injEq] at this
     subst this
     exact hK.nb x _ (List.mem_of_getElem? hv)
theorem OwnG.puts (hK : K.Ok) {w w' : World} {g n cap : Nat} {l : List α} (h : OwnG K w (.slice (some ⟨g, 0, none⟩) n cap) l) {cur : Array Value} (hb : w.heap[g]? = some (.cells cur K.e (0, 0))) {k : Nat} (hk : k < l.length) (x : α)
 (hb' : w'.heap[g]? = some (.cells (sets cur (k * K.n) (K.f x)) K.e (0, 0))) : OwnG K w' (.slice (some ⟨g, 0, none⟩) n cap) (l.set k x) := by
 obtain ⟨c0, hc0, rfl, hn, hm, hs, ht, hnb⟩ := h.cur
 rw [hb] at hc0
 simp only [Option.some.injEq, Obj.cells.injEq] at hc0
 obtain ⟨rfl, _, _⟩ := hc0
 refine h.put hK hb hb' (sets_size _ _ _) hk x (fun j u hj => sets_in _ _ _ _ _ hj ?_) (fun j hj => sets_out _ _ _ _ (by rw [hK.len]; exact hj))
 rw [hK.len, hs]
 have : (k + 1) * K.n ≤ cap * K.n := Nat.mul_le_mul_right _ (by omega)
 rw [Nat.add_mul, Nat.one_mul] at this
 exact this
end
theorem setCells_heap (g : Nat) (t : TypeId) : ∀ (us : List Value) (w : World) (o : Nat) (cur : Array Value), w.heap[g]? = some (.cells cur t (0, 0)) → (w.setCells g o us).heap[g]? = some (.cells (sets cur o us) t (0, 0))
 | [], _, _, _, h => h
 | u :: r, w, o, _, h => setCells_heap g t r (w.setCell ⟨g, o, none⟩ u) (o + 1) _ (set_at h)
theorem setCells_fr (g : Nat) : ∀ (us : List Value) (w : World) (o : Nat), Fr (fun k => k = g) w (w.setCells g o us)
 | [], w, _ => Fr.refl _ w
 | u :: r, w, o => ((Fr.refl (fun k => k = g) w).setCell (p := ⟨g, o, none⟩) (fun _ => rfl) u).trans (setCells_fr g r (w.setCell ⟨g, o, none⟩ u) (o + 1)) (fun _ _ e => e) (fun _ _ e => e)
theorem store_mid (w : World) (g o : Nat) (ty t : TypeId) (cur cells : Array Value) (hg : w.heap[g]? = some (.cells cur t (0, 0))) (hs : o + cells.size ≤ cur.size) (hi : (Tryz.prog.info? ty).map (·.size) = some cells.size) (h1 : cells.all (·.oneCell') = true) :
 ∃ w', (Instr.storeAt ty (.pointer (some ⟨g, o, none⟩)) (.agg cells)).run Tryz.prog w = .ok () w' ∧ w'.heap[g]? = some (.cells (sets cur o cells.toList) t (0, 0)) ∧ Fr (fun k => k = g) w w' :=
 ⟨_, run_storeAt_mid w g o ty cells (fun j hj => ⟨by rw [cell_at hg, Array.getElem?_eq_getElem (by omega)]; rfl, frozen_at hg⟩) hi h1, setCells_heap g t _ _ _ _ hg, setCells_fr g _ _ _⟩
end Go.Proofs.YtalgjpmaafooeaaGreatDoor
/- A law on regions that draw their order: what is read may be taken first, if nothing that is written comes up ahead of one operation that waits for the readings. -/
namespace Go.Proofs.YtalgjpmaafooeaaGreatDoor
abbrev ptr (b o : Nat) : Value := .pointer (some ⟨b, o, none⟩)
section
variable {ops : Array Oper} {Q : Exit → Act → World → Prop} {S : World → Prop} {g : Nat}
def wpLate (ops : Array Oper) (Q : Exit → Act → World → Prop) (S : World → Prop) (g : Nat) : Nat → Array Bool → Act → World → Prop
 | 0, L, a, w => Region.ready .any ops L = [] ∧ Q .normal a w
 | n + 1, L, a, w => (Region.ready .any ops L = [] → Q .normal a w) ∧
  ∀ j, j ∈ Region.ready .any ops L → wpOp Tryz.prog ops Q j (fun a' w' => ((L.setIfInBounds j true).getD g true = false → S w') ∧ wpLate ops Q S g n (L.setIfInBounds j true) a' w') a w
theorem wpLate.any : ∀ {n : Nat} {L : Array Bool} {a : Act} {w : World}, wpLate ops Q S g n L a w → wpAny Tryz.prog .any ops Q n L a w
 | 0, _, _, _, h => h
 | _ + 1, _, _, _, h => ⟨h.1, fun j hj => wpOp_mono (fun _ _ k => k.2.any) (h.2 j hj)⟩
theorem late_begin {id : Nat} {a : Act} {w : World} (hm : Tryz.prog.follows .mixedOrders = true) (h : wpLate ops Q S g ops.size (Array.replicate ops.size false) a w.drew) : (Code.region id ops true).wp Tryz.prog Q a w :=
 wp_region_any hm h.any
def Waits (ops : Array Oper) (g i : Nat) : Prop := ∃ og, ops[g]? = some og ∧ ∃ e, e ∈ og.after ∧ Region.binds .any e = true ∧ e.on = i
theorem not_ready {L : Array Bool} {i : Nat} (hw : Waits ops g i) (hi : L.getD i true = false) : g ∉ Region.ready .any ops L := by
 intro hg
 obtain ⟨_, o, ho, hall⟩ := mem_ready.1 hg
 obtain ⟨og, hog, e, he, hb, hon⟩ := hw
 rw [ho] at hog
 simp only [Option.some.injEq] at hog
 subst hog
 have h1 := hall e he hb
 rw [hon] at h1
 by_cases hlt : i < L.size
 · simp [Array.getD, hlt] at hi h1
   rw [hi] at h1
   cases h1
 · simp [Array.getD, hlt] at h1
theorem late_first {i : Nat} {oi : Oper} {v : Value} (hi : ops[i]? = some oi) (hs : Region.noSelect ops = true) (hQ : ∀ c a w, Q (.panic c) (a.put oi.dst v) w → Q (.panic c) a w) (hw : Waits ops g i) (hgi : i ≠ g) :
 ∀ (n : Nat) (L : Array Bool) (a : Act) (w : World), (∀ j oj, ops[j]? = some oj → j ≠ i → L.getD j true = false → (∀ e ∈ oj.after, Region.binds .any e = true → e.on ≠ i) → oi.apart ops oj = true) →
  i ∈ Region.ready .any ops L → L.getD g true = false → YieldsIf Tryz.prog ops S oi v a → S w → wpLate ops Q S g n (L.setIfInBounds i true) (a.put oi.dst v) w → wpLate ops Q S g (n + 1) L a w := by
 have ns := fun k o cs b (ho : ops[k]? = some o) => Region.noSelect_spec hs k o cs b ho
 intro n
 induction n with
 | zero =>
  intro L a w _ hr _ hy hS H
  constructor
  · intro e
    rw [e] at hr
    exact absurd hr (by simp)
  · intro j hj
    by_cases hji : j = i
    · rw [hji]; exact hy.wpOp hi hS ⟨fun _ => hS, hji ▸ H⟩
    · exact absurd (ready_mono hj hji) (by rw [H.1]; simp)
 | succ n ih =>
  intro L a w hf hr hg hy hS H
  constructor
  · intro e
    rw [e] at hr
    exact absurd hr (by simp)
  · intro j hj
    by_cases hji : j = i
    · rw [hji]; exact hy.wpOp hi hS ⟨fun _ => hS, hji ▸ H⟩
    · have hiu := (mem_ready.1 hr).1
      have hjg : j ≠ g := fun e => not_ready hw hiu (e ▸ hj)
      obtain ⟨hju, oj, hoj, hall⟩ := mem_ready.1 hj
      have hno : ∀ e ∈ oj.after, Region.binds .any e = true → e.on ≠ i := fun e he hb hon =>
       not_ready (g := j) ⟨oj, hoj, e, he, hb, hon⟩ hiu hj
      have step := wpOp_putIf hoj (hf j oj hoj hji hju hno) (fun cs b => ns i oi cs b hi) (fun cs b => ns j oj cs b hoj) hQ hy (H.2 j (ready_mono hj hji))
      refine wpOp_mono (fun a' w' k => ?_) step
      have hgL : (L.setIfInBounds j true).getD g true = false := by rw [getD_set_ne true hjg]; exact hg
      have hS' : S w' := k.2.1 (by rw [getD_set_ne true hjg, getD_set_ne true hgi]; exact hg)
      refine ⟨fun _ => hS', ih _ a' w' (fun m om hm hmi hmu hmo => hf m om hm hmi ?_ hmo) (ready_mono hr (Ne.symm hji)) hgL k.1 hS' ?_⟩
      · by_cases hjm : j = m
        · exact hjm ▸ hju
        · rwa [getD_set_ne true hjm] at hmu
      · rw [Array.setIfInBounds_comm _ _ hji]
        exact k.2.2
def waitsB (ops : Array Oper) (g i : Nat) : Bool := match ops[g]? with | some o => o.after.any (fun e => Region.binds .any e && e.on == i) | none => false
theorem waits_of {i : Nat} (h : waitsB ops g i = true) : Waits ops g i := by
 unfold waitsB at h
 cases ho : ops[g]? with
 | none => rw [ho] at h; simp at h
 | some o =>
  rw [ho] at h
  obtain ⟨k, hk, e⟩ := Array.any_eq_true.1 h
  simp only [Bool.and_eq_true, beq_iff_eq] at e
  exact ⟨o, ho, _, Array.getElem_mem hk, e.1, e.2⟩
theorem late_pure_first {i : Nat} {oi : Oper} {v : Value} (hi : ops[i]? = some oi) (hs : Region.noSelect ops = true) (hQ : ∀ c a w, Q (.panic c) (a.put oi.dst v) w → Q (.panic c) a w) (hgi : i ≠ g) :
 ∀ (n : Nat) (L : Array Bool) (a : Act) (w : World), (∀ j oj, ops[j]? = some oj → j ≠ i → L.getD j true = false → (∀ e ∈ oj.after, Region.binds .any e = true → e.on ≠ i) → oi.apart ops oj = true) →
  i ∈ Region.ready .any ops L → YieldsIf Tryz.prog ops (fun _ => True) oi v a → (L.getD g true = false → S w) → wpLate ops Q S g n (L.setIfInBounds i true) (a.put oi.dst v) w → wpLate ops Q S g (n + 1) L a w := by
 have ns := fun k o cs b (ho : ops[k]? = some o) => Region.noSelect_spec hs k o cs b ho
 intro n
 induction n with
 | zero =>
  intro L a w _ hr hy hS H
  refine ⟨fun e => absurd hr (by rw [e]; simp), fun j hj => ?_⟩
  by_cases hji : j = i
  · rw [hji]; exact hy.wpOp hi trivial ⟨fun h => hS (by rwa [getD_set_ne true hgi] at h), hji ▸ H⟩
  · exact absurd (ready_mono hj hji) (by rw [H.1]; simp)
 | succ n ih =>
  intro L a w hf hr hy hS H
  refine ⟨fun e => absurd hr (by rw [e]; simp), fun j hj => ?_⟩
  by_cases hji : j = i
  · rw [hji]; exact hy.wpOp hi trivial ⟨fun h => hS (by rwa [getD_set_ne true hgi] at h), hji ▸ H⟩
  · have hiu := (mem_ready.1 hr).1
    obtain ⟨hju, oj, hoj, hall⟩ := mem_ready.1 hj
    have hno : ∀ e ∈ oj.after, Region.binds .any e = true → e.on ≠ i := fun e he hb hon => not_ready (g := j) ⟨oj, hoj, e, he, hb, hon⟩ hiu hj
    have step := wpOp_putIf hoj (hf j oj hoj hji hju hno) (fun cs b => ns i oi cs b hi) (fun cs b => ns j oj cs b hoj) hQ hy (H.2 j (ready_mono hj hji))
    refine wpOp_mono (fun a' w' k => ?_) step
    have hS' : (L.setIfInBounds j true).getD g true = false → S w' := fun h => k.2.1 (by rw [Array.setIfInBounds_comm _ _ (Ne.symm hji), getD_set_ne true hgi]; exact h)
    refine ⟨hS', ih _ a' w' (fun m om hm hmi hmu hmo => hf m om hm hmi ?_ hmo) (ready_mono hr (Ne.symm hji)) k.1 hS' ?_⟩
    · by_cases hjm : j = m
      · exact hjm ▸ hju
      · rwa [getD_set_ne true hjm] at hmu
    · rw [Array.setIfInBounds_comm _ _ hji]
      exact k.2.2
theorem late_pure (i : Nat) (v : Value) {oi : Oper} {n : Nat} {L : Array Bool} {a : Act} {w : World} (hi : ops[i]? = some oi) (hs : Region.noSelect ops = true) (hf : Region.free .any ops L i = true) (hr : (Region.ready .any ops L).contains i = true)
 (hQ : ∀ c a w, Q (.panic c) (a.put oi.dst v) w → Q (.panic c) a w) (hgi : i ≠ g) (hy : YieldsIf Tryz.prog ops (fun _ => True) oi v a) (hS : L.getD g true = false → S w)
 (h : wpLate ops Q S g n (L.setIfInBounds i true) (a.put oi.dst v) w) : wpLate ops Q S g (n + 1) L a w :=
 late_pure_first hi hs hQ hgi n L a w (Region.free_spec hi hf) (by simpa using hr) hy hS h
theorem late_take (i : Nat) (v : Value) {oi : Oper} {n : Nat} {L : Array Bool} {a : Act} {w : World} (hi : ops[i]? = some oi) (hs : Region.noSelect ops = true) (hf : Region.free .any ops L i = true) (hr : (Region.ready .any ops L).contains i = true)
 (hQ : ∀ c a w, Q (.panic c) (a.put oi.dst v) w → Q (.panic c) a w) (hw : Waits ops g i) (hgi : i ≠ g) (hg : L.getD g true = false) (hy : YieldsIf Tryz.prog ops S oi v a) (hS : S w)
 (h : wpLate ops Q S g n (L.setIfInBounds i true) (a.put oi.dst v) w) : wpLate ops Q S g (n + 1) L a w :=
 late_first hi hs hQ hw hgi n L a w (Region.free_spec hi hf) (by simpa using hr) hg hy hS h
theorem late_all (rs : List Nat) {n : Nat} {L : Array Bool} {a : Act} {w : World} (hr : Region.ready .any ops L = rs) (hne : rs ≠ [])
 (h : ∀ j, j ∈ rs → wpOp Tryz.prog ops Q j (fun a' w' => ((L.setIfInBounds j true).getD g true = false → S w') ∧ wpLate ops Q S g n (L.setIfInBounds j true) a' w') a w) : wpLate ops Q S g (n + 1) L a w :=
 ⟨fun e => absurd (hr ▸ e) hne, fun j hj => h j (hr ▸ hj)⟩
theorem late_done {n : Nat} {L : Array Bool} {a : Act} {w : World} (hr : Region.ready .any ops L = []) (h : Q .normal a w) : wpLate ops Q S g n L a w := by
 cases n with
 | zero => exact ⟨hr, h⟩
 | succ n => exact ⟨fun _ => h, fun j hj => by rw [hr] at hj; simp at hj⟩
theorem late_op {i : Nat} {o : Oper} {a : Act} {w : World} {K : Act → World → Prop} (hi : ops[i]? = some o) (hg : o.guard = none) {v : Value} {w' : World} (h : (execOp a.eval o).run Tryz.prog w = .ok (.value v) w') (hK : K (a.put o.dst v) w') : wpOp Tryz.prog ops Q i K a w := by
 have hw : Region.wanted o (yielded ops a.tmps) = true := by unfold Region.wanted; rw [hg]
 unfold wpOp
 simp only [hi]
 rw [if_pos hw]
 refine .inl ?_
 unfold Oper.wp
 rw [h]
 exact hK
theorem late_skip {i : Nat} {o : Oper} {a : Act} {w : World} {K : Act → World → Prop} (hi : ops[i]? = some o) (hg : o.guard = none) {w' : World} (h : (execOp a.eval o).run Tryz.prog w = .ok .skip w') (hK : K (a.put o.dst undef) w') : wpOp Tryz.prog ops Q i K a w := by
 have hw : Region.wanted o (yielded ops a.tmps) = true := by unfold Region.wanted; rw [hg]
 unfold wpOp
 simp only [hi]
 rw [if_pos hw]
 refine .inl ?_
 unfold Oper.wp
 rw [h]
 exact hK
theorem late_call {i f : Nat} {o : Oper} {a : Act} {w : World} {K : Act → World → Prop} (hi : ops[i]? = some o) (hg : o.guard = none) {vals : Array Value} (hrun : (execOp a.eval o).run Tryz.prog w = .ok (.enter f vals) w)
 {R : Value → World → Prop} (C : Calls Tryz.prog f vals w fun e w' => ∃ v, e = .returned v ∧ R v w') (hK : ∀ v w', R v w' → K (a.put o.dst v) w') : wpOp Tryz.prog ops Q i K a w := by
 have hw : Region.wanted o (yielded ops a.tmps) = true := by unfold Region.wanted; rw [hg]
 unfold wpOp
 simp only [hi]
 rw [if_pos hw]
 refine .inl ?_
 unfold Oper.wp
 rw [hrun, Oper.upon_enter]
 refine C.mono ?_
 rintro e w' ⟨v, rfl, hr⟩
 exact hK v w' hr
theorem yields {o : Oper} {a : Act} {v : Value} (hg : o.guard = none) (h : ∀ w, S w → (execOp a.eval o).run Tryz.prog w = .ok (.value v) w) : YieldsIf Tryz.prog ops S o v a :=
 .inl ⟨by unfold Region.wanted; rw [hg], h⟩
end
/-! ### What the operations tell -/
section
variable {o : Oper} {a : Act} {w : World}
theorem ev_move (x : Nat) (v : Value) (ho : o.op = .move (.tmp x)) (hx : a.eval (.tmp x) = v) : (execOp a.eval o).run Tryz.prog w = .ok (.value v) w := by
 unfold execOp; simp [ho, hx]
theorem ev_assign (x : Nat) (v : Value) (ho : o.op = .assign (.tmp x)) (hx : a.eval (.tmp x) = v) : (execOp a.eval o).run Tryz.prog w = .ok (.value v) w := by
 unfold execOp; simp [ho, hx]
theorem ev_nil (x : Nat) (q : Addr) (ho : o.op = .nilCheck (.tmp x)) (hx : a.eval (.tmp x) = .pointer (some q)) : (execOp a.eval o).run Tryz.prog w = .ok (.value (.pointer (some q))) w := by
 unfold execOp; rw [ho]; simp only [hx]; simp [go_sem]
theorem ev_field (t : TypeId) (x i : Nat) (v u : Value) (ho : o.op = .fieldAddr t (.tmp x) i) (hx : a.eval (.tmp x) = v) (hr : (Instr.fieldAt t v i).run Tryz.prog w = .ok u w) : (execOp a.eval o).run Tryz.prog w = .ok (.value u) w := by
 unfold execOp; simp [ho, hx, hr]
theorem ev_load (t : TypeId) (x : Nat) (v u : Value) (ho : o.op = .load t (.tmp x)) (hx : a.eval (.tmp x) = v) (hr : (Instr.loadAt t v).run Tryz.prog w = .ok u w) : (execOp a.eval o).run Tryz.prog w = .ok (.value u) w := by
 unfold execOp; simp [ho, hx, hr]
theorem ev_index (t : TypeId) (x y : Nat) (v i u : Value) (ho : o.op = .indexAddr t (.tmp x) (.tmp y)) (hx : a.eval (.tmp x) = v) (hy : a.eval (.tmp y) = i) (hr : (Instr.indexAt t v i).run Tryz.prog w = .ok u w) : (execOp a.eval o).run Tryz.prog w = .ok (.value u) w := by
 unfold execOp; simp [ho, hx, hy, hr]
theorem ev_append (t : TypeId) (x y : Nat) (v u v' : Value) (w' : World) (ht : o.type = t) (ho : o.op = Op.call { callee := Callee.builtin Builtin.append, args := #[.tmp x, .tmp y], argTypes := #[t, t] }) (hx : a.eval (.tmp x) = v) (hy : a.eval (.tmp y) = u) (hr : (Builtin.append_ #[t, t] t #[v, u]).run Tryz.prog w = .ok v' w') : (execOp a.eval o).run Tryz.prog w = .ok (.value v') w' := by
 unfold execOp; simp [ho, ht, hx, hy, resolve, invoke, builtin, hr, Result.andThen]
theorem ev_store (t : TypeId) (x y : Nat) (p v : Value) (w' : World) (ho : o.op = .store t (.tmp x) (.tmp y)) (hx : a.eval (.tmp x) = p) (hy : a.eval (.tmp y) = v) (hr : (Instr.storeAt t p v).run Tryz.prog w = .ok () w') : (execOp a.eval o).run Tryz.prog w = .ok .skip w' := by
 unfold execOp; simp [ho, hx, hy, hr, Result.andThen]
end
theorem load_row (w : World) (b : Nat) (ty : TypeId) (cs : Array Value) (d : TypeDesc) (h : w.heap[b]? = some (.cells cs ty (0, 0))) (hu : Tryz.prog.underlying ty = some d) (hd : d.isRow = true) (hi : (Tryz.prog.info? ty).map (·.size) = some cs.size) : (Instr.loadAt ty (.pointer (some ⟨b, 0, none⟩))).run Tryz.prog w = .ok (.agg cs) w := by
 have := run_loadAt_mid (P := Tryz.prog) w b 0 ty cs.toList d (fun j v hv => by unfold World.cell?; simp only [h]; rw [Nat.zero_add]; simpa using hv) hu hd (by simpa using hi)
 simpa using this
theorem load_at (w : World) (b o : Nat) (ty t : TypeId) (cs : List Value) (cur : Array Value) (d : TypeDesc) (h : w.heap[b]? = some (.cells cur t (0, 0))) (hc : ∀ j v, cs[j]? = some v → cur[o + j]? = some v) (hu : Tryz.prog.underlying ty = some d) (hd : d.isRow = true) (hi : (Tryz.prog.info? ty).map (·.size) = some cs.length) : (Instr.loadAt ty (.pointer (some ⟨b, o, none⟩))).run Tryz.prog w = .ok (.agg cs.toArray) w :=
 run_loadAt_mid (P := Tryz.prog) w b o ty cs d (fun j v hv => by unfold World.cell?; simp only [h]; exact hc j v hv) hu hd hi
end Go.Proofs.YtalgjpmaafooeaaGreatDoor
