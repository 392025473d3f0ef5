/- The class Main, a method that returns. -/
import Derived.Test.YtcbpmahekgkjlaaGreatDoorJap
import Derived.Shelf.SlIter.Nil
import Derived.Shelf.SortM.Plain
import Derived.Shelf.SortM.SortNone
import Derived.Ground.GgzProg
import Derived.Ground.SlgmProg
import Derived.Test.YtcbpmahekgkjlaaGreatDoorProg
import Derived.Test.YtcbpmahekgkjlaaGreatDoorJao
import Derived.Test.YtcbpmahekgkjlaaGreatDoorJan
namespace Go.Proofs.YtcbpmahekgkjlaaGreatDoor
open Go.ChangeShapes Go.WideShapes Go.ChangeAt Go.RowKit

def retM (n : ByteArray) : Mt := { name := n, params := [], ret := ⟨0, ⟨#[]⟩⟩, lo := 1, st := 0, code := [(33, 0)], hands := [] }
def mainC : Cl := { name := ⟨#[77, 97, 105, 110]⟩, super := ⟨#[]⟩, pool := [], fields := [⟨⟨#[99]⟩, ⟨2, ⟨#[]⟩⟩, false⟩, ⟨⟨#[110]⟩, ⟨1, ⟨#[]⟩⟩, false⟩], methods := [retM ⟨#[109, 97, 105, 110]⟩] }
def retS (n : ByteArray) (b : Nat) : Ms := { name := n, p := ⟨none, 0, 0⟩, ret := ⟨0, ⟨#[]⟩⟩, lo := 1, st := 0, c := ⟨some ⟨b, 0, none⟩, 1, 1⟩, h := ⟨none, 0, 0⟩ }

theorem ret_at (w w' : World) (n : ByteArray) (h : Fr no (w.alloc (.cells #[.int .i64 33, .int .i64 0] 94)) w') : MtAt w' (retS n w.heap.size) (retM n) := by
  have o := own_lit okIn w [(33, 0)] #[.int .i64 33, .int .i64 0] rfl (by decide)
  exact ⟨rfl, rfl, rfl, rfl, SlG.nil elTy w', ((o.keep h).sl okIn).i, SlG.nil elHd w'⟩

theorem results_21 (w : World) (r : Nat) (x0 x1 x2 x3 x4 x5 x6 x7 : Value) (h : w.heap[r]? = some (.cells #[x0, x1, x2, x3, x4, x5, x6, x7] 51 (0, 0))) (tmps : Array Value) (h2 : tmps.getD 2 undef = .pointer (some ⟨r, 0, none⟩)) :
    (results Tryz.f21 tmps).run Tryz.prog w = .ok (.agg #[x0, x1, x2, x3, x4, x5, x6, x7]) w := by
  have hl : (loadVar 51 ⟨r, 0, none⟩).run Tryz.prog w = .ok (.agg #[x0, x1, x2, x3, x4, x5, x6, x7]) w := run_loadVar_row (P := Tryz.prog) w r 51 51 #[x0, x1, x2, x3, x4, x5, x6, x7] (0, 0) _ h Tryz.underlying51 rfl (by kernel_rfl)
  have h2' : tmps[2]?.getD undef = .pointer (some ⟨r, 0, none⟩) := by simpa using h2
  simp [results, asAddr, h2', hl]

theorem results_12 (w : World) (r : Nat) (x0 x1 x2 x3 x4 : Value) (h : w.heap[r]? = some (.cells #[x0, x1, x2, x3, x4] 59 (0, 0))) (tmps : Array Value) (h2 : tmps.getD 0 undef = .pointer (some ⟨r, 0, none⟩)) :
    (results Tryz.f12 tmps).run Tryz.prog w = .ok (.agg #[x0, x1, x2, x3, x4]) w := by
  have hl : (loadVar 59 ⟨r, 0, none⟩).run Tryz.prog w = .ok (.agg #[x0, x1, x2, x3, x4]) w := run_loadVar_row (P := Tryz.prog) w r 59 59 #[x0, x1, x2, x3, x4] (0, 0) _ h Tryz.underlying59 rfl (by kernel_rfl)
  have h2' : tmps[0]?.getD undef = .pointer (some ⟨r, 0, none⟩) := by simpa using h2
  simp [results, asAddr, h2', hl]

set_option maxRecDepth 100000 in
set_option maxHeartbeats 2000000 in
theorem ret_any (w : World) (n : ByteArray) :
    Calls Tryz.prog 21 #[.string n] w fun e w' => ∃ s, e = .returned (msV s) ∧ MtAt w' s (retM n) ∧ Fr no w w' := by
  go_enter Tryz.func21, Tryz.ntmps21
  go_wp2_with fail
  generalize hA0 : w.alloc (.cells #[.string n, .slice none 0 0, .int .i64 0, .string ⟨#[]⟩, .int .i64 1, .int .i64 0, .slice (some ⟨w.heap.size + 1, 0, none⟩) 1 1, .slice none 0 0] 51) = A0
  have e0 : A0.heap.size = w.heap.size + 1 := by rw [← hA0]; simp
  have b0 : A0.heap[w.heap.size]? = some (.cells #[.string n, .slice none 0 0, .int .i64 0, .string ⟨#[]⟩, .int .i64 1, .int .i64 0, .slice (some ⟨w.heap.size + 1, 0, none⟩) 1 1, .slice none 0 0] 51 (0, 0)) := by rw [← hA0]; exact heap_alloc_new w _
  have f0 : Fr no w A0 := by rw [← hA0]; exact (Fr.refl no w).alloc _ _
  have f1 : Fr no A0 (A0.alloc (.cells #[.int .i64 33, .int .i64 0] 94)) := (Fr.refl no A0).alloc _ _
  have r := ret_at A0 _ n (Fr.refl no _)
  rw [e0] at r
  refine bodyPost_ret (results_21 _ w.heap.size _ _ _ _ _ _ _ _ (f1.heap b0 (fun f => f)) _ rfl) rfl ?_
  exact ⟨retS n (w.heap.size + 1), rfl, r, f0.new f1 (fun _ _ f => f)⟩

set_option maxRecDepth 100000 in
set_option maxHeartbeats 2000000 in
theorem mainClass_any (w : World) :
    Calls Tryz.prog 12 #[] w fun e w' => ∃ s, e = .returned (ksV s) ∧ ClAt w' s mainC ∧ Fr no w w' := by
  go_enter Tryz.func12, Tryz.ntmps12
  go_wp2_with fail
  generalize hA0 : w.alloc (.cells #[.string ⟨#[77, 97, 105, 110]⟩, .string ⟨#[]⟩, .slice none 0 0, .slice (some ⟨w.heap.size + 1, 0, none⟩) 2 2, .slice (some ⟨w.heap.size + 1 + 1 + 1, 0, none⟩) 1 1] 59) = A0
  have e0 : A0.heap.size = w.heap.size + 1 := by rw [← hA0]; simp
  have b0 : A0.heap[w.heap.size]? = some (.cells #[.string ⟨#[77, 97, 105, 110]⟩, .string ⟨#[]⟩, .slice none 0 0, .slice (some ⟨w.heap.size + 1, 0, none⟩) 2 2, .slice (some ⟨w.heap.size + 1 + 1 + 1, 0, none⟩) 1 1] 59 (0, 0)) := by rw [← hA0]; exact heap_alloc_new w _
  have f0 : Fr no w A0 := by rw [← hA0]; exact (Fr.refl no w).alloc _ _
  generalize hA1 : A0.alloc (.cells #[.string ⟨#[99]⟩, .int .i64 2, .string ⟨#[]⟩, .bool false, .string ⟨#[110]⟩, .int .i64 1, .string ⟨#[]⟩, .bool false] 33) = A1
  have e1 : A1.heap.size = w.heap.size + 1 + 1 := by rw [← hA1, ← e0]; simp
  have o1 : OwnG elFd A1 (.slice (some ⟨w.heap.size + 1, 0, none⟩) 2 2) mainC.fields := by
    rw [← hA1, ← e0]
    exact own_lit okFd A0 mainC.fields _ rfl (by decide)
  have f1 : Fr no A0 A1 := by rw [← hA1]; exact (Fr.refl no A0).alloc _ _
  generalize hA2 : A1.alloc (.cells #[.int .i64 33, .int .i64 0] 94) = A2
  have e2 : A2.heap.size = w.heap.size + 1 + 1 + 1 := by rw [← hA2, ← e1]; simp
  have f2 : Fr no A1 A2 := by rw [← hA2]; exact (Fr.refl no A1).alloc _ _
  generalize hA3 : A2.alloc (.cells #[.string ⟨#[109, 97, 105, 110]⟩, .slice none 0 0, .int .i64 0, .string ⟨#[]⟩, .int .i64 1, .int .i64 0, .slice (some ⟨w.heap.size + 1 + 1, 0, none⟩) 1 1, .slice none 0 0] 51) = A3
  have o3 : OwnG elMs A3 (.slice (some ⟨w.heap.size + 1 + 1 + 1, 0, none⟩) 1 1) [retS ⟨#[109, 97, 105, 110]⟩ (w.heap.size + 1 + 1)] := by
    rw [← hA3, ← e2]
    exact own_lit okMs A2 [retS ⟨#[109, 97, 105, 110]⟩ (w.heap.size + 1 + 1)] _ rfl (show 1 ≤ maxLen by decide)
  have f3 : Fr no A2 A3 := by rw [← hA3]; exact (Fr.refl no A2).alloc _ _
  have r : MtAt A3 (retS ⟨#[109, 97, 105, 110]⟩ (w.heap.size + 1 + 1)) (retM ⟨#[109, 97, 105, 110]⟩) := by
    have := ret_at A1 A3 ⟨#[109, 97, 105, 110]⟩ (by rw [hA2]; exact f3)
    rw [e1] at this
    exact this
  have g : Fr no A0 A3 := (f1.new f2 (fun _ _ f => f)).new f3 (fun _ _ f => f)
  refine bodyPost_ret (results_12 A3 w.heap.size _ _ _ _ _ (g.heap b0 (fun f => f)) _ rfl) rfl ?_
  refine ⟨⟨⟨#[77, 97, 105, 110]⟩, ⟨#[]⟩, ⟨none, 0, 0⟩, ⟨some ⟨w.heap.size + 1, 0, none⟩, 2, 2⟩, ⟨some ⟨w.heap.size + 1 + 1 + 1, 0, none⟩, 1, 1⟩⟩, rfl, ⟨rfl, rfl, SlG.nil elCs A3, (o1.keep (f2.new f3 (fun _ _ f => f))).sl okFd, [retS ⟨#[109, 97, 105, 110]⟩ (w.heap.size + 1 + 1)], o3.sl okMs, rfl, ?_⟩, f0.new g (fun _ _ f => f)⟩
  intro i s m hs hm
  match i, hs, hm with
  | 0, hs, hm =>
    simp only [mainC, List.getElem?_cons_zero, Option.some.injEq] at hs hm
    subst hs hm
    exact r
  | i + 1, hs, hm => simp at hs
end Go.Proofs.YtcbpmahekgkjlaaGreatDoor

/- What sorts the names of a map, laid at this program. -/
namespace Go.Proofs
open Go.RowKit Go.Maps Go.Sort Go.Shelf
def Tryz.keys48_ren : Go.Shelf.Ren := ⟨fun | 7 => 48 | 10 => 83 | n => n, fun | 23 => 82 | 26 => 9 | 3 => 89 | 28 => 116 | 0 => 0 | 27 => 115 | 33 => 95 | 4 => 4 | n => n, fun | n => n⟩
theorem Tryz.keys48 : Go.Proofs.SlLaysZ.n7 Tryz.prog Tryz.keys48_ren := {
  mixed := by kernel_rfl
  f7 := ⟨Tryz.f48.name, by decide, Tryz.func48.trans (congrArg some (by kernel_rfl))⟩
  f10 := ⟨Tryz.f83.name, by decide, Tryz.func83.trans (congrArg some (by kernel_rfl))⟩
  t0 := Tryz.underlying0
  a0 := Tryz.isAgg0
  z0 := Tryz.sizeOf0
  v0 := Tryz.zeroValue0
  t4 := Tryz.underlying4
  a4 := Tryz.isAgg4
  z4 := Tryz.sizeOf4
  v4 := Tryz.zeroValue4
  t23 := Tryz.underlying82
  a23 := Tryz.isAgg82
  z23 := Tryz.sizeOf82
  v23 := Tryz.zeroValue82
  t26 := Tryz.underlying9
  a26 := Tryz.isAgg9
  z26 := Tryz.sizeOf9
  v26 := Tryz.zeroValue9
  t27 := Tryz.underlying115
  a27 := Tryz.isAgg115
  z27 := Tryz.sizeOf115
  v27 := Tryz.zeroValue115
  t28 := Tryz.underlying116
  a28 := Tryz.isAgg116
  z28 := Tryz.sizeOf116
  v28 := Tryz.zeroValue116
  t33 := Tryz.underlying95
  a33 := Tryz.isAgg95
  z33 := Tryz.sizeOf95
  v33 := Tryz.zeroValue95 }
def Tryz.sorted47_ren : Go.Shelf.Ren := ⟨fun | 6 => 47 | 8 => 81 | 9 => 82 | 11 => 99 | 13 => 101 | 12 => 100 | 23 => 115 | 24 => 116 | 14 => 106 | 15 => 107 | 16 => 108 | 17 => 109 | 18 => 110 | 19 => 111 | 20 => 112 | 21 => 113 | 22 => 114 | 25 => 117 | 26 => 118 | 27 => 119 | 28 => 120 | 29 => 121 | 30 => 122 | 31 => 123 | n => n, fun | 26 => 9 | 28 => 116 | 24 => 38 | 0 => 0 | 3 => 3 | 37 => 166 | 48 => 184 | 50 => 167 | 4 => 4 | 40 => 177 | 39 => 176 | 45 => 77 | 5 => 5 | 9 => 9 | 51 => 186 | 55 => 190 | 57 => 192 | 58 => 193 | 33 => 95 | n => n, fun | n => n⟩
theorem Tryz.sorted47 : Go.Proofs.SlLaysZ.n6 Tryz.prog Tryz.sorted47_ren := {
  mixed := by kernel_rfl
  f6 := ⟨Tryz.f47.name, by decide, Tryz.func47.trans (congrArg some (by kernel_rfl))⟩
  f8 := ⟨Tryz.f81.name, by decide, Tryz.func81.trans (congrArg some (by kernel_rfl))⟩
  f11 := ⟨Tryz.f99.name, by decide, Tryz.func99.trans (congrArg some (by kernel_rfl))⟩
  t0 := Tryz.underlying0
  a0 := Tryz.isAgg0
  z0 := Tryz.sizeOf0
  v0 := Tryz.zeroValue0
  t24 := Tryz.underlying38
  a24 := Tryz.isAgg38
  z24 := Tryz.sizeOf38
  v24 := Tryz.zeroValue38
  t26 := Tryz.underlying9
  a26 := Tryz.isAgg9
  z26 := Tryz.sizeOf9
  v26 := Tryz.zeroValue9
  t28 := Tryz.underlying116
  a28 := Tryz.isAgg116
  z28 := Tryz.sizeOf116
  v28 := Tryz.zeroValue116
  i26 := by kernel_rfl }
def Tryz.sort82_ren : Go.Shelf.Ren := ⟨fun | 6 => 82 | 8 => 101 | 9 => 100 | 19 => 115 | 20 => 116 | 21 => 106 | 22 => 107 | 23 => 108 | 24 => 109 | 25 => 110 | 26 => 111 | 27 => 112 | 28 => 113 | 29 => 114 | 36 => 117 | 31 => 118 | 32 => 119 | 37 => 120 | 38 => 121 | 39 => 122 | 41 => 123 | n => n, fun | 27 => 38 | 29 => 9 | 3 => 3 | 32 => 166 | 26 => 38 | 0 => 0 | 44 => 184 | 46 => 167 | 4 => 4 | 36 => 177 | 35 => 176 | 41 => 77 | 5 => 5 | 9 => 9 | 53 => 186 | 57 => 190 | 63 => 192 | 64 => 193 | n => n, fun | n => n⟩
theorem Tryz.sort82 : Go.Proofs.SlLaysM.n6 Tryz.prog Tryz.sort82_ren := {
  mixed := by kernel_rfl
  f6 := ⟨Tryz.f82.name, by decide, Tryz.func82.trans (congrArg some (by kernel_rfl))⟩
  f8 := Tryz.func101.trans (congrArg some (by kernel_rfl))
  f9 := ⟨Tryz.f100.name, by decide, Tryz.func100.trans (congrArg some (by kernel_rfl))⟩
  f19 := Tryz.func115.trans (congrArg some (by kernel_rfl))
  f20 := Tryz.func116.trans (congrArg some (by kernel_rfl))
  f21 := ⟨Tryz.f106.name, by decide, Tryz.func106.trans (congrArg some (by kernel_rfl))⟩
  f22 := ⟨Tryz.f107.name, by decide, Tryz.func107.trans (congrArg some (by kernel_rfl))⟩
  f23 := ⟨Tryz.f108.name, by decide, Tryz.func108.trans (congrArg some (by kernel_rfl))⟩
  f24 := ⟨Tryz.f109.name, by decide, Tryz.func109.trans (congrArg some (by kernel_rfl))⟩
  f25 := ⟨Tryz.f110.name, by decide, Tryz.func110.trans (congrArg some (by kernel_rfl))⟩
  f26 := ⟨Tryz.f111.name, by decide, Tryz.func111.trans (congrArg some (by kernel_rfl))⟩
  f27 := ⟨Tryz.f112.name, by decide, Tryz.func112.trans (congrArg some (by kernel_rfl))⟩
  f28 := ⟨Tryz.f113.name, by decide, Tryz.func113.trans (congrArg some (by kernel_rfl))⟩
  f29 := ⟨Tryz.f114.name, by decide, Tryz.func114.trans (congrArg some (by kernel_rfl))⟩
  f31 := Tryz.func118.trans (congrArg some (by kernel_rfl))
  f32 := Tryz.func119.trans (congrArg some (by kernel_rfl))
  f36 := ⟨Tryz.f117.name, by decide, Tryz.func117.trans (congrArg some (by kernel_rfl))⟩
  f37 := ⟨Tryz.f120.name, by decide, Tryz.func120.trans (congrArg some (by kernel_rfl))⟩
  f38 := ⟨Tryz.f121.name, by decide, Tryz.func121.trans (congrArg some (by kernel_rfl))⟩
  f39 := ⟨Tryz.f122.name, by decide, Tryz.func122.trans (congrArg some (by kernel_rfl))⟩
  f41 := ⟨Tryz.f123.name, by decide, Tryz.func123.trans (congrArg some (by kernel_rfl))⟩
  t0 := Tryz.underlying0
  a0 := Tryz.isAgg0
  z0 := Tryz.sizeOf0
  v0 := Tryz.zeroValue0
  t3 := Tryz.underlying3
  a3 := Tryz.isAgg3
  z3 := Tryz.sizeOf3
  v3 := Tryz.zeroValue3
  t4 := Tryz.underlying4
  a4 := Tryz.isAgg4
  z4 := Tryz.sizeOf4
  v4 := Tryz.zeroValue4
  t5 := Tryz.underlying5
  a5 := Tryz.isAgg5
  z5 := Tryz.sizeOf5
  v5 := Tryz.zeroValue5
  t9 := Tryz.underlying9
  a9 := Tryz.isAgg9
  z9 := Tryz.sizeOf9
  v9 := Tryz.zeroValue9
  t26 := Tryz.underlying38
  a26 := Tryz.isAgg38
  z26 := Tryz.sizeOf38
  v26 := Tryz.zeroValue38
  t27 := Tryz.underlying38
  a27 := Tryz.isAgg38
  z27 := Tryz.sizeOf38
  v27 := Tryz.zeroValue38
  t29 := Tryz.underlying9
  a29 := Tryz.isAgg9
  z29 := Tryz.sizeOf9
  v29 := Tryz.zeroValue9
  t32 := Tryz.underlying166
  a32 := Tryz.isAgg166
  z32 := Tryz.sizeOf166
  v32 := Tryz.zeroValue166
  t35 := Tryz.underlying176
  a35 := Tryz.isAgg176
  z35 := Tryz.sizeOf176
  v35 := Tryz.zeroValue176
  t36 := Tryz.underlying177
  a36 := Tryz.isAgg177
  z36 := Tryz.sizeOf177
  v36 := Tryz.zeroValue177
  t41 := Tryz.underlying77
  a41 := Tryz.isAgg77
  z41 := Tryz.sizeOf77
  v41 := Tryz.zeroValue77
  t44 := Tryz.underlying184
  a44 := Tryz.isAgg184
  z44 := Tryz.sizeOf184
  v44 := Tryz.zeroValue184
  t46 := Tryz.underlying167
  a46 := Tryz.isAgg167
  z46 := Tryz.sizeOf167
  v46 := Tryz.zeroValue167
  t53 := Tryz.underlying186
  a53 := Tryz.isAgg186
  z53 := Tryz.sizeOf186
  v53 := Tryz.zeroValue186
  t57 := Tryz.underlying190
  a57 := Tryz.isAgg190
  z57 := Tryz.sizeOf190
  v57 := Tryz.zeroValue190
  t63 := Tryz.underlying192
  a63 := Tryz.isAgg192
  z63 := Tryz.sizeOf192
  v63 := Tryz.zeroValue192
  t64 := Tryz.underlying193
  a64 := Tryz.isAgg193
  z64 := Tryz.sizeOf193
  v64 := Tryz.zeroValue193 }
theorem Tryz.sorts47 (m : Nat) : AnyZ.SortsIn Tryz.prog Tryz.sorted47_ren Fence.wide m :=
  ⟨fun blk off cap ss W hH hblk hsz => callsIn_wide.2 (AnyM.slices_Sort_string Tryz.sort82 blk off cap ss W hH hblk hsz),
   fun p cap W => callsIn_wide.2 (AnyM.slices_Sort_string_none Tryz.sort82 p cap W)⟩

theorem Tryz.maps_Keys_48 (mb : Option Nat) (W : World) : CallsIn Fence.wide 5 Tryz.prog 48 #[.map mb] W fun e w' => e = .returned (.func (.func 83) #[] #[.pointer (some ⟨W.heap.size, 0, none⟩)]) ∧ w' = W.alloc (.cells #[.map mb] 82) :=
  AnyZ.keys_in Tryz.keys48 Fence.wide 5 trivial rfl mb W

set_option maxHeartbeats 1000000 in
theorem Tryz.slices_Sorted_keys_47_48 {H : Type} (b nn : Nat) (D0 : DataW H) (R : Value → Option (DataW H × List MemPlace)) (w : World) (hown : w.ownsMap Tryz.prog 9 R b nn D0) (hmax : Maps.size D0 ≤ maxLen) (hbytes : Maps.size D0 * 16 ≤ 140737488355328) :
    CallsIn Fence.wide 5 Tryz.prog 47 #[.func (.func 83) #[] #[.pointer (some ⟨w.heap.size, 0, none⟩)]] (w.alloc (.cells #[.map (some b)] 82)) fun e w' => ∃ (v : Value) (ss : List (List UInt8)), e = .returned v ∧ ss.Perm (strKeys D0) ∧
      w'.ownsRow (w.alloc (.cells #[.map (some b)] 82)).heap.size 9 1 v ss.length ((ss.mergeSort (fun x y => decide (x ≤ y))).map encStr) ∧ (v = .slice none 0 0 ↔ ss = []) ∧ Below (w.alloc (.cells #[.map (some b)] 82)).heap.size (w.alloc (.cells #[.map (some b)] 82)) w' := by
  have hbl := hown.lt
  have hseq : SeqGives Fence.wide 2 Tryz.prog 83 #[.pointer (some ⟨w.heap.size, 0, none⟩)] encStr (fun ss => ss.Perm (strKeys D0)) (Maps.size D0) (w.alloc (.cells #[.map (some b)] 82)) :=
    AnyZ.keys_gives (ρ := Tryz.keys48_ren) { Tryz.keys48 with } Fence.wide _ trivial rfl (by omega) w.heap.size b nn D0 _ (by simp) (by simp) (by
      obtain ⟨es, clock, hb, Ft, hs, hD⟩ := hown
      exact ⟨es, clock, (Below.heap_alloc _ _ b hbl).trans hb, Ft, hs, hD⟩)
  exact AnyZ.sorted_in Tryz.sorted47 Fence.wide 5 trivial trivial trivial trivial rfl (by omega) (Tryz.sorts47 _) (enters_of Tryz.func82 (by kernel_rfl) rfl) 83 #[.pointer (some ⟨w.heap.size, 0, none⟩)] trivial (enters_of Tryz.func83 (by kernel_rfl) rfl) _ _ hmax hbytes _ hseq

end Go.Proofs

/- The names of a map, sorted. -/
namespace Go.Proofs.YtcbpmahekgkjlaaGreatDoor
open Go.ChangeShapes Go.WideShapes Go.ChangeAt Go.RowKit
open H (ky Owns MapOf ix up nameAt anc Fine obj fault)

theorem fr_below {w w' : World} (h : Below w.heap.size w w') : Fr no w w' :=
  ⟨h.os, h.output, h.size, fun k hk _ => h.block k hk, fun x hx => by unfold World.frozen?; rw [h.block _ hx]⟩

theorem keys_any (b : Nat) (W : World) : Calls Tryz.prog 48 #[.map (some b)] W fun e w' => e = .returned (.func (.func 83) #[] #[.pointer (some ⟨W.heap.size, 0, none⟩)]) ∧ w' = W.alloc (.cells #[.map (some b)] 82) :=
  callsIn_wide.1 (Tryz.maps_Keys_48 (some b) W)

theorem strKeys_has {w : World} {b nn : Nat} {D : DataW Unit} (ho : OwnsP w b nn D) {x : List UInt8} (hx : x ∈ Go.strKeys D) : Maps.has D (ky ⟨x.toArray⟩) = true := by
  obtain ⟨es, rfl, hko⟩ := World.ownsMap.keysOf ho
  obtain ⟨p, hp, rfl⟩ := List.mem_map.1 hx
  obtain ⟨v, hv⟩ := hko p hp
  obtain ⟨y, _, hy, hl⟩ := Maps.keyOf_str Tryz.underlying9 hv
  rw [Maps.has_eq, List.any_eq_true]
  refine ⟨p, hp, ?_⟩
  rw [hy]
  simp [Go.strOf, ky, Lit.sameKey]

theorem sorted_any (w : World) (b nn : Nat) (D : DataW Unit) (f : ByteArray → Option (Nat × Nat)) (ho : OwnsP w b nn D) (hm : MapG encP (0, 0) D f) (hn : nn ≤ 1000000) :
    Calls Tryz.prog 47 #[.func (.func 83) #[] #[.pointer (some ⟨w.heap.size, 0, none⟩)]] (w.alloc (.cells #[.map (some b)] 82)) fun e w' => ∃ v ns, e = .returned v ∧ H.OwnG H.elS w' v ns ∧ (∀ n ∈ ns, (f n).isSome = true) ∧ ns.length ≤ 1000000 ∧ Fr no (w.alloc (.cells #[.map (some b)] 82)) w' := by
  have hs := World.ownsMap.size_le ho
  refine (callsIn_wide.1 (Tryz.slices_Sorted_keys_47_48 b nn D pairElem w ho (by unfold maxLen; omega) (by omega))).mono ?_
  rintro e w' ⟨v, ss, rfl, hp, hr, -, hb⟩
  have hml : (ss.mergeSort fun x y => decide (x ≤ y)).length = ss.length := List.length_mergeSort _
  refine ⟨v, (ss.mergeSort fun x y => decide (x ≤ y)).map (fun x => ⟨x.toArray⟩), rfl, ?_, fun n hnm => ?_, ?_, fr_below hb⟩
  · show World.ownsRow _ _ _ _ _ _ _
    rw [List.length_map, hml]
    have e1 : H.cg H.elS ((ss.mergeSort fun x y => decide (x ≤ y)).map (fun x => (⟨x.toArray⟩ : ByteArray))) = (ss.mergeSort fun x y => decide (x ≤ y)).map encStr := by
      unfold H.cg
      rw [List.map_map]
      rfl
    rw [e1]
    refine ⟨hr.1, ?_⟩
    rcases hr.2 with h | ⟨g, cap, cur, h1, -, h3⟩
    · exact .inl h
    · exact .inr ⟨g, cap, cur, h1, Nat.zero_le _, h3⟩
  · obtain ⟨x, hx, rfl⟩ := List.mem_map.1 hnm
    have hx' : x ∈ Go.strKeys D := (hp.mem_iff).1 ((List.mergeSort_perm ss _).mem_iff.1 hx)
    have := strKeys_has ho hx'
    rw [(hm.2 _).1] at this
    exact this
  · rw [List.length_map, hml, hp.length_eq]
    obtain ⟨es, rfl⟩ := hm.1
    have : (Go.strKeys (.map es : DataW Unit)).length = Maps.size (.map es : DataW Unit) := by simp [Go.strKeys, Maps.size]
    omega
end Go.Proofs.YtcbpmahekgkjlaaGreatDoor
