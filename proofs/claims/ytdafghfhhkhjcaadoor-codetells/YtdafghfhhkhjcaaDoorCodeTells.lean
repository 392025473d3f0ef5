/- For every instruction the statement CodeTells returns true, and its argument reads as before; the listed tables start as the program lays them. -/
import Derived.Test.YtdafghfhhkhjcaaDoorQuiet
import Derived.Test.YtdafghfhhkhjcaaDoorCards
import Derived.Test.YtdafghfhhkhjcaaDoorTie
import Derived.SevenTiedAt
namespace Go.Proofs.YtdafghfhhkhjcaaDoor.codeTells
open Go.ChangeShapes Go.WideShapes Go.ChangeAt Go.RowKit

theorem hide {ops : Array Oper} {C : World → Prop} {Q : Act → Prop} {a : Act} {rest : List Oper} {f : Nat → Value}
    (h : ∀ (ops' : Array Oper) (a' : Act), At ops' 1 4 → At ops' 8 11 → At ops' 17 20 → At ops' 26 29 → At ops' 35 38 → At ops' 44 47 → Fm 54 a' f → wpQuiet Tryd.prog ops' C Q rest a')
    (h1 : At ops 1 4) (h2 : At ops 8 11) (h3 : At ops 17 20) (h4 : At ops 26 29) (h5 : At ops 35 38) (h6 : At ops 44 47) (hf : Fm 54 a f) : wpQuiet Tryd.prog ops C Q rest a := h ops a h1 h2 h3 h4 h5 h6 hf

theorem fm_self (a : Act) (hs : a.tmps.size = 54) (hd : a.defers = []) : Fm 54 a (fun k => a.tmps.getD k undef) := ⟨fun _ => rfl, hs, hd⟩

theorem run_bool (b : Bool) (w : World) : (binOp .eql 4 (.bool b) (.bool b)).run Tryd.prog w = .ok (.bool true) w := by cases b <;> kernel_rfl
theorem run_int (z : Int) (w : World) : (binOp .eql 3 (.int .i64 z) (.int .i64 z)).run Tryd.prog w = .ok (.bool true) w := by simp [go_sem]
theorem run_str (s : ByteArray) (w : World) : (binOp .eql 9 (.string s) (.string s)).run Tryd.prog w = .ok (.bool true) w := by simp [go_sem]
theorem guard_bool (x y : Operand) (b : Bool) (w : World) : (eqGuard .eql 4 x y (.bool b) (.bool b)).run Tryd.prog w = .ok () w := by kernel_rfl
theorem guard_int (x y : Operand) (z : Int) (w : World) : (eqGuard .eql 3 x y (.int .i64 z) (.int .i64 z)).run Tryd.prog w = .ok () w := by kernel_rfl
theorem guard_str (x y : Operand) (s : ByteArray) (w : World) : (eqGuard .eql 9 x y (.string s) (.string s)).run Tryd.prog w = .ok () w := by kernel_rfl

theorem enters (n : FuncId) (a : Act) (o : Oper) (x : Nat) (v : Value) (t : TypeId) (ho : o.op = .call { callee := .value (.func n), args := #[.tmp x], argTypes := #[t] }) (hx : a.eval (.tmp x) = v)
    (hn : ∀ args w, (callFunc n args).run Tryd.prog w = .ok (.enter n args) w) (w : World) : (execOp a.eval o).run Tryd.prog w = .ok (.enter n #[v]) w := by
  have e0 : a.eval (.func n) = .func (.func n) #[] #[] := rfl
  unfold execOp
  simp [ho, resolve, invoke, hx, e0, hn, Deferred.ofValue]

set_option maxRecDepth 100000 in
set_option maxHeartbeats 4000000 in
theorem walk (op a : Int) (w : World) (T : Tb w) (R : Tr w) :
    Calls Tryd.prog 3 #[ins op a] w fun e w' => e = .returned (.bool true) ∧ Fr no w w' := by
  have hf : Fr no w (w.alloc (.cells #[.int .i64 op, .int .i64 a] 23)) := (Fr.refl no w).alloc _ _
  have hb : (w.alloc (.cells #[.int .i64 op, .int .i64 a] 23)).heap[w.heap.size]? = some (.cells #[.int .i64 op, .int .i64 a] 23 (0, 0)) := heap_alloc_new w _
  have HB : Box (fun w' => Fr no (w.alloc (.cells #[.int .i64 op, .int .i64 a] 23)) w') w.heap.size op a := fun w' h => h.heap hb (fun f => f)
  have TK : ∀ w', Fr no (w.alloc (.cells #[.int .i64 op, .int .i64 a] 23)) w' → Tb w' ∧ Tr w' := fun w' h => ⟨(T.kept hf).kept h, (R.kept hf).kept h⟩
  have HF : Hid (∀ w', Fr no (w.alloc (.cells #[.int .i64 op, .int .i64 a] 23)) w' → Fr no w w') := fun w' h => hf.new h (fun _ _ f => f)
  have any : ∀ (n : FuncId) (args : Array Value) (w' : World) (v : Value), Fr no (w.alloc (.cells #[.int .i64 op, .int .i64 a] 23)) w' → Calls Tryd.prog n args w' (fun e w'' => e = .returned v ∧ Fr no w' w'') → Calls Tryd.prog n args w' (fun e w'' => e = .returned v ∧ Fr no (w.alloc (.cells #[.int .i64 op, .int .i64 a] 23)) w'') := by
    intro n args w' v h c
    refine c.mono ?_
    rintro e w'' ⟨rfl, g⟩
    exact ⟨rfl, h.new g (fun _ _ f => f)⟩
  have sm : ∀ (n : FuncId) (args : Array Value) (w' : World) (v : Value), Fr no (w.alloc (.cells #[.int .i64 op, .int .i64 a] 23)) w' → Calls Tryd.prog n args w' (fun e w'' => e = .returned v ∧ w'' = w') → Calls Tryd.prog n args w' (fun e w'' => e = .returned v ∧ Fr no (w.alloc (.cells #[.int .i64 op, .int .i64 a] 23)) w'') := by
    intro n args w' v h c
    refine c.mono ?_
    rintro e w'' ⟨rfl, rfl⟩
    exact ⟨rfl, h⟩
  unfold ins
  go_enter Tryd.func3, Tryd.ntmps3
  go_wp2_with fail
  refine wp_region_quiet (C := fun w' => Fr no (w.alloc (.cells #[.int .i64 op, .int .i64 a] 23)) w') (by kernel_rfl) (by kernel_rfl) (Fr.refl no _).drew ?_
  refine wpQ_call (.bool true) 8 #[] rfl (fun _ => by kernel_rfl) (fun w' h => any 8 #[] w' _ h (known_any w' (TK w' h).1)) ?_
  refine hide ?_ rfl rfl rfl rfl rfl rfl (Fm.put (fm_self _ rfl rfl) 3 (by decide) (.bool true))
  · intro ops a0 g1 g8 g17 g26 g35 g44 f0
    refine q_move f0 4 3 rfl rfl (by decide) (want_none rfl) (.bool true) rfl ?_
    intro a1 f1
    clear f0
    refine q_ins f1 w.heap.size op a HB 5 rfl rfl (by decide) (want_at f1 g1 (by decide) rfl rfl) rfl ?_
    intro a2 f2
    clear f1
    refine q_call f2 6 9 #[ins op a] rfl (by decide) (want_at f2 g1 (by decide) rfl rfl) (enters 9 _ _ 5 _ 23 rfl (f2.ev 5) (enters_of Tryd.func9 (by kernel_rfl) rfl)) (.bool (isb op a)) (fun w' h => any 9 _ w' _ h (is_any w' (TK w' h).1 op a)) ?_
    intro a3 f3
    clear f2
    refine q_ins f3 w.heap.size op a HB 7 rfl rfl (by decide) (want_at f3 g1 (by decide) rfl rfl) rfl ?_
    intro a4 f4
    clear f3
    refine q_call f4 8 10 #[ins op a] rfl (by decide) (want_at f4 g1 (by decide) rfl rfl) (enters 10 _ _ 7 _ 23 rfl (f4.ev 7) (enters_of Tryd.func10 (by kernel_rfl) rfl)) (.bool (isb op a)) (fun w' h => any 10 _ w' _ h (docIs_any w' op a)) ?_
    intro a5 f5
    clear f4
    refine q_eq f5 9 6 8 (.bool (isb op a)) (fun w => run_bool _ w) (fun w => guard_bool _ _ _ w) rfl rfl (by decide) (want_at f5 g1 (by decide) rfl rfl) rfl rfl ?_
    intro a6 f6
    clear f5
    refine q_pick f6 10 4 9 rfl rfl (by decide) (want_none rfl) rfl (.bool true) rfl ?_
    intro a7 f7
    clear f6
    refine q_move f7 11 10 rfl rfl (by decide) (want_none rfl) (.bool true) rfl ?_
    intro a8 f8
    clear f7
    refine q_field f8 w.heap.size 12 rfl rfl (by decide) (want_at f8 g8 (by decide) rfl rfl) rfl ?_
    intro a9 f9
    clear f8
    refine q_op f9 w.heap.size op a HB 13 12 rfl rfl (by decide) (want_at f9 g8 (by decide) rfl rfl) rfl ?_
    intro a10 f10
    clear f9
    refine q_call f10 14 11 #[.int .i64 op] rfl (by decide) (want_at f10 g8 (by decide) rfl rfl) (enters 11 _ _ 13 _ 3 rfl (f10.ev 13) (enters_of Tryd.func11 (by kernel_rfl) rfl)) (.int .i64 (od op)) (fun w' h => sm 11 _ w' _ h (operand_any w' (TK w' h).1 op)) ?_
    intro a11 f11
    clear f10
    refine q_field f11 w.heap.size 15 rfl rfl (by decide) (want_at f11 g8 (by decide) rfl rfl) rfl ?_
    intro a12 f12
    clear f11
    refine q_op f12 w.heap.size op a HB 16 15 rfl rfl (by decide) (want_at f12 g8 (by decide) rfl rfl) rfl ?_
    intro a13 f13
    clear f12
    refine q_call f13 17 12 #[.int .i64 op] rfl (by decide) (want_at f13 g8 (by decide) rfl rfl) (enters 12 _ _ 16 _ 3 rfl (f13.ev 16) (enters_of Tryd.func12 (by kernel_rfl) rfl)) (.int .i64 (od op)) (fun w' h => sm 12 _ w' _ h (docOperand_any w' op)) ?_
    intro a14 f14
    clear f13
    refine q_eq f14 18 14 17 (.int .i64 (od op)) (fun w => run_int _ w) (fun w => guard_int _ _ _ w) rfl rfl (by decide) (want_at f14 g8 (by decide) rfl rfl) rfl rfl ?_
    intro a15 f15
    clear f14
    refine q_pick f15 19 11 18 rfl rfl (by decide) (want_none rfl) rfl (.bool true) rfl ?_
    intro a16 f16
    clear f15
    refine q_move f16 20 19 rfl rfl (by decide) (want_none rfl) (.bool true) rfl ?_
    intro a17 f17
    clear f16
    refine q_field f17 w.heap.size 21 rfl rfl (by decide) (want_at f17 g17 (by decide) rfl rfl) rfl ?_
    intro a18 f18
    clear f17
    refine q_op f18 w.heap.size op a HB 22 21 rfl rfl (by decide) (want_at f18 g17 (by decide) rfl rfl) rfl ?_
    intro a19 f19
    clear f18
    refine q_call f19 23 13 #[.int .i64 op] rfl (by decide) (want_at f19 g17 (by decide) rfl rfl) (enters 13 _ _ 22 _ 3 rfl (f19.ev 22) (enters_of Tryd.func13 (by kernel_rfl) rfl)) (.bool (has op 1)) (fun w' h => sm 13 _ w' _ h (stops_any w' (TK w' h).2 op)) ?_
    intro a20 f20
    clear f19
    refine q_field f20 w.heap.size 24 rfl rfl (by decide) (want_at f20 g17 (by decide) rfl rfl) rfl ?_
    intro a21 f21
    clear f20
    refine q_op f21 w.heap.size op a HB 25 24 rfl rfl (by decide) (want_at f21 g17 (by decide) rfl rfl) rfl ?_
    intro a22 f22
    clear f21
    refine q_call f22 26 14 #[.int .i64 op] rfl (by decide) (want_at f22 g17 (by decide) rfl rfl) (enters 14 _ _ 25 _ 3 rfl (f22.ev 25) (enters_of Tryd.func14 (by kernel_rfl) rfl)) (.bool (has op 1)) (fun w' h => sm 14 _ w' _ h (docStops_any w' op)) ?_
    intro a23 f23
    clear f22
    refine q_eq f23 27 23 26 (.bool (has op 1)) (fun w => run_bool _ w) (fun w => guard_bool _ _ _ w) rfl rfl (by decide) (want_at f23 g17 (by decide) rfl rfl) rfl rfl ?_
    intro a24 f24
    clear f23
    refine q_pick f24 28 20 27 rfl rfl (by decide) (want_none rfl) rfl (.bool true) rfl ?_
    intro a25 f25
    clear f24
    refine q_move f25 29 28 rfl rfl (by decide) (want_none rfl) (.bool true) rfl ?_
    intro a26 f26
    clear f25
    refine q_field f26 w.heap.size 30 rfl rfl (by decide) (want_at f26 g26 (by decide) rfl rfl) rfl ?_
    intro a27 f27
    clear f26
    refine q_op f27 w.heap.size op a HB 31 30 rfl rfl (by decide) (want_at f27 g26 (by decide) rfl rfl) rfl ?_
    intro a28 f28
    clear f27
    refine q_call f28 32 15 #[.int .i64 op] rfl (by decide) (want_at f28 g26 (by decide) rfl rfl) (enters 15 _ _ 31 _ 3 rfl (f28.ev 31) (enters_of Tryd.func15 (by kernel_rfl) rfl)) (.bool (has op 2)) (fun w' h => sm 15 _ w' _ h (jumps_any w' (TK w' h).2 op)) ?_
    intro a29 f29
    clear f28
    refine q_field f29 w.heap.size 33 rfl rfl (by decide) (want_at f29 g26 (by decide) rfl rfl) rfl ?_
    intro a30 f30
    clear f29
    refine q_op f30 w.heap.size op a HB 34 33 rfl rfl (by decide) (want_at f30 g26 (by decide) rfl rfl) rfl ?_
    intro a31 f31
    clear f30
    refine q_call f31 35 16 #[.int .i64 op] rfl (by decide) (want_at f31 g26 (by decide) rfl rfl) (enters 16 _ _ 34 _ 3 rfl (f31.ev 34) (enters_of Tryd.func16 (by kernel_rfl) rfl)) (.bool (has op 2)) (fun w' h => sm 16 _ w' _ h (docJumps_any w' op)) ?_
    intro a32 f32
    clear f31
    refine q_eq f32 36 32 35 (.bool (has op 2)) (fun w => run_bool _ w) (fun w => guard_bool _ _ _ w) rfl rfl (by decide) (want_at f32 g26 (by decide) rfl rfl) rfl rfl ?_
    intro a33 f33
    clear f32
    refine q_pick f33 37 29 36 rfl rfl (by decide) (want_none rfl) rfl (.bool true) rfl ?_
    intro a34 f34
    clear f33
    refine q_move f34 38 37 rfl rfl (by decide) (want_none rfl) (.bool true) rfl ?_
    intro a35 f35
    clear f34
    refine q_field f35 w.heap.size 39 rfl rfl (by decide) (want_at f35 g35 (by decide) rfl rfl) rfl ?_
    intro a36 f36
    clear f35
    refine q_op f36 w.heap.size op a HB 40 39 rfl rfl (by decide) (want_at f36 g35 (by decide) rfl rfl) rfl ?_
    intro a37 f37
    clear f36
    refine q_call f37 41 17 #[.int .i64 op] rfl (by decide) (want_at f37 g35 (by decide) rfl rfl) (enters 17 _ _ 40 _ 3 rfl (f37.ev 40) (enters_of Tryd.func17 (by kernel_rfl) rfl)) (.bool (has op 4)) (fun w' h => sm 17 _ w' _ h (faults_any w' (TK w' h).2 op)) ?_
    intro a38 f38
    clear f37
    refine q_field f38 w.heap.size 42 rfl rfl (by decide) (want_at f38 g35 (by decide) rfl rfl) rfl ?_
    intro a39 f39
    clear f38
    refine q_op f39 w.heap.size op a HB 43 42 rfl rfl (by decide) (want_at f39 g35 (by decide) rfl rfl) rfl ?_
    intro a40 f40
    clear f39
    refine q_call f40 44 18 #[.int .i64 op] rfl (by decide) (want_at f40 g35 (by decide) rfl rfl) (enters 18 _ _ 43 _ 3 rfl (f40.ev 43) (enters_of Tryd.func18 (by kernel_rfl) rfl)) (.bool (has op 4)) (fun w' h => sm 18 _ w' _ h (docFaults_any w' op)) ?_
    intro a41 f41
    clear f40
    refine q_eq f41 45 41 44 (.bool (has op 4)) (fun w => run_bool _ w) (fun w => guard_bool _ _ _ w) rfl rfl (by decide) (want_at f41 g35 (by decide) rfl rfl) rfl rfl ?_
    intro a42 f42
    clear f41
    refine q_pick f42 46 38 45 rfl rfl (by decide) (want_none rfl) rfl (.bool true) rfl ?_
    intro a43 f43
    clear f42
    refine q_move f43 47 46 rfl rfl (by decide) (want_none rfl) (.bool true) rfl ?_
    intro a44 f44
    clear f43
    refine q_ins f44 w.heap.size op a HB 48 rfl rfl (by decide) (want_at f44 g44 (by decide) rfl rfl) rfl ?_
    intro a45 f45
    clear f44
    refine q_call f45 49 19 #[ins op a] rfl (by decide) (want_at f45 g44 (by decide) rfl rfl) (enters 19 _ _ 48 _ 23 rfl (f45.ev 48) (enters_of Tryd.func19 (by kernel_rfl) rfl)) (.string (prt op a)) (fun w' h => any 19 _ w' _ h (print_any w' (TK w' h).1 op a)) ?_
    intro a46 f46
    clear f45
    refine q_ins f46 w.heap.size op a HB 50 rfl rfl (by decide) (want_at f46 g44 (by decide) rfl rfl) rfl ?_
    intro a47 f47
    clear f46
    refine q_call f47 51 20 #[ins op a] rfl (by decide) (want_at f47 g44 (by decide) rfl rfl) (enters 20 _ _ 50 _ 23 rfl (f47.ev 50) (enters_of Tryd.func20 (by kernel_rfl) rfl)) (.string (prt op a)) (fun w' h => any 20 _ w' _ h (docPrint_any w' op a)) ?_
    intro a48 f48
    clear f47
    refine q_eq f48 52 49 51 (.string (prt op a)) (fun w => run_str _ w) (fun w => guard_str _ _ _ w) rfl rfl (by decide) (want_at f48 g44 (by decide) rfl rfl) rfl rfl ?_
    intro a49 f49
    clear f48
    refine q_pick f49 53 47 52 rfl rfl (by decide) (want_none rfl) rfl (.bool true) rfl ?_
    intro a50 f50
    clear f49
    refine q_value f50 2 rfl (by decide) (want_none rfl) (.bool true) (fun w' _ => ?_) ?_
    · have e := f50.ev 53
      have e2 : a50.eval (.tmp 53) = .bool true := e
      unfold execOp
      simp [e2]
    intro af ff
    refine wpQuiet_nil ?_
    intro w' hC
    rename_i hK
    refine hK _ _ ?_
    refine wp_ret ?_
    refine bodyPost_ret (results_tmp rfl _ _ _) ff.df ?_
    refine ⟨?_, HF.out w' hC⟩
    have e : af.eval (.tmp 2) = .bool true := ff.ev 2
    exact congrArg Ending.returned e

theorem open_ins {H : Type} {enc : TypeId × Value → H} {w : World} {spare : Nat → Bool} {held : Bool} {v : Value} {d : DataW H} {ps : List MemPlace} (h : DataW.Trod enc Tryd.prog w 0 spare held 23 v d ps) : ∃ z0 z1, v = ins z0 z1 ∧ ps = [] := by
  obtain ⟨fuel, h⟩ := h
  have hl : v.cells.toList.length = 2 := by
    obtain ⟨xs, n, _, _, hl, _, _⟩ := DataW.trod_struct Tryd.underlying23 h
    rw [hl, Tryd.cells23]
  obtain ⟨z0, z1, e, _, _, hy⟩ := open_two h hl
  simp only [Prod.mk.injEq] at hy
  refine ⟨z0, z1, ?_, hy.2⟩
  cases v with
  | agg cs =>
    unfold ins
    congr 1
    apply Array.ext'
    simpa [Value.cells] using e
  | _ => simp [Value.cells] at hl

set_option maxRecDepth 100000 in
theorem lifted (os : Os) (started : os.Started) (H : Type) (enc : TypeId × Value → H) :
    ReturnsInHanded {} Tryd.checked os 3 .any (fun w args => (Rows.codeTellsSpec.pre enc Tryd.prog Tryd.f3 [] false w args ∧ laidMetH Tryd.prog laid6 w) ∧ sizedMet enc Tryd.prog Tryd.f3 (OpenSpec.ofChange Rows.codeTellsSpec) false w args)
      (Rows.codeTellsSpec.post enc Tryd.prog Tryd.f3 false true false false) := by
  refine returnsInHanded_of_change_and (C := Tryd.checked) (X := fun w _ => laidMetH Tryd.prog laid6 w) (fun _ _ _ hh h => h.of_heap hh) own started (by kernel_rfl) Tryd.func3
    (ChangeSpec.witness_shaped (enc := enc) (C := Tryd.checked) (os := os) (X := fun w _ => laidMetH Tryd.prog laid6 w) false (World.doorLaid Tryd.prog 39 os) #[.agg #[.int .i64 0, .int .i64 0]] 8 rfl (World.shaped_of_RefB (by kernel_rfl) (by kernel_rfl)) (by kernel_rfl) (by kernel_rfl) (by kernel_rfl) (door_met6 os _)) ?_
  intro W base args ds gs before hval0 hW _ _ hL _
  have hval : ∀ (j : Nat) t v, Tryd.f3.params[j]? = some t → args[j]? = some v → Value.okWide Tryd.prog W .any base t v := hval0
  have hW' := hW
  obtain ⟨p, q, hA0, hV, rfl, hfz, hnd⟩ := hW
  have hA : DataW.TrodAll enc Tryd.prog W 0 (fun _ => true) true Tryd.f3.params.toList args.toList ds p := hA0
  rw [Tryd.params3] at hA hval
  obtain ⟨v0, vs0, d0, ds0, p0, q0, hargs, rfl, rfl, h0, r0⟩ := trodAll_cons hA
  obtain ⟨rfl, rfl, rfl⟩ := trodAll_nil r0
  obtain rfl : args = #[v0] := by cases args; simp_all
  obtain ⟨rfl, rfl⟩ := trodVars_none hV
  obtain ⟨T, R⟩ := of_laid6 hL
  clear hA0 hval0
  simp only [List.append_nil] at hW'
  obtain ⟨z0, z1, rfl, rfl⟩ := open_ins h0
  refine (walk z0 z1 W T R).mono fun e W' ⟨he, hg⟩ => ?_
  subst he
  exact ⟨_, rfl, post_of_same (pa := []) (pv := []) hW' (fun _ _ _ => (trodAll_cons_mk (shut_bool Tryd.underlying4 _) trodAll_mk0)) (fun sp _ => (trodAll_cons_mk (trod_after (by kernel_rfl) (of_decide_eq_true (by kernel_rfl)) h0 hg (fun x hx => by cases hx) (fun x hx => by cases hx)) trodAll_mk0)) (fun _ _ => rfl) rfl
    (hg.toGrown.frame _) hg.toGrown.2.1 (ok_one (by kernel_rfl) rfl (okWide_bool_mk Tryd.underlying4 _))⟩

theorem over : Rows.CodeTellsSaid :=
  OpenClaim.holds_of_wide 3 Tryd.f3 rfl rfl rfl rfl rfl rfl rfl ⟨rfl, rfl, rfl, rfl, rfl⟩ rfl rfl rfl rfl rfl (by kernel_rfl) Tryd.func3 (by kernel_rfl)
    (of_decide_eq_true (by kernel_rfl)) (by unfold Func.isWrapper; first | (rw [if_pos (by decide +kernel)]; kernel_rfl) | (rw [if_neg (by decide +kernel)]; exact ⟨rfl, rfl⟩))
    (fun os started H enc _ => lifted os started H enc)

theorem proved : Rows.CodeTellsCardSaid :=
  Claim7.holds_tied_plain_at .later [] [.data, .data, .data, .data, .data, .data] true (true, "9814ed1c29147e7403b60a471068b730560e07bf28dfed1560560670e699c6e6") false
    over (fun _ h => by cases h) (by kernel_rfl) (fun _ h => by cases h) codeTells_row_tie rfl ⟨rfl, rfl⟩ (by kernel_rfl) rfl
    (fun f fn hf hfn => by
      obtain rfl : f = 3 := Option.some.inj ((show Tryd.prog.funcNamed "loom/loomlaw4.CodeTells" = some 3 by kernel_rfl).symm.trans hf) |>.symm
      obtain rfl : fn = Tryd.f3 := (Option.some.inj (Tryd.func3.symm.trans hfn)).symm
      exact ⟨by kernel_rfl, fun j t ht => by
        rw [Tryd.params3] at ht
        have hm : t ∈ [23] := by simpa using Array.mem_of_getElem? ht
        have hall : ([23].all fun u => !Tryd.prog.wantsStandIn u) = true := by kernel_rfl
        exact (show Tryd.prog.wantsStandIn t = false by simpa using List.all_eq_true.1 hall t hm)⟩)
    (by kernel_rfl)
#print axioms proved
end Go.Proofs.YtdafghfhhkhjcaaDoor.codeTells
