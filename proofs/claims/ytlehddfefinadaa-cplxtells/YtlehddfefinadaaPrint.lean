/- What cplx.Print answers: for every two parts their text; it makes new memory alone. -/
import Derived.Test.YtlehddfefinadaaArith
import Derived.Test.YtlehddfefinadaaHex
import Derived.WalkMore
import Derived.Laws.BytesArg
namespace Go.Proofs.Ytlehddfefinadaa
open Go.ChangeShapes Go.WideShapes Go.ChangeAt Go.RowKit

theorem Try.info5 : (Try.prog.info? 5).map (fun i => (i.zero, i.size, i.bytes)) = some (some (.int .u8 0), 1, 1) := by kernel_rfl

theorem run_make33 (w : World) : (Instr.makeSlice 54 (.int .i64 0) (.int .i64 33)).run Try.prog w = .ok (.slice (some ⟨w.heap.size, 0, none⟩) 0 33) (w.alloc (.cells (Array.replicate 33 (.int .u8 0)) 5)) := by kernel_rfl

theorem grown_setRow {W w : World} (h : Grown W w) {g : Nat} (hg : W.heap.size ≤ g) (cs : Array Value) : Grown W (w.setRow g cs) := by
  obtain ⟨⟨h1, h2, h3⟩, hf, hs⟩ := h
  refine ⟨⟨h1, h2, fun i hi => ?_⟩, fun x => ?_, by rw [setRow_size]; exact hs⟩
  · rw [setRow_other w g i cs (by omega)]
    exact h3 i hi
  · rw [← hf x]
    unfold World.frozen? World.setRow
    simp only [Array.getElem?_modify]
    by_cases hx : g = x.block
    · rw [if_pos hx]
      cases e : w.heap[x.block]? with
      | none => simp
      | some o => cases o <;> simp
    · rw [if_neg hx]

theorem run_app (W w : World) (hW : Grown W w) (g k cap : Nat) (xs : List Value) (hown : w.ownsRow W.heap.size 5 1 (.slice (some ⟨g, 0, none⟩) k cap) k xs)
    (ad : Addr) (u : Value) (hc : w.cell? ad = some u) (h1 : u.oneCell' = true) (hroom : k + 1 ≤ cap) :
    ∃ w', (Builtin.append_ #[54, 54] 54 #[.slice (some ⟨g, 0, none⟩) k cap, .slice (some ad) 1 1]).run Try.prog w = .ok (.slice (some ⟨g, 0, none⟩) (k + 1) cap) w' ∧
      w'.ownsRow W.heap.size 5 1 (.slice (some ⟨g, 0, none⟩) (k + 1) cap) (k + 1) (xs ++ [u]) ∧ Grown W w' := by
  obtain ⟨i0, hi, hz0, hz1, hz2⟩ := info_parts Try.info5
  have hlen : (xs ++ [u]).length = (k + 1) * 1 := by rw [List.length_append, hown.1]; simp
  rcases hown.2 with ⟨h, _⟩ | ⟨g', cap', cur, h, hbg, hg, hnc, hcm, hcs, htake⟩
  · simp at h
  · simp only [Value.slice.injEq, Option.some.injEq, Addr.mk.injEq, and_true, true_and] at h
    obtain ⟨rfl, rfl⟩ := h
    have hr := run_append_room (P := Try.prog) w 54 54 5 i0 Try.underlying54 hi g k cap cur hg ad 1 1 [u] (by rw [hz1]; rfl) (fun j v hj => by
      match j, hj with
      | 0, hj => simp at hj; subst hj; simpa [Addr.add] using hc) (fun v hv => by simp at hv; subst hv; exact h1) hroom (by rw [hz1]; simp; omega)
    rw [hz1] at hr
    refine ⟨_, hr, ⟨hlen, .inr ⟨g, cap, _, rfl, hbg, setRow_heap w g cur _ 5 _ hg, hroom, hcm, ?_, ?_⟩⟩, grown_setRow hW hbg _⟩
    · simp only [List.size_toArray, List.length_append, List.length_take, List.length_drop, Array.length_toList, List.length_cons, List.length_nil]
      omega
    · rw [htake, ← hlen]
      exact List.take_left

theorem wpList_app {W : World} (w : World) {ops : Array Oper} {rest : List Oper} {o : Oper} {a : Act} {Q : Exit → Act → World → Prop}
    (hg : o.guard = none) (ht : o.type = 54) (s x : Operand) (hop : o.op = Op.call { callee := Callee.builtin Builtin.append, args := #[s, x], argTypes := #[54, 54] })
    (hW : Grown W w) (g k cap : Nat) (xs : List Value) (hs : a.eval s = .slice (some ⟨g, 0, none⟩) k cap) (hown : w.ownsRow W.heap.size 5 1 (.slice (some ⟨g, 0, none⟩) k cap) k xs)
    (ad : Addr) (u : Value) (hx : a.eval x = .slice (some ad) 1 1) (hc : w.cell? ad = some u) (h1 : u.oneCell' = true) (hroom : k + 1 ≤ cap)
    (hK : ∀ w', w'.ownsRow W.heap.size 5 1 (.slice (some ⟨g, 0, none⟩) (k + 1) cap) (k + 1) (xs ++ [u]) → Grown W w' → wpList Try.prog ops Q rest (a.put o.dst (.slice (some ⟨g, 0, none⟩) (k + 1) cap)) w') :
    wpList Try.prog ops Q (o :: rest) a w := by
  refine wpList_plain hg fun K hK' => ?_
  obtain ⟨w', hrun, r1, r2⟩ := run_app W w hW g k cap xs hown ad u hc h1 hroom
  unfold Oper.wp
  simp [execOp, hop, ht, resolve, invoke, builtin, hs, hx, hrun, Result.andThen]
  exact hK' _ _ (hK w' r1 r2)

/-- The cells of these letters. -/
def cl (l : List Nat) : List Value := l.map fun c : Nat => Value.int .u8 (c : Int)

theorem cl_snoc (l : List Nat) (c : Nat) : cl l ++ [.int .u8 (c : Int)] = cl (l ++ [c]) := by unfold cl; simp

theorem digit_at (d : Nat) (h : d < 16) (h' : d < ByteArray.size ⟨#[48, 49, 50, 51, 52, 53, 54, 55, 56, 57, 97, 98, 99, 100, 101, 102]⟩) :
    ((⟨#[48, 49, 50, 51, 52, 53, 54, 55, 56, 57, 97, 98, 99, 100, 101, 102]⟩ : ByteArray)[d]).toNat = hd d := by
  have key : ∀ d : Fin 16, ((⟨#[48, 49, 50, 51, 52, 53, 54, 55, 56, 57, 97, 98, 99, 100, 101, 102]⟩ : ByteArray)[d.val]'(by have := d.isLt; exact this)).toNat = hd d.val := by decide
  exact key ⟨d, h⟩

set_option maxHeartbeats 1000000 in
theorem appendpart_any (W : World) (g n : Nat) (l : List Nat) (a : Nat) (ha : a < 2 ^ 64) (hn : n + 16 ≤ 33) (w : World) (hW : Grown W w)
    (hown : w.ownsRow W.heap.size 5 1 (.slice (some ⟨g, 0, none⟩) n 33) n (cl l)) :
    Calls Try.prog 37 #[.slice (some ⟨g, 0, none⟩) n 33, .float .f64 a] w fun e w' => e = .returned (.slice (some ⟨g, 0, none⟩) (n + 16) 33) ∧
      w'.ownsRow W.heap.size 5 1 (.slice (some ⟨g, 0, none⟩) (n + 16) 33) (n + 16) (cl (l ++ hxs 16 a)) ∧ Grown W w' := by
  have hbits := run_bits
  go_enter Try.func37, Try.ntmps37
  go_wp2
  go_loopw [0, 5, 8] (fun v b i wr => ∃ j : Nat, j ≤ 16 ∧ v = .slice (some ⟨g, 0, none⟩) (n + j) 33 ∧ b = .int .u64 ((a * 16 ^ j % 2 ^ 64 : Nat) : Int) ∧ i = .int .i64 (j : Int) ∧
      wr.ownsRow W.heap.size 5 1 (.slice (some ⟨g, 0, none⟩) (n + j) 33) (n + j) (cl (l ++ hxs j a)) ∧ Grown W wr) (fun _ _ i _ => 16 - (intOf i).toNat)
  case atStart => exact ⟨0, by omega, rfl, by simp [Nat.mod_eq_of_lt ha], rfl, by simpa [hxs] using hown, hW⟩
  case round =>
    obtain ⟨j, hj, rfl, rfl, rfl, hown', hg'⟩ := hrel
    obtain ⟨t, et⟩ : ∃ t, a * 16 ^ j % 2 ^ 64 = t := ⟨_, rfl⟩
    have ht : t < 18446744073709551616 := by rw [← et]; exact Nat.mod_lt _ (by omega)
    rw [et]
    have ET : Hid (a * 16 ^ j % 2 ^ 64 = t) := et
    clear et
    by_cases hlt : j < 16
    · go_wp2_with (at_builtin; refine wpList_app _ rfl rfl (.tmp 10) (.tmp 14) rfl (hg'.alloc _ _) g (n + j) 33 _ rfl (hown'.alloc _) ⟨wr.heap.size, 0, none⟩ (.int .u8 ((hd (t / 1152921504606846976) : Nat) : Int)) rfl (by rw [World.cell?_alloc_at _ _ _ _ rfl]; simp [digit_at _ (show t / 1152921504606846976 < 16 by omega)]) rfl (by omega) ?_; intro w1 hown1 hg1)
      have e1 : t / 1152921504606846976 = a / 16 ^ (15 - j) % 16 := by rw [← ET.out]; exact digit_top a j hlt
      have e2 : IntKind.u64.wrap ((t : Int) * 16) = ((a * 16 ^ (j + 1) % 2 ^ 64 : Nat) : Int) := by
        rw [← shift_next a j, ET.out]
        simp [IntKind.wrap, IntKind.signed, IntKind.bits]
      rw [e1, cl_snoc, List.append_assoc, ← hxs_succ] at hown1
      go_roundw
      case rel => exact ⟨j + 1, by omega, rfl, by rw [e2], by go_num, hown1, hg1⟩
      case measure => simp [intOf]; omega
    · have e16 : j = 16 := by omega
      clear hlt
      subst e16
      go_wp2_with fail
      go_ret
      exact ⟨rfl, hown', hg'⟩

theorem conv_text (w : World) (base g n : Nat) (l : List Nat) (hown : w.ownsRow base 5 1 (.slice (some ⟨g, 0, none⟩) n 33) n (cl l)) :
    (convert 54 9 (.slice (some ⟨g, 0, none⟩) n 33)).run Try.prog w = .ok (.string (bstr l)) w := by
  have hl : l.length = n := by
    have := hown.1
    unfold cl at this
    simpa using this
  rw [run_convert_bytes_arg (P := Try.prog) w 54 5 Try.underlying54 Try.underlying5 g 0 n 33 (l.map (fun c : Nat => (c : Int))) (by simpa using hl) (fun i hi => by
    have h := hown.cells (g := g) rfl i (.int .u8 ((l.map (fun c : Nat => (c : Int))).getD i 0)) (by
      unfold cl
      have hi' : i < l.length := by omega
      simp [hi'])
    rw [Addr.add_lit] at h
    exact h) 9 Try.underlying9]
  unfold strOfNums bstr
  simp [Function.comp_def]

set_option maxHeartbeats 1000000 in
theorem print_any (a b : Nat) (ha : a < 2 ^ 64) (hb : b < 2 ^ 64) (w : World) : Calls Try.prog 26 #[.complex .f64 a b] w fun e w' => e = .returned (.string (bstr (ptx a b))) ∧ Grown w w' := by
  have hmk := run_make33
  have hown0 : (w.alloc (.cells (Array.replicate 33 (.int .u8 0)) 5)).ownsRow w.heap.size 5 1 (.slice (some ⟨w.heap.size, 0, none⟩) 0 33) 0 [] := World.ownsRow_made w _ 33 (Nat.le_refl _) (by unfold maxLen; omega) (by simp)
  have hg0 : Grown w (w.alloc (.cells (Array.replicate 33 (.int .u8 0)) 5)) := (Grown.refl w).alloc _ _
  generalize hw0 : w.alloc (.cells (Array.replicate 33 (.int .u8 0)) 5) = w0 at *
  have hmk' := (hmk w)
  rw [hw0] at hmk'
  clear hmk hw0
  go_enter Try.func26, Try.ntmps26
  go_wp2_with (at_builtin; refine wpList_app _ rfl rfl (.tmp 5) (.tmp 6) rfl (hg0.alloc _ _) w.heap.size 0 33 [] rfl (hown0.alloc _) ⟨w0.heap.size, 0, none⟩ (.int .u8 99) rfl (by rw [World.cell?_alloc_at _ _ _ _ rfl]; rfl) rfl (by omega) ?_; intro w1 hown1 hg1)
  refine (appendpart_any w w.heap.size 1 [99] a ha (by omega) _ hg1 hown1).mono ?_
  rintro e w2 ⟨rfl, hown2, hg2⟩
  go_wp2_with fail
  refine (appendpart_any w w.heap.size 17 _ b hb (by omega) _ hg2 hown2).mono ?_
  rintro e w3 ⟨rfl, hown3, hg3⟩
  have hcv := conv_text w3 w.heap.size w.heap.size 33 _ hown3
  go_wp2
  go_ret
  refine ⟨?_, hg3⟩
  unfold ptx
  simp
end Go.Proofs.Ytlehddfefinadaa
