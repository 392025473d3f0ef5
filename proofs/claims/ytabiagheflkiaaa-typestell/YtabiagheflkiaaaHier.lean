/- The program's classes in memory; Has; Names; the library's search. -/
import Derived.Test.YtabiagheflkiaaaUp
namespace Go.Proofs.Ytabiagheflkiaaa
open Go.ChangeShapes Go.WideShapes Go.ChangeAt Go.RowKit

theorem keyed : Maps.Keyed Try.prog 9 := Maps.string_keyed Try.underlying9
theorem zero3 (w : World) : (zeroValue 3).run Try.prog w = .ok (.int .i64 0) w := by kernel_rfl

/-- The key that a text is. -/
def ky (s : ByteArray) : Lit := .string s.data.toList

theorem ky_inj {s t : ByteArray} (h : ky s = ky t) : s = t := by
  unfold ky at h
  simp only [Lit.string.injEq] at h
  exact ByteArray.ext (by simpa using congrArg List.toArray h)

theorem ky_key {s : ByteArray} (hs : s.size ≤ 1099511627776) : keyOf Try.prog 9 (.string s) = some (ky s) := WideMaps.keyOf_string_mk Try.underlying9 (by unfold maxLen; omega)

/-- The map has the names, each with its first place. -/
def MapOf (D : DataW Unit) (N : List ByteArray) : Prop :=
  Maps.IsMap D ∧ ∀ s, Maps.has D (ky s) = (ix s N).isSome ∧ ∀ i, ix s N = some i → D.atKey (ky s) (.lit (.int .i64 0)) = .lit (.int .i64 (i : Int))

theorem ky_lit (s : ByteArray) : WideAt.IsKeyLit (ky s) := trivial

theorem mapOf_nil : MapOf (.map []) [] := ⟨Maps.isMap_empty, fun s => ⟨rfl, fun i h => by simp [ix] at h⟩⟩

theorem mapOf_put {D : DataW Unit} {N : List ByteArray} (h : MapOf D N) {s : ByteArray} (hs : ix s N = none) : MapOf (D.put (ky s) (.lit (.int .i64 (N.length : Int)))) (N ++ [s]) := by
  refine ⟨h.1.put _ _, fun t => ?_⟩
  rw [ix_snoc]
  by_cases e : s = t
  · subst e
    rw [hs]
    refine ⟨by rw [Maps.has_put_same h.1 (ky_lit s)]; simp, fun i hi => ?_⟩
    simp only [if_true, Option.some.injEq] at hi
    subst hi
    exact Maps.atKey_put_same h.1 (ky_lit s) _ _
  · have hne : ky t ≠ ky s := fun k => e (ky_inj k).symm
    obtain ⟨h1, h2⟩ := h.2 t
    rw [Maps.has_put_other hne, Maps.atKey_put_other hne, h1]
    cases hi : ix t N with
    | some i => exact ⟨rfl, fun j hj => h2 j (hi.trans hj)⟩
    | none => simp [e]

abbrev Owns (w : World) (m n : Nat) (D : DataW Unit) : Prop := w.ownsMap (H := Unit) Try.prog 9 (plainElem Try.prog 3) m n D

/-- The block p holds the classes N, those above them A; all of it lies from c on. -/
def HB (c : Nat) (w : World) (p : Nat) (N : List ByteArray) (A : List Nat) : Prop :=
  ∃ vn va m D, w.heap[p]? = some (.cells #[vn, .map (some m), va] 58 (0, 0)) ∧ OwnG elS w vn N ∧ OwnG elI w va A ∧ Owns w m N.length D ∧ MapOf D N ∧
    c ≤ p ∧ c ≤ m ∧ (∀ k, vn.ownBlock = some k → c ≤ k) ∧ (∀ k, va.ownBlock = some k → c ≤ k)

theorem owns_keep {S : Nat → Prop} {w w' : World} {m n : Nat} {D : DataW Unit} (h : Owns w m n D) (hf : Fr S w w') (hS : ¬ S m) : Owns w' m n D := by
  have hlt := h.lt
  obtain ⟨es, clock, hb, F, hs, hD⟩ := h
  exact ⟨es, clock, (hf.block m hlt hS).trans hb, F, hs, hD⟩

theorem HB.keep {c : Nat} {w w' : World} {p : Nat} {N : List ByteArray} {A : List Nat} (h : HB c w p N A) (hf : Fr no w w') : HB c w' p N A := by
  obtain ⟨vn, va, m, D, h1, h2, h3, h4, h5, h6⟩ := h
  exact ⟨vn, va, m, D, hf.heap h1 (fun f => f), h2.keep hf, h3.keep hf, owns_keep h4 hf (fun f => f), h5, h6⟩

theorem cells3 {w : World} {p : Nat} {x y z : Value} {t : TypeId} (h : w.heap[p]? = some (.cells #[x, y, z] t (0, 0))) :
    w.cell? ⟨p, 0, none⟩ = some x ∧ w.cell? ⟨p, 1, none⟩ = some y ∧ w.cell? ⟨p, 2, none⟩ = some z := by
  refine ⟨?_, ?_, ?_⟩ <;> simp [World.cell?, h]

/-- What a look into the map tells. -/
theorem look {w : World} {m n : Nat} {D : DataW Unit} {N : List ByteArray} (h : Owns w m n D) (hm : MapOf D N) (s : ByteArray) (hs : s.size ≤ 1099511627776) :
    ∃ c : Int, (Instr.lookup 55 (.map (some m)) (.string s) true).run Try.prog w = .ok (.tuple #[.int .i64 c, .bool (ix s N).isSome]) w ∧ ∀ i : Nat, ix s N = some i → c = (i : Int) := by
  obtain ⟨v, ps, hrun, hv⟩ := h.look_ok keyed Try.underlying55 (zero3 w) (plainElem_int Try.underlying3 (by decide)) (ky_key hs)
  obtain ⟨c, rfl, hc, -⟩ := plainElem_int_inv Try.underlying3 hv
  rw [(hm.2 s).1] at hrun
  refine ⟨c, hrun, fun i hi => ?_⟩
  have := (hm.2 s).2 i hi
  have e := congrArg Prod.fst hc
  simp only [] at e
  rw [this] at e
  simpa using e.symm

theorem has_any {c : Nat} (w : World) (p : Nat) (N : List ByteArray) (A : List Nat) (h : HB c w p N A) (s : ByteArray) (hs : s.size ≤ 1099511627776) :
    Calls Try.prog 15 #[.pointer (some ⟨p, 0, none⟩), .string s] w fun e w' => e = .returned (.bool (ix s N).isSome) ∧ w' = w := by
  obtain ⟨vn, va, m, D, h1, h2, h3, h4, h5, h6⟩ := h
  obtain ⟨_, hc1, _⟩ := cells3 h1
  obtain ⟨x, hrun, _⟩ := look h4 h5 s hs
  clear h1 h2 h3 h4 h5 h6
  generalize (ix s N).isSome = b at *
  go_enter Try.func15, Try.ntmps15
  go_wp2_with fail
  go_ret
  exact ⟨rfl, rfl⟩

theorem run_nil_eq (w : World) (n c : Nat) : (binOp .eql 22 (.slice none n c) (.slice none 0 0)).run Try.prog w = .ok (.bool true) w := by kernel_rfl
theorem run_some_eq (w : World) (a : Addr) (n c : Nat) : (binOp .eql 22 (.slice (some a) n c) (.slice none 0 0)).run Try.prog w = .ok (.bool false) w := by kernel_rfl

set_option maxRecDepth 100000 in
theorem clone_any (w : World) (v : Value) (l : List ByteArray) (h : SlG elS w v l) (hb : l.length ≤ 1000) :
    Calls Try.prog 34 #[v] w fun e w' => ∃ v', e = .returned v' ∧ OwnG elS w' v' l ∧ Fr no w w' := by
  have hn := run_nil_eq
  have hsm := run_some_eq
  obtain ⟨o, cap, hv, -, -, h0, -⟩ := id h
  subst hv
  cases o with
  | none =>
    obtain ⟨rfl, rfl⟩ := h0 rfl
    go_enter Try.func34, Try.ntmps34
    go_wp2_with fail
    go_ret
    exact ⟨_, rfl, OwnG.nil _ _, Fr.refl _ _⟩
  | some ad =>
    have HF : Hid (Fr no w (w.alloc (.cells #[] 9))) := (Fr.refl no w).alloc _ _
    have HS : Hid (SlG elS (w.alloc (.cells #[] 9)) (.slice (some ad) l.length cap) l) := h.keep HF.out
    have HE : Hid (OwnG elS (w.alloc (.cells #[] 9)) (.slice (some ⟨w.heap.size, 0, none⟩) 0 0) []) := own_empty w
    clear h h0
    generalize hln : l.length = n at *
    go_enter Try.func34, Try.ntmps34
    go_wp2_with (first | (at_builtin; refine wpList_apdG elS_ok _ rfl rfl _ _ rfl (.slice (some ⟨w.heap.size, 0, none⟩) 0 0) [] rfl HE.out _ rfl l (HS.out.src elS_ok) (by simp; omega) ?_; intro v' w1 o1 s1) | go_in)
    go_wp2_with fail
    go_ret
    refine ⟨_, rfl, by simpa using o1, HF.out.new s1.1 (fun i hi e => ?_)⟩
    simp only [Value.ownBlock, Option.some.injEq] at e
    omega

theorem names_any {c : Nat} (w : World) (p : Nat) (N : List ByteArray) (A : List Nat) (h : HB c w p N A) (hN : N.length ≤ 1000) :
    Calls Try.prog 14 #[.pointer (some ⟨p, 0, none⟩)] w fun e w' => ∃ v', e = .returned v' ∧ OwnG elS w' v' N ∧ Fr no w w' := by
  obtain ⟨vn, va, m, D, h1, h2, h3, h4, h5, h6⟩ := h
  obtain ⟨hc0, _, _⟩ := cells3 h1
  have C := clone_any w vn N h2.sl hN
  clear h1 h2 h3 h4 h5 h6
  go_enter Try.func14, Try.ntmps14
  go_wp2_with fail
  refine C.mono ?_
  rintro e w1 ⟨v', rfl, o1, f1⟩
  go_wp2_with fail
  go_ret
  exact ⟨_, rfl, o1, f1⟩

set_option maxRecDepth 100000 in
theorem index_any (w : World) (v : Value) (l : List ByteArray) (h : SlG elS w v l) (s : ByteArray) :
    Calls Try.prog 40 #[v, .string s] w fun e w' => ∃ z : Int, e = .returned (.int .i64 z) ∧ decide (0 ≤ z) = inL s l ∧ w' = w := by
  obtain ⟨ad, cp, rfl, hcap, hmx, -, hit⟩ := h
  unfold maxLen at hmx
  have HI : Hid (∀ (i : Nat) (x : ByteArray), l[i]? = some x → ∃ b off, ad = some ⟨b, off, none⟩ ∧ w.cell? ⟨b, off + i, none⟩ = some (.string x)) := hit
  clear hit
  go_enter Try.func40, Try.ntmps40
  go_wp2_with fail
  go_loop [8] (fun i => ∃ (k : Nat), i = .int .i64 (k : Int) ∧ k ≤ l.length ∧ inL s (l.take k) = false) (fun i => l.length - (intOf i).toNat)
  case atStart => exact ⟨0, rfl, by omega, rfl⟩
  case round =>
    obtain ⟨k, rfl, hk, hall⟩ := hrel
    have HA : Hid (inL s (l.take k) = false) := hall
    clear hall
    by_cases hlt : k < l.length
    · obtain ⟨x, hx⟩ : ∃ x, l[k]? = some x := ⟨_, List.getElem?_eq_getElem hlt⟩
      obtain ⟨b, off, rfl, hc⟩ := HI.out k x hx
      have HX : Hid (l[k]? = some x) := hx
      clear hx
      have hlt' : (k : Int) < (l.length : Int) := by omega
      have hq := streq s x
      by_cases hn : s = x
      · rw [decide_eq_true hn] at hq
        have HT : Hid (inL s l = true) := inL_iff.2 (hn ▸ List.mem_of_getElem? HX.out)
        clear hn
        go_wp2_with fail
        go_ret
        refine ⟨_, rfl, ?_, rfl⟩
        rw [HT.out]
        simp
      · rw [decide_eq_false hn] at hq
        have HT : Hid (inL s (l.take (k + 1)) = false) := by
          show _ = _
          rw [take_next l k x HX.out]
          have := HA.out
          unfold inL at this ⊢
          rw [List.any_append, this]
          simp [Ne.symm hn]
        clear hn
        go_wp2_with fail
        go_round
        case rel => exact ⟨k + 1, by go_num, by omega, HT.out⟩
        case measure => simp [intOf]; omega
    · have hkl : k = l.length := by omega
      subst hkl
      have HT : Hid (inL s l = false) := by
        have := HA.out
        rwa [List.take_length] at this
      go_wp2_with fail
      go_ret
      refine ⟨_, rfl, ?_, rfl⟩
      rw [HT.out]
      rfl

theorem contains_any (w : World) (v : Value) (l : List ByteArray) (h : SlG elS w v l) (s : ByteArray) :
    Calls Try.prog 36 #[v, .string s] w fun e w' => e = .returned (.bool (inL s l)) ∧ w' = w := by
  have I := index_any w v l h s
  clear h
  generalize inL s l = b at *
  go_enter Try.func36, Try.ntmps36
  go_wp2_with fail
  refine I.mono ?_
  rintro e w1 ⟨z, rfl, hz, rfl⟩
  have HZ : Hid (decide (0 ≤ z) = b) := hz
  clear hz
  go_wp2_with fail
  go_ret
  rw [← HZ.out]
  exact ⟨rfl, rfl⟩
end Go.Proofs.Ytabiagheflkiaaa
