/- Lists on the wire: how many, then each. -/
import Derived.Test.YthncdbobjeeeaaaGreatDoorVal
namespace Go.Proofs.YthncdbobjeeeaaaGreatDoor
open Go.ChangeShapes Go.WideShapes Go.ChangeAt Go.RowKit

/-- A writer at p, newer than w0, that holds u: the bytes l. -/
structure WT (w0 w : World) (p : Nat) (u : Value) (l : List Nat) : Prop where
  wt : Wt w p u l
  hp : w0.heap.size ≤ p
  hu : ∀ k, u.ownBlock = some k → w0.heap.size ≤ k
  fr : Fr no w0 w

theorem WT.step {w0 w w' : World} {p : Nat} {u u' : Value} {l l' : List Nat} (h : WT w0 w p u l) (ht : Wt w' p u' l') (hs : Sp (fun k => k = p) u w u' w') : WT w0 w' p u' l' := by
  refine ⟨ht, h.hp, fun k hk => ?_, h.fr.new hs.1 (fun i hi s => s.elim (fun e => by have := h.hp; omega) (fun e => by have := h.hu i e; omega))⟩
  rcases Nat.lt_or_ge k w.heap.size with h' | h'
  · exact h.hu k (hs.2 k h' hk)
  · exact Nat.le_trans h.fr.size h'

theorem WT.kept {w0 w w' : World} {p : Nat} {u : Value} {l : List Nat} (h : WT w0 w p u l) (hf : Fr no w w') : WT w0 w' p u l :=
  ⟨h.wt.kept hf (fun f => f) (fun _ _ f => f), h.hp, h.hu, h.fr.new hf (fun _ _ f => f)⟩

theorem WT.wb {w0 w : World} {p : Nat} {u : Value} {l : List Nat} (h : WT w0 w p u l) : WB w0 w p l := ⟨u, h.wt, h.hp, h.hu, h.fr⟩

theorem WT.lt {w0 w : World} {p : Nat} {u : Value} {l : List Nat} (h : WT w0 w p u l) : p < w.heap.size := lt_of_heap h.wt.1

/-- A block that was made behind the writer stays, whatever is written. -/
theorem Sp.box {w0 w w' : World} {p q : Nat} {u u' : Value} {l : List Nat} {o o2 : Obj} (h : WT w0 w p u l) (hs : Sp (fun k => k = p) u (w.alloc o) u' w') (hq : (w.alloc o).heap[w.heap.size]? = some o2) (e : q = w.heap.size) : w'.heap[q]? = some o2 := by
  subst e
  refine hs.1.heap hq (fun s => s.elim (fun e => ?_) (fun e => ?_))
  · have := h.lt; omega
  · exact absurd (h.wt.2.lt e) (Nat.lt_irrefl _)

theorem wt_byte (w0 w : World) (p : Nat) (u : Value) (l : List Nat) (h : WT w0 w p u l) (hb : l.length + 1 ≤ 1099511627776) (c : Nat) :
    Calls Tryz.prog 41 #[.pointer (some ⟨p, 0, none⟩), .int .u8 (c : Int)] w fun e w' => e = .returned (.tuple #[]) ∧ ∃ u', WT w0 w' p u' (l ++ [c]) ∧ Sp (fun k => k = p) u w u' w' := by
  refine (byte_any w p u l h.wt hb c).mono ?_
  rintro e w' ⟨rfl, u', ht, hs⟩
  exact ⟨rfl, u', h.step ht hs, hs⟩

theorem wt_uint (w0 w : World) (p : Nat) (u : Value) (l : List Nat) (h : WT w0 w p u l) (hb : l.length + 10 ≤ 1099511627776) (n : Nat) (hn : n < 2 ^ 64) :
    Calls Tryz.prog 93 #[.pointer (some ⟨p, 0, none⟩), .int .u64 (n : Int)] w fun e w' => e = .returned (.tuple #[]) ∧ ∃ u', WT w0 w' p u' (l ++ enc n) ∧ Sp (fun k => k = p) u w u' w' := by
  refine (uint_any w p u l h.wt hb n hn).mono ?_
  rintro e w' ⟨rfl, u', ht, hs⟩
  exact ⟨rfl, u', h.step ht hs, hs⟩

theorem wt_int (w0 w : World) (p : Nat) (u : Value) (l : List Nat) (h : WT w0 w p u l) (hb : l.length + 10 ≤ 1099511627776) (n : Int) (h1 : -9223372036854775808 ≤ n) (h2 : n ≤ 9223372036854775807) :
    Calls Tryz.prog 95 #[.pointer (some ⟨p, 0, none⟩), .int .i64 n] w fun e w' => e = .returned (.tuple #[]) ∧ ∃ u', WT w0 w' p u' (l ++ enc (fo n)) ∧ Sp (fun k => k = p) u w u' w' := by
  refine (int_any w p u l h.wt hb n h1 h2).mono ?_
  rintro e w' ⟨rfl, u', ht, hs⟩
  exact ⟨rfl, u', h.step ht hs, hs⟩

theorem wt_text (w0 w : World) (p : Nat) (u : Value) (l : List Nat) (h : WT w0 w p u l) (s : ByteArray) (hb : l.length + 10 + s.size ≤ 1099511627776) :
    Calls Tryz.prog 42 #[.pointer (some ⟨p, 0, none⟩), .string s] w fun e w' => e = .returned (.tuple #[]) ∧ ∃ u', WT w0 w' p u' (l ++ enTx s) ∧ Sp (fun k => k = p) u w u' w' := by
  refine (text_any w p u l h.wt s hb).mono ?_
  rintro e w' ⟨rfl, u', ht, hs⟩
  exact ⟨rfl, u', h.step ht hs, hs⟩

theorem wt_cplx (w0 w : World) (p : Nat) (u : Value) (l : List Nat) (h : WT w0 w p u l) (hb : l.length + 16 ≤ 1099511627776) (a b : Nat) (ha : a < 2 ^ 64) (hb' : b < 2 ^ 64) :
    Calls Tryz.prog 96 #[.pointer (some ⟨p, 0, none⟩), .complex .f64 a b] w fun e w' => e = .returned (.tuple #[]) ∧ ∃ u', WT w0 w' p u' (l ++ (le a 8 ++ le b 8)) ∧ Sp (fun k => k = p) u w u' w' := by
  refine (cplx_any w p u l h.wt hb a b ha hb').mono ?_
  rintro e w' ⟨rfl, u', ht, hs⟩
  exact ⟨rfl, u', h.step ht hs, hs⟩

theorem writeCount_any (w0 w : World) (p : Nat) (u : Value) (l : List Nat) (h : WT w0 w p u l) (hb : l.length + 10 ≤ 1099511627776) (n : Nat) (hn : n < 2 ^ 63) :
    Calls Tryz.prog 94 #[.pointer (some ⟨p, 0, none⟩), .int .i64 (n : Int)] w fun e w' => e = .returned (.tuple #[]) ∧ ∃ u', WT w0 w' p u' (l ++ enc n) ∧ Sp (fun k => k = p) u w u' w' := by
  have U := wt_uint w0 w p u l h hb n (by omega)
  have hw : IntKind.u64.wrap (n : Int) = (n : Int) := by simp [IntKind.wrap, IntKind.signed, IntKind.bits]; omega
  clear h
  go_enter Tryz.func94, Tryz.ntmps94
  go_wp2_with fail
  refine U.mono ?_
  rintro e w1 ⟨rfl, h1⟩
  go_wp2_with fail
  go_end0
  exact ⟨rfl, h1⟩

def WriteCsAt (w0 wb : World) (ub : Value) (p : Nat) (v : Value) (l0 : List Nat) (en : Cs → List Nat) (l : List Cs) (a : Act) (w : World) : Prop :=
  ∃ (k : Nat) (u3 u4 u5 u6 u7 u8 u9 u10 u11 u12 u13 u14 u15 u16 u17 u18 u19 u20 u21 u22 u23 : Value), a = { tmps := #[.pointer (some ⟨p, 0, none⟩), v, .func (.func 44) #[] #[], u3, u4, u5, u6, u7, u8, u9, u10, u11, u12, u13, u14, u15, u16, u17, u18, u19, u20, u21, u22, u23], defers := [] } ∧ u6 = .int .i64 (k : Int) ∧ k ≤ l.length ∧ ∃ u, WT w0 w p u (l0 ++ (enc l.length ++ (l.take k).flatMap en)) ∧ Sp (fun k => k = p) ub wb u w

set_option maxRecDepth 100000 in
set_option maxHeartbeats 2000000 in
theorem writeCs_list (w0 w : World) (p : Nat) (ub : Value) (l0 : List Nat) (h : WT w0 w p ub l0) (v : Value) (l : List Cs) (hs : SlG elCs w0 v l) (N : Nat) (hN : N ≤ 100000000) (hll : l.length ≤ 1000) (hb : l0.length + 10 + l.length * 5000 ≤ N) (en : Cs → List Nat) (hen : ∀ x ∈ l, (en x).length ≤ 5000)
    (W : ∀ w1 u1 l1 x, x ∈ l → WT w0 w1 p u1 l1 → l1.length ≤ N → Calls Tryz.prog 44 #[.pointer (some ⟨p, 0, none⟩), .agg #[.int .i64 x.k, .int .i64 x.n, .complex .f64 x.re x.im, .string x.c, .string x.m]] w1 fun e w' => e = .returned (.tuple #[]) ∧ ∃ u', WT w0 w' p u' (l1 ++ en x) ∧ Sp (fun k => k = p) u1 w1 u' w') :
    Calls Tryz.prog 43 #[.pointer (some ⟨p, 0, none⟩), v, .func (.func 44) #[] #[]] w fun e w' => e = .returned (.tuple #[]) ∧ ∃ u', WT w0 w' p u' (l0 ++ enL en l) ∧ Sp (fun k => k = p) ub w u' w' := by
  obtain ⟨ad, cp, rfl, hcap, hmx, hit⟩ := hs
  unfold maxLen at hmx
  have HI : Hid (∀ (i : Nat) (x : Cs), l[i]? = some x → ∃ b off, ad = some ⟨b, off, none⟩ ∧ ∀ (j : Nat) (u : Value), (elCs.f x)[j]? = some u → w0.cell? ⟨b, off + i * 5 + j, none⟩ = some u) := hit
  have HW : Hid (∀ w1 u1 l1 x, x ∈ l → WT w0 w1 p u1 l1 → l1.length ≤ N → Calls Tryz.prog 44 #[.pointer (some ⟨p, 0, none⟩), .agg #[.int .i64 x.k, .int .i64 x.n, .complex .f64 x.re x.im, .string x.c, .string x.m]] w1 fun e w' => e = .returned (.tuple #[]) ∧ ∃ u', WT w0 w' p u' (l1 ++ en x) ∧ Sp (fun k => k = p) u1 w1 u' w') := W
  clear hit W
  have C := writeCount_any w0 w p ub l0 h (by omega) l.length (by omega)
  go_enter Tryz.func43, Tryz.ntmps43
  go_wp2_with fail
  refine wp_label_one 0 (WriteCsAt w0 w ub p (.slice ad l.length cp) l0 en l) (fun a' _ => l.length - (intOf (a'.tmps.getD 6 undef)).toNat) rfl ?_ ?_
  · intro K h0 hr hn'
    go_wp2_with fail
    refine C.mono ?_
    rintro e w1 ⟨rfl, u1, h1, s1⟩
    go_wp2_with fail
    go_step3
    rename_i hk
    exact hk _ _ (h0 _ _ ⟨0, _, _, _, _, _, _, _, _, _, _, _, _, _, _, _, _, _, _, _, _, _, rfl, rfl, by omega, u1, by simpa using h1, s1⟩)
  · rintro a' w' ⟨k, u3, u4, u5, u6, u7, u8, u9, u10, u11, u12, u13, u14, u15, u16, u17, u18, u19, u20, u21, u22, u23, rfl, rfl, hk, u1, hw, hs1⟩ K hj hr hn'
    by_cases hlt : k < l.length
    · have hlt' : (k : Int) < (l.length : Int) := by omega
      obtain ⟨x, hx⟩ : ∃ x, l[k]? = some x := ⟨_, List.getElem?_eq_getElem hlt⟩
      obtain ⟨b, off, rfl, hc⟩ := HI.out k x hx
      have c0 : w'.cell? ⟨b, off + k * 5, none⟩ = some (.int .i64 x.k) := hw.fr.cell (hc 0 _ rfl) (fun f => f)
      have c1 : w'.cell? ⟨b, off + k * 5 + 1, none⟩ = some (.int .i64 x.n) := hw.fr.cell (hc 1 _ rfl) (fun f => f)
      have c2 : w'.cell? ⟨b, off + k * 5 + 2, none⟩ = some (.complex .f64 x.re x.im) := hw.fr.cell (hc 2 _ rfl) (fun f => f)
      have c3 : w'.cell? ⟨b, off + k * 5 + 3, none⟩ = some (.string x.c) := hw.fr.cell (hc 3 _ rfl) (fun f => f)
      have c4 : w'.cell? ⟨b, off + k * 5 + 4, none⟩ = some (.string x.m) := hw.fr.cell (hc 4 _ rfl) (fun f => f)
      have hlen : (l0 ++ (enc l.length ++ (l.take k).flatMap en)).length ≤ N := by
        have a1 := enc_length l.length
        have a2 := flat_len en (l.take k) 5000 (fun y hy => hen y (List.mem_of_mem_take hy))
        have a3 : (l.take k).length * 5000 ≤ l.length * 5000 := Nat.mul_le_mul_right _ (by rw [List.length_take]; omega)
        simp only [List.length_append]
        omega
      have A := HW.out w' u1 _ x (List.mem_of_getElem? hx) hw hlen
      have HX : Hid (l[k]? = some x) := hx
      clear hx hc hw hlen
      go_wp2_with fail
      refine A.mono ?_
      rintro e w2 ⟨rfl, u2, h2, s2⟩
      go_wp2_with fail
      go_step3
      refine hj _ _ ⟨k + 1, _, _, _, _, _, _, _, _, _, _, _, _, _, _, _, _, _, _, _, _, _, rfl, by go_num, by omega, u2, ?_, hs1.trans s2⟩ ?_
      · rw [take_next l k x HX.out, List.flatMap_append]
        simpa using h2
      · simp [intOf]
        omega
    · have hkl : k = l.length := by omega
      subst hkl
      rw [List.take_length] at hw
      go_wp2_with fail
      refine hn' _ _ ?_
      go_end0
      exact ⟨rfl, u1, hw, hs1⟩

def WriteFdAt (w0 wb : World) (ub : Value) (p : Nat) (v : Value) (l0 : List Nat) (en : Fd → List Nat) (l : List Fd) (a : Act) (w : World) : Prop :=
  ∃ (k : Nat) (u3 u4 u5 u6 u7 u8 u9 u10 u11 u12 u13 u14 u15 u16 u17 u18 u19 u20 u21 u22 u23 : Value), a = { tmps := #[.pointer (some ⟨p, 0, none⟩), v, .func (.func 46) #[] #[], u3, u4, u5, u6, u7, u8, u9, u10, u11, u12, u13, u14, u15, u16, u17, u18, u19, u20, u21, u22, u23], defers := [] } ∧ u6 = .int .i64 (k : Int) ∧ k ≤ l.length ∧ ∃ u, WT w0 w p u (l0 ++ (enc l.length ++ (l.take k).flatMap en)) ∧ Sp (fun k => k = p) ub wb u w

set_option maxRecDepth 100000 in
set_option maxHeartbeats 2000000 in
theorem writeFd_list (w0 w : World) (p : Nat) (ub : Value) (l0 : List Nat) (h : WT w0 w p ub l0) (v : Value) (l : List Fd) (hs : SlG elFd w0 v l) (N : Nat) (hN : N ≤ 100000000) (hll : l.length ≤ 1000) (hb : l0.length + 10 + l.length * 5000 ≤ N) (en : Fd → List Nat) (hen : ∀ x ∈ l, (en x).length ≤ 5000)
    (W : ∀ w1 u1 l1 x, x ∈ l → WT w0 w1 p u1 l1 → l1.length ≤ N → Calls Tryz.prog 46 #[.pointer (some ⟨p, 0, none⟩), .agg #[.string x.name, .int .i64 x.ty.k, .string x.ty.c, .bool x.vol]] w1 fun e w' => e = .returned (.tuple #[]) ∧ ∃ u', WT w0 w' p u' (l1 ++ en x) ∧ Sp (fun k => k = p) u1 w1 u' w') :
    Calls Tryz.prog 45 #[.pointer (some ⟨p, 0, none⟩), v, .func (.func 46) #[] #[]] w fun e w' => e = .returned (.tuple #[]) ∧ ∃ u', WT w0 w' p u' (l0 ++ enL en l) ∧ Sp (fun k => k = p) ub w u' w' := by
  obtain ⟨ad, cp, rfl, hcap, hmx, hit⟩ := hs
  unfold maxLen at hmx
  have HI : Hid (∀ (i : Nat) (x : Fd), l[i]? = some x → ∃ b off, ad = some ⟨b, off, none⟩ ∧ ∀ (j : Nat) (u : Value), (elFd.f x)[j]? = some u → w0.cell? ⟨b, off + i * 4 + j, none⟩ = some u) := hit
  have HW : Hid (∀ w1 u1 l1 x, x ∈ l → WT w0 w1 p u1 l1 → l1.length ≤ N → Calls Tryz.prog 46 #[.pointer (some ⟨p, 0, none⟩), .agg #[.string x.name, .int .i64 x.ty.k, .string x.ty.c, .bool x.vol]] w1 fun e w' => e = .returned (.tuple #[]) ∧ ∃ u', WT w0 w' p u' (l1 ++ en x) ∧ Sp (fun k => k = p) u1 w1 u' w') := W
  clear hit W
  have C := writeCount_any w0 w p ub l0 h (by omega) l.length (by omega)
  go_enter Tryz.func45, Tryz.ntmps45
  go_wp2_with fail
  refine wp_label_one 0 (WriteFdAt w0 w ub p (.slice ad l.length cp) l0 en l) (fun a' _ => l.length - (intOf (a'.tmps.getD 6 undef)).toNat) rfl ?_ ?_
  · intro K h0 hr hn'
    go_wp2_with fail
    refine C.mono ?_
    rintro e w1 ⟨rfl, u1, h1, s1⟩
    go_wp2_with fail
    go_step3
    rename_i hk
    exact hk _ _ (h0 _ _ ⟨0, _, _, _, _, _, _, _, _, _, _, _, _, _, _, _, _, _, _, _, _, _, rfl, rfl, by omega, u1, by simpa using h1, s1⟩)
  · rintro a' w' ⟨k, u3, u4, u5, u6, u7, u8, u9, u10, u11, u12, u13, u14, u15, u16, u17, u18, u19, u20, u21, u22, u23, rfl, rfl, hk, u1, hw, hs1⟩ K hj hr hn'
    by_cases hlt : k < l.length
    · have hlt' : (k : Int) < (l.length : Int) := by omega
      obtain ⟨x, hx⟩ : ∃ x, l[k]? = some x := ⟨_, List.getElem?_eq_getElem hlt⟩
      obtain ⟨b, off, rfl, hc⟩ := HI.out k x hx
      have c0 : w'.cell? ⟨b, off + k * 4, none⟩ = some (.string x.name) := hw.fr.cell (hc 0 _ rfl) (fun f => f)
      have c1 : w'.cell? ⟨b, off + k * 4 + 1, none⟩ = some (.int .i64 x.ty.k) := hw.fr.cell (hc 1 _ rfl) (fun f => f)
      have c2 : w'.cell? ⟨b, off + k * 4 + 2, none⟩ = some (.string x.ty.c) := hw.fr.cell (hc 2 _ rfl) (fun f => f)
      have c3 : w'.cell? ⟨b, off + k * 4 + 3, none⟩ = some (.bool x.vol) := hw.fr.cell (hc 3 _ rfl) (fun f => f)
      have hlen : (l0 ++ (enc l.length ++ (l.take k).flatMap en)).length ≤ N := by
        have a1 := enc_length l.length
        have a2 := flat_len en (l.take k) 5000 (fun y hy => hen y (List.mem_of_mem_take hy))
        have a3 : (l.take k).length * 5000 ≤ l.length * 5000 := Nat.mul_le_mul_right _ (by rw [List.length_take]; omega)
        simp only [List.length_append]
        omega
      have A := HW.out w' u1 _ x (List.mem_of_getElem? hx) hw hlen
      have HX : Hid (l[k]? = some x) := hx
      clear hx hc hw hlen
      go_wp2_with fail
      refine A.mono ?_
      rintro e w2 ⟨rfl, u2, h2, s2⟩
      go_wp2_with fail
      go_step3
      refine hj _ _ ⟨k + 1, _, _, _, _, _, _, _, _, _, _, _, _, _, _, _, _, _, _, _, _, _, rfl, by go_num, by omega, u2, ?_, hs1.trans s2⟩ ?_
      · rw [take_next l k x HX.out, List.flatMap_append]
        simpa using h2
      · simp [intOf]
        omega
    · have hkl : k = l.length := by omega
      subst hkl
      rw [List.take_length] at hw
      go_wp2_with fail
      refine hn' _ _ ?_
      go_end0
      exact ⟨rfl, u1, hw, hs1⟩

def WriteTyAt (w0 wb : World) (ub : Value) (p : Nat) (v : Value) (l0 : List Nat) (en : Ty → List Nat) (l : List Ty) (a : Act) (w : World) : Prop :=
  ∃ (k : Nat) (u3 u4 u5 u6 u7 u8 u9 u10 u11 u12 u13 u14 u15 u16 u17 u18 u19 u20 u21 u22 u23 : Value), a = { tmps := #[.pointer (some ⟨p, 0, none⟩), v, .func (.func 97) #[] #[], u3, u4, u5, u6, u7, u8, u9, u10, u11, u12, u13, u14, u15, u16, u17, u18, u19, u20, u21, u22, u23], defers := [] } ∧ u6 = .int .i64 (k : Int) ∧ k ≤ l.length ∧ ∃ u, WT w0 w p u (l0 ++ (enc l.length ++ (l.take k).flatMap en)) ∧ Sp (fun k => k = p) ub wb u w

set_option maxRecDepth 100000 in
set_option maxHeartbeats 2000000 in
theorem writeTy_list (w0 w : World) (p : Nat) (ub : Value) (l0 : List Nat) (h : WT w0 w p ub l0) (v : Value) (l : List Ty) (hs : SlG elTy w0 v l) (N : Nat) (hN : N ≤ 100000000) (hll : l.length ≤ 1000) (hb : l0.length + 10 + l.length * 5000 ≤ N) (en : Ty → List Nat) (hen : ∀ x ∈ l, (en x).length ≤ 5000)
    (W : ∀ w1 u1 l1 x, x ∈ l → WT w0 w1 p u1 l1 → l1.length ≤ N → Calls Tryz.prog 97 #[.pointer (some ⟨p, 0, none⟩), .agg #[.int .i64 x.k, .string x.c]] w1 fun e w' => e = .returned (.tuple #[]) ∧ ∃ u', WT w0 w' p u' (l1 ++ en x) ∧ Sp (fun k => k = p) u1 w1 u' w') :
    Calls Tryz.prog 98 #[.pointer (some ⟨p, 0, none⟩), v, .func (.func 97) #[] #[]] w fun e w' => e = .returned (.tuple #[]) ∧ ∃ u', WT w0 w' p u' (l0 ++ enL en l) ∧ Sp (fun k => k = p) ub w u' w' := by
  obtain ⟨ad, cp, rfl, hcap, hmx, hit⟩ := hs
  unfold maxLen at hmx
  have HI : Hid (∀ (i : Nat) (x : Ty), l[i]? = some x → ∃ b off, ad = some ⟨b, off, none⟩ ∧ ∀ (j : Nat) (u : Value), (elTy.f x)[j]? = some u → w0.cell? ⟨b, off + i * 2 + j, none⟩ = some u) := hit
  have HW : Hid (∀ w1 u1 l1 x, x ∈ l → WT w0 w1 p u1 l1 → l1.length ≤ N → Calls Tryz.prog 97 #[.pointer (some ⟨p, 0, none⟩), .agg #[.int .i64 x.k, .string x.c]] w1 fun e w' => e = .returned (.tuple #[]) ∧ ∃ u', WT w0 w' p u' (l1 ++ en x) ∧ Sp (fun k => k = p) u1 w1 u' w') := W
  clear hit W
  have C := writeCount_any w0 w p ub l0 h (by omega) l.length (by omega)
  go_enter Tryz.func98, Tryz.ntmps98
  go_wp2_with fail
  refine wp_label_one 0 (WriteTyAt w0 w ub p (.slice ad l.length cp) l0 en l) (fun a' _ => l.length - (intOf (a'.tmps.getD 6 undef)).toNat) rfl ?_ ?_
  · intro K h0 hr hn'
    go_wp2_with fail
    refine C.mono ?_
    rintro e w1 ⟨rfl, u1, h1, s1⟩
    go_wp2_with fail
    go_step3
    rename_i hk
    exact hk _ _ (h0 _ _ ⟨0, _, _, _, _, _, _, _, _, _, _, _, _, _, _, _, _, _, _, _, _, _, rfl, rfl, by omega, u1, by simpa using h1, s1⟩)
  · rintro a' w' ⟨k, u3, u4, u5, u6, u7, u8, u9, u10, u11, u12, u13, u14, u15, u16, u17, u18, u19, u20, u21, u22, u23, rfl, rfl, hk, u1, hw, hs1⟩ K hj hr hn'
    by_cases hlt : k < l.length
    · have hlt' : (k : Int) < (l.length : Int) := by omega
      obtain ⟨x, hx⟩ : ∃ x, l[k]? = some x := ⟨_, List.getElem?_eq_getElem hlt⟩
      obtain ⟨b, off, rfl, hc⟩ := HI.out k x hx
      have c0 : w'.cell? ⟨b, off + k * 2, none⟩ = some (.int .i64 x.k) := hw.fr.cell (hc 0 _ rfl) (fun f => f)
      have c1 : w'.cell? ⟨b, off + k * 2 + 1, none⟩ = some (.string x.c) := hw.fr.cell (hc 1 _ rfl) (fun f => f)
      have hlen : (l0 ++ (enc l.length ++ (l.take k).flatMap en)).length ≤ N := by
        have a1 := enc_length l.length
        have a2 := flat_len en (l.take k) 5000 (fun y hy => hen y (List.mem_of_mem_take hy))
        have a3 : (l.take k).length * 5000 ≤ l.length * 5000 := Nat.mul_le_mul_right _ (by rw [List.length_take]; omega)
        simp only [List.length_append]
        omega
      have A := HW.out w' u1 _ x (List.mem_of_getElem? hx) hw hlen
      have HX : Hid (l[k]? = some x) := hx
      clear hx hc hw hlen
      go_wp2_with fail
      refine A.mono ?_
      rintro e w2 ⟨rfl, u2, h2, s2⟩
      go_wp2_with fail
      go_step3
      refine hj _ _ ⟨k + 1, _, _, _, _, _, _, _, _, _, _, _, _, _, _, _, _, _, _, _, _, _, rfl, by go_num, by omega, u2, ?_, hs1.trans s2⟩ ?_
      · rw [take_next l k x HX.out, List.flatMap_append]
        simpa using h2
      · simp [intOf]
        omega
    · have hkl : k = l.length := by omega
      subst hkl
      rw [List.take_length] at hw
      go_wp2_with fail
      refine hn' _ _ ?_
      go_end0
      exact ⟨rfl, u1, hw, hs1⟩

def WriteHdAt (w0 wb : World) (ub : Value) (p : Nat) (v : Value) (l0 : List Nat) (en : Hd → List Nat) (l : List Hd) (a : Act) (w : World) : Prop :=
  ∃ (k : Nat) (u3 u4 u5 u6 u7 u8 u9 u10 u11 u12 u13 u14 u15 u16 u17 u18 u19 u20 u21 u22 u23 : Value), a = { tmps := #[.pointer (some ⟨p, 0, none⟩), v, .func (.func 101) #[] #[], u3, u4, u5, u6, u7, u8, u9, u10, u11, u12, u13, u14, u15, u16, u17, u18, u19, u20, u21, u22, u23], defers := [] } ∧ u6 = .int .i64 (k : Int) ∧ k ≤ l.length ∧ ∃ u, WT w0 w p u (l0 ++ (enc l.length ++ (l.take k).flatMap en)) ∧ Sp (fun k => k = p) ub wb u w

set_option maxRecDepth 100000 in
set_option maxHeartbeats 2000000 in
theorem writeHd_list (w0 w : World) (p : Nat) (ub : Value) (l0 : List Nat) (h : WT w0 w p ub l0) (v : Value) (l : List Hd) (hs : SlG elHd w0 v l) (N : Nat) (hN : N ≤ 100000000) (hll : l.length ≤ 1000) (hb : l0.length + 10 + l.length * 5000 ≤ N) (en : Hd → List Nat) (hen : ∀ x ∈ l, (en x).length ≤ 5000)
    (W : ∀ w1 u1 l1 x, x ∈ l → WT w0 w1 p u1 l1 → l1.length ≤ N → Calls Tryz.prog 101 #[.pointer (some ⟨p, 0, none⟩), .agg #[.int .i64 x.fr, .int .i64 x.to, .int .i64 x.tg, .int .i64 x.cl, .int .i64 x.dp]] w1 fun e w' => e = .returned (.tuple #[]) ∧ ∃ u', WT w0 w' p u' (l1 ++ en x) ∧ Sp (fun k => k = p) u1 w1 u' w') :
    Calls Tryz.prog 100 #[.pointer (some ⟨p, 0, none⟩), v, .func (.func 101) #[] #[]] w fun e w' => e = .returned (.tuple #[]) ∧ ∃ u', WT w0 w' p u' (l0 ++ enL en l) ∧ Sp (fun k => k = p) ub w u' w' := by
  obtain ⟨ad, cp, rfl, hcap, hmx, hit⟩ := hs
  unfold maxLen at hmx
  have HI : Hid (∀ (i : Nat) (x : Hd), l[i]? = some x → ∃ b off, ad = some ⟨b, off, none⟩ ∧ ∀ (j : Nat) (u : Value), (elHd.f x)[j]? = some u → w0.cell? ⟨b, off + i * 5 + j, none⟩ = some u) := hit
  have HW : Hid (∀ w1 u1 l1 x, x ∈ l → WT w0 w1 p u1 l1 → l1.length ≤ N → Calls Tryz.prog 101 #[.pointer (some ⟨p, 0, none⟩), .agg #[.int .i64 x.fr, .int .i64 x.to, .int .i64 x.tg, .int .i64 x.cl, .int .i64 x.dp]] w1 fun e w' => e = .returned (.tuple #[]) ∧ ∃ u', WT w0 w' p u' (l1 ++ en x) ∧ Sp (fun k => k = p) u1 w1 u' w') := W
  clear hit W
  have C := writeCount_any w0 w p ub l0 h (by omega) l.length (by omega)
  go_enter Tryz.func100, Tryz.ntmps100
  go_wp2_with fail
  refine wp_label_one 0 (WriteHdAt w0 w ub p (.slice ad l.length cp) l0 en l) (fun a' _ => l.length - (intOf (a'.tmps.getD 6 undef)).toNat) rfl ?_ ?_
  · intro K h0 hr hn'
    go_wp2_with fail
    refine C.mono ?_
    rintro e w1 ⟨rfl, u1, h1, s1⟩
    go_wp2_with fail
    go_step3
    rename_i hk
    exact hk _ _ (h0 _ _ ⟨0, _, _, _, _, _, _, _, _, _, _, _, _, _, _, _, _, _, _, _, _, _, rfl, rfl, by omega, u1, by simpa using h1, s1⟩)
  · rintro a' w' ⟨k, u3, u4, u5, u6, u7, u8, u9, u10, u11, u12, u13, u14, u15, u16, u17, u18, u19, u20, u21, u22, u23, rfl, rfl, hk, u1, hw, hs1⟩ K hj hr hn'
    by_cases hlt : k < l.length
    · have hlt' : (k : Int) < (l.length : Int) := by omega
      obtain ⟨x, hx⟩ : ∃ x, l[k]? = some x := ⟨_, List.getElem?_eq_getElem hlt⟩
      obtain ⟨b, off, rfl, hc⟩ := HI.out k x hx
      have c0 : w'.cell? ⟨b, off + k * 5, none⟩ = some (.int .i64 x.fr) := hw.fr.cell (hc 0 _ rfl) (fun f => f)
      have c1 : w'.cell? ⟨b, off + k * 5 + 1, none⟩ = some (.int .i64 x.to) := hw.fr.cell (hc 1 _ rfl) (fun f => f)
      have c2 : w'.cell? ⟨b, off + k * 5 + 2, none⟩ = some (.int .i64 x.tg) := hw.fr.cell (hc 2 _ rfl) (fun f => f)
      have c3 : w'.cell? ⟨b, off + k * 5 + 3, none⟩ = some (.int .i64 x.cl) := hw.fr.cell (hc 3 _ rfl) (fun f => f)
      have c4 : w'.cell? ⟨b, off + k * 5 + 4, none⟩ = some (.int .i64 x.dp) := hw.fr.cell (hc 4 _ rfl) (fun f => f)
      have hlen : (l0 ++ (enc l.length ++ (l.take k).flatMap en)).length ≤ N := by
        have a1 := enc_length l.length
        have a2 := flat_len en (l.take k) 5000 (fun y hy => hen y (List.mem_of_mem_take hy))
        have a3 : (l.take k).length * 5000 ≤ l.length * 5000 := Nat.mul_le_mul_right _ (by rw [List.length_take]; omega)
        simp only [List.length_append]
        omega
      have A := HW.out w' u1 _ x (List.mem_of_getElem? hx) hw hlen
      have HX : Hid (l[k]? = some x) := hx
      clear hx hc hw hlen
      go_wp2_with fail
      refine A.mono ?_
      rintro e w2 ⟨rfl, u2, h2, s2⟩
      go_wp2_with fail
      go_step3
      refine hj _ _ ⟨k + 1, _, _, _, _, _, _, _, _, _, _, _, _, _, _, _, _, _, _, _, _, _, rfl, by go_num, by omega, u2, ?_, hs1.trans s2⟩ ?_
      · rw [take_next l k x HX.out, List.flatMap_append]
        simpa using h2
      · simp [intOf]
        omega
    · have hkl : k = l.length := by omega
      subst hkl
      rw [List.take_length] at hw
      go_wp2_with fail
      refine hn' _ _ ?_
      go_end0
      exact ⟨rfl, u1, hw, hs1⟩

def WriteMsAt (w0 wb : World) (ub : Value) (p : Nat) (v : Value) (l0 : List Nat) (bs : List (List Nat)) (l : List Ms) (a : Act) (w : World) : Prop :=
  ∃ (k : Nat) (u3 u4 u5 u6 u7 u8 u9 u10 u11 u12 u13 u14 u15 u16 u17 u18 u19 u20 u21 u22 u23 : Value), a = { tmps := #[.pointer (some ⟨p, 0, none⟩), v, .func (.func 48) #[] #[], u3, u4, u5, u6, u7, u8, u9, u10, u11, u12, u13, u14, u15, u16, u17, u18, u19, u20, u21, u22, u23], defers := [] } ∧ u6 = .int .i64 (k : Int) ∧ k ≤ l.length ∧ ∃ u, WT w0 w p u (l0 ++ (enc l.length ++ (bs.take k).flatten)) ∧ Sp (fun k => k = p) ub wb u w

set_option maxRecDepth 100000 in
set_option maxHeartbeats 2000000 in
theorem writeMs_list (w0 w : World) (p : Nat) (ub : Value) (l0 : List Nat) (h : WT w0 w p ub l0) (v : Value) (l : List Ms) (hs : SlG elMs w0 v l) (N : Nat) (hN : N ≤ 100000000) (hll : l.length ≤ 1000) (hb : l0.length + 10 + l.length * 5000 ≤ N) (bs : List (List Nat)) (hbs : bs.length = l.length) (hen : ∀ b ∈ bs, b.length ≤ 5000)
    (W : ∀ (w1 : World) (u1 : Value) (l1 : List Nat) (k : Nat) (x : Ms) (y : List Nat), l[k]? = some x → bs[k]? = some y → WT w0 w1 p u1 l1 → l1.length ≤ N → Calls Tryz.prog 48 #[.pointer (some ⟨p, 0, none⟩), .agg #[.string x.name, .slice x.p.a x.p.n x.p.c, .int .i64 x.ret.k, .string x.ret.c, .int .i64 x.lo, .int .i64 x.st, .slice x.c.a x.c.n x.c.c, .slice x.h.a x.h.n x.h.c]] w1 fun e w' => e = .returned (.tuple #[]) ∧ ∃ u', WT w0 w' p u' (l1 ++ y) ∧ Sp (fun k => k = p) u1 w1 u' w') :
    Calls Tryz.prog 47 #[.pointer (some ⟨p, 0, none⟩), v, .func (.func 48) #[] #[]] w fun e w' => e = .returned (.tuple #[]) ∧ ∃ u', WT w0 w' p u' (l0 ++ (enc l.length ++ bs.flatten)) ∧ Sp (fun k => k = p) ub w u' w' := by
  obtain ⟨ad, cp, rfl, hcap, hmx, hit⟩ := hs
  unfold maxLen at hmx
  have HI : Hid (∀ (i : Nat) (x : Ms), l[i]? = some x → ∃ b off, ad = some ⟨b, off, none⟩ ∧ ∀ (j : Nat) (u : Value), (elMs.f x)[j]? = some u → w0.cell? ⟨b, off + i * 8 + j, none⟩ = some u) := hit
  have HW : Hid (∀ (w1 : World) (u1 : Value) (l1 : List Nat) (k : Nat) (x : Ms) (y : List Nat), l[k]? = some x → bs[k]? = some y → WT w0 w1 p u1 l1 → l1.length ≤ N → Calls Tryz.prog 48 #[.pointer (some ⟨p, 0, none⟩), .agg #[.string x.name, .slice x.p.a x.p.n x.p.c, .int .i64 x.ret.k, .string x.ret.c, .int .i64 x.lo, .int .i64 x.st, .slice x.c.a x.c.n x.c.c, .slice x.h.a x.h.n x.h.c]] w1 fun e w' => e = .returned (.tuple #[]) ∧ ∃ u', WT w0 w' p u' (l1 ++ y) ∧ Sp (fun k => k = p) u1 w1 u' w') := W
  clear hit W
  have C := writeCount_any w0 w p ub l0 h (by omega) l.length (by omega)
  go_enter Tryz.func47, Tryz.ntmps47
  go_wp2_with fail
  refine wp_label_one 0 (WriteMsAt w0 w ub p (.slice ad l.length cp) l0 bs l) (fun a' _ => l.length - (intOf (a'.tmps.getD 6 undef)).toNat) rfl ?_ ?_
  · intro K h0 hr hn'
    go_wp2_with fail
    refine C.mono ?_
    rintro e w1 ⟨rfl, u1, h1, s1⟩
    go_wp2_with fail
    go_step3
    rename_i hk
    exact hk _ _ (h0 _ _ ⟨0, _, _, _, _, _, _, _, _, _, _, _, _, _, _, _, _, _, _, _, _, _, rfl, rfl, by omega, u1, by simpa using h1, s1⟩)
  · rintro a' w' ⟨k, u3, u4, u5, u6, u7, u8, u9, u10, u11, u12, u13, u14, u15, u16, u17, u18, u19, u20, u21, u22, u23, rfl, rfl, hk, u1, hw, hs1⟩ K hj hr hn'
    by_cases hlt : k < l.length
    · have hlt' : (k : Int) < (l.length : Int) := by omega
      obtain ⟨x, hx⟩ : ∃ x, l[k]? = some x := ⟨_, List.getElem?_eq_getElem hlt⟩
      obtain ⟨b, off, rfl, hc⟩ := HI.out k x hx
      have c0 : w'.cell? ⟨b, off + k * 8, none⟩ = some (.string x.name) := hw.fr.cell (hc 0 _ rfl) (fun f => f)
      have c1 : w'.cell? ⟨b, off + k * 8 + 1, none⟩ = some (.slice x.p.a x.p.n x.p.c) := hw.fr.cell (hc 1 _ rfl) (fun f => f)
      have c2 : w'.cell? ⟨b, off + k * 8 + 2, none⟩ = some (.int .i64 x.ret.k) := hw.fr.cell (hc 2 _ rfl) (fun f => f)
      have c3 : w'.cell? ⟨b, off + k * 8 + 3, none⟩ = some (.string x.ret.c) := hw.fr.cell (hc 3 _ rfl) (fun f => f)
      have c4 : w'.cell? ⟨b, off + k * 8 + 4, none⟩ = some (.int .i64 x.lo) := hw.fr.cell (hc 4 _ rfl) (fun f => f)
      have c5 : w'.cell? ⟨b, off + k * 8 + 5, none⟩ = some (.int .i64 x.st) := hw.fr.cell (hc 5 _ rfl) (fun f => f)
      have c6 : w'.cell? ⟨b, off + k * 8 + 6, none⟩ = some (.slice x.c.a x.c.n x.c.c) := hw.fr.cell (hc 6 _ rfl) (fun f => f)
      have c7 : w'.cell? ⟨b, off + k * 8 + 7, none⟩ = some (.slice x.h.a x.h.n x.h.c) := hw.fr.cell (hc 7 _ rfl) (fun f => f)
      have hlen : (l0 ++ (enc l.length ++ (bs.take k).flatten)).length ≤ N := by
        have a1 := enc_length l.length
        have a2 := flat_len id (bs.take k) 5000 (fun y hy => hen y (List.mem_of_mem_take hy))
        rw [List.flatMap_id] at a2
        have a3 : (bs.take k).length * 5000 ≤ l.length * 5000 := Nat.mul_le_mul_right _ (by rw [List.length_take]; omega)
        simp only [List.length_append]
        omega
      obtain ⟨y, hy⟩ : ∃ y, bs[k]? = some y := ⟨_, List.getElem?_eq_getElem (by omega)⟩
      have A := HW.out w' u1 _ k x y hx hy hw hlen
      have HY : Hid (bs[k]? = some y) := hy
      clear hy
      have HX : Hid (l[k]? = some x) := hx
      clear hx hc hw hlen
      go_wp2_with fail
      refine A.mono ?_
      rintro e w2 ⟨rfl, u2, h2, s2⟩
      go_wp2_with fail
      go_step3
      refine hj _ _ ⟨k + 1, _, _, _, _, _, _, _, _, _, _, _, _, _, _, _, _, _, _, _, _, _, rfl, by go_num, by omega, u2, ?_, hs1.trans s2⟩ ?_
      · rw [take_next bs k y HY.out, List.flatten_append]
        simpa using h2
      · simp [intOf]
        omega
    · have hkl : k = l.length := by omega
      subst hkl
      rw [← hbs, List.take_length, hbs] at hw
      go_wp2_with fail
      refine hn' _ _ ?_
      go_end0
      exact ⟨rfl, u1, hw, hs1⟩
end Go.Proofs.YthncdbobjeeeaaaGreatDoor
