/- A type, a constant, a field, a handler on the wire. -/
import Derived.Test.YthncdbobjeeeaaaGreatDoorWlist
namespace Go.Proofs.YthncdbobjeeeaaaGreatDoor
open Go.ChangeShapes Go.WideShapes Go.ChangeAt Go.RowKit

theorem u8_small (n : Nat) (h : n < 256) : IntKind.u8.wrap (n : Int) = (n : Int) := by simp [IntKind.wrap, IntKind.signed, IntKind.bits]; omega

set_option maxRecDepth 100000 in
theorem writeType_any (w0 w : World) (p : Nat) (u : Value) (l : List Nat) (h : WT w0 w p u l) (hb : l.length ≤ 100000000) (t : Ty) (ht : VTy t) :
    Calls Tryz.prog 97 #[.pointer (some ⟨p, 0, none⟩), .agg #[.int .i64 t.k, .string t.c]] w fun e w' => e = .returned (.tuple #[]) ∧ ∃ u', WT w0 w' p u' (l ++ enTy t) ∧ Sp (fun k => k = p) u w u' w' := by
  obtain ⟨k, c⟩ := t
  obtain ⟨h1, h2, h3, h4⟩ := ht
  simp only [] at h1 h2 h3 h4
  obtain ⟨n, rfl⟩ : ∃ n : Nat, k = (n : Int) := ⟨k.toNat, by omega⟩
  have hw8 := u8_small n (by omega)
  have hk := h.kept ((Fr.refl no w).alloc #[.int .i64 (n : Int), .string c] 46)
  have hbx := heap_alloc_new w (.cells #[.int .i64 (n : Int), .string c] 46)
  have B := wt_byte w0 _ p u l hk (by omega) n
  have HBX : Hid (∀ w1 u1, Sp (fun k => k = p) u (w.alloc (.cells #[.int .i64 (n : Int), .string c] 46)) u1 w1 → w1.cell? ⟨w.heap.size, 0, none⟩ = some (.int .i64 (n : Int)) ∧ w1.cell? ⟨w.heap.size, 1, none⟩ = some (.string c)) :=
    fun w1 u1 s1 => box2 (Sp.box h s1 hbx rfl)
  clear hk hbx h
  by_cases h44 : n = 4
  · have HE : Hid (enTy ⟨(n : Int), c⟩ = [n] ++ enTx c) := by show _ = _; unfold enTy; simp only []; rw [if_pos (by omega)]; simp
    have hq : ((n : Int) == 4) = true := by simp; omega
    clear h44 h4
    go_enter Tryz.func97, Tryz.ntmps97
    go_wp2_with fail
    refine B.mono ?_
    rintro e w1 ⟨rfl, u1, g1, s1⟩
    obtain ⟨c0, c1⟩ := HBX.out w1 u1 s1
    have X := wt_text w0 w1 p u1 _ g1 c (by simp; omega)
    go_wp2_with fail
    refine X.mono ?_
    rintro e w2 ⟨rfl, u2, g2, s2⟩
    go_wp2_with fail
    go_end0
    rw [HE.out, ← List.append_assoc]
    exact ⟨rfl, u2, g2, (s1.trans s2).alloc⟩
  · have HE : Hid (enTy ⟨(n : Int), c⟩ = [n]) := by show _ = _; unfold enTy; simp only []; rw [if_neg (by omega)]; simp
    have hq : ((n : Int) == 4) = false := by simp; omega
    clear h44 h4
    go_enter Tryz.func97, Tryz.ntmps97
    go_wp2_with fail
    refine B.mono ?_
    rintro e w1 ⟨rfl, u1, g1, s1⟩
    obtain ⟨c0, c1⟩ := HBX.out w1 u1 s1
    go_wp2_with fail
    go_end0
    rw [HE.out]
    exact ⟨rfl, u1, g1, s1.alloc⟩

theorem box4 {w : World} {q : Nat} {a0 a1 a2 a3 : Value} {t : TypeId} (h : w.heap[q]? = some (.cells #[a0, a1, a2, a3] t (0, 0))) :
    w.cell? ⟨q, 0, none⟩ = some a0 ∧ w.cell? ⟨q, 1, none⟩ = some a1 ∧ w.cell? ⟨q, 2, none⟩ = some a2 ∧ w.cell? ⟨q, 3, none⟩ = some a3 := by
  refine ⟨?_, ?_, ?_, ?_⟩ <;> simp [World.cell?, h]

set_option maxRecDepth 100000 in
theorem writeField_any (w0 w : World) (p : Nat) (u : Value) (l : List Nat) (h : WT w0 w p u l) (hb : l.length ≤ 90000000) (x : Fd) (hx : VFd x) :
    Calls Tryz.prog 46 #[.pointer (some ⟨p, 0, none⟩), .agg #[.string x.name, .int .i64 x.ty.k, .string x.ty.c, .bool x.vol]] w fun e w' => e = .returned (.tuple #[]) ∧ ∃ u', WT w0 w' p u' (l ++ enFd x) ∧ Sp (fun k => k = p) u w u' w' := by
  have hn := hx.name
  have hl1 := enTx_len _ hn
  have hl2 := enTy_len _ hx.ty
  have hk := h.kept ((Fr.refl no w).alloc #[.string x.name, .int .i64 x.ty.k, .string x.ty.c, .bool x.vol] 48)
  have hbx := heap_alloc_new w (.cells #[.string x.name, .int .i64 x.ty.k, .string x.ty.c, .bool x.vol] 48)
  have B := wt_text w0 _ p u l hk x.name (by omega)
  have HBX : Hid (∀ w1 u1, Sp (fun k => k = p) u (w.alloc (.cells #[.string x.name, .int .i64 x.ty.k, .string x.ty.c, .bool x.vol] 48)) u1 w1 → _) :=
    fun w1 u1 s1 => box4 (Sp.box h s1 hbx rfl)
  have HT : Hid (VTy x.ty) := hx.ty
  have HE : Hid (enFd x = enTx x.name ++ (enTy x.ty ++ [if x.vol = true then 1 else 0])) := rfl
  clear hk hbx h hx
  cases hv : x.vol with
  | true =>
    rw [hv, if_pos rfl] at HE
    rw [hv] at B HBX
    clear hv
    go_enter Tryz.func46, Tryz.ntmps46
    go_wp2_with fail
    refine B.mono ?_
    rintro e w1 ⟨rfl, u1, g1, s1⟩
    obtain ⟨c0, c1, c2, c3⟩ := HBX.out w1 u1 s1
    have X := writeType_any w0 w1 p u1 _ g1 (by simp; omega) x.ty HT.out
    go_wp2_with fail
    refine X.mono ?_
    rintro e w2 ⟨rfl, u2, g2, s2⟩
    have s2' := s1.trans s2
    clear c0 c1 c2 c3 X s2 s1
    obtain ⟨c0, c1, c2, c3⟩ := HBX.out w2 u2 s2'
    have Y := wt_byte w0 w2 p u2 _ g2 (by simp; omega) 1
    go_wp2_with fail
    refine Y.mono ?_
    rintro e w3 ⟨rfl, u3, g3, s3⟩
    go_wp2_with fail
    go_end0
    rw [HE.out]
    exact ⟨rfl, u3, by simpa using g3, (s2'.trans s3).alloc⟩
  | false =>
    rw [hv, if_neg (by simp)] at HE
    rw [hv] at B HBX
    clear hv
    go_enter Tryz.func46, Tryz.ntmps46
    go_wp2_with fail
    refine B.mono ?_
    rintro e w1 ⟨rfl, u1, g1, s1⟩
    obtain ⟨c0, c1, c2, c3⟩ := HBX.out w1 u1 s1
    have X := writeType_any w0 w1 p u1 _ g1 (by simp; omega) x.ty HT.out
    go_wp2_with fail
    refine X.mono ?_
    rintro e w2 ⟨rfl, u2, g2, s2⟩
    have s2' := s1.trans s2
    clear c0 c1 c2 c3 X s2 s1
    obtain ⟨c0, c1, c2, c3⟩ := HBX.out w2 u2 s2'
    have Y := wt_byte w0 w2 p u2 _ g2 (by simp; omega) 0
    go_wp2_with fail
    refine Y.mono ?_
    rintro e w3 ⟨rfl, u3, g3, s3⟩
    go_wp2_with fail
    go_end0
    rw [HE.out]
    exact ⟨rfl, u3, by simpa using g3, (s2'.trans s3).alloc⟩

set_option maxRecDepth 100000 in
theorem writeHandler_any (w0 w : World) (p : Nat) (u : Value) (l : List Nat) (h : WT w0 w p u l) (hb : l.length ≤ 90000000) (x : Hd) (hx : VHd x) :
    Calls Tryz.prog 101 #[.pointer (some ⟨p, 0, none⟩), .agg #[.int .i64 x.fr, .int .i64 x.to, .int .i64 x.tg, .int .i64 x.cl, .int .i64 x.dp]] w fun e w' => e = .returned (.tuple #[]) ∧ ∃ u', WT w0 w' p u' (l ++ enHd x) ∧ Sp (fun k => k = p) u w u' w' := by
  obtain ⟨fr, to, tg, cl, dp⟩ := x
  obtain ⟨h1, h2, h3, h4, h5⟩ := hx
  simp only [] at h1 h2 h3 h4 h5
  obtain ⟨a, rfl⟩ : ∃ n : Nat, fr = (n : Int) := ⟨fr.toNat, by omega⟩
  obtain ⟨b, rfl⟩ : ∃ n : Nat, to = (n : Int) := ⟨to.toNat, by omega⟩
  obtain ⟨c, rfl⟩ : ∃ n : Nat, tg = (n : Int) := ⟨tg.toNat, by omega⟩
  obtain ⟨d, hd⟩ : ∃ n : Nat, cl + 1 = (n : Int) := ⟨(cl + 1).toNat, by omega⟩
  obtain ⟨f, rfl⟩ : ∃ n : Nat, dp = (n : Int) := ⟨dp.toNat, by omega⟩
  have hk := h.kept ((Fr.refl no w).alloc #[.int .i64 (a : Int), .int .i64 (b : Int), .int .i64 (c : Int), .int .i64 cl, .int .i64 (f : Int)] 59)
  have hbx := heap_alloc_new w (.cells #[.int .i64 (a : Int), .int .i64 (b : Int), .int .i64 (c : Int), .int .i64 cl, .int .i64 (f : Int)] 59)
  have B := writeCount_any w0 _ p u l hk (by omega) a (by omega)
  have HBX : Hid (∀ w1 u1, Sp (fun k => k = p) u (w.alloc (.cells #[.int .i64 (a : Int), .int .i64 (b : Int), .int .i64 (c : Int), .int .i64 cl, .int .i64 (f : Int)] 59)) u1 w1 → _) :=
    fun w1 u1 s1 => box5 (Sp.box h s1 hbx rfl)
  have HE : Hid (enHd ⟨(a : Int), (b : Int), (c : Int), cl, (f : Int)⟩ = enc a ++ (enc b ++ (enc c ++ (enc d ++ enc f)))) := by
    show _ = _
    unfold enHd
    simp only [hd]
    rfl
  have l1 := enc_length a
  have l2 := enc_length b
  have l3 := enc_length c
  have l4 := enc_length d
  have hd' : IntKind.i64.wrap (cl - -1) = (d : Int) := by simp [IntKind.wrap, IntKind.signed, IntKind.bits]; omega
  have hd2 : cl - -1 = (d : Int) := by omega
  have hd3 : cl + 1 = (d : Int) := hd
  clear hk hbx h hd
  go_enter Tryz.func101, Tryz.ntmps101
  go_wp2_with fail
  refine B.mono ?_
  rintro e w1 ⟨rfl, u1, g1, s1⟩
  obtain ⟨c0, c1, c2, c3, c4⟩ := HBX.out w1 u1 s1
  have X := writeCount_any w0 w1 p u1 _ g1 (by simp; omega) b (by omega)
  go_wp2_with fail
  refine X.mono ?_
  rintro e w2 ⟨rfl, u2, g2, s2⟩
  have s2' := s1.trans s2
  clear c0 c1 c2 c3 c4 X s2 s1 g1
  obtain ⟨c0, c1, c2, c3, c4⟩ := HBX.out w2 u2 s2'
  have X := writeCount_any w0 w2 p u2 _ g2 (by simp; omega) c (by omega)
  go_wp2_with fail
  refine X.mono ?_
  rintro e w3 ⟨rfl, u3, g3, s3⟩
  have s3' := s2'.trans s3
  clear c0 c1 c2 c3 c4 X s3 s2' g2
  obtain ⟨c0, c1, c2, c3, c4⟩ := HBX.out w3 u3 s3'
  have X := writeCount_any w0 w3 p u3 _ g3 (by simp; omega) d (by omega)
  go_wp2_with fail
  refine X.mono ?_
  rintro e w4 ⟨rfl, u4, g4, s4⟩
  have s4' := s3'.trans s4
  clear c0 c1 c2 c3 c4 X s4 s3' g3
  obtain ⟨c0, c1, c2, c3, c4⟩ := HBX.out w4 u4 s4'
  have X := writeCount_any w0 w4 p u4 _ g4 (by simp; omega) f (by omega)
  go_wp2_with fail
  refine X.mono ?_
  rintro e w5 ⟨rfl, u5, g5, s5⟩
  go_wp2_with fail
  go_end0
  rw [HE.out]
  exact ⟨rfl, u5, by simpa using g5, (s4'.trans s5).alloc⟩

/-- A constant's numbers are such as a machine has. -/
structure FitCs (x : Cs) : Prop where
  lo : -9223372036854775808 ≤ x.n
  hi : x.n ≤ 9223372036854775807
  re : x.re < 2 ^ 64
  im : x.im < 2 ^ 64

set_option maxRecDepth 100000 in
set_option maxHeartbeats 1000000 in
theorem writeConst_any (w0 w : World) (p : Nat) (u : Value) (l : List Nat) (h : WT w0 w p u l) (hb : l.length ≤ 90000000) (x : Cs) (hx : VCs x) (hf : FitCs x) :
    Calls Tryz.prog 44 #[.pointer (some ⟨p, 0, none⟩), .agg #[.int .i64 x.k, .int .i64 x.n, .complex .f64 x.re x.im, .string x.c, .string x.m]] w fun e w' => e = .returned (.tuple #[]) ∧ ∃ u', WT w0 w' p u' (l ++ enCs x) ∧ Sp (fun k => k = p) u w u' w' := by
  obtain ⟨k, x, re, im, c, m⟩ := x
  have h1 := hx.lo
  have h2 := hx.hi
  have h3 := hx.sc
  have h4 := hx.sm
  clear hx
  obtain ⟨f1, f2, f3, f4⟩ := hf
  simp only [] at h1 h2 h3 h4 f1 f2 f3 f4
  obtain ⟨n, rfl⟩ : ∃ n : Nat, k = (n : Int) := ⟨k.toNat, by omega⟩
  have hw8 := u8_small n (by omega)
  have hk := h.kept ((Fr.refl no w).alloc #[.int .i64 (n : Int), .int .i64 x, .complex .f64 re im, .string c, .string m] 39)
  have hbx := heap_alloc_new w (.cells #[.int .i64 (n : Int), .int .i64 x, .complex .f64 re im, .string c, .string m] 39)
  have B := wt_byte w0 _ p u l hk (by omega) n
  have HBX : Hid (∀ w1 u1, Sp (fun k => k = p) u (w.alloc (.cells #[.int .i64 (n : Int), .int .i64 x, .complex .f64 re im, .string c, .string m] 39)) u1 w1 → _) := fun w1 u1 s1 => box5 (Sp.box h s1 hbx rfl)
  have O := fun w1 => ownParts_any w1 (n : Int)
  have HE0 : Hid (enCs ⟨(n : Int), x, re, im, c, m⟩ = n :: (if (n : Int) = 1 then enc (fo x) else if (n : Int) = 2 then le re 8 ++ le im 8 else if (n : Int) = 3 then enTx c else if (n : Int) = 4 ∨ (n : Int) = 5 then enTx c ++ enTx m else [])) := by
    show _ = _
    unfold enCs
    simp
  clear hk hbx h
  by_cases hk : (n : Int) = 1
  · have hO : own (n : Int) = 1 := by unfold own; rw [if_pos hk]
    rw [hO] at O
    have HE : Hid (enCs ⟨(n : Int), x, re, im, c, m⟩ = [n] ++ enc (fo x)) := by show _ = _; rw [HE0.out]; rw [if_pos hk]; simp
    clear HE0 hO hk
    go_enter Tryz.func44, Tryz.ntmps44
    go_wp2_with fail
    refine B.mono ?_
    rintro e w1 ⟨rfl, u1, g1, s1⟩
    obtain ⟨c0, c1, c2, c3, c4⟩ := HBX.out w1 u1 s1
    go_wp2_with fail
    refine (O w1).mono ?_
    rintro e w1 ⟨rfl, rfl⟩
    go_wp2_with fail
    refine (wt_int w0 w1 p u1 _ g1 (by simp; omega) x f1 f2).mono ?_
    rintro e w2 ⟨rfl, u2, g2, s2⟩
    have s2' := s1.trans s2
    clear c0 c1 c2 c3 c4
    obtain ⟨c0, c1, c2, c3, c4⟩ := HBX.out w2 u2 s2'
    go_wp2_with fail
    go_end0
    rw [HE.out]
    exact ⟨rfl, u2, by simpa using g2, s2'.alloc⟩
  have k1 := hk
  clear hk
  by_cases hk : (n : Int) = 2
  · have hO : own (n : Int) = 2 := by unfold own; rw [if_neg k1, if_pos hk]
    rw [hO] at O
    have HE : Hid (enCs ⟨(n : Int), x, re, im, c, m⟩ = [n] ++ (le re 8 ++ le im 8)) := by show _ = _; rw [HE0.out]; rw [if_neg k1, if_pos hk]; simp
    clear HE0 hO hk
    go_enter Tryz.func44, Tryz.ntmps44
    go_wp2_with fail
    refine B.mono ?_
    rintro e w1 ⟨rfl, u1, g1, s1⟩
    obtain ⟨c0, c1, c2, c3, c4⟩ := HBX.out w1 u1 s1
    go_wp2_with fail
    refine (O w1).mono ?_
    rintro e w1 ⟨rfl, rfl⟩
    go_wp2_with fail
    refine (wt_cplx w0 w1 p u1 _ g1 (by simp; omega) re im f3 f4).mono ?_
    rintro e w2 ⟨rfl, u2, g2, s2⟩
    have s2' := s1.trans s2
    clear c0 c1 c2 c3 c4
    obtain ⟨c0, c1, c2, c3, c4⟩ := HBX.out w2 u2 s2'
    go_wp2_with fail
    go_end0
    rw [HE.out]
    exact ⟨rfl, u2, by simpa using g2, s2'.alloc⟩
  have k2 := hk
  clear hk
  by_cases hk : (n : Int) = 3
  · have hO : own (n : Int) = 4 := by unfold own; rw [if_neg k1, if_neg k2, if_pos hk]
    rw [hO] at O
    have HE : Hid (enCs ⟨(n : Int), x, re, im, c, m⟩ = [n] ++ enTx c) := by show _ = _; rw [HE0.out]; rw [if_neg k1, if_neg k2, if_pos hk]; simp
    clear HE0 hO hk
    go_enter Tryz.func44, Tryz.ntmps44
    go_wp2_with fail
    refine B.mono ?_
    rintro e w1 ⟨rfl, u1, g1, s1⟩
    obtain ⟨c0, c1, c2, c3, c4⟩ := HBX.out w1 u1 s1
    go_wp2_with fail
    refine (O w1).mono ?_
    rintro e w1 ⟨rfl, rfl⟩
    go_wp2_with fail
    refine (wt_text w0 w1 p u1 _ g1 c (by simp; omega)).mono ?_
    rintro e w2 ⟨rfl, u2, g2, s2⟩
    have s2' := s1.trans s2
    clear c0 c1 c2 c3 c4
    obtain ⟨c0, c1, c2, c3, c4⟩ := HBX.out w2 u2 s2'
    go_wp2_with fail
    go_end0
    rw [HE.out]
    exact ⟨rfl, u2, by simpa using g2, s2'.alloc⟩
  have k3 := hk
  clear hk
  have hk : (n : Int) = 4 ∨ (n : Int) = 5 := by omega
  have hO : own (n : Int) = 12 := by unfold own; rw [if_neg k1, if_neg k2, if_neg k3, if_pos hk]
  rw [hO] at O
  have HE : Hid (enCs ⟨(n : Int), x, re, im, c, m⟩ = [n] ++ (enTx c ++ enTx m)) := by show _ = _; rw [HE0.out]; rw [if_neg k1, if_neg k2, if_neg k3, if_pos hk]; simp
  clear HE0 hO hk k1 k2 k3
  go_enter Tryz.func44, Tryz.ntmps44
  go_wp2_with fail
  refine B.mono ?_
  rintro e w1 ⟨rfl, u1, g1, s1⟩
  obtain ⟨c0, c1, c2, c3, c4⟩ := HBX.out w1 u1 s1
  go_wp2_with fail
  refine (O w1).mono ?_
  rintro e w1 ⟨rfl, rfl⟩
  go_wp2_with fail
  refine (wt_text w0 w1 p u1 _ g1 c (by simp; omega)).mono ?_
  rintro e w2 ⟨rfl, u2, g2, s2⟩
  have s2' := s1.trans s2
  clear c0 c1 c2 c3 c4
  obtain ⟨c0, c1, c2, c3, c4⟩ := HBX.out w2 u2 s2'
  go_wp2_with fail
  refine (wt_text w0 w2 p u2 _ g2 m (by have := enTx_len c h3; simp; omega)).mono ?_
  rintro e w3 ⟨rfl, u3, g3, s3⟩
  go_wp2_with fail
  go_end0
  rw [HE.out]
  exact ⟨rfl, u3, by simpa using g3, (s2'.trans s3).alloc⟩
end Go.Proofs.YthncdbobjeeeaaaGreatDoor
