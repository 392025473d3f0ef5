/- A method on the wire; a class's bytes. -/
import Derived.Test.YthncdbobjeeeaaaGreatDoorWone
namespace Go.Proofs.YthncdbobjeeeaaaGreatDoor
open Go.ChangeShapes Go.WideShapes Go.ChangeAt Go.RowKit

theorem Sp.beside {w w' : World} {p : Nat} {u : Value} (hf : Fr no w w') : Sp (fun k => k = p) u w u w' := ⟨hf.mono (fun _ _ f => f.elim), fun _ _ e => e⟩

theorem ptE_ok (l : List (Int × Int)) (h1 : l.length ≤ 200) (h2 : allIs l = true) : ptE l = 0 := by unfold ptE; rw [if_neg (by omega), if_pos h2]

set_option maxRecDepth 100000 in
set_option maxHeartbeats 2000000 in
theorem writeMethod_any (w0 w : World) (T : Tb w0) (p : Nat) (u : Value) (l : List Nat) (h : WT w0 w p u l) (hb : l.length ≤ 10000000) (s : Ms) (m : Mt) (hm : MtAt w0 s m) (hv : VMt m) :
    Calls Tryz.prog 48 #[.pointer (some ⟨p, 0, none⟩), .agg #[.string s.name, .slice s.p.a s.p.n s.p.c, .int .i64 s.ret.k, .string s.ret.c, .int .i64 s.lo, .int .i64 s.st, .slice s.c.a s.c.n s.c.c, .slice s.h.a s.h.n s.h.c]] w fun e w' => e = .returned (.tuple #[]) ∧ ∃ u', WT w0 w' p u' (l ++ enMt m) ∧ Sp (fun k => k = p) u w u' w' := by
  have hpp := hm.p
  have hcc := hm.c
  have hhh := hm.h
  obtain ⟨pa, pc, ca, cc, ha, hc, rfl, _⟩ := hm.open
  clear hm
  have hlo := hv.lo
  have hst := hv.st
  obtain ⟨name, params, ret, mlo, mst, code, hands⟩ := m
  simp only [] at hpp hcc hhh hlo hst
  obtain ⟨lo, rfl⟩ : ∃ n : Nat, mlo = (n : Int) := ⟨mlo.toNat, by omega⟩
  obtain ⟨st, rfl⟩ : ∃ n : Nat, mst = (n : Int) := ⟨mst.toNat, by omega⟩
  simp only []
  have hk := h.kept ((Fr.refl no w).alloc #[.string name, .slice pa params.length pc, .int .i64 ret.k, .string ret.c, .int .i64 (lo : Int), .int .i64 (st : Int), .slice ca code.length cc, .slice ha hands.length hc] 53)
  have hbx := heap_alloc_new w (.cells #[.string name, .slice pa params.length pc, .int .i64 ret.k, .string ret.c, .int .i64 (lo : Int), .int .i64 (st : Int), .slice ca code.length cc, .slice ha hands.length hc] 53)
  have HBX : Hid (∀ w1 u1, Sp (fun k => k = p) u (w.alloc (.cells #[.string name, .slice pa params.length pc, .int .i64 ret.k, .string ret.c, .int .i64 (lo : Int), .int .i64 (st : Int), .slice ca code.length cc, .slice ha hands.length hc] 53)) u1 w1 → _) := fun w1 u1 s1 => box8 (Sp.box h s1 hbx rfl)
  have a1 : (enTx name).length ≤ 30 := enTx_len _ hv.name
  have a2 := enL_len enTy params 31 (fun t ht => enTy_len t (hv.params t ht))
  have a3 : (enTy ret).length ≤ 31 := enTy_len _ hv.ret
  have b1 : params.length ≤ 6 := hv.pl
  have c1 : params.length * 31 ≤ 6 * 31 := Nat.mul_le_mul_right _ b1
  have hn : name.size ≤ 20 := hv.name
  have B := wt_text w0 _ p u l hk name (by omega)
  have LP : Hid (∀ w1 u1 l1, WT w0 w1 p u1 l1 → l1.length ≤ 20000000 → Calls Tryz.prog 98 #[.pointer (some ⟨p, 0, none⟩), .slice pa params.length pc, .func (.func 97) #[] #[]] w1 fun e w' => e = .returned (.tuple #[]) ∧ ∃ u', WT w0 w' p u' (l1 ++ enL enTy params) ∧ Sp (fun k => k = p) u1 w1 u' w') :=
    fun w1 u1 l1 g1 hl1 => writeTy_list w0 w1 p u1 l1 g1 _ params hpp 90000000 (by omega) (by omega) (by omega) enTy (fun t ht => by have := enTy_len t (hv.params t ht); omega) (fun w2 u2 l2 x hx g2 hl2 => writeType_any w0 w2 p u2 l2 g2 (by omega) x (hv.params x hx))
  have LH : Hid (∀ w1 u1 l1, WT w0 w1 p u1 l1 → l1.length ≤ 20000000 → Calls Tryz.prog 100 #[.pointer (some ⟨p, 0, none⟩), .slice ha hands.length hc, .func (.func 101) #[] #[]] w1 fun e w' => e = .returned (.tuple #[]) ∧ ∃ u', WT w0 w' p u' (l1 ++ enL enHd hands) ∧ Sp (fun k => k = p) u1 w1 u' w') :=
    fun w1 u1 l1 g1 hl1 => writeHd_list w0 w1 p u1 l1 g1 _ hands hhh 90000000 (by omega) (by have := hv.hl; simp only [] at this; omega) (by have := hv.hl; simp only [] at this; omega) enHd (fun t ht => by have := enHd_len t; omega) (fun w2 u2 l2 x hx g2 hl2 => writeHandler_any w0 w2 p u2 l2 g2 (by omega) x (hv.hands x hx))
  have PU : Hid (∀ w1, Fr no w0 w1 → Calls Tryz.prog 99 #[.slice ca code.length cc] w1 fun e w' => ∃ v', e = .returned (.tuple #[v', .int .i64 0]) ∧ Own w' v' (ptB code) ∧ Fr no w1 w') := by
    intro w1 f1
    have := put_any w1 (T.kept f1) _ code (hcc.kept f1)
    rwa [ptE_ok _ hv.cl hv.code] at this
  have HR : Hid (VTy ret) := hv.ret
  have a4 := enc_length lo
  have a5 := enc_length st
  have a6 := ptB_len code hv.cl
  have a7 := enc_length (ptB code).length
  have HE : Hid (enMt ⟨name, params, ret, (lo : Int), (st : Int), code, hands⟩ = enTx name ++ (enL enTy params ++ (enTy ret ++ (enc lo ++ (enc st ++ (enTx (bstr (ptB code)) ++ enL enHd hands)))))) := by
    show _ = _
    have e1 : enTx (bstr (ptB code)) = enc (ptB code).length ++ ptB code := by
      unfold enTx
      rw [bstr_size, nl_bstr]
      have : ptB code = enc code.length ++ wri code := by unfold ptB; rw [if_pos ⟨hv.cl, hv.code⟩]
      rw [this]
      exact put_byte code hv.code
    rw [e1]
    rfl
  have hbs : (bstr (ptB code)).size ≤ 2210 := by rw [bstr_size]; exact a6
  have a8 : (enTx (bstr (ptB code))).length ≤ 2220 := by
    unfold enTx
    have := enc_length (bstr (ptB code)).size
    rw [List.length_append, nl_length]
    omega
  have hret : Hid (VTy ret) := hv.ret
  clear hk hbx h hv hpp hcc hhh a7 HR
  go_enter Tryz.func48, Tryz.ntmps48
  go_wp2_with fail
  refine B.mono ?_
  rintro e w1 ⟨rfl, u1, g1, s1⟩
  obtain ⟨c0, c1, c2, c3, c4, c5, c6, c7⟩ := HBX.out w1 u1 s1
  go_wp2_with fail
  refine (LP.out w1 u1 _ g1 (by simp only [List.length_append]; omega)).mono ?_
  rintro e w2 ⟨rfl, u2, g2, t2⟩
  have s2 := s1.trans t2
  clear c0 c1 c2 c3 c4 c5 c6 c7 t2 s1 g1
  obtain ⟨c0, c1, c2, c3, c4, c5, c6, c7⟩ := HBX.out w2 u2 s2
  go_wp2_with fail
  refine (writeType_any w0 w2 p u2 _ g2 (by simp only [List.length_append]; omega) ret hret.out).mono ?_
  rintro e w3 ⟨rfl, u3, g3, t3⟩
  have s3 := s2.trans t3
  clear c0 c1 c2 c3 c4 c5 c6 c7 t3 s2 g2
  obtain ⟨c0, c1, c2, c3, c4, c5, c6, c7⟩ := HBX.out w3 u3 s3
  go_wp2_with fail
  refine (writeCount_any w0 w3 p u3 _ g3 (by simp only [List.length_append]; omega) lo (by omega)).mono ?_
  rintro e w4 ⟨rfl, u4, g4, t4⟩
  have s4 := s3.trans t4
  clear c0 c1 c2 c3 c4 c5 c6 c7 t4 s3 g3
  obtain ⟨c0, c1, c2, c3, c4, c5, c6, c7⟩ := HBX.out w4 u4 s4
  go_wp2_with fail
  refine (writeCount_any w0 w4 p u4 _ g4 (by simp only [List.length_append]; omega) st (by omega)).mono ?_
  rintro e w5 ⟨rfl, u5, g5, t5⟩
  have s5 := s4.trans t5
  clear c0 c1 c2 c3 c4 c5 c6 c7 t5 s4 g4
  obtain ⟨c0, c1, c2, c3, c4, c5, c6, c7⟩ := HBX.out w5 u5 s5
  go_wp2_with fail
  refine (PU.out w5 g5.fr).mono ?_
  rintro e w6 ⟨v6, rfl, o6, f6⟩
  have g6 := g5.kept f6
  have s6 := s5.trans (Sp.beside (p := p) (u := u5) f6)
  clear c0 c1 c2 c3 c4 c5 c6 c7 s5 g5
  obtain ⟨c0, c1, c2, c3, c4, c5, c6, c7⟩ := HBX.out w6 u5 s6
  have hcv := conv_own w6 v6 _ o6
  go_wp2_with fail
  refine (wt_text w0 w6 p u5 _ g6 (bstr (ptB code)) (by simp only [List.length_append]; omega)).mono ?_
  rintro e w7 ⟨rfl, u7, g7, t7⟩
  have s7 := s6.trans t7
  clear c0 c1 c2 c3 c4 c5 c6 c7 t7 s6 g6 hcv o6
  obtain ⟨c0, c1, c2, c3, c4, c5, c6, c7⟩ := HBX.out w7 u7 s7
  go_wp2_with fail
  refine (LH.out w7 u7 _ g7 (by simp only [List.length_append]; omega)).mono ?_
  rintro e w8 ⟨rfl, u8, g8, t8⟩
  go_wp2_with fail
  go_end0
  rw [HE.out]
  exact ⟨rfl, u8, by simpa using g8, (s7.trans t8).alloc⟩

/-- What Encode writes. -/
def ecB (c : Cl) : List Nat := if chk c = 0 ∧ (enCl c).length ≤ 20000 then enCl c else []
/-- The error that it tells. -/
def ecE (c : Cl) : Nat := if chk c = 0 then (if 20000 < (enCl c).length then 32 else 0) else chk c

/-- A class whose texts and numbers a machine can hold. -/
structure FitK (c : Cl) : Prop where
  f : FitC c
  pool : ∀ x ∈ c.pool, FitCs x

def mk4 (j : Nat) : List Nat := [76, 79, 79, 77].take j

set_option maxRecDepth 100000 in
set_option maxHeartbeats 4000000 in
theorem encode_any (w : World) (T : Tb w) (R : Tr w) (s : Ks) (c : Cl) (hc : ClAt w s c) (hf : FitK c) : Calls Tryz.prog 13 #[ksV s] w fun e w' => ∃ v', e = .returned (.tuple #[v', .int .i64 (ecE c : Int)]) ∧ Own w' v' (ecB c) ∧ Fr no w w' := by
  have hc0 := hc
  obtain ⟨sn, ss, sp, sf, sm⟩ := s
  obtain ⟨e1, e2, hp, hfi, ls, hm, hma⟩ := hc
  simp only [] at e1 e2 hp hfi hm
  subst e1 e2
  have HF : Hid (Fr no w (w.alloc (.cells #[.string c.name, .string c.super, .slice sp.a sp.n sp.c, .slice sf.a sf.n sf.c, .slice sm.a sm.n sm.c] 28))) := (Fr.refl no w).alloc _ _
  have hb0 : BoxK (w.alloc (.cells #[.string c.name, .string c.super, .slice sp.a sp.n sp.c, .slice sf.a sf.n sf.c, .slice sm.a sm.n sm.c] 28)) w.heap.size ⟨c.name, c.super, sp, sf, sm⟩ := heap_alloc_new w _
  generalize hW : w.alloc (.cells #[.string c.name, .string c.super, .slice sp.a sp.n sp.c, .slice sf.a sf.n sf.c, .slice sm.a sm.n sm.c] 28) = W at *
  have HB : Hid (∀ w1, Fr no W w1 → _) := fun w1 f1 => box5 (hb0.kept f1)
  have C := check_any W (T.kept HF.out) (R.kept HF.out) ⟨c.name, c.super, sp, sf, sm⟩ c (hc0.kept HF.out) hf.f
  obtain ⟨b0, b1, b2, b3, b4⟩ := HB.out W (Fr.refl no _)
  unfold ksV at *
  simp only [] at C ⊢
  clear hb0 hc0
  by_cases hK : chk c = 0
  · rw [hK] at C
    have hv := vcl c hK
    have l1 := enTx_len _ hv.name
    have l2 := enTx_len _ hv.super
    have l3 := enL_len enCs c.pool 61 (fun x hx => enCs_len x (hv.pool x hx))
    have l4 := enL_len enFd c.fields 62 (fun x hx => enFd_len x (hv.fields x hx))
    have l5 := enL_len enMt c.methods 3400 (fun x hx => enMt_len x (hv.methods x hx))
    have k1 := hv.pl
    have k2 := hv.fl
    have k3 := hv.ml
    have c1 : c.pool.length * 61 ≤ 128 * 61 := Nat.mul_le_mul_right _ k1
    have c2 : c.fields.length * 62 ≤ 8 * 62 := Nat.mul_le_mul_right _ k2
    have c3 : c.methods.length * 3400 ≤ 12 * 3400 := Nat.mul_le_mul_right _ k3
    have hn1 := hv.name
    have hn2 := hv.super
    have hmL : ls.length = c.methods.length := hma.1
    have LC : Hid (∀ w0 w1 p u1 l1, Fr no w w0 → WT w0 w1 p u1 l1 → l1.length ≤ 100000 → Calls Tryz.prog 43 #[.pointer (some ⟨p, 0, none⟩), .slice sp.a sp.n sp.c, .func (.func 44) #[] #[]] w1 fun e w' => e = .returned (.tuple #[]) ∧ ∃ u', WT w0 w' p u' (l1 ++ enL enCs c.pool)) := by
      intro w0 w1 p u1 l1 f0 g1 hl
      refine (writeCs_list w0 w1 p u1 l1 g1 _ c.pool (hp.kept f0) 80000000 (by omega) (by omega) (by omega) enCs (fun x hx => by have := enCs_len x (hv.pool x hx); omega) (fun w2 u2 l2 x hx g2 hl2 => writeConst_any w0 w2 p u2 l2 g2 (by omega) x (hv.pool x hx) (hf.pool x hx))).mono ?_
      rintro e w' ⟨rfl, u', g, _⟩
      exact ⟨rfl, u', g⟩
    have LF : Hid (∀ w0 w1 p u1 l1, Fr no w w0 → WT w0 w1 p u1 l1 → l1.length ≤ 100000 → Calls Tryz.prog 45 #[.pointer (some ⟨p, 0, none⟩), .slice sf.a sf.n sf.c, .func (.func 46) #[] #[]] w1 fun e w' => e = .returned (.tuple #[]) ∧ ∃ u', WT w0 w' p u' (l1 ++ enL enFd c.fields)) := by
      intro w0 w1 p u1 l1 f0 g1 hl
      refine (writeFd_list w0 w1 p u1 l1 g1 _ c.fields (hfi.kept f0) 80000000 (by omega) (by omega) (by omega) enFd (fun x hx => by have := enFd_len x (hv.fields x hx); omega) (fun w2 u2 l2 x hx g2 hl2 => writeField_any w0 w2 p u2 l2 g2 (by omega) x (hv.fields x hx))).mono ?_
      rintro e w' ⟨rfl, u', g, _⟩
      exact ⟨rfl, u', g⟩
    have LM : Hid (∀ w0 w1 p u1 l1, Fr no w w0 → WT w0 w1 p u1 l1 → l1.length ≤ 100000 → Calls Tryz.prog 47 #[.pointer (some ⟨p, 0, none⟩), .slice sm.a sm.n sm.c, .func (.func 48) #[] #[]] w1 fun e w' => e = .returned (.tuple #[]) ∧ ∃ u', WT w0 w' p u' (l1 ++ enL enMt c.methods)) := by
      intro w0 w1 p u1 l1 f0 g1 hl
      have R1 := writeMs_list w0 w1 p u1 l1 g1 _ ls (hm.kept f0) 1000000 (by omega) (by omega) (by omega) (c.methods.map enMt) (by simp [hmL]) (fun b hb => by
        obtain ⟨x, hx, rfl⟩ := List.mem_map.1 hb
        have := enMt_len x (hv.methods x hx)
        omega) (fun w2 u2 l2 k x y hx hy g2 hl2 => by
        rw [List.getElem?_map] at hy
        obtain ⟨m, hm1, rfl⟩ := Option.map_eq_some_iff.1 hy
        exact writeMethod_any w0 w2 (T.kept f0) p u2 l2 g2 (by omega) x m ((hma.2 k x m hx hm1).kept f0) (hv.methods m (List.mem_of_getElem? hm1)))
      rw [hmL, ← List.flatMap_def] at R1
      refine R1.mono ?_
      rintro e w' ⟨rfl, u', g, _⟩
      exact ⟨rfl, u', g⟩
    have HE : Hid (enCl c = ([76, 79, 79, 77] ++ [1]) ++ (enTx c.name ++ (enTx c.super ++ (enL enCs c.pool ++ (enL enFd c.fields ++ enL enMt c.methods))))) := rfl
    have HK1 : Hid (ecE c = if 20000 < (enCl c).length then 32 else 0) := by show _ = _; unfold ecE; rw [if_pos hK]
    have HK2 : Hid (ecB c = if (enCl c).length ≤ 20000 then enCl c else []) := by show _ = _; unfold ecB; simp [hK]
    have hlen : (enCl c).length ≤ 100000 := by have := enCl_len c hv; omega
    clear hp hfi hm hma hv hK k1 k2 k3
    go_enter Tryz.func13, Tryz.ntmps13
    go_wp2_with fail
    refine C.mono ?_
    rintro e w1 ⟨rfl, f1⟩
    have HF1 : Hid (Fr no w w1) := HF.out.new f1 (fun _ _ f => f)
    clear b0 b1 b2 b3 b4
    go_wp2_with fail
    refine (new_any w1).mono ?_
    rintro e w2 ⟨rfl, wt2, f2⟩
    have g2 : WT w1 w2 w1.heap.size nv [] := ⟨wt2, Nat.le_refl _, fun k hk => by simp [nv, Value.ownBlock] at hk, f2⟩
    clear wt2 f2
    generalize w1.heap.size = p at *
    go_wp2_with fail
    go_loopw [14] (fun i wr => ∃ (j : Nat) (u : Value), i = .int .i64 (j : Int) ∧ j ≤ 4 ∧ WT w1 wr p u (mk4 j)) (fun i _ => 4 - (intOf i).toNat)
    case atStart => exact ⟨0, nv, rfl, by omega, g2⟩
    case round =>
      obtain ⟨j, u, rfl, hj, g3⟩ := hrel
      clear g2
      by_cases hj4 : j < 4
      · rcases (show j = 0 ∨ j = 1 ∨ j = 2 ∨ j = 3 by omega) with rfl | rfl | rfl | rfl
        · have B := wt_byte w1 wr p u _ g3 (by simp [mk4]) 76
          go_wp2_with fail
          refine B.mono ?_
          rintro e w3 ⟨rfl, u3, g4, _⟩
          go_wp2_with fail
          go_roundw
          case rel => exact ⟨1, u3, by go_num, by omega, g4⟩
          case measure => simp [intOf]
        · have B := wt_byte w1 wr p u _ g3 (by simp [mk4]) 79
          go_wp2_with fail
          refine B.mono ?_
          rintro e w3 ⟨rfl, u3, g4, _⟩
          go_wp2_with fail
          go_roundw
          case rel => exact ⟨2, u3, by go_num, by omega, g4⟩
          case measure => simp [intOf]
        · have B := wt_byte w1 wr p u _ g3 (by simp [mk4]) 79
          go_wp2_with fail
          refine B.mono ?_
          rintro e w3 ⟨rfl, u3, g4, _⟩
          go_wp2_with fail
          go_roundw
          case rel => exact ⟨3, u3, by go_num, by omega, g4⟩
          case measure => simp [intOf]
        · have B := wt_byte w1 wr p u _ g3 (by simp [mk4]) 77
          go_wp2_with fail
          refine B.mono ?_
          rintro e w3 ⟨rfl, u3, g4, _⟩
          go_wp2_with fail
          go_roundw
          case rel => exact ⟨4, u3, by go_num, by omega, g4⟩
          case measure => simp [intOf]
      · have : j = 4 := by omega
        subst this
        have g3 : WT w1 wr p u [76, 79, 79, 77] := g3
        obtain ⟨b0, b1, b2, b3, b4⟩ := HB.out wr (f1.new g3.fr (fun _ _ f => f))
        go_wp2_with fail
        refine (wt_byte w1 wr p u _ g3 (by simp) 1).mono ?_
        rintro e w4 ⟨rfl, u4, g4, _⟩
        clear b0 b1 b2 b3 b4 g3
        obtain ⟨b0, b1, b2, b3, b4⟩ := HB.out w4 (f1.new g4.fr (fun _ _ f => f))
        go_wp2_with fail
        refine (wt_text w1 w4 p u4 _ g4 c.name (by simp; omega)).mono ?_
        rintro e w5 ⟨rfl, u5, g5, _⟩
        clear b0 b1 b2 b3 b4 g4
        obtain ⟨b0, b1, b2, b3, b4⟩ := HB.out w5 (f1.new g5.fr (fun _ _ f => f))
        go_wp2_with fail
        refine (wt_text w1 w5 p u5 _ g5 c.super (by simp only [List.length_append, List.length_cons, List.length_nil]; omega)).mono ?_
        rintro e w6 ⟨rfl, u6, g6, _⟩
        clear b0 b1 b2 b3 b4 g5
        obtain ⟨b0, b1, b2, b3, b4⟩ := HB.out w6 (f1.new g6.fr (fun _ _ f => f))
        go_wp2_with fail
        refine (LC.out w1 w6 p u6 _ HF1.out g6 (by simp only [List.length_append, List.length_cons, List.length_nil]; omega)).mono ?_
        rintro e w7 ⟨rfl, u7, g7⟩
        clear b0 b1 b2 b3 b4 g6
        obtain ⟨b0, b1, b2, b3, b4⟩ := HB.out w7 (f1.new g7.fr (fun _ _ f => f))
        go_wp2_with fail
        refine (LF.out w1 w7 p u7 _ HF1.out g7 (by simp only [List.length_append, List.length_cons, List.length_nil]; omega)).mono ?_
        rintro e w8 ⟨rfl, u8, g8⟩
        clear b0 b1 b2 b3 b4 g7
        obtain ⟨b0, b1, b2, b3, b4⟩ := HB.out w8 (f1.new g8.fr (fun _ _ f => f))
        go_wp2_with fail
        refine (LM.out w1 w8 p u8 _ HF1.out g8 (by simp only [List.length_append, List.length_cons, List.length_nil]; omega)).mono ?_
        rintro e w9 ⟨rfl, u9, g9⟩
        clear b0 b1 b2 b3 b4 g8
        have eq : ((((([76, 79, 79, 77] ++ [1]) ++ enTx c.name) ++ enTx c.super) ++ enL enCs c.pool) ++ enL enFd c.fields) ++ enL enMt c.methods = enCl c := by rw [HE.out]; simp
        rw [eq] at g9
        clear eq HE
        go_wp2_with fail
        refine (wb_bytes w1 w9 p _ g9.wb (by omega)).mono ?_
        rintro e w10 ⟨v10, rfl, o10, g10, _, _⟩
        have f10 := HF1.out.new g10.fr (fun _ _ f => f)
        clear g9 g10
        obtain ⟨oo, cc, e10⟩ := o10.shape
        subst e10
        by_cases hbig : 20000 < (enCl c).length
        · rw [if_pos hbig] at HK1
          rw [if_neg (by omega)] at HK2
          go_wp2_with fail
          go_ret2
          rw [HK1.out, HK2.out]
          exact ⟨_, rfl, Own.nil _, f10⟩
        · rw [if_neg hbig] at HK1
          rw [if_pos (by omega)] at HK2
          have hbig' : ¬ (20000 : Int) < ((enCl c).length : Int) := by omega
          go_wp2_with fail
          go_ret2
          rw [HK1.out, HK2.out]
          exact ⟨_, rfl, o10, f10⟩
  · have HE : Hid (ecE c = chk c) := by show _ = _; unfold ecE; rw [if_neg hK]
    have HB2 : Hid (ecB c = []) := by show _ = _; unfold ecB; rw [if_neg (fun h => hK h.1)]
    have hK' : ((chk c : Int) == 0) = false := beq_eq_false_iff_ne.2 (by omega)
    generalize chk c = err at *
    clear hp hfi hm hma
    go_enter Tryz.func13, Tryz.ntmps13
    go_wp2_with fail
    refine C.mono ?_
    rintro e w1 ⟨rfl, f1⟩
    go_wp2_with fail
    go_ret2
    rw [HE.out, HB2.out]
    exact ⟨_, rfl, Own.nil _, HF.out.new f1 (fun _ _ f => f)⟩
end Go.Proofs.YthncdbobjeeeaaaGreatDoor
