/- Notes and blanks change nothing but places. -/
import Derived.Test.YtmpahllkbpofnaaKb
import Derived.Test.YtmpahllkbpofnaaYb
import Derived.Test.YtmpahllkbpofnaaLift
namespace Go.Proofs.Ytmpahllkbpofnaa
open Go.ChangeShapes Go.WideShapes Go.ChangeAt Go.RowKit

theorem nW_len (i : Nat) (h : i < 8) : (Y.nW i).length ≤ 5 := by
  rcases (show i = 0 ∨ i = 1 ∨ i = 2 ∨ i = 3 ∨ i = 4 ∨ i = 5 ∨ i = 6 ∨ i = 7 by omega) with rfl | rfl | rfl | rfl | rfl | rfl | rfl | rfl <;> decide
theorem nB_len (i : Nat) (h : i < 5) : (Y.nB i).length ≤ 9 := by
  rcases (show i = 0 ∨ i = 1 ∨ i = 2 ∨ i = 3 ∨ i = 4 by omega) with rfl | rfl | rfl | rfl | rfl <;> decide
theorem plain_len (gs : List Nat) : (Y.plainL gs).length ≤ 6 * gs.length := by
  induction gs with
  | nil => exact Nat.le_refl _
  | cons g gs ih =>
    have := nW_len (g % 8) (Nat.mod_lt _ (by omega))
    have e : Y.plainL (g :: gs) = Y.nW (g % 8) ++ [32] ++ Y.plainL gs := rfl
    rw [e, List.length_append, List.length_append, List.length_cons]
    simp only [List.length_cons, List.length_nil]
    omega
theorem noted_len (gs : List Nat) : (Y.notedL gs).length ≤ 23 * gs.length := by
  induction gs with
  | nil => exact Nat.le_refl _
  | cons g gs ih =>
    have h1 := nW_len (g % 8) (Nat.mod_lt _ (by omega))
    have h2 := nB_len (g / 8 % 5) (Nat.mod_lt _ (by omega))
    have h3 := nB_len (g / 40 % 5) (Nat.mod_lt _ (by omega))
    have e : Y.notedL (g :: gs) = Y.nB (g / 8 % 5) ++ Y.nW (g % 8) ++ Y.nB (g / 40 % 5) ++ Y.notedL gs := rfl
    rw [e, List.length_append, List.length_append, List.length_append, List.length_cons]
    omega
theorem plain_step (gs : List Nat) (g : Nat) : Y.bytes (Y.plainL gs) ++ Y.bytes (Y.nW (g % 8)) ++ (⟨#[32]⟩ : ByteArray) = Y.bytes (Y.plainL (gs ++ [g])) := by
  rw [show (⟨#[32]⟩ : ByteArray) = Y.bytes [32] from rfl, ← Y.bytes_app, ← Y.bytes_app]
  unfold Y.plainL
  rw [List.flatMap_append, List.append_assoc]
  simp
theorem noted_step (gs : List Nat) (g : Nat) : Y.bytes (Y.notedL gs) ++ Y.bytes (Y.nB (g / 8 % 5)) ++ Y.bytes (Y.nW (g % 8)) ++ Y.bytes (Y.nB (g / 40 % 5)) = Y.bytes (Y.notedL (gs ++ [g])) := by
  rw [← Y.bytes_app, ← Y.bytes_app, ← Y.bytes_app]
  unfold Y.notedL
  rw [List.flatMap_append, List.append_assoc, List.append_assoc]
  simp
theorem plain_byte (gs : List Nat) : ∀ c ∈ Y.plainL gs, c < 256 := by
  intro c hc
  obtain ⟨g, hg, h⟩ := List.mem_flatMap.1 hc
  rcases List.mem_append.1 h with h | h
  · exact (Y.nShape (g % 8) (Nat.mod_lt _ (by omega))).lt c h
  · simp at h
    omega
theorem nB_byte (i : Nat) (h : i < 5) : ∀ c ∈ Y.nB i, c < 256 := by
  rcases (show i = 0 ∨ i = 1 ∨ i = 2 ∨ i = 3 ∨ i = 4 by omega) with rfl | rfl | rfl | rfl | rfl <;> decide
theorem noted_byte (gs : List Nat) : ∀ c ∈ Y.notedL gs, c < 256 := by
  intro c hc
  obtain ⟨g, hg, h⟩ := List.mem_flatMap.1 hc
  rcases List.mem_append.1 h with h | h
  · rcases List.mem_append.1 h with h | h
    · exact nB_byte _ (Nat.mod_lt _ (by omega)) c h
    · exact (Y.nShape (g % 8) (Nat.mod_lt _ (by omega))).lt c h
  · exact nB_byte _ (Nat.mod_lt _ (by omega)) c h

/-- The row of words, and that of what stands between, in memory. -/
def RowsAt (w : World) (r1 r2 : Nat) : Prop := (∀ i, i < 8 → w.cell? ⟨r1, i, none⟩ = some (.string (Y.bytes (Y.nW i)))) ∧ ∀ j, j < 5 → w.cell? ⟨r2, j, none⟩ = some (.string (Y.bytes (Y.nB j)))
theorem RowsAt.keep {w w' : World} {r1 r2 : Nat} (h : RowsAt w r1 r2) (F : Fr no w w') : RowsAt w' r1 r2 := ⟨fun i hi => F.cell (h.1 i hi) (fun f => f), fun j hj => F.cell (h.2 j hj) (fun f => f)⟩

theorem rows_new (w : World) : RowsAt ((w.alloc (.cells #[.string ⟨#[99, 108, 97, 115, 115]⟩, .string ⟨#[120]⟩, .string ⟨#[49, 50]⟩, .string ⟨#[51, 105]⟩, .string ⟨#[61, 61]⟩, .string ⟨#[61]⟩, .string ⟨#[123]⟩, .string ⟨#[119, 104, 105, 108, 101]⟩] 41)).alloc (.cells #[.string ⟨#[32]⟩, .string ⟨#[9, 32, 10]⟩, .string ⟨#[47, 47, 32, 123, 32, 53, 32, 35, 10]⟩, .string ⟨#[32, 47, 47, 10, 13]⟩, .string ⟨#[10, 47, 47, 10]⟩] 42)) w.heap.size (w.heap.size + 1) := by
  constructor
  · intro i hi
    refine alloc_cell (cell_of (heap_alloc_new w _) i _ ?_) _ _
    rcases (show i = 0 ∨ i = 1 ∨ i = 2 ∨ i = 3 ∨ i = 4 ∨ i = 5 ∨ i = 6 ∨ i = 7 by omega) with rfl | rfl | rfl | rfl | rfl | rfl | rfl | rfl <;> rfl
  · intro j hj
    have h := heap_alloc_new (w.alloc (.cells #[.string ⟨#[99, 108, 97, 115, 115]⟩, .string ⟨#[120]⟩, .string ⟨#[49, 50]⟩, .string ⟨#[51, 105]⟩, .string ⟨#[61, 61]⟩, .string ⟨#[61]⟩, .string ⟨#[123]⟩, .string ⟨#[119, 104, 105, 108, 101]⟩] 41)) (.cells #[.string ⟨#[32]⟩, .string ⟨#[9, 32, 10]⟩, .string ⟨#[47, 47, 32, 123, 32, 53, 32, 35, 10]⟩, .string ⟨#[32, 47, 47, 10, 13]⟩, .string ⟨#[10, 47, 47, 10]⟩] 42)
    have e : (w.alloc (.cells #[.string ⟨#[99, 108, 97, 115, 115]⟩, .string ⟨#[120]⟩, .string ⟨#[49, 50]⟩, .string ⟨#[51, 105]⟩, .string ⟨#[61, 61]⟩, .string ⟨#[61]⟩, .string ⟨#[123]⟩, .string ⟨#[119, 104, 105, 108, 101]⟩] 41)).heap.size = w.heap.size + 1 := by
      show (w.heap.push _).size = _
      simp
    rw [e] at h
    refine cell_of h j _ ?_
    rcases (show j = 0 ∨ j = 1 ∨ j = 2 ∨ j = 3 ∨ j = 4 by omega) with rfl | rfl | rfl | rfl | rfl <;> rfl

theorem notes_pure (l : List Nat) (h : l.length ≤ 20) : ∃ (L M : List Tk) (p : ByteArray), lexR (Y.bytes (Y.plainL l)) = (0, L, 0) ∧ lexR (Y.bytes (Y.notedL l)) = (0, M, 0) ∧ sameR false L M = true ∧ prT ⟨#[]⟩ L = p ∧ prT ⟨#[]⟩ M = p ∧ L.length = l.length + 1 := by
  have lp := plain_len l
  have ln := noted_len l
  obtain ⟨ts, us, e1, e2, e3, e4, e5⟩ := Y.lex_notes (Y.bytes (Y.plainL l)) (Y.bytes (Y.notedL l)) l (Y.nl_bytes (plain_byte l)) (Y.nl_bytes (noted_byte l)) (by rw [Y.size_bytes]; omega) (by rw [Y.size_bytes]; omega)
  refine ⟨_, _, _, e1, e2, sameR_bare ?_, rfl, e5.symm, ?_⟩
  · rw [List.map_append, List.map_append, e3]
    rfl
  · rw [List.length_append, mkAll_len, e4]
    rfl

theorem take_one {l : List Nat} {k g : Nat} (h : l[k]? = some g) : l.take (k + 1) = l.take k ++ [g] := by
  rw [List.take_add_one, h]
  rfl

set_option maxRecDepth 100000 in
set_option maxHeartbeats 8000000 in
theorem notes_all (w : World) (v : Value) (l : List Nat) (hv : RdG elY w v l) (hb : ∀ c ∈ l, c < 256) :
    Calls Try.prog 6 #[v] w fun e w' => e = .returned (.bool true) ∧ Fr no w w' := by
  have KN := known_any w
  obtain ⟨oo, cc, rfl⟩ := hv.form
  have HV : Hid (RdG elY w (.slice oo l.length cc) l) := hv
  have HBY : Hid (∀ c ∈ l, c < 256) := hb
  clear hv hb
  by_cases h20 : 20 < l.length
  · have h20' : (20 : Int) < (l.length : Int) := by omega
    go_enter Try.func6, Try.ntmps6
    go_wp2_with fail
    refine KN.mono ?_
    rintro _ w1 ⟨rfl, f1⟩
    have HF : Hid (Fr no w w1) := f1
    clear f1
    go_wp2_with fail
    go_ret
    exact ⟨rfl, HF.out⟩
  · have h20' : ¬ (20 : Int) < (l.length : Int) := by omega
    go_enter Try.func6, Try.ntmps6
    go_wp2_with fail
    refine KN.mono ?_
    rintro _ w1 ⟨rfl, f1⟩
    have HF : Hid (Fr no w w1) := f1
    clear f1
    go_wp2_with fail
    go_loopw [5, 6, 7] (fun pv nv iv wr => ∃ k : Nat, iv = .int .i64 (k : Int) ∧ k ≤ l.length ∧ pv = .string (Y.bytes (Y.plainL (l.take k))) ∧ nv = .string (Y.bytes (Y.notedL (l.take k))) ∧ Fr no w wr ∧ RowsAt wr w1.heap.size (w1.heap.size + 1)) (fun _ _ iv _ => l.length - (intOf iv).toNat)
    case atStart =>
      exact ⟨0, rfl, Nat.zero_le _, rfl, rfl, (HF.out.alloc _ _).alloc _ _, rows_new w1⟩
    case round =>
      obtain ⟨k, rfl, hk, rfl, rfl, hF, hR⟩ := hrel
      have HR : Hid (RowsAt wr w1.heap.size (w1.heap.size + 1) ∧ Fr no w wr) := ⟨hR, hF⟩
      have k0 : (0 : Int) ≤ (k : Int) := by omega
      by_cases hlt : k < l.length
      · have hlt' : (k : Int) < (l.length : Int) := by omega
        obtain ⟨g, hg⟩ : ∃ g, l[k]? = some g := ⟨_, List.getElem?_eq_getElem hlt⟩
        have hg256 := HBY.out g (List.mem_of_getElem? hg)
        obtain ⟨b, off, rfl, c0⟩ := (HV.out.keep hF).at1 (i := k) (x := g) rfl rfl hg
        have HT : Hid _ := take_one hg
        have hp := plain_step (l.take k) g
        have hn := noted_step (l.take k) g
        have lp := plain_len (l.take k)
        have ln := noted_len (l.take k)
        rw [List.length_take] at lp ln
        have lw := nW_len (g % 8) (Nat.mod_lt _ (by omega))
        have lb := nB_len (g / 8 % 5) (Nat.mod_lt _ (by omega))
        have lc := nB_len (g / 40 % 5) (Nat.mod_lt _ (by omega))
        have r1 := hR.1 (g % 8) (Nat.mod_lt _ (by omega))
        have r2 := hR.2 (g / 8 % 5) (Nat.mod_lt _ (by omega))
        have r3 := hR.2 (g / 40 % 5) (Nat.mod_lt _ (by omega))
        have i1 : (g : Int) % 8 = ((g % 8 : Nat) : Int) := by omega
        have i2 : (g : Int) / 8 % 5 = ((g / 8 % 5 : Nat) : Int) := by omega
        have i3 : (g : Int) / 40 % 5 = ((g / 40 % 5 : Nat) : Int) := by omega
        have w8 : IntKind.u8.wrap ((g : Int) / 8) = (g : Int) / 8 := by simp [IntKind.wrap, IntKind.signed, IntKind.bits]; omega
        have w40 : IntKind.u8.wrap ((g : Int) / 40) = (g : Int) / 40 := by simp [IntKind.wrap, IntKind.signed, IntKind.bits]; omega
        have t2 : ((g : Int) / 8).tmod 5 = ((g / 8 % 5 : Nat) : Int) := by rw [Int.tmod_eq_emod_of_nonneg (by omega)]; omega
        have t3 : ((g : Int) / 40).tmod 5 = ((g / 40 % 5 : Nat) : Int) := by rw [Int.tmod_eq_emod_of_nonneg (by omega)]; omega
        have m1 : g % 8 < 8 := Nat.mod_lt _ (by omega)
        have m2 : g / 8 % 5 < 5 := Nat.mod_lt _ (by omega)
        have m3 : g / 40 % 5 < 5 := Nat.mod_lt _ (by omega)
        have s1 := Y.size_bytes (Y.plainL (l.take k))
        have s2 := Y.size_bytes (Y.notedL (l.take k))
        have s3 := Y.size_bytes (Y.nW (g % 8))
        have s4 := Y.size_bytes (Y.nB (g / 8 % 5))
        have s5 := Y.size_bytes (Y.nB (g / 40 % 5))
        rw [← HT.out] at hp hn
        clear hg hF hR
        generalize hP1 : Y.bytes (Y.plainL (l.take (k + 1))) = P1 at *
        generalize hN1 : Y.bytes (Y.notedL (l.take (k + 1))) = N1 at *
        have HP1 : Hid (P1 = Y.bytes (Y.plainL (l.take (k + 1))) ∧ N1 = Y.bytes (Y.notedL (l.take (k + 1)))) := ⟨hP1.symm, hN1.symm⟩
        clear hP1 hN1
        generalize Y.bytes (Y.plainL (l.take k)) = P at *
        generalize Y.bytes (Y.notedL (l.take k)) = M at *
        generalize Y.bytes (Y.nW (g % 8)) = W at *
        generalize Y.bytes (Y.nB (g / 8 % 5)) = B at *
        generalize Y.bytes (Y.nB (g / 40 % 5)) = C at *
        generalize g % 8 = x1 at *
        generalize g / 8 % 5 = x2 at *
        generalize g / 40 % 5 = x3 at *
        have z1 : P.size + W.size ≤ 1000 := by omega
        have z2 : M.size + B.size + W.size + C.size ≤ 1000 := by omega
        have z3 : (P ++ W).size = P.size + W.size := Y.size_app _ _
        have z4 : (M ++ B).size = M.size + B.size := Y.size_app _ _
        have z5 : (M ++ B ++ W).size = M.size + B.size + W.size := by rw [Y.size_app, Y.size_app]
        clear lp ln lw lb lc s1 s2 s3 s4 s5 hg256
        go_wp2_with fail
        go_quiet (fail)
        generalize hwq : World.drewN wr nq = wq
        have HG : Hid (Fr no w wq ∧ RowsAt wq w1.heap.size (w1.heap.size + 1)) := by
          rw [Hid, ← hwq]
          have f : Fr no wr (wr.drewN nq) := (Fr.refl no wr).drewN _
          exact ⟨HR.out.2.and f, HR.out.1.keep f⟩
        clear hwq
        go_wp2_with fail
        go_roundw
        case rel => exact ⟨k + 1, by congr 1, by omega, by rw [HP1.out.1], by rw [HP1.out.2], HG.out.1, HG.out.2⟩
        case measure => simp [intOf]; omega
      · obtain rfl : k = l.length := by omega
        have hlt' : ¬ (l.length : Int) < (l.length : Int) := by omega
        rw [List.take_length]
        have lp := plain_len l
        have ln := noted_len l
        obtain ⟨L, M, p, e1, e2, e3, e4, e5, e6⟩ := notes_pure l (by omega)
        have hT := toks_ok (Y.bytes (Y.plainL l))
        have hT2 := toks_ok (Y.bytes (Y.notedL l))
        have PA := fun w => pAll w (Y.bytes (Y.plainL l))
        have PB := fun w => pAll w (Y.bytes (Y.notedL l))
        rw [e1] at PA hT
        rw [e2] at PB hT2
        simp only at PA hT PB hT2
        have PP := fun w v hv => pPrint w v L hv (by omega) hT.2
        have PQ := fun w v hv => pPrint w v M hv (by omega) hT2.2
        have SA := fun w v u hv hu => same_any w v u L M false hv hu (by omega)
        rw [e4] at PP
        rw [e5] at PQ
        rw [e3] at SA
        clear e1 e2 e3 e4 e5 hT hT2 hlt hk lp ln hR hF
        generalize Y.bytes (Y.plainL l) = S at *
        generalize Y.bytes (Y.notedL l) = T at *
        go_wp2_with fail
        refine (PA _).mono ?_
        rintro _ w2 ⟨v2, rfl, ⟨o2, -⟩, f2⟩
        obtain ⟨o2', c2', rfl⟩ := o2.form
        rw [e6] at *
        go_wp2_with fail
        refine (PB _).mono ?_
        rintro _ w3 ⟨v3, rfl, ⟨o3, -⟩, f3⟩
        have HO : Hid (SlG elK w3 (.slice o2' (l.length + 1) c2') L ∧ SlG elK w3 v3 M ∧ Fr no w w3) := ⟨(o2.keep f3).sl, o3.sl, (HR.out.2.and f2).and f3⟩
        clear o2 f2 o3 f3
        go_wp2_with fail
        refine (SA _ _ _ HO.out.1 HO.out.2.1).mono ?_
        rintro _ w4 ⟨rfl, f4⟩
        have HQ : Hid (SlG elK w4 (.slice o2' (l.length + 1) c2') L ∧ SlG elK w4 v3 M ∧ Fr no w w4) := ⟨HO.out.1.keep f4, HO.out.2.1.keep f4, HO.out.2.2.and f4⟩
        clear f4 HO
        go_wp2_with fail
        refine (PP _ _ HQ.out.1).mono ?_
        rintro _ w5 ⟨rfl, f5⟩
        have HU : Hid (SlG elK w5 v3 M ∧ Fr no w w5) := ⟨HQ.out.2.1.keep f5, HQ.out.2.2.and f5⟩
        clear f5 HQ
        go_wp2_with fail
        refine (PQ _ _ HU.out.1).mono ?_
        rintro _ w6 ⟨rfl, f6⟩
        have HZ : Hid (Fr no w w6) := HU.out.2.and f6
        clear f6 HU
        go_wp2_with fail
        all_goals
          go_ret
          exact ⟨rfl, HZ.out⟩
end Go.Proofs.Ytmpahllkbpofnaa
