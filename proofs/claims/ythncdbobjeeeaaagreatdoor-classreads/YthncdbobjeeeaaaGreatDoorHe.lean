/- What Encode writes: the document's. -/
import Derived.Test.YthncdbobjeeeaaaGreatDoorHd
import Derived.Test.YthncdbobjeeeaaaGreatDoorHc
import Derived.Deep.RegionHeld3
import Derived.Deep.RegionWith
namespace Go.Proofs.YthncdbobjeeeaaaGreatDoor
open Go.ChangeShapes Go.WideShapes Go.ChangeAt Go.RowKit

set_option maxRecDepth 100000 in
set_option maxHeartbeats 4000000 in
theorem docPutF_any (w : World) (v : Value) (l : List (Int × Int)) (h : SlI w v l) :
    Calls Tryz.prog 86 #[v] w fun e w' => ∃ v', e = .returned (.tuple #[v', .int .i64 (ptE l : Int)]) ∧ Own w' v' (ptB l) ∧ Fr no w w' ∧ ∀ k, k < w.heap.size → v'.ownBlock ≠ some k := by
  obtain ⟨ad, cap, rfl, hcap, hmx, hit⟩ := h
  unfold maxLen at hmx
  have HI : Hid (∀ (i : Nat) (x : Int × Int), l[i]? = some x → ∃ b off, ad = some ⟨b, off, none⟩ ∧ w.cell? ⟨b, off + i * 2, none⟩ = some (.int .i64 x.1) ∧ w.cell? ⟨b, off + i * 2 + 1, none⟩ = some (.int .i64 x.2)) := hit
  clear hit
  by_cases h200 : 200 < l.length
  · have HE : Hid (ptE l = 32) := by show _ = _; unfold ptE; rw [if_pos h200]
    have HB : Hid (ptB l = []) := by show _ = _; unfold ptB; rw [if_neg (by omega)]
    go_enter Tryz.func86, Tryz.ntmps86
    go_wp2_with fail
    go_ret2
    rw [HE.out, HB.out]
    exact ⟨_, rfl, Own.nil _, Fr.refl _ _, fun k _ e => by simp [Value.ownBlock] at e⟩
  · go_enter Tryz.func86, Tryz.ntmps86
    go_wp2_with fail
    refine (ref_uint w nv [] (Own.nil w) (by simp) l.length (by omega)).mono ?_
    rintro e w1 ⟨v1, rfl, o1, s1⟩
    rw [List.nil_append] at o1
    go_wp2_with fail
    go_loopw [4, 5] (fun s i wr => ∃ (k : Nat), i = .int .i64 (k : Int) ∧ k ≤ l.length ∧ allIs (l.take k) = true ∧ Own wr s (enc l.length ++ wri (l.take k)) ∧ Sp no nv w s wr) (fun _ i _ => l.length - (intOf i).toNat)
    case atStart => exact ⟨0, rfl, Nat.zero_le _, rfl, by simpa [wri] using o1, s1⟩
    case round =>
      obtain ⟨k, rfl, hk, hall, ho, hs⟩ := hrel
      have HA : Hid (allIs (l.take k) = true) := hall
      clear hall o1 s1
      have hwl := wri_length (l.take k)
      have hel := enc_length l.length
      have htl : (l.take k).length ≤ 200 := by rw [List.length_take]; omega
      by_cases hlt : k < l.length
      · obtain ⟨⟨op, a⟩, hx⟩ : ∃ x, l[k]? = some x := ⟨_, List.getElem?_eq_getElem hlt⟩
        obtain ⟨b, off, rfl, c0', c1'⟩ := HI.out k _ hx
        have c0 := hs.fresh.1.cell c0' (fun f => f)
        have c1 := hs.fresh.1.cell c1' (fun f => f)
        have HX : Hid (l[k]? = some (op, a)) := hx
        have HC : Hid (w.cell? ⟨b, off + k * 2, none⟩ = some (.int .i64 op) ∧ w.cell? ⟨b, off + k * 2 + 1, none⟩ = some (.int .i64 a)) := ⟨c0', c1'⟩
        clear c0' c1' hx
        simp only [] at c0 c1
        have I := docIs_any wr op a
        unfold ins at I
        by_cases hi : isb op a = true
        · rw [hi] at I
          obtain ⟨n, m, hn, rfl, rfl, hm⟩ := isb_in op a hi
          have hc8 : IntKind.u8.wrap (n : Int) = (n : Int) := by simp [IntKind.wrap, IntKind.signed, IntKind.bits]; omega
          have hsz : (enc l.length ++ wri (l.take k)).length + 11 ≤ 1099511627776 := by rw [List.length_append]; omega
          have HN : Hid (allIs (l.take (k + 1)) = true) := by
            show _ = _
            rw [take_next l k _ HX.out]
            unfold allIs at HA ⊢
            rw [List.all_append, HA.out]
            simp [hi]
          have HL : Hid (enc l.length ++ wri (l.take (k + 1)) = (enc l.length ++ wri (l.take k)) ++ one ((n : Int), (m : Int))) := by
            show _ = _
            rw [take_next l k _ HX.out, wri_append, ← List.append_assoc]
            simp [wri]
          generalize enc l.length ++ wri (l.take k) = L at *
          clear hwl hel htl
          go_wp2_with fail
          refine I.mono ?_
          rintro e w3 ⟨rfl, f3⟩
          have d0 := f3.cell c0 (fun f => f)
          have d1 := f3.cell c1 (fun f => f)
          have o3 := ho.kept f3 (fun _ _ f => f)
          have s3 := hs.then f3 (fun _ _ f => f)
          have hS := src_one w3 n
          have o4 := own_alloc o3 #[.int .u8 ((n : Nat) : Int)] 5
          have s4 := s3.then ((Fr.refl no w3).alloc #[.int .u8 ((n : Nat) : Int)] 5) (fun _ _ f => f)
          have hbb : L.length + ([n] : List Nat).length ≤ 1099511627776 := by simp; omega
          have FC : Hid (∀ w5 : World, ∀ u5 : Value, Sp no u4 (w3.alloc (.cells #[.int .u8 ((n : Nat) : Int)] 5)) u5 w5 → w5.cell? ⟨b, off + k * 2, none⟩ = some (.int .i64 (n : Int)) ∧ w5.cell? ⟨b, off + k * 2 + 1, none⟩ = some (.int .i64 (m : Int)) ∧ Sp no nv w u5 w5) := by
            intro w5 u5 s5
            have f5 := (s4.trans s5).fresh.1
            exact ⟨f5.cell HC.out.1 (fun f => f), f5.cell HC.out.2 (fun f => f), s4.trans s5⟩
          clear ho hs o3 s3 s4 c0 c1 I f3
          obtain ⟨uo, un, uc, eu⟩ := o4.form
          subst eu
          rcases od_cases (n : Int) with e | e | ⟨e1, e2⟩
          · rw [od_in n hn] at e
            have := opd_bounds n hn
            omega
          · have HO : Hid (one ((n : Int), (m : Int)) = [n]) := by show _ = _; unfold one; simp [e]
            go_wp2_with (at_builtin; refine wpList_apd _ rfl rfl (.tmp 25) (.tmp 32) 22 rfl _ L rfl o4 _ rfl [n] hS hbb ?_; intro u5 w5 o5 s5; obtain ⟨e0, e1, s5'⟩ := FC.out w5 u5 s5; obtain ⟨uo', un', uc', eu'⟩ := o5.form; subst eu')
            have O := docOperand_any w5 (n : Int)
            rw [e] at O
            clear e
            refine O.mono ?_
            rintro e w6 ⟨rfl, rfl⟩
            go_wp2_with fail
            go_roundw
            case rel => exact ⟨k + 1, by go_num, by omega, HN.out, by rw [HL.out, HO.out]; exact o5, s5'⟩
            case measure => simp [intOf]; omega
          · have HO : Hid (one ((n : Int), (m : Int)) = [n] ++ enc m) := by show _ = _; unfold one; simp [e1]
            go_wp2_with (at_builtin; refine wpList_apd _ rfl rfl (.tmp 25) (.tmp 32) 22 rfl _ L rfl o4 _ rfl [n] hS hbb ?_; intro u5 w5 o5 s5; obtain ⟨e0, e1, s5'⟩ := FC.out w5 u5 s5; obtain ⟨uo', un', uc', eu'⟩ := o5.form; subst eu')
            have O := docOperand_any w5 (n : Int)
            generalize od (n : Int) = z at *
            refine O.mono ?_
            rintro e w6 ⟨rfl, rfl⟩
            go_wp2_with fail
            refine (ref_uint w6 _ _ o5 (by simp; omega) m (by omega)).mono ?_
            rintro e w7 ⟨u7, rfl, o7, s7⟩
            go_wp2_with fail
            go_roundw
            case rel => exact ⟨k + 1, by go_num, by omega, HN.out, by rw [HL.out, HO.out, ← List.append_assoc]; exact o7, s5'.trans s7⟩
            case measure => simp [intOf]; omega
        · have hi' : isb op a = false := by simpa using hi
          rw [hi'] at I
          have hno : allIs l = false := by
            unfold allIs
            rw [List.all_eq_false]
            exact ⟨_, List.mem_of_getElem? HX.out, by simpa using hi'⟩
          have HE : Hid (ptE l = 40) := by show _ = _; unfold ptE; rw [if_neg h200, if_neg (by simp [hno])]
          have HB : Hid (ptB l = []) := by show _ = _; unfold ptB; rw [if_neg (by simp [hno])]
          clear hno hi hi'
          go_wp2_with fail
          refine I.mono ?_
          rintro e w3 ⟨rfl, f3⟩
          go_wp2_with fail
          go_ret2
          rw [HE.out, HB.out]
          exact ⟨_, rfl, Own.nil _, hs.fresh.1.new f3 (fun _ _ f => f), fun k _ e => by simp [Value.ownBlock] at e⟩
      · have hkl : k = l.length := by omega
        subst hkl
        rw [List.take_length] at ho HA
        have HE : Hid (ptE l = 0) := by show _ = _; unfold ptE; rw [if_neg h200, if_pos HA.out]
        have HB : Hid (ptB l = enc l.length ++ wri l) := by show _ = _; unfold ptB; rw [if_pos ⟨by omega, HA.out⟩]
        go_wp2_with fail
        go_ret2
        rw [HE.out, HB.out]
        exact ⟨_, rfl, ho, hs.fresh.1, hs.fresh.2⟩

theorem Wx.made {uP : Value} {wP : World} {bnd : Nat} {u : Value} {L : List Nat} {w : World} (h : Wp uP wP bnd u L w) (v : Nat) (vi : Int) (hv : vi = (v : Int)) : Wx u (.slice (some ⟨w.heap.size, 0, none⟩) 1 1) [v] (w.alloc (.cells #[.int .u8 vi] 5)) := by
  subst hv
  refine ⟨⟨by simp [cl], .inr ⟨w.heap.size, 1, _, rfl, Nat.zero_le _, heap_alloc_new w _, by simp, by unfold maxLen; omega, by simp, by simp [cl]⟩⟩, fun k hk e => ?_⟩
  simp only [Value.ownBlock, Option.some.injEq] at hk
  subst hk
  exact h.made e
theorem Wx.made_drew {uP : Value} {wP : World} {bnd : Nat} {u : Value} {L : List Nat} {w : World} (h : Wp uP wP bnd u L w) (v : Nat) (vi : Int) (hv : vi = (v : Int)) : Wx u (.slice (some ⟨w.heap.size, 0, none⟩) 1 1) [v] (w.drew.alloc (.cells #[.int .u8 vi] 5)) := Wx.made h.drew v vi hv

set_option maxRecDepth 100000 in
set_option maxHeartbeats 16000000 in
theorem docEncode_any (w : World) (k : Ks) (c : Cl) (hk : ClAt w k c) (hf : FitK c) : Calls Tryz.prog 32 #[ksV k] w fun e w' => ∃ v', e = .returned (.tuple #[v', .int .i64 (ecE c : Int)]) ∧ Own w' v' (ecB c) ∧ Fr no w w' := by
  have HK : Hid (ClAt w k c) := hk
  obtain ⟨kn, ks, ⟨pa, pn, pc⟩, ⟨fa, fn, fc⟩, ⟨ma, mn, mc⟩⟩ := k
  obtain ⟨h1, h2, hp, hfl, ls, hm, ham⟩ := hk
  simp only [] at h1 h2 hp hfl hm
  subst h1 h2
  have HAM : Hid (AtAll w ls c.methods) := ham
  have HLL : Hid (ls.length = c.methods.length) := ham.1
  obtain ⟨ad1, cp1, q1, hk1, hk2, hpI⟩ := hp
  simp only [Value.slice.injEq] at q1
  obtain ⟨rfl, rfl, rfl⟩ := q1
  obtain ⟨ad2, cp2, q2, hk3, hk4, hfI⟩ := hfl
  simp only [Value.slice.injEq] at q2
  obtain ⟨rfl, rfl, rfl⟩ := q2
  obtain ⟨ad3, cp3, q3, hk5, hk6, hmI⟩ := hm
  simp only [Value.slice.injEq] at q3
  obtain ⟨rfl, rfl, rfl⟩ := q3
  have HPI : Hid (∀ (i : Nat) (x : Cs), c.pool[i]? = some x → ∃ b off, pa = some ⟨b, off, none⟩ ∧ w.cell? ⟨b, off + i * 5, none⟩ = some (.int .i64 x.k) ∧ w.cell? ⟨b, off + i * 5 + 1, none⟩ = some (.int .i64 x.n) ∧ w.cell? ⟨b, off + i * 5 + 2, none⟩ = some (.complex .f64 x.re x.im) ∧ w.cell? ⟨b, off + i * 5 + 3, none⟩ = some (.string x.c) ∧ w.cell? ⟨b, off + i * 5 + 4, none⟩ = some (.string x.m)) := fun i x hx => by
    obtain ⟨b, off, e, hj⟩ := hpI i x hx
    exact ⟨b, off, e, hj 0 _ rfl, hj 1 _ rfl, hj 2 _ rfl, hj 3 _ rfl, hj 4 _ rfl⟩
  have HFI : Hid (∀ (i : Nat) (x : Fd), c.fields[i]? = some x → ∃ b off, fa = some ⟨b, off, none⟩ ∧ w.cell? ⟨b, off + i * 4, none⟩ = some (.string x.name) ∧ w.cell? ⟨b, off + i * 4 + 1, none⟩ = some (.int .i64 x.ty.k) ∧ w.cell? ⟨b, off + i * 4 + 2, none⟩ = some (.string x.ty.c) ∧ w.cell? ⟨b, off + i * 4 + 3, none⟩ = some (.bool x.vol)) := fun i x hx => by
    obtain ⟨b, off, e, hj⟩ := hfI i x hx
    exact ⟨b, off, e, hj 0 _ rfl, hj 1 _ rfl, hj 2 _ rfl, hj 3 _ rfl⟩
  have HMI : Hid (∀ (i : Nat) (s : Ms), ls[i]? = some s → ∃ b off, ma = some ⟨b, off, none⟩ ∧ ∀ (j : Nat) (u : Value), (msC s)[j]? = some u → w.cell? ⟨b, off + i * 8 + j, none⟩ = some u) := hmI
  clear hpI hfI hmI ham
  unfold maxLen at hk2 hk4 hk6
  unfold ksV
  simp only []
  have b0 := heap_alloc_new w (.cells #[.string c.name, .string c.super, .slice pa c.pool.length pc, .slice fa c.fields.length fc, .slice ma ls.length mc] 28)
  have HW : Hid (Fr no w (w.alloc (.cells #[.string c.name, .string c.super, .slice pa c.pool.length pc, .slice fa c.fields.length fc, .slice ma ls.length mc] 28))) := (Fr.refl no w).alloc _ _
  generalize hW0 : w.alloc (.cells #[.string c.name, .string c.super, .slice pa c.pool.length pc, .slice fa c.fields.length fc, .slice ma ls.length mc] 28) = W at *
  have HB : Hid (∀ w1, Fr no W w1 → w1.cell? ⟨w.heap.size, 0, none⟩ = some (.string c.name) ∧ w1.cell? ⟨w.heap.size, 1, none⟩ = some (.string c.super) ∧ w1.cell? ⟨w.heap.size, 2, none⟩ = some (.slice pa c.pool.length pc) ∧ w1.cell? ⟨w.heap.size, 3, none⟩ = some (.slice fa c.fields.length fc) ∧ w1.cell? ⟨w.heap.size, 4, none⟩ = some (.slice ma ls.length mc)) := fun w1 g => box5 (g.heap b0 (fun f => f))
  obtain ⟨B0, B1, B2, B3, B4⟩ := HB.out W (Fr.refl no _)
  clear b0
  have CH := docCheck_any W ⟨c.name, c.super, ⟨pa, c.pool.length, pc⟩, ⟨fa, c.fields.length, fc⟩, ⟨ma, ls.length, mc⟩⟩ c (HK.out.kept HW.out) hf.f
  unfold ksV at CH
  simp only [] at CH
  by_cases hz : chk c = 0
  case neg =>
    have HE : Hid (ecE c = chk c) := by show _ = _; unfold ecE; rw [if_neg hz]
    have HEB : Hid (ecB c = []) := by show _ = _; unfold ecB; rw [if_neg (fun e => hz e.1)]
    generalize chk c = err at *
    have he1 : ((err : Int) == 0) = false := by simp; omega
    have he2 : ((err : Int) != 0) = true := by simp; omega
    go_enter Tryz.func32, Tryz.ntmps32
    go_wp2_with fail
    refine CH.mono ?_
    rintro e w1 ⟨rfl, f1⟩
    go_wp2_with fail
    go_ret2
    rw [HE.out, HEB.out]
    exact ⟨_, rfl, Own.nil _, HW.out.new f1 (fun _ _ f => f)⟩
  have V := vcl c hz
  have HV : Hid (chk c = 0) := hz
  rw [hz] at CH
  clear hz HK
  have hpl := V.pl
  have hfl := V.fl
  have hml := V.ml
  go_enter Tryz.func32, Tryz.ntmps32
  go_wp2_with fail
  refine CH.mono ?_
  rintro e w1 ⟨rfl, f1⟩
  clear CH B0 B1 B2 B3 B4 hW0
  have hwp : Wp nv W 5 (.slice (some ⟨w1.heap.size, 0, none⟩) 5 5) [76, 79, 79, 77, 1] (w1.alloc (.cells #[.int .u8 76, .int .u8 79, .int .u8 79, .int .u8 77, .int .u8 1] 5)) :=
    ⟨own_mark w1, ⟨(f1.alloc _ _).mono (fun _ _ f => f.elim), fun k hk e => by
      simp only [Value.ownBlock, Option.some.injEq] at e
      have := f1.size
      omega⟩, by simp⟩
  have KC : Hid (∀ b u L w2, Wp nv W b u L w2 → w2.cell? ⟨w.heap.size, 0, none⟩ = some (.string c.name) ∧ w2.cell? ⟨w.heap.size, 1, none⟩ = some (.string c.super) ∧ w2.cell? ⟨w.heap.size, 2, none⟩ = some (.slice pa c.pool.length pc)) := fun b u L w2 h => by
    have := HB.out w2 h.fr
    exact ⟨this.1, this.2.1, this.2.2.1⟩
  go_wp2_with fail
  go_region_held3 (fun w2 => w2.cell? ⟨w.heap.size, 0, none⟩ = some (.string c.name) ∧ w2.cell? ⟨w.heap.size, 1, none⟩ = some (.string c.super) ∧ w2.cell? ⟨w.heap.size, 2, none⟩ = some (.slice pa c.pool.length pc)) (first | exact KC.out _ _ _ _ hwp | exact KC.out _ _ _ _ hwp.drew)
    (first | (go_at_call 83; refine' (wp_text _ _ _).mono _; (any_goals (first | exact hwp | exact hwp.drew | exact hwp.new ((Fr.refl no _).alloc _ _) | exact hwp.drew.new ((Fr.refl no _).alloc _ _))); (any_goals omega); (try (any_goals ((first | exact V.name | exact V.super)))); rintro e w6 ⟨a6, k6, c6, rfl, hwp6, hsp⟩; have hwp := hwp6; clear hwp6) | (go_at_call 82; refine' (wp_num _ _ _).mono _; (any_goals (first | exact hwp | exact hwp.drew | exact hwp.new ((Fr.refl no _).alloc _ _) | exact hwp.drew.new ((Fr.refl no _).alloc _ _))); (any_goals omega); rintro e w6 ⟨a6, k6, c6, rfl, hwp6, hsp⟩; have hwp := hwp6; clear hwp6))
  go_wp2_with fail
  have e : eP1 c 0 = ((([76, 79, 79, 77, 1] ++ enTx c.name) ++ enTx c.super) ++ enc c.pool.length) := by simp [eP1, eP0]
  rw [← e] at hwp
  have hst := hwp.tight (eP1_len c V 0)
  clear hwp hsp f1 e
  go_loopw [5, 6] (fun s i wr => ∃ (j : Nat), i = .int .i64 (j : Int) ∧ j ≤ c.pool.length ∧ Wp nv W 7900 s (eP1 c j) wr) (fun _ i _ => c.pool.length - (intOf i).toNat)
  case atStart => exact ⟨0, rfl, Nat.zero_le _, hst⟩
  case round =>
    clear hst
    obtain ⟨j, rfl, hj, hwp⟩ := hrel
    obtain ⟨uo, un, uc, rfl⟩ := hwp.own.form
    obtain ⟨B0, B1, B2, B3, B4⟩ := HB.out wr hwp.fr
    by_cases hlt : j < c.pool.length
    · obtain ⟨x, hx⟩ : ∃ x, c.pool[j]? = some x := ⟨_, List.getElem?_eq_getElem hlt⟩
      obtain ⟨b, off, rfl, c0', c1', c2', c3', c4'⟩ := HPI.out j _ hx
      have f0 := HW.out.new hwp.fr (fun _ _ f => f)
      have c0 := f0.cell c0' (fun f => f)
      have c1 := f0.cell c1' (fun f => f)
      have c2 := f0.cell c2' (fun f => f)
      have c3 := f0.cell c3' (fun f => f)
      have c4 := f0.cell c4' (fun f => f)
      have A := wp_const hwp (by omega) (V.pool x (List.mem_of_getElem? hx)) (hf.pool x (List.mem_of_getElem? hx))
      have HX : Hid (c.pool[j]? = some x) := hx
      clear c0' c1' c2' c3' c4' f0 hx
      go_wp2_with fail
      refine A.mono ?_
      rintro e w2 ⟨a6, k6, c6, rfl, hwp2, -⟩
      go_wp2_with fail
      go_roundw
      case rel => exact ⟨j + 1, by go_num, by omega, by rw [eP1_next c j x HX.out]; exact hwp2.tight (by rw [← eP1_next c j x HX.out]; exact eP1_len c V (j + 1))⟩
      case measure => simp [intOf]; omega
    · obtain rfl : j = c.pool.length := by omega
      have A := wp_num (n := c.fields.length) hwp (by omega) (by omega)
      go_wp2_with fail
      refine A.mono ?_
      rintro e w2 ⟨a6, k6, c6, rfl, hwp2, -⟩
      clear A hwp B0 B1 B2 B3 B4
      go_wp2_with fail
      have e : eP2 c 0 = eP1 c c.pool.length ++ enc c.fields.length := by simp [eP2]
      rw [← e] at hwp2
      have hst := hwp2.tight (eP2_len c V 0)
      clear hwp2 e
      go_loopw [5, 7] (fun s i wr => ∃ (j : Nat), i = .int .i64 (j : Int) ∧ j ≤ c.fields.length ∧ Wp nv W 8500 s (eP2 c j) wr) (fun _ i _ => c.fields.length - (intOf i).toNat)
      case atStart => exact ⟨0, rfl, Nat.zero_le _, hst⟩
      case round =>
        clear hst
        obtain ⟨j, rfl, hj, hwp⟩ := hrel
        obtain ⟨uo, un, uc, rfl⟩ := hwp.own.form
        obtain ⟨B0, B1, B2, B3, B4⟩ := HB.out wr hwp.fr
        by_cases hlt : j < c.fields.length
        · obtain ⟨⟨fnm, ⟨tk, tc⟩, fv⟩, hx⟩ : ∃ x, c.fields[j]? = some x := ⟨_, List.getElem?_eq_getElem hlt⟩
          obtain ⟨b, off, rfl, c0', c1', c2', c3'⟩ := HFI.out j _ hx
          simp only [] at c0' c1' c2' c3'
          have f0 := HW.out.new hwp.fr (fun _ _ f => f)
          have c3 := f0.cell c3' (fun f => f)
          have hVf := V.fields _ (List.mem_of_getElem? hx)
          have hVn : fnm.size ≤ 20 := hVf.name
          have hVt : VTy ⟨tk, tc⟩ := hVf.ty
          have hjt : (j : Int) < (c.fields.length : Int) := by omega
          have KF : Hid (∀ b1 u L w2, Wp nv W b1 u L w2 → w2.cell? ⟨w.heap.size, 3, none⟩ = some (.slice (some ⟨b, off, none⟩) c.fields.length fc) ∧ w2.cell? ⟨b, off + j * 4, none⟩ = some (.string fnm) ∧ w2.cell? ⟨b, off + j * 4 + 1, none⟩ = some (.int .i64 tk) ∧ w2.cell? ⟨b, off + j * 4 + 2, none⟩ = some (.string tc)) := fun b1 u L w2 h => by
            have g := HW.out.new h.fr (fun _ _ f => f)
            exact ⟨(HB.out w2 h.fr).2.2.2.1, g.cell c0' (fun f => f), g.cell c1' (fun f => f), g.cell c2' (fun f => f)⟩
          have HX : Hid (eP2 c (j + 1) = ((eP2 c j ++ enTx fnm) ++ enTy ⟨tk, tc⟩) ++ [if fv = true then 1 else 0]) := eP2_next c j _ hx
          have HLN : Hid ((eP2 c (j + 1)).length ≤ 8500) := eP2_len c V (j + 1)
          clear c0' c1' c2' c3' f0 hx hVf
          cases fv with
          | true =>
            have HX2 : Hid (eP2 c (j + 1) = ((eP2 c j ++ enTx fnm) ++ enTy ⟨tk, tc⟩) ++ [1]) := by show _ = _; rw [HX.out]; rfl
            clear HX
            go_wp2_with fail
            go_region_held3 (fun w2 => w2.cell? ⟨w.heap.size, 3, none⟩ = some (.slice (some ⟨b, off, none⟩) c.fields.length fc) ∧ w2.cell? ⟨b, off + j * 4, none⟩ = some (.string fnm) ∧ w2.cell? ⟨b, off + j * 4 + 1, none⟩ = some (.int .i64 tk) ∧ w2.cell? ⟨b, off + j * 4 + 2, none⟩ = some (.string tc))
              (first | exact KF.out _ _ _ _ hwp | exact KF.out _ _ _ _ hwp.drew | exact KF.out _ _ _ _ (hwp.new ((Fr.refl no _).alloc _ _)) | exact KF.out _ _ _ _ (hwp.drew.new ((Fr.refl no _).alloc _ _)))
              (first | (go_at_call 83; refine' (wp_text _ _ _).mono _; (any_goals (first | exact hwp | exact hwp.drew | exact hwp.new ((Fr.refl no _).alloc _ _) | exact hwp.drew.new ((Fr.refl no _).alloc _ _))); (any_goals omega); (try (any_goals (exact hVn))); rintro e w6 ⟨a6, k6, c6, rfl, hwp6, hsp⟩; (first | have hby := (Wx.made_drew hwp 1 1 rfl).step hsp | have hby := (Wx.made hwp 1 1 rfl).step hsp | have hby := hby.step hsp | skip); have hwp := hwp6; clear hwp6) | (go_at_call 85; refine' (wp_typ (t := ⟨tk, tc⟩) _ _ _).mono _; (any_goals (first | exact hwp | exact hwp.drew | exact hwp.new ((Fr.refl no _).alloc _ _) | exact hwp.drew.new ((Fr.refl no _).alloc _ _))); (any_goals omega); (try (any_goals (exact hVt))); rintro e w6 ⟨a6, k6, c6, rfl, hwp6, hsp⟩; (first | have hby := (Wx.made_drew hwp 1 1 rfl).step hsp | have hby := (Wx.made hwp 1 1 rfl).step hsp | have hby := hby.step hsp | skip); have hwp := hwp6; clear hwp6) | (refine step_apd _ rfl rfl (.tmp 79) (.tmp 81) rfl _ _ (by simp [Act.eval]) hwp.own _ (by simp [Act.eval]) [1] hby.own.sl.src (by have := hwp.ln; simp only [List.length_cons, List.length_nil]; omega) ?_; intro v7 w7 o7 s7; have hwp := hwp.step o7 s7 (Nat.le_refl _); obtain ⟨a7, k7, c7, rfl⟩ := o7.form) | (refine step_apd _ rfl rfl (.tmp 79) (.tmp 81) rfl _ _ (by simp [Act.eval]) (hwp.new ((Fr.refl no _).alloc _ _)).own _ (by simp [Act.eval]) [1] (Wx.made hwp 1 1 rfl).own.sl.src (by have := hwp.ln; simp only [List.length_cons, List.length_nil]; omega) ?_; intro v7 w7 o7 s7; have hwp := (hwp.new ((Fr.refl no _).alloc _ _)).step o7 s7 (Nat.le_refl _); obtain ⟨a7, k7, c7, rfl⟩ := o7.form))
            all_goals (go_wp2_with fail; go_roundw; (case rel => exact ⟨j + 1, by go_num, by omega, by rw [HX2.out]; exact hwp.tight (by rw [← HX2.out]; exact HLN.out)⟩); (case measure => simp [intOf]; omega))
          | false =>
            have HX2 : Hid (eP2 c (j + 1) = ((eP2 c j ++ enTx fnm) ++ enTy ⟨tk, tc⟩) ++ [0]) := by show _ = _; rw [HX.out]; rfl
            clear HX
            go_wp2_with fail
            go_region_held3 (fun w2 => w2.cell? ⟨w.heap.size, 3, none⟩ = some (.slice (some ⟨b, off, none⟩) c.fields.length fc) ∧ w2.cell? ⟨b, off + j * 4, none⟩ = some (.string fnm) ∧ w2.cell? ⟨b, off + j * 4 + 1, none⟩ = some (.int .i64 tk) ∧ w2.cell? ⟨b, off + j * 4 + 2, none⟩ = some (.string tc))
              (first | exact KF.out _ _ _ _ hwp | exact KF.out _ _ _ _ hwp.drew | exact KF.out _ _ _ _ (hwp.new ((Fr.refl no _).alloc _ _)) | exact KF.out _ _ _ _ (hwp.drew.new ((Fr.refl no _).alloc _ _)))
              (first | (go_at_call 83; refine' (wp_text _ _ _).mono _; (any_goals (first | exact hwp | exact hwp.drew | exact hwp.new ((Fr.refl no _).alloc _ _) | exact hwp.drew.new ((Fr.refl no _).alloc _ _))); (any_goals omega); (try (any_goals (exact hVn))); rintro e w6 ⟨a6, k6, c6, rfl, hwp6, hsp⟩; (first | have hby := (Wx.made_drew hwp 0 0 rfl).step hsp | have hby := (Wx.made hwp 0 0 rfl).step hsp | have hby := hby.step hsp | skip); have hwp := hwp6; clear hwp6) | (go_at_call 85; refine' (wp_typ (t := ⟨tk, tc⟩) _ _ _).mono _; (any_goals (first | exact hwp | exact hwp.drew | exact hwp.new ((Fr.refl no _).alloc _ _) | exact hwp.drew.new ((Fr.refl no _).alloc _ _))); (any_goals omega); (try (any_goals (exact hVt))); rintro e w6 ⟨a6, k6, c6, rfl, hwp6, hsp⟩; (first | have hby := (Wx.made_drew hwp 0 0 rfl).step hsp | have hby := (Wx.made hwp 0 0 rfl).step hsp | have hby := hby.step hsp | skip); have hwp := hwp6; clear hwp6) | (refine step_apd _ rfl rfl (.tmp 79) (.tmp 81) rfl _ _ (by simp [Act.eval]) hwp.own _ (by simp [Act.eval]) [0] hby.own.sl.src (by have := hwp.ln; simp only [List.length_cons, List.length_nil]; omega) ?_; intro v7 w7 o7 s7; have hwp := hwp.step o7 s7 (Nat.le_refl _); obtain ⟨a7, k7, c7, rfl⟩ := o7.form) | (refine step_apd _ rfl rfl (.tmp 79) (.tmp 81) rfl _ _ (by simp [Act.eval]) (hwp.new ((Fr.refl no _).alloc _ _)).own _ (by simp [Act.eval]) [0] (Wx.made hwp 0 0 rfl).own.sl.src (by have := hwp.ln; simp only [List.length_cons, List.length_nil]; omega) ?_; intro v7 w7 o7 s7; have hwp := (hwp.new ((Fr.refl no _).alloc _ _)).step o7 s7 (Nat.le_refl _); obtain ⟨a7, k7, c7, rfl⟩ := o7.form))
            all_goals (go_wp2_with fail; go_roundw; (case rel => exact ⟨j + 1, by go_num, by omega, by rw [HX2.out]; exact hwp.tight (by rw [← HX2.out]; exact HLN.out)⟩); (case measure => simp [intOf]; omega))
        · obtain rfl : j = c.fields.length := by omega
          have HLI := HLL.out
          have A := wp_num (n := ls.length) hwp (by omega) (by omega)
          clear HLI
          go_wp2_with fail
          refine A.mono ?_
          rintro e w2 ⟨a6, k6, c6, rfl, hwp2, -⟩
          clear A hwp B0 B1 B2 B3 B4
          go_wp2_with fail
          have e : eP3 c 0 = eP2 c c.fields.length ++ enc ls.length := by rw [HLL.out]; simp [eP3]
          rw [← e] at hwp2
          have hst := hwp2.tight (eP3_len c V 0)
          clear hwp2 e
          go_loopw [5, 9] (fun s i wr => ∃ (j : Nat), i = .int .i64 (j : Int) ∧ j ≤ ls.length ∧ Wp nv W 60000 s (eP3 c j) wr) (fun _ i _ => ls.length - (intOf i).toNat)
          case atStart => exact ⟨0, rfl, Nat.zero_le _, hst⟩
          case round =>
            clear hst
            obtain ⟨j, rfl, hj, hwp⟩ := hrel
            obtain ⟨B0, B1, B2, B3, B4⟩ := HB.out wr hwp.fr
            by_cases hlt : j < ls.length
            · obtain ⟨m, hx⟩ : ∃ m, c.methods[j]? = some m := ⟨_, List.getElem?_eq_getElem (by have := HLL.out; omega)⟩
              obtain ⟨s, hs⟩ : ∃ s, ls[j]? = some s := ⟨_, List.getElem?_eq_getElem hlt⟩
              have HMT : Hid (MtAt w s m) := HAM.out.2 j s m hs hx
              have VM := V.methods m (List.mem_of_getElem? hx)
              have HX : Hid (eP3 c (j + 1) = eP3 c j ++ enMt m) := eP3_next c j m hx
              have HLN : Hid ((eP3 c (j + 1)).length ≤ 60000) := eP3_len c V (j + 1)
              obtain ⟨ppa, ppc, ca, cc, ha, hc, rfl, ⟨hq1, hq2⟩, ⟨hq3, hq4⟩, ⟨hq5, hq6⟩⟩ := HMT.out.open3
              obtain ⟨b, off, rfl, he⟩ := HMI.out j _ hs
              obtain ⟨uo, un, uc, rfl⟩ := hwp.own.form
              have f0 := HW.out.new hwp.fr (fun _ _ f => f)
              have e0 : wr.cell? ⟨b, off + j * 8, none⟩ = some (.string m.name) := f0.cell (he 0 _ rfl) (fun f => f)
              have e1 : wr.cell? ⟨b, off + j * 8 + 1, none⟩ = some (.slice ppa m.params.length ppc) := f0.cell (he 1 _ rfl) (fun f => f)
              have e2 : wr.cell? ⟨b, off + j * 8 + 2, none⟩ = some (.int .i64 m.ret.k) := f0.cell (he 2 _ rfl) (fun f => f)
              have e3 : wr.cell? ⟨b, off + j * 8 + 3, none⟩ = some (.string m.ret.c) := f0.cell (he 3 _ rfl) (fun f => f)
              have e4 : wr.cell? ⟨b, off + j * 8 + 4, none⟩ = some (.int .i64 m.lo) := f0.cell (he 4 _ rfl) (fun f => f)
              have e5 : wr.cell? ⟨b, off + j * 8 + 5, none⟩ = some (.int .i64 m.st) := f0.cell (he 5 _ rfl) (fun f => f)
              have e6 : wr.cell? ⟨b, off + j * 8 + 6, none⟩ = some (.slice ca m.code.length cc) := f0.cell (he 6 _ rfl) (fun f => f)
              have e7 : wr.cell? ⟨b, off + j * 8 + 7, none⟩ = some (.slice ha m.hands.length hc) := f0.cell (he 7 _ rfl) (fun f => f)
              have hjt : (j : Int) < (ls.length : Int) := by omega
              have hpI := HMT.out.p
              have hhI := HMT.out.h
              have hcI := HMT.out.c
              simp only [] at hpI hhI hcI
              have HCI : Hid (SlI w (.slice ca m.code.length cc) m.code) := hcI
              obtain ⟨ad4, cp4, q4, -, -, hpI⟩ := hpI
              simp only [Value.slice.injEq, true_and] at q4
              obtain ⟨rfl, rfl⟩ := q4
              obtain ⟨ad5, cp5, q5, -, -, hhI⟩ := hhI
              simp only [Value.slice.injEq, true_and] at q5
              obtain ⟨rfl, rfl⟩ := q5
              have HPP : Hid (∀ (i : Nat) (t : Ty), m.params[i]? = some t → ∃ b off, ppa = some ⟨b, off, none⟩ ∧ w.cell? ⟨b, off + i * 2, none⟩ = some (.int .i64 t.k) ∧ w.cell? ⟨b, off + i * 2 + 1, none⟩ = some (.string t.c)) := fun i t ht => by
                obtain ⟨b, off, e, hj⟩ := hpI i t ht
                exact ⟨b, off, e, hj 0 _ rfl, hj 1 _ rfl⟩
              have HHH : Hid (∀ (i : Nat) (x : Hd), m.hands[i]? = some x → ∃ b off, ha = some ⟨b, off, none⟩ ∧ w.cell? ⟨b, off + i * 5, none⟩ = some (.int .i64 x.fr) ∧ w.cell? ⟨b, off + i * 5 + 1, none⟩ = some (.int .i64 x.to) ∧ w.cell? ⟨b, off + i * 5 + 2, none⟩ = some (.int .i64 x.tg) ∧ w.cell? ⟨b, off + i * 5 + 3, none⟩ = some (.int .i64 x.cl) ∧ w.cell? ⟨b, off + i * 5 + 4, none⟩ = some (.int .i64 x.dp)) := fun i x hx => by
                obtain ⟨b, off, e, hj⟩ := hhI i x hx
                exact ⟨b, off, e, hj 0 _ rfl, hj 1 _ rfl, hj 2 _ rfl, hj 3 _ rfl, hj 4 _ rfl⟩
              clear hpI hhI hcI he hs hx f0 HMT
              unfold maxLen at hq2 hq4 hq6
              have hm1 := VM.pl
              have hm2 := VM.hl
              have hm3 := VM.cl
              have hm4 := ptB_len m.code VM.cl
              have hm5 := VM.lo
              have hm6 := VM.st
              have hVnm := VM.name
              have hVrt := VM.ret
              obtain ⟨lon, hlon⟩ : ∃ n : Nat, m.lo = (n : Int) := ⟨m.lo.toNat, by omega⟩
              obtain ⟨ston, hston⟩ : ∃ n : Nat, m.st = (n : Int) := ⟨m.st.toNat, by omega⟩
              have hl32 : lon ≤ 32 := by omega
              have hs64 : ston ≤ 64 := by omega
              have HM2 : Hid (∀ i, eM2 (eP3 c j) m i = ((((((eM1 (eP3 c j) m m.params.length ++ enTy m.ret) ++ enc lon) ++ enc ston) ++ enc (ptB m.code).length) ++ ptB m.code) ++ enc m.hands.length) ++ (m.hands.take i).flatMap enHd) := fun i => by unfold eM2; rw [hlon, hston]; rfl
              have hwB := hwp.new ((Fr.refl no wr).alloc #[.string m.name, .slice ppa m.params.length ppc, .int .i64 m.ret.k, .string m.ret.c, .int .i64 m.lo, .int .i64 m.st, .slice ca m.code.length cc, .slice ha m.hands.length hc] 53)
              have hbB := heap_alloc_new wr (.cells #[.string m.name, .slice ppa m.params.length ppc, .int .i64 m.ret.k, .string m.ret.c, .int .i64 m.lo, .int .i64 m.st, .slice ca m.code.length cc, .slice ha m.hands.length hc] 53)
              have hmade := hwp.made
              rw [hlon, hston] at hbB hwB
              rw [hlon] at e4
              rw [hston] at e5
              have HL2 : Hid (m.lo = (lon : Int) ∧ m.st = (ston : Int)) := ⟨hlon, hston⟩
              clear hlon hston hm5 hm6
              go_wp2_with fail
              clear e0 e1 e2 e3 e4 e5 e6 e7 B0 B1 B2 B3 B4
              generalize hWB : wr.alloc (.cells #[.string m.name, .slice ppa m.params.length ppc, .int .i64 m.ret.k, .string m.ret.c, .int .i64 (lon : Int), .int .i64 (ston : Int), .slice ca m.code.length cc, .slice ha m.hands.length hc] 53) = wB at *
              clear hWB
              generalize hBB : wr.heap.size = qB at *
              have HWB : Hid (Wp nv W 60000 (.slice uo un uc) (eP3 c j) wB) := hwB
              have KB : Hid (∀ b1 u L w2, Wp (.slice uo un uc) wB b1 u L w2 → w2.cell? ⟨qB, 0, none⟩ = some (.string m.name) ∧ w2.cell? ⟨qB, 1, none⟩ = some (.slice ppa m.params.length ppc) ∧ w2.cell? ⟨qB, 2, none⟩ = some (.int .i64 m.ret.k) ∧ w2.cell? ⟨qB, 3, none⟩ = some (.string m.ret.c) ∧ w2.cell? ⟨qB, 4, none⟩ = some (.int .i64 (lon : Int)) ∧ w2.cell? ⟨qB, 5, none⟩ = some (.int .i64 (ston : Int)) ∧ w2.cell? ⟨qB, 6, none⟩ = some (.slice ca m.code.length cc) ∧ w2.cell? ⟨qB, 7, none⟩ = some (.slice ha m.hands.length hc)) := fun b1 u L w2 h => box8 (h.heap hbB hmade)
              have FWB : Hid (∀ b1 u L w2, Wp (.slice uo un uc) wB b1 u L w2 → Fr no w w2) := fun b1 u L w2 h => HW.out.new (HWB.out.far h).fr (fun _ _ f => f)
              replace hwp := hwB.near
              have hB6 := hwp.ln
              have HM1 : Hid (∀ i, (eM1 (eP3 c j) m i).length ≤ 61000) := fun i => eM1_len _ m hB6 VM i
              have HM3 : Hid (∀ i, (eM2 (eP3 c j) m i).length ≤ 66000) := fun i => eM2_len _ m hB6 VM i
              clear hwB hbB hmade hB6
              go_region_held3 (fun w2 => w2.cell? ⟨qB, 0, none⟩ = some (.string m.name) ∧ w2.cell? ⟨qB, 1, none⟩ = some (.slice ppa m.params.length ppc))
                (first | exact ⟨(KB.out _ _ _ _ hwp).1, (KB.out _ _ _ _ hwp).2.1⟩ | exact ⟨(KB.out _ _ _ _ hwp.drew).1, (KB.out _ _ _ _ hwp.drew).2.1⟩)
                (first | (go_at_call 83; refine' (wp_text _ _ _).mono _; (any_goals (first | exact hwp | exact hwp.drew | exact hwp.new ((Fr.refl no _).alloc _ _) | exact hwp.drew.new ((Fr.refl no _).alloc _ _))); (any_goals omega); (try (any_goals (exact hVnm))); rintro e w6 ⟨a6, k6, c6, rfl, hwp6, hsp⟩; have hwp := hwp6; clear hwp6) | (go_at_call 82; refine' (wp_num _ _ _).mono _; (any_goals (first | exact hwp | exact hwp.drew | exact hwp.new ((Fr.refl no _).alloc _ _) | exact hwp.drew.new ((Fr.refl no _).alloc _ _))); (any_goals omega); rintro e w6 ⟨a6, k6, c6, rfl, hwp6, hsp⟩; have hwp := hwp6; clear hwp6))
              go_wp2_with fail
              have e : eM1 (eP3 c j) m 0 = (eP3 c j ++ enTx m.name) ++ enc m.params.length := by simp [eM1]
              rw [← e] at hwp
              have hst := hwp.tight (HM1.out 0)
              clear hwp hsp e
              go_loopw [5, 11] (fun s i wr => ∃ (i' : Nat), i = .int .i64 (i' : Int) ∧ i' ≤ m.params.length ∧ Wp (.slice uo un uc) wB 61000 s (eM1 (eP3 c j) m i') wr) (fun _ i _ => m.params.length - (intOf i).toNat)
              case atStart => exact ⟨0, rfl, Nat.zero_le _, hst⟩
              case round =>
                clear hst
                obtain ⟨i, rfl, hi, hwp⟩ := hrel
                obtain ⟨vo, vn, vc, rfl⟩ := hwp.own.form
                obtain ⟨C0, C1, C2, C3, C4, C5, C6, C7⟩ := KB.out _ _ _ _ hwp
                by_cases hit : i < m.params.length
                · obtain ⟨⟨tk, tc⟩, ht⟩ : ∃ t, m.params[i]? = some t := ⟨_, List.getElem?_eq_getElem hit⟩
                  obtain ⟨tb, toff, rfl, t0', t1'⟩ := HPP.out i _ ht
                  have f0 := FWB.out _ _ _ _ hwp
                  have t0 := f0.cell t0' (fun f => f)
                  have t1 := f0.cell t1' (fun f => f)
                  simp only [] at t0 t1
                  have A := wp_typ (t := ⟨tk, tc⟩) hwp (by omega) (VM.params _ (List.mem_of_getElem? ht))
                  simp only [] at A
                  have HT : Hid (eM1 (eP3 c j) m (i + 1) = eM1 (eP3 c j) m i ++ enTy ⟨tk, tc⟩) := eM1_next _ m i _ ht
                  clear t0' t1' f0 ht
                  go_wp2_with fail
                  refine A.mono ?_
                  rintro e w2 ⟨a6, k6, c6, rfl, hwp2, -⟩
                  go_wp2_with fail
                  go_roundw
                  case rel => exact ⟨i + 1, by go_num, by omega, by rw [HT.out]; exact hwp2.tight (by rw [← HT.out]; exact HM1.out (i + 1))⟩
                  case measure => simp [intOf]; omega
                · obtain rfl : i = m.params.length := by omega
                  have PU := docPutF_any wr (.slice ca m.code.length cc) m.code (HCI.out.kept (FWB.out _ _ _ _ hwp))
                  go_wp2_with fail
                  refine PU.mono ?_
                  rintro e w2 ⟨vx, rfl, ox, fx, nx⟩
                  have hx : Wx (.slice vo vn vc) vx (ptB m.code) w2 := ⟨ox, fun k hk e => by
                    have := hwp.own.lt e
                    exact nx k this hk⟩
                  replace hwp := hwp.new fx
                  obtain ⟨xo, xc, rfl, -⟩ := ox.sl.shape
                  clear PU ox nx fx C0 C1 C2 C3 C4 C5 C6 C7
                  generalize hXN : (ptB m.code).length = xn at *
                  go_wp2_with fail
                  go_region_held3 (fun w2 => w2.cell? ⟨qB, 2, none⟩ = some (.int .i64 m.ret.k) ∧ w2.cell? ⟨qB, 3, none⟩ = some (.string m.ret.c) ∧ w2.cell? ⟨qB, 4, none⟩ = some (.int .i64 (lon : Int)) ∧ w2.cell? ⟨qB, 5, none⟩ = some (.int .i64 (ston : Int)))
                    (first | exact ⟨(KB.out _ _ _ _ hwp).2.2.1, (KB.out _ _ _ _ hwp).2.2.2.1, (KB.out _ _ _ _ hwp).2.2.2.2.1, (KB.out _ _ _ _ hwp).2.2.2.2.2.1⟩ | exact ⟨(KB.out _ _ _ _ hwp.drew).2.2.1, (KB.out _ _ _ _ hwp.drew).2.2.2.1, (KB.out _ _ _ _ hwp.drew).2.2.2.2.1, (KB.out _ _ _ _ hwp.drew).2.2.2.2.2.1⟩)
                    (first | (go_at_call 85; refine' (wp_typ (t := m.ret) _ _ _).mono _; (any_goals (first | exact hwp | exact hwp.drew | exact hwp.new ((Fr.refl no _).alloc _ _) | exact hwp.drew.new ((Fr.refl no _).alloc _ _))); (any_goals omega); (try (any_goals (exact hVrt))); rintro e w6 ⟨a6, k6, c6, rfl, hwp6, hsp⟩; have hx := (by first | exact hx.step hsp | exact (hx.new (Fr.refl no _).drew).step hsp : Wx (.slice a6 k6 c6) _ (ptB m.code) w6); have hwp := hwp6; clear hwp6) | (go_at_call 82; refine' (wp_num _ _ _).mono _; (any_goals (first | exact hwp | exact hwp.drew | exact hwp.new ((Fr.refl no _).alloc _ _) | exact hwp.drew.new ((Fr.refl no _).alloc _ _))); (any_goals omega); rintro e w6 ⟨a6, k6, c6, rfl, hwp6, hsp⟩; have hx := (by first | exact hx.step hsp | exact (hx.new (Fr.refl no _).drew).step hsp : Wx (.slice a6 k6 c6) _ (ptB m.code) w6); have hwp := hwp6; clear hwp6))
                  go_wp2_with fail
                  go_region_held3 (fun w2 => w2.cell? ⟨qB, 7, none⟩ = some (.slice ha m.hands.length hc))
                    (first | exact (KB.out _ _ _ _ hwp).2.2.2.2.2.2.2 | exact (KB.out _ _ _ _ hwp.drew).2.2.2.2.2.2.2)
                    (first | (refine step_apd _ rfl rfl (.tmp 141) (.tmp 142) rfl _ _ (by simp [Act.eval]) hwp.drew.own _ (by simp [Act.eval]) (ptB m.code) (hx.new (Fr.refl no _).drew).own.sl.src (by have := hwp.ln; rw [hXN]; omega) ?_; intro v7 w7 o7 s7; have hwp := hwp.drew.step (b' := 70000) o7 s7 (by have := hwp.ln; rw [List.length_append, hXN]; omega); obtain ⟨a7, k7, c7, rfl⟩ := o7.form) | (go_at_call 82; refine' (wp_num _ _ _).mono _; (any_goals (first | exact hwp | exact hwp.drew | exact hwp.new ((Fr.refl no _).alloc _ _) | exact hwp.drew.new ((Fr.refl no _).alloc _ _))); (any_goals omega); rintro e w6 ⟨a6, k6, c6, rfl, hwp6, hsp⟩; have hwp := hwp6; clear hwp6))
                  go_wp2_with fail
                  have e : eM2 (eP3 c j) m 0 = ((((((eM1 (eP3 c j) m m.params.length ++ enTy m.ret) ++ enc lon) ++ enc ston) ++ enc xn) ++ ptB m.code) ++ enc m.hands.length) := by rw [HM2.out, ← hXN]; simp
                  rw [← e] at hwp
                  have hst := hwp.tight (HM3.out 0)
                  clear hwp hsp e hx s7 o7
                  go_loopw [5, 14] (fun s i wr => ∃ (i' : Nat), i = .int .i64 (i' : Int) ∧ i' ≤ m.hands.length ∧ Wp (.slice uo un uc) wB 66000 s (eM2 (eP3 c j) m i') wr) (fun _ i _ => m.hands.length - (intOf i).toNat)
                  case atStart => exact ⟨0, rfl, Nat.zero_le _, hst⟩
                  case round =>
                    clear hst
                    obtain ⟨i, rfl, hi, hwp⟩ := hrel
                    obtain ⟨vo, vn, vc, rfl⟩ := hwp.own.form
                    obtain ⟨C0, C1, C2, C3, C4, C5, C6, C7⟩ := KB.out _ _ _ _ hwp
                    by_cases hit : i < m.hands.length
                    · obtain ⟨⟨fr, to, tg, cl, dp⟩, ht⟩ : ∃ t, m.hands[i]? = some t := ⟨_, List.getElem?_eq_getElem hit⟩
                      obtain ⟨tb, toff, rfl, t0', t1', t2', t3', t4'⟩ := HHH.out i _ ht
                      have f0 := FWB.out _ _ _ _ hwp
                      have t0 := f0.cell t0' (fun f => f)
                      have t1 := f0.cell t1' (fun f => f)
                      have t2 := f0.cell t2' (fun f => f)
                      have t3 := f0.cell t3' (fun f => f)
                      have t4 := f0.cell t4' (fun f => f)
                      simp only [] at t0 t1 t2 t3 t4
                      have HT := eM2_next (eP3 c j) m i _ ht
                      simp only [] at HT
                      obtain ⟨v1, v2, v3, v4, v5⟩ := VM.hands _ (List.mem_of_getElem? ht)
                      simp only [] at v1 v2 v3 v4 v5
                      obtain ⟨n1, rfl⟩ : ∃ n : Nat, fr = (n : Int) := ⟨fr.toNat, by omega⟩
                      obtain ⟨n2, rfl⟩ : ∃ n : Nat, to = (n : Int) := ⟨to.toNat, by omega⟩
                      obtain ⟨n3, rfl⟩ : ∃ n : Nat, tg = (n : Int) := ⟨tg.toNat, by omega⟩
                      obtain ⟨n4, hn4⟩ : ∃ n : Nat, cl + 1 = (n : Int) := ⟨(cl + 1).toNat, by omega⟩
                      obtain ⟨n5, rfl⟩ : ∃ n : Nat, dp = (n : Int) := ⟨dp.toNat, by omega⟩
                      rw [hn4] at HT
                      simp only [Int.toNat_natCast] at HT
                      have HT : Hid _ := HT
                      have hwcl : IntKind.i64.wrap (cl + 1) = (n4 : Int) := by rw [hn4]; simp [IntKind.wrap, IntKind.signed, IntKind.bits]; omega
                      have hn4' : n4 ≤ 1000 := by omega
                      clear hn4 v4 t0' t1' t2' t3' t4' f0 ht
                      have hwH := hwp.new ((Fr.refl no wr).alloc #[.int .i64 (n1 : Int), .int .i64 (n2 : Int), .int .i64 (n3 : Int), .int .i64 cl, .int .i64 (n5 : Int)] 59)
                      have hbH := heap_alloc_new wr (.cells #[.int .i64 (n1 : Int), .int .i64 (n2 : Int), .int .i64 (n3 : Int), .int .i64 cl, .int .i64 (n5 : Int)] 59)
                      have hmH := hwp.made
                      go_wp2_with fail
                      clear t0 t1 t2 t3 t4 C0 C1 C2 C3 C4 C5 C6 C7
                      generalize hWH : wr.alloc (.cells #[.int .i64 (n1 : Int), .int .i64 (n2 : Int), .int .i64 (n3 : Int), .int .i64 cl, .int .i64 (n5 : Int)] 59) = wH at *
                      clear hWH
                      generalize hHH : wr.heap.size = qH at *
                      have HWH : Hid (Wp (.slice uo un uc) wB 66000 (.slice vo vn vc) (eM2 (eP3 c j) m i) wH) := hwH
                      have KH : Hid (∀ b1 u L w2, Wp (.slice vo vn vc) wH b1 u L w2 → w2.cell? ⟨qH, 0, none⟩ = some (.int .i64 (n1 : Int)) ∧ w2.cell? ⟨qH, 1, none⟩ = some (.int .i64 (n2 : Int)) ∧ w2.cell? ⟨qH, 2, none⟩ = some (.int .i64 (n3 : Int)) ∧ w2.cell? ⟨qH, 3, none⟩ = some (.int .i64 cl) ∧ w2.cell? ⟨qH, 4, none⟩ = some (.int .i64 (n5 : Int))) := fun b1 u L w2 h => box5 (h.heap hbH hmH)
                      replace hwp := hwH.near
                      clear hwH hbH hmH
                      go_region_held3 (fun w2 => w2.cell? ⟨qH, 0, none⟩ = some (.int .i64 (n1 : Int)) ∧ w2.cell? ⟨qH, 1, none⟩ = some (.int .i64 (n2 : Int)) ∧ w2.cell? ⟨qH, 2, none⟩ = some (.int .i64 (n3 : Int)) ∧ w2.cell? ⟨qH, 3, none⟩ = some (.int .i64 cl) ∧ w2.cell? ⟨qH, 4, none⟩ = some (.int .i64 (n5 : Int)))
                        (first | exact KH.out _ _ _ _ hwp | exact KH.out _ _ _ _ hwp.drew)
                        (first | (go_at_call 82; refine' (wp_num _ _ _).mono _; (any_goals (first | exact hwp | exact hwp.drew | exact hwp.new ((Fr.refl no _).alloc _ _) | exact hwp.drew.new ((Fr.refl no _).alloc _ _))); (any_goals omega); rintro e w6 ⟨a6, k6, c6, rfl, hwp6, hsp⟩; have hwp := hwp6; clear hwp6))
                      go_wp2_with fail
                      go_roundw
                      case rel => exact ⟨i + 1, by go_num, by omega, by rw [HT.out]; exact (HWH.out.far hwp).tight (by rw [← HT.out]; exact HM3.out (i + 1))⟩
                      case measure => simp [intOf]; omega
                    · obtain rfl : i = m.hands.length := by omega
                      have hfin := HWB.out.far hwp
                      rw [eM2_end, ← HX.out] at hfin
                      clear hwp
                      go_wp2_with fail
                      go_roundw
                      case rel => exact ⟨j + 1, by go_num, by omega, hfin.tight HLN.out⟩
                      case measure => simp [intOf]; omega
            · obtain rfl : j = ls.length := by omega
              rw [HLL.out, eP3_end] at hwp
              obtain ⟨uo, uc, rfl, -⟩ := hwp.own.sl.shape
              have HFI2 : Hid (Fr no w wr) := HW.out.new hwp.fr (fun _ _ f => f)
              have HOWN : Hid (Own wr (.slice uo (enCl c).length uc) (enCl c)) := hwp.own
              have hlen := hwp.ln
              clear hwp
              by_cases hbig : 20000 < (enCl c).length
              · have HE : Hid (ecE c = 32) := by show _ = _; unfold ecE; rw [if_pos HV.out, if_pos hbig]
                have HEB : Hid (ecB c = []) := by show _ = _; unfold ecB; rw [if_neg (fun e => by omega)]
                generalize (enCl c).length = n at *
                have hb' : 20000 < (n : Int) := by omega
                go_wp2_with fail
                go_ret2
                rw [HE.out, HEB.out]
                exact ⟨_, rfl, Own.nil _, HFI2.out⟩
              · have HE : Hid (ecE c = 0) := by show _ = _; unfold ecE; rw [if_pos HV.out, if_neg hbig]
                have HEB : Hid (ecB c = enCl c) := by show _ = _; unfold ecB; rw [if_pos ⟨HV.out, by omega⟩]
                generalize (enCl c).length = n at *
                have hb' : ¬ 20000 < (n : Int) := by omega
                go_wp2_with fail
                go_ret2
                rw [HE.out, HEB.out]
                exact ⟨_, rfl, HOWN.out, HFI2.out⟩
end Go.Proofs.YthncdbobjeeeaaaGreatDoor

