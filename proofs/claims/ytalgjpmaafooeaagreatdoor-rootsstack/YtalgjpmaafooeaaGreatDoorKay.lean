/- Whether the locks fit at all instructions that are reached. -/
import Derived.Test.YtalgjpmaafooeaaGreatDoorKax
namespace Go.Proofs.YtalgjpmaafooeaaGreatDoor
open Go.ChangeShapes Go.WideShapes Go.ChangeAt Go.RowKit
open H (ix NewV)
def fitsP (cd : List (Int × Int)) : Nat → Wk → Option (Bool × Wk)
 | 0, _ => none
 | n + 1, s =>
  match s.W.getLast? with
  | none => some (true, s)
  | some a =>
   if 0 ≤ a ∧ a.toNat < cd.length ∧ okW cd a.toNat ⟨s.A, s.R, s.W.dropLast⟩ then
    if (passP cd a.toNat ⟨s.A, s.R, s.W.dropLast⟩).1 = false then some (passP cd a.toNat ⟨s.A, s.R, s.W.dropLast⟩)
    else fitsP cd n (passP cd a.toNat ⟨s.A, s.R, s.W.dropLast⟩).2
   else none
theorem ownJ_take {α : Type} {K : H.El α} {w : World} {q : Option Addr} {n cap : Nat} {l : List α} (h : H.OwnG K w (.slice q n cap) l) (k : Nat) (hk : k ≤ l.length) : H.OwnG K w (.slice q k cap) (l.take k) := by
 have hlen : (l.take k).length = k := by rw [List.length_take]; omega
 refine ⟨by rw [H.cg_length]; omega, ?_⟩
 rcases h.2 with ⟨e, h0⟩ | ⟨g, cap', cur, e, hb, hg, hn, hm, hs, ht⟩
 · simp only [Value.slice.injEq] at e
   obtain ⟨rfl, rfl, rfl⟩ := e
   exact .inl ⟨by rw [show k = 0 by omega], by rw [hlen]; omega⟩
 · simp only [Value.slice.injEq] at e
   obtain ⟨rfl, rfl, rfl⟩ := e
   refine .inr ⟨g, cap, cur, by rw [hlen], hb, hg, by rw [hlen]; omega, hm, hs, ?_⟩
   rw [hlen]
   have h1 : (H.cg K l).take (k * 1) = H.cg K (l.take k) := by
    unfold H.cg
    rw [Nat.mul_one, List.map_take]
   rw [← h1, ← ht, List.take_take, Nat.min_eq_left (Nat.mul_le_mul_right _ hk)]
def FitAt (w0 : World) (f S C c : Nat) (cd : List (Int × Int)) (res : Bool × Wk) (n : Nat) (a : Act) (wr : World) : Prop :=
 ∃ (s : Wk) (u3 u4 u5 u6 u7 u8 u9 u10 u11 u12 u13 u14 u15 u16 u17 u18 u19 u20 u21 u22 u23 u24 u25 u26 u27 u28 u29 u30 u31 u32 u33 u34 u35 u36 u37 u38 u39 : Value), a = { tmps := #[.pointer (some ⟨f, 0, none⟩), undef, .bool false, u3, u4, u5, u6, u7, u8, u9, u10, u11, u12, u13, u14, u15, u16, u17, u18, u19, u20, u21, u22, u23, u24, u25, u26, u27, u28, u29, u30, u31, u32, u33, u34, u35, u36, u37, u38, u39], defers := [] } ∧ fitsP cd n s = some res ∧ WkAt w0 wr f S C c cd s
set_option maxRecDepth 100000 in
set_option maxHeartbeats 8000000 in
theorem fits_any (w0 w : World) (f S C c : Nat) (cd : List (Int × Int)) (s0 : Wk) (KW : WkAt w0 w f S C c cd s0) (hs0 : s0.W.length ≤ 900) (fuel : Nat) (res : Bool × Wk) (hres : fitsP cd fuel (comeP 0 [] s0).2 = some res) :
 Calls Tryz.prog 32 #[.pointer (some ⟨f, 0, none⟩)] w fun e w' => e = .returned (.bool res.1) ∧ WkAt w0 w' f S C c cd res.2 := by
 have C0 := come_any w0 w f S C c cd s0 KW 0 KW.few.1 [] (by decide) (by omega)
 have HR : Hid _ := hres
 clear KW hres
 generalize (comeP 0 [] s0).1 = b0 at C0
 generalize (comeP 0 [] s0).2 = s1 at C0 HR
 have HC : Hid (Calls Tryz.prog 59 #[.pointer (some ⟨f, 0, none⟩), .int .i64 0, .agg #[.int .i64 0, .int .i64 0, .int .i64 0, .int .i64 0, .int .i64 0, .int .i64 0, .int .i64 0]] w fun e w' => e = .returned (.bool b0) ∧ WkAt w0 w' f S C c cd s1 ∧ Fr (Ti f S C w) w w') := C0
 clear C0
 go_enter Tryz.func32, Tryz.ntmps32
 go_wp2_with fail
 refine wp_label_fuel 0 (FitAt w0 f S C c cd res) rfl ?_ ?_
 · intro KK h0 hr hn'
   go_wp2_with fail
   refine HC.out.mono ?_
   rintro e w1 ⟨rfl, kw1, -⟩
   go_wp2_with fail
   go_step3
   rename_i hk
   exact hk _ _ (h0 fuel _ _ ⟨s1, _, _, _, _, _, _, _, _, _, _, _, _, _, _, _, _, _, _, _, _, _, _, _, _, _, _, _, _, _, _, _, _, _, _, _, _, _, rfl, HR.out, kw1⟩)
 · rintro n a' wr ⟨s, u3, u4, u5, u6, u7, u8, u9, u10, u11, u12, u13, u14, u15, u16, u17, u18, u19, u20, u21, u22, u23, u24, u25, u26, u27, u28, u29, u30, u31, u32, u33, u34, u35, u36, u37, u38, u39, rfl, hs, KW⟩ KK hj hr hn'
   obtain ⟨a0, a1, a2, a3, a4, a5, cs, hq, hc, v, E, hsl, hv, hvc⟩ := KW.fb
   obtain ⟨vo, vc, rfl⟩ := hv.form
   have c10 : wr.cell? ⟨f, 10, none⟩ = some (.slice vo s.W.length vc) := cell_at (o := 10) E
   have HKW : Hid _ := KW
   cases n with
   | zero => simp [fitsP] at hs
   | succ n =>
    unfold fitsP at hs
    cases hl : s.W.getLast? with
    | none =>
     rw [hl] at hs
     simp only [Option.some.injEq] at hs
     subst hs
     have hw0 : s.W.length = 0 := by rw [List.getLast?_eq_none_iff] at hl; rw [hl]; rfl
     rw [hw0] at c10
     clear E hsl hv hvc KW
     go_wp2_with fail
     refine hr _ _ ?_
     go_ret
     exact ⟨rfl, HKW.out⟩
    | some x =>
     rw [hl] at hs
     simp only at hs
     by_cases hok : 0 ≤ x ∧ x.toNat < cd.length ∧ okW cd x.toNat ⟨s.A, s.R, s.W.dropLast⟩
     · rw [if_pos hok] at hs
       obtain ⟨m, hm⟩ : ∃ m, s.W.length = m + 1 := by
        cases hW : s.W with
        | nil => rw [hW] at hl; simp at hl
        | cons y l => exact ⟨l.length, rfl⟩
       obtain ⟨i, rfl⟩ : ∃ i : Nat, x = (i : Int) := ⟨x.toNat, by omega⟩
       have hlast : s.W[m]? = some (i : Int) := by
        rw [List.getLast?_eq_getElem?, hm] at hl
        exact hl
       rw [Int.toNat_natCast] at hs hok
       have hdl : s.W.dropLast = s.W.take m := by rw [List.dropLast_eq_take, hm]; rfl
       rw [hm] at c10 hv hvc E
       -- what waits, cut
       obtain ⟨wb, wo, rfl, clast⟩ : ∃ wb wo, vo = some ⟨wb, wo, none⟩ ∧ wr.cell? ⟨wb, wo + m, none⟩ = some (.int .i64 (i : Int)) := by
        obtain ⟨ad, cap, e, -, -, -, hit⟩ := hv.sl
        simp only [Value.slice.injEq] at e
        obtain ⟨rfl, -, -⟩ := e
        obtain ⟨bb, off, e, hcc⟩ := hit m _ hlast
        exact ⟨bb, off, e, hcc⟩
       have hcap : m ≤ vc := by
        rcases hv.2 with ⟨e, h0⟩ | ⟨g, cap', cur, e, hb, hg, hn, _⟩
        · simp at e
        · simp only [Value.slice.injEq] at e
          omega
       have hmm : m ≤ 1000000 := by
        have := hok.2.2.1
        simp only [hdl, List.length_take] at this
        omega
       have KW2 : WkAt w0 (wr.setCell ⟨f, 10, none⟩ (.slice (some ⟨wb, wo, none⟩) m vc)) f S C c cd ⟨s.A, s.R, s.W.dropLast⟩ := by
        have f4 : Fr (fun k => k = f) wr (wr.setCell ⟨f, 10, none⟩ (.slice (some ⟨wb, wo, none⟩) m vc)) := (Fr.refl (fun k => k = f) wr).setCell (p := ⟨f, 10, none⟩) (fun _ => rfl) _
        have hlt := KW.lt
        have hbs := KW.bs
        refine ⟨⟨a0, a1, a2, a3, a4, a5, cs, hq, hc, _, set_at E, hsl, ?_, ?_⟩, KW.A.kept f4 (fun k hk e => by simp [Value.ownBlock] at hk; omega), KW.R.kept f4 (fun k hk e => by simp [Value.ownBlock] at hk; omega), KW.la, KW.lr, KW.ha, KW.base.new f4 (fun k hk e => by omega), hbs, ?_, KW.tr, KW.few⟩
        · rw [hdl]
          exact (ownJ_take hv m (by omega)).kept f4 (fun k hk e => by have := hvc k hk; omega)
        · intro g hg
          exact hvc g hg
        · have := f4.size
          omega
       have fz := frozen_at (o := 10) E
       have PS := pass_any w0 _ f S C c cd _ KW2 i hok.2.1 hok.2.2
       generalize passP cd i ⟨s.A, s.R, s.W.dropLast⟩ = r at *
       obtain ⟨rb, rs⟩ := r
       simp only at hs PS
       have HS : Hid _ := hs
       clear E hsl hv hvc KW KW2 hok hs hdl hlast hl HKW
       generalize hW2 : wr.setCell ⟨f, 10, none⟩ (.slice (some ⟨wb, wo, none⟩) m vc) = W2 at *
       cases rb with
       | false =>
        go_wp2_with fail
        refine PS.mono ?_
        rintro e w3 ⟨rfl, kw3⟩
        go_wp2_with fail
        refine hr _ _ ?_
        go_ret
        have : (false, rs) = res := by simpa using HS.out
        subst this
        exact ⟨rfl, kw3⟩
       | true =>
        go_wp2_with fail
        refine PS.mono ?_
        rintro e w3 ⟨rfl, kw3⟩
        go_wp2_with fail
        refine wp_goto ?_
        have : fitsP cd n rs = some res := by simpa using HS.out
        exact hj n _ _ (Nat.lt_succ_self n) ⟨rs, _, _, _, _, _, _, _, _, _, _, _, _, _, _, _, _, _, _, _, _, _, _, _, _, _, _, _, _, _, _, _, _, _, _, _, _, _, rfl, this, kw3⟩
     · rw [if_neg hok] at hs
       simp at hs
end Go.Proofs.YtalgjpmaafooeaaGreatDoor
/- Method: the states of main, with the locks at each instruction. -/
namespace Go.Proofs.YtalgjpmaafooeaaGreatDoor
open Go.ChangeShapes Go.WideShapes Go.ChangeAt Go.RowKit
open H (ix NewV)
def lockE (e : Int) (b : Bool) : Int := if e ≠ 0 then e else if b = false then 90 else 0
def LocksAt (w : World) (S k : Nat) (A : List (List Int)) : Prop := ∀ j, j < k → ∀ h, A[j]? = some h → ∃ u, w.cell? ⟨S, j * 4 + 3, none⟩ = some u ∧ H.OwnG elJ w u h
theorem Fl.lock {w : World} {S C c n : Nat} {xs : List Stt} {ch : List Bool} (h : Fl w S C c n xs ch) {i : Nat} (hi : i < n) (a : Option Addr) (m k : Nat) : Fl (w.setCell ⟨S, i * 4 + 3, none⟩ (.slice a m k)) S C c n xs ch := by
 have F : Fr (fun k => k = S) w (w.setCell ⟨S, i * 4 + 3, none⟩ (.slice a m k)) := (Fr.refl (fun k => k = S) w).setCell (p := ⟨S, i * 4 + 3, none⟩) (fun _ => rfl) _
 obtain ⟨⟨ss, h1, h2, h3, h4⟩, h5, h6, h7, h8⟩ := h
 obtain ⟨y, hy⟩ : ∃ y, ss[i]? = some y := ⟨_, List.getElem?_eq_getElem (by omega)⟩
 have h1' := h1.cell1 okSa hy ⟨y.r, y.lo, y.st, ⟨a, m, k⟩⟩ (.slice a m k) (j := 3) (by decide) rfl
 have same : ∀ (j : Nat) (s : Sa), (ss.set i ⟨y.r, y.lo, y.st, ⟨a, m, k⟩⟩)[j]? = some s → ∃ s0, ss[j]? = some s0 ∧ s0.r = s.r ∧ s0.lo = s.lo ∧ s0.st = s.st := fun j s hs => by
  by_cases e : i = j
  · subst e
    rw [List.getElem?_set_self (by omega)] at hs
    simp only [Option.some.injEq] at hs
    subst hs
    exact ⟨y, hy, rfl, rfl, rfl⟩
  · rw [List.getElem?_set_ne e] at hs
    exact ⟨s, hs, rfl, rfl, rfl⟩
 refine ⟨⟨_, h1', by rw [List.length_set]; exact h2, fun j s x hs hx => ?_, fun i' j' s t x z hij hs ht hx hz hxr hzr => ?_⟩, h5.kept F (fun k hk e => by simp [Value.ownBlock] at hk; omega), h6, h7, h8⟩
 · obtain ⟨s0, hs0, e1, e2, e3⟩ := same j s hs
   obtain ⟨b1, b2, b3, b4, b5⟩ := h3 j s0 x hs0 hx
   rw [e1] at b1
   rw [e2] at b2 b4
   rw [e3] at b3 b4
   exact ⟨b1, fun e => ⟨(b2 e).1.kept F (fun k hk e' => by have := (b2 e).2 k hk; omega), (b2 e).2⟩, fun e => ⟨(b3 e).1.kept F (fun k hk e' => by have := (b3 e).2 k hk; omega), (b3 e).2⟩, b4, b5⟩
 · obtain ⟨s0, hs0, -, e2, -⟩ := same i' s hs
   obtain ⟨t0, ht0, -, e5, e6⟩ := same j' t ht
   have := h4 i' j' s0 t0 x z hij hs0 ht0 hx hz hxr hzr
   rw [e2, e5, e6] at this
   exact this
theorem Fl.cellS {w : World} {S C c n : Nat} {xs : List Stt} {ch : List Bool} (h : Fl w S C c n xs ch) {i : Nat} (hi : i < n) : (∃ u, w.cell? ⟨S, i * 4 + 3, none⟩ = some u) ∧ w.frozen? ⟨S, i * 4 + 3, none⟩ = false ∧ ∃ cur, w.heap[S]? = some (.cells cur 67 (0, 0)) ∧ cur.size = n * 4 := by
 obtain ⟨⟨ss, h1, h2, -, -⟩, -⟩ := h
 obtain ⟨cur, hc, -, -, -, hs, -⟩ := h1.cur
 refine ⟨⟨_, (cell_at hc).trans (Array.getElem?_eq_getElem (by rw [hs]; show i * 4 + 3 < n * 4; omega))⟩, frozen_at hc, cur, hc, hs⟩
variable {lo st : Int} {ts : List Ty} {cd : List (Int × Int)} {pool : List Cs} {fuel : Nat} {res : Int × Ps}
set_option maxRecDepth 100000 in
set_option maxHeartbeats 8000000 in
theorem lMethod_any (h : Asked lo st ts cd pool fuel res) (lf : Nat) (lr : Bool × Wk) (hl : fitsP cd lf (comeP 0 [] (wk0 cd.length)).2 = some lr) (w : World) (p : Nat) (P : Prg w p (allC [mainK lo st cd pool]) (newC [mainK lo st cd pool]).2.2) (hsm : ∀ c ∈ allC [mainK lo st cd pool], SmallC c) (tr : Tr w) :
 Calls Tryz.prog 15 #[.pointer (some ⟨p, 0, none⟩), .string sMain, .string smain] w fun e w' => ∃ v S C c, e = .returned (.tuple #[v, .int .i64 (lockE res.1 lr.1)]) ∧ Fr no w w' ∧ (lockE res.1 lr.1 = 0 → v = .slice (some ⟨S, 0, none⟩) cd.length cd.length ∧ Fl w' S C c cd.length res.2.1 res.2.2 ∧ LocksAt w' S cd.length lr.2.A) := by
 have V := h.meth w p P hsm tr
 have hf : findOf (namesOf (allC [mainK lo st cd pool])) (layAll (allC [mainK lo st cd pool]) (newC [mainK lo st cd pool]).2.2) sMain smain = some (2, 0) := by kernel_rfl
 have HM : Hid (∀ w', Fr no w w' → Calls Tryz.prog 30 #[.pointer (some ⟨p, 0, none⟩), .string sMain, .string smain] w' fun e w2 => ∃ s', e = .returned (.tuple #[.string sMain, msV s', .bool true]) ∧ MtOwn w2 s' (mainN lo st cd) ∧ Fr no w' w2) := fun w' hf' => by
  refine (method_any w' p _ _ (P.keep hf') hsm sMain smain (by decide) (by decide)).mono ?_
  rintro e w2 ⟨ma, f2⟩
  obtain ⟨s', m, hm, rfl, mo⟩ := ma.2 (2, 0) hf
  have hm' : some (mainN lo st cd) = some m := hm
  simp only [Option.some.injEq] at hm'
  subst hm'
  exact ⟨s', rfl, mo, f2⟩
 have HN : Hid (0 < cd.length ∧ cd.length ≤ 200) := ⟨h.pos, h.few⟩
 have HT : Hid (∀ w', Fr no w w' → Tr w') := fun w' hf => Tr.kept tr hf
 have HL : Hid _ := hl
 clear P hsm tr hl hf h
 obtain ⟨er, ps⟩ := res
 obtain ⟨lb, ls⟩ := lr
 simp only at V HL ⊢
 have HV : Hid (Calls Tryz.prog 29 #[.pointer (some ⟨p, 0, none⟩), .string sMain, .string smain] w fun e w' => ∃ S C c v, e = .returned (.tuple #[v, .int .i64 er]) ∧ (er = 0 → v = .slice (some ⟨S, 0, none⟩) cd.length cd.length ∧ Fl w' S C c cd.length ps.1 ps.2 ∧ w.heap.size ≤ S) ∧ (er ≠ 0 → v = .slice none 0 0) ∧ Fr no w w') := V
 clear V
 generalize hsM : sMain = sM at *
 generalize hsm : smain = sm at *
 go_enter Tryz.func15, Tryz.ntmps15
 go_wp2_with fail
 refine HV.out.mono ?_
 rintro e w1 ⟨S, C, c, v, rfl, h1, h2, f1⟩
 by_cases hz : er = 0
 · subst hz
   obtain ⟨rfl, FL, hS⟩ := h1 rfl
   have M := HM.out w1 f1
   have HFL : Hid _ := FL
   have HF1 : Hid _ := f1
   have HS : Hid (w.heap.size ≤ S) := hS
   clear h1 h2 FL f1 hS
   generalize hcl : cd.length = n at *
   have hn200 : n ≤ 200 := HN.out.2
   go_wp2_with fail
   refine M.mono ?_
   rintro e w2 ⟨⟨mn, ⟨pa, pn, pc⟩, ⟨rk, rc⟩, lo', st', ⟨ca, cn, cc⟩, ⟨ha, hn, hc⟩⟩, rfl, mo, f2⟩
   unfold msV
   simp only
   have G3 : Fr no w2 (w2.alloc (.cells #[.string mn, .slice pa pn pc, .int .i64 rk, .string rc, .int .i64 lo', .int .i64 st', .slice ca cn cc, .slice ha hn hc] 47)) := (Fr.refl no w2).alloc _ _
   have E3 : (w2.alloc (.cells #[.string mn, .slice pa pn pc, .int .i64 rk, .string rc, .int .i64 lo', .int .i64 st', .slice ca cn cc, .slice ha hn hc] 47)).heap[w2.heap.size]? = some (.cells #[.string mn, .slice pa pn pc, .int .i64 rk, .string rc, .int .i64 lo', .int .i64 st', .slice ca cn cc, .slice ha hn hc] 47 (0, 0)) := heap_alloc_new w2 _
   generalize hW3 : w2.alloc (.cells #[.string mn, .slice pa pn pc, .int .i64 rk, .string rc, .int .i64 lo', .int .i64 st', .slice ca cn cc, .slice ha hn hc] 47) = w3 at *
   obtain ⟨b0, b1, b2, b3, b4, b5, b6, b7⟩ := bx8 E3
   have F3 : Fr no w w3 := (HF1.out.new f2 (fun _ _ f => f)).new G3 (fun _ _ f => f)
   have q2 := (mo.h : OwnG elHd w2 _ []).nil0
   have NW := newWalk_any w3 ⟨mn, ⟨pa, pn, pc⟩, ⟨rk, rc⟩, lo', st', ⟨ca, cn, cc⟩, ⟨ha, hn, hc⟩⟩ cd ((mo.c.keep G3).sl okIn) (by have := HN.out; omega) (by have := HN.out; omega) q2.1 (HT.out w3 F3)
   unfold msV at NW
   simp only at NW
   rw [hcl] at NW
   have HG : Hid (Fr no w1 w3) := f2.new G3 (fun _ _ f => f)
   clear mo f2 G3 E3 M q2
   go_wp2_with fail
   refine NW.mono ?_
   rintro e w4 ⟨f, S4, C4, c4, rfl, kw, f4⟩
   have FI := fits_any w3 w4 f S4 C4 c4 cd _ kw (by simp [wk0]) lf _ (by rw [← hcl] at HL ⊢; exact HL.out)
   clear NW kw f4 b0 b1 b2 b3 b4 b5 b6 b7
   simp only at FI
   go_wp2_with fail
   refine FI.mono ?_
   rintro e w5 ⟨rfl, kw5⟩
   have F5 : Fr no w w5 := F3.new kw5.base (fun _ _ f => f)
   cases lb with
   | false =>
    have HF5 : Hid _ := F5
    clear FI kw5
    go_wp2_with fail
    go_ret2
    exact ⟨_, S, C, c, rfl, HF5.out, fun e => absurd e (by decide)⟩
   | true =>
    have FL5 : Fl w5 S C c n ps.1 ps.2 := (HFL.out.keep HG.out).keep kw5.base
    obtain ⟨a0, a1, a2, a3, a4, a5, cs, hq, hc', v, E5, -, -, -⟩ := kw5.fb
    have z8 : w5.cell? ⟨f, 8, none⟩ = some (.slice (some ⟨S4, 0, none⟩) n n) := by rw [← hcl]; exact cell_at (o := 8) E5
    have oA : OwnG elHl w5 (.slice (some ⟨S4, 0, none⟩) n n) ls.A := by rw [← hcl]; exact kw5.A
    have hla : ls.A.length = n := by rw [kw5.la, hcl]
    have hlt : S < w3.heap.size := by
     obtain ⟨-, -, cur, hc, -⟩ := (HFL.out.keep HG.out).cellS (i := 0) HN.out.1
     exact lt_of_heap hc
    have HBS : Hid (S ≠ f ∧ S ≠ S4) := by have := kw5.bs; exact ⟨by omega, by omega⟩
    have HA : Hid _ := kw5.ha
    have HST : Hid (Fr no w w5 ∧ Fl w5 S C c n ps.1 ps.2 ∧ w5.cell? ⟨f, 8, none⟩ = some (.slice (some ⟨S4, 0, none⟩) n n) ∧ OwnG elHl w5 (.slice (some ⟨S4, 0, none⟩) n n) ls.A) := ⟨F5, FL5, z8, oA⟩
    clear FI kw5 E5 F5 FL5 z8 oA hlt
    go_wp2_with fail
    go_loopw [40] (fun i wr => ∃ k : Nat, i = .int .i64 (k : Int) ∧ k ≤ n ∧ Fr no w wr ∧ Fl wr S C c n ps.1 ps.2 ∧ LocksAt wr S k ls.A ∧ wr.cell? ⟨f, 8, none⟩ = some (.slice (some ⟨S4, 0, none⟩) n n) ∧ OwnG elHl wr (.slice (some ⟨S4, 0, none⟩) n n) ls.A) (fun i _ => n - (intOf i).toNat)
    case atStart => exact ⟨0, rfl, Nat.zero_le _, HST.out.1, HST.out.2.1, fun j hj => absurd hj (Nat.not_lt_zero _), HST.out.2.2.1, HST.out.2.2.2⟩
    case round =>
     obtain ⟨k, rfl, hk, fr, fl, la, z8, oA⟩ := hrel
     by_cases hkn : k < n
     · obtain ⟨h, hh⟩ : ∃ h, ls.A[k]? = some h := ⟨_, List.getElem?_eq_getElem (by omega)⟩
       have LI := list_any wr h (HA.out h (List.mem_of_getElem? hh))
       have cS : ∀ j u, (hlC h)[j]? = some u → wr.cell? ⟨S4, k * 7 + j, none⟩ = some u := fun j u hj => by
        obtain ⟨ad, cap, e, -, -, hit⟩ := oA.sl okHl
        simp only [Value.slice.injEq] at e
        obtain ⟨rfl, -, -⟩ := e
        obtain ⟨b', off', e, hcs⟩ := hit k h hh
        simp only [Option.some.injEq, Addr.mk.injEq, and_true] at e
        obtain ⟨rfl, rfl⟩ := e
        have := hcs j u hj
        rw [Nat.zero_add] at this
        exact this
       obtain ⟨x0, x1, x2, x3, x4, x5, x6, hx⟩ : ∃ x0 x1 x2 x3 x4 x5 x6 : Int, hlC h = [.int .i64 x0, .int .i64 x1, .int .i64 x2, .int .i64 x3, .int .i64 x4, .int .i64 x5, .int .i64 x6] := ⟨_, _, _, _, _, _, _, rfl⟩
       unfold hlV at LI
       rw [hx] at LI cS
       have d0 := cS 0 _ rfl
       have d1 := cS 1 _ rfl
       have d2 := cS 2 _ rfl
       have d3 := cS 3 _ rfl
       have d4 := cS 4 _ rfl
       have d5 := cS 5 _ rfl
       have d6 := cS 6 _ rfl
       rw [Nat.add_zero] at d0
       obtain ⟨⟨u, hu⟩, fz, cur, hcu, hcz⟩ := fl.cellS hkn
       have hki : (k : Int) < (n : Int) := by omega
       have HZ : Hid (Fr no w wr ∧ Fl wr S C c n ps.1 ps.2 ∧ LocksAt wr S k ls.A ∧ OwnG elHl wr (.slice (some ⟨S4, 0, none⟩) n n) ls.A ∧ wr.heap[S]? = some (.cells cur 67 (0, 0)) ∧ cur.size = n * 4 ∧ ls.A[k]? = some h ∧ wr.cell? ⟨f, 8, none⟩ = some (.slice (some ⟨S4, 0, none⟩) n n)) := ⟨fr, fl, la, oA, hcu, hcz, hh, z8⟩
       have LI' : Calls Tryz.prog 33 #[.agg #[.int .i64 x0, .int .i64 x1, .int .i64 x2, .int .i64 x3, .int .i64 x4, .int .i64 x5, .int .i64 x6]] wr fun e w' => ∃ v, e = .returned v ∧ H.OwnG elJ w' v h ∧ NewV wr v ∧ Fr no wr w' := LI
       clear LI cS hx fr fl la oA hcu hcz hh
       go_wp2_with fail
       refine LI'.mono ?_
       rintro e w6 ⟨v6, rfl, o6, n6, f6⟩
       obtain ⟨q6, k6, hv6⟩ := o6.form
       have hu6 := f6.cell hu (fun f => f)
       have fz6 : w6.frozen? ⟨S, k * 4 + 3, none⟩ = false := (f6.frozen _ (lt_of_heap HZ.out.2.2.2.2.1)).trans fz
       have HO : Hid (H.OwnG elJ w6 v6 h ∧ Fr no wr w6) := ⟨o6, f6⟩
       generalize h.length = m6 at hv6
       subst hv6
       clear LI' o6 n6 f6 d0 d1 d2 d3 d4 d5 d6 hu fz
       generalize hW7 : w6.setCell ⟨S, k * 4 + 3, none⟩ (.slice q6 m6 k6) = W7
       have HW7 : Hid (w6.setCell ⟨S, k * 4 + 3, none⟩ (.slice q6 m6 k6) = W7) := hW7
       go_wp2_with fail
       go_roundw
       case rel =>
        obtain ⟨fr, fl, la, oA, hcu, hcz, hh, z8'⟩ := HZ.out
        obtain ⟨o6, f6⟩ := HO.out
        have hcu6 := f6.heap hcu (fun f => f)
        have F7 : Fr (fun b => b = S) w6 W7 := by rw [← HW7.out]; exact (Fr.refl (fun b => b = S) w6).setCell (p := ⟨S, k * 4 + 3, none⟩) (fun _ => rfl) _
        have h7 : W7.heap[S]? = some (.cells (cur.setIfInBounds (k * 4 + 3) (.slice q6 m6 k6)) 67 (0, 0)) := by rw [← HW7.out]; exact set_at hcu6
        have keepJ : ∀ {v : Value} {l : List Int}, H.OwnG elJ w6 v l → H.OwnG elJ W7 v l := fun {v l} o => o.kept F7 (fun b hb e => by
         obtain ⟨cu, hc⟩ := o.tag hb
         exact ne_tag hc hcu6 (by decide) e)
        refine ⟨k + 1, by go_num, by omega, (fr.new f6 (fun _ _ f => f)).new F7 (fun b hb e => by have := HS.out; omega), by rw [← HW7.out]; exact (fl.keep f6).lock hkn _ _ _, fun j hj h' hj' => ?_, F7.cell (f6.cell z8' (fun f => f)) (fun e => HBS.out.1 e.symm), (oA.keep f6).kept F7 (fun b hb e => by simp [Value.ownBlock] at hb; exact HBS.out.2 (e.symm.trans hb.symm))⟩
        by_cases e : j = k
        · subst e
          rw [hh] at hj'
          simp only [Option.some.injEq] at hj'
          subst hj'
          exact ⟨_, (cell_at h7).trans (by rw [Array.getElem?_setIfInBounds, if_pos rfl, if_pos (by omega)]), keepJ o6⟩
        · obtain ⟨u', hu', ou'⟩ := la j (by omega) h' hj'
          have hu6' := f6.cell hu' (fun f => f)
          rw [cell_at hcu6] at hu6'
          exact ⟨u', (cell_at h7).trans (by rw [Array.getElem?_setIfInBounds, if_neg (by omega)]; exact hu6'), keepJ (ou'.keep f6)⟩
       case measure => simp [intOf]; omega
     · have hk' : k = n := by omega
       subst hk'
       have HZ : Hid (Fr no w wr ∧ Fl wr S C c k ps.1 ps.2 ∧ LocksAt wr S k ls.A) := ⟨fr, fl, la⟩
       clear fr fl la oA
       go_wp2_with fail
       go_ret2
       exact ⟨_, S, C, c, rfl, HZ.out.1, fun _ => ⟨by rw [hcl]; rfl, by rw [hcl]; exact HZ.out.2.1, by rw [hcl]; exact HZ.out.2.2⟩⟩
 · have hz' : (er == 0) = false := by simpa using hz
   have hz2 : (er != 0) = true := by simpa using hz
   have HF1 : Hid _ := f1
   clear h1 h2 f1
   go_wp2_with fail
   go_ret2
   refine ⟨.slice none 0 0, S, C, c, by unfold lockE; rw [if_pos hz]; rfl, HF1.out, fun e => absurd e (by unfold lockE; rw [if_pos hz]; exact hz)⟩
end Go.Proofs.YtalgjpmaafooeaaGreatDoor
/- All: the error of the first method whose locks don't fit, or that verify refuses. -/
namespace Go.Proofs.YtalgjpmaafooeaaGreatDoor
open Go.ChangeShapes Go.WideShapes Go.ChangeAt Go.RowKit
open H (ky Owns MapOf ix NewV obj fault)
set_option maxRecDepth 100000 in
set_option maxHeartbeats 4000000 in
theorem lAll_any (w : World) (p : Nat) (Cs : List Cl) (A : List Nat) (h : Prg w p Cs A) (hsm : ∀ c ∈ Cs, SmallC c) (err : Nat → Int)
 (hn : ∀ i, i < Cs.length → ix (clsAt Cs i).name (namesOf Cs) = some i ∧ (clsAt Cs i).name.size ≤ 1099511627776 ∧ (clsAt Cs i).name ≠ ⟨#[]⟩) (hm : ∀ i, i < Cs.length → ((clsAt Cs i).methods = [] ∧ err i = 0) ∨ ∃ m, (clsAt Cs i).methods = [m] ∧ ∀ w', Fr no w w' → Calls Tryz.prog 15 #[.pointer (some ⟨p, 0, none⟩), .string (clsAt Cs i).name, .string m.name] w' fun e w2 => ∃ v, e = .returned (.tuple #[v, .int .i64 (err i)]) ∧ Fr no w' w2) :
 Calls Tryz.prog 17 #[.pointer (some ⟨p, 0, none⟩)] w fun e w' => ∃ z : Int, e = .returned (.int .i64 z) ∧ Fr no w w' ∧ (((∀ i, i < Cs.length → err i = 0) ∧ z = 0) ∨ ∃ i, i < Cs.length ∧ err i ≠ 0 ∧ (∀ j, j < i → err j = 0) ∧ z = err i) := by
 have HP : Hid _ := h
 have hfew : Cs.length ≤ 18 := h.few
 have HN : Hid _ := hn
 have HM : Hid _ := hm
 have HS : Hid _ := hsm
 clear h hn hm hsm
 go_enter Tryz.func17, Tryz.ntmps17
 go_wp2_with fail
 go_loopw [3] (fun i wr => ∃ k : Nat, i = .int .i64 (k : Int) ∧ k ≤ Cs.length ∧ Fr no w wr ∧ ∀ j, j < k → err j = 0) (fun i _ => Cs.length - (intOf i).toNat)
 case atStart => exact ⟨0, rfl, Nat.zero_le _, Fr.refl _ _, fun j hj => absurd hj (Nat.not_lt_zero _)⟩
 case round =>
  obtain ⟨k, rfl, hk, fr, he⟩ := hrel
  have HE : Hid _ := he
  have HF : Hid _ := fr
  clear he
  by_cases hlt : k < Cs.length
  · have N1 := name_any wr p Cs A (HP.out.keep fr) k hlt
    have hne : ((clsAt Cs k).name.toList == []) = false := by
     have h3 := (HN.out k hlt).2.2
     cases hl : (clsAt Cs k).name.toList with
     | nil => exact absurd hl (emp_ne _ h3)
     | cons a l => rfl
    obtain ⟨n1, n2, n3⟩ := HN.out k hlt
    clear fr
    go_wp2_with fail
    refine N1.mono ?_
    rintro e w2 ⟨rfl, f2⟩
    have F2 : Fr no w w2 := HF.out.new f2 (fun _ _ f => f)
    have N2 := name_any w2 p Cs A (HP.out.keep F2) k hlt
    clear N1 f2
    go_wp2_with fail
    refine N2.mono ?_
    rintro e w3 ⟨rfl, f3⟩
    have F3 : Fr no w w3 := F2.new f3 (fun _ _ f => f)
    have CL := class_any w3 p Cs A (HP.out.keep F3) HS.out (clsAt Cs k).name n2 k n1
    clear N2 f3 F2 n1 n2 n3 hne
    go_wp2_with fail
    refine CL.mono ?_
    rintro e w4 ⟨⟨kn, ks, ⟨kpa, kpn, kpc⟩, ⟨kfa, kfn, kfc⟩, ⟨kma, kmn, kmc⟩⟩, rfl, oc, f4⟩
    have F4 : Fr no w w4 := F3.new f4 (fun _ _ f => f)
    generalize hW5 : w4.alloc (.cells #[.string kn, .string ks, .slice kpa kpn kpc, .slice kfa kfn kfc, .slice kma kmn kmc] 51) = w5
    have G5 : Fr no w4 w5 := by rw [← hW5]; exact (Fr.refl no w4).alloc _ _
    have E5 : w5.heap[w4.heap.size]? = some (.cells #[.string kn, .string ks, .slice kpa kpn kpc, .slice kfa kfn kfc, .slice kma kmn kmc] 51 (0, 0)) := by rw [← hW5]; exact heap_alloc_new w4 _
    have F5 : Fr no w w5 := F4.new G5 (fun _ _ f => f)
    have oc5 := oc.keep G5
    have E54 := cell_at (o := 4) E5
    simp at E54
    obtain ⟨ls, o1, o2, o3⟩ := oc5.m
    clear CL f4 F3 oc G5
    unfold ksV
    simp only at o1 ⊢
    rcases HM.out k hlt with ⟨hm0, he0⟩ | ⟨m, hms, CM⟩
    · rw [hm0] at o2
      obtain rfl : ls = [] := List.eq_nil_of_length_eq_zero o2
      obtain rfl := o1.nil0.1
      have HZ : Hid (_ ∧ _) := ⟨F5, he0⟩
      clear o1 o2 o3 oc5 E5 F5 F4 he0 hm0
      go_wp2_with fail
      go_loopw [27] (fun i wr => i = .int .i64 0 ∧ wr = w5) (fun _ _ => 0)
      case atStart => exact ⟨rfl, rfl⟩
      case round =>
       obtain ⟨rfl, rfl⟩ := hrel
       go_wp2_with fail
       go_roundw
       case rel =>
        refine ⟨k + 1, by go_num, by omega, HZ.out.1, fun j hj => ?_⟩
        by_cases hjk : j = k
        · rw [hjk]; exact HZ.out.2
        · exact HE.out j (by omega)
       case measure => simp [intOf]; omega
    · rw [hms] at o2 o3
      obtain ⟨x, rfl⟩ : ∃ x, ls = [x] := by
       match ls, o2 with
       | [y], _ => exact ⟨y, rfl⟩
      have om := o3 0 x m rfl rfl
      obtain ⟨q1, k1, hv1⟩ := o1.form
      simp only [List.length_singleton, Value.slice.injEq] at hv1
      obtain ⟨-, rfl, -⟩ := hv1
      obtain ⟨ad, cap, e, hc1, hc2, hit⟩ := o1.sl okMs
      simp only [Value.slice.injEq] at e
      obtain ⟨rfl, -, rfl⟩ := e
      obtain ⟨mb, mo, rfl, hcx⟩ := hit 0 x rfl
      have c0 : w5.cell? ⟨mb, mo, none⟩ = some (.string x.name) := by simpa using hcx 0 _ rfl
      have c1 : w5.cell? ⟨mb, mo + 1, none⟩ = some (.slice x.p.a x.p.n x.p.c) := by simpa using hcx 1 _ rfl
      have c2 : w5.cell? ⟨mb, mo + 2, none⟩ = some (.int .i64 x.ret.k) := by simpa using hcx 2 _ rfl
      have c3 : w5.cell? ⟨mb, mo + 3, none⟩ = some (.string x.ret.c) := by simpa using hcx 3 _ rfl
      have c4 : w5.cell? ⟨mb, mo + 4, none⟩ = some (.int .i64 x.lo) := by simpa using hcx 4 _ rfl
      have c5 : w5.cell? ⟨mb, mo + 5, none⟩ = some (.int .i64 x.st) := by simpa using hcx 5 _ rfl
      have c6 : w5.cell? ⟨mb, mo + 6, none⟩ = some (.slice x.c.a x.c.n x.c.c) := by simpa using hcx 6 _ rfl
      have c7 : w5.cell? ⟨mb, mo + 7, none⟩ = some (.slice x.h.a x.h.n x.h.c) := by simpa using hcx 7 _ rfl
      generalize hW6 : w5.alloc (.cells #[.string x.name, .slice x.p.a x.p.n x.p.c, .int .i64 x.ret.k, .string x.ret.c, .int .i64 x.lo, .int .i64 x.st, .slice x.c.a x.c.n x.c.c, .slice x.h.a x.h.n x.h.c] 47) = w6
      have G6 : Fr no w5 w6 := by rw [← hW6]; exact (Fr.refl no w5).alloc _ _
      have E6 : w6.heap[w5.heap.size]? = some (.cells #[.string x.name, .slice x.p.a x.p.n x.p.c, .int .i64 x.ret.k, .string x.ret.c, .int .i64 x.lo, .int .i64 x.st, .slice x.c.a x.c.n x.c.c, .slice x.h.a x.h.n x.h.c] 47 (0, 0)) := by rw [← hW6]; exact heap_alloc_new w5 _
      have F6 : Fr no w w6 := F5.new G6 (fun _ _ f => f)
      have ST := CM w6 F6
      rw [← oc5.name, ← om.name] at ST
      simp only at ST
      obtain ⟨a0, a1, a2, a3, a4⟩ := bx5 (G6.heap E5 (fun f => f))
      obtain ⟨b0, b1, b2, b3, b4, b5, b6, b7⟩ := bx8 E6
      have HZ : Hid (_) := F6
      generalize hek : err k = er at *
      have HEK : Hid (err k = er) := hek
      clear o1 o2 o3 oc5 E5 F5 F4 G6 E6 F6 om hcx hit hc1 hc2 hms CM hek
      go_wp2_with fail
      go_loopw [27] (fun i wr => (i = .int .i64 0 ∧ wr = w5) ∨ (i = .int .i64 1 ∧ Fr no w wr ∧ er = 0)) (fun i _ => 1 - (intOf i).toNat)
      case atStart => exact .inl ⟨rfl, rfl⟩
      case round =>
       rcases hrel with ⟨rfl, rfl⟩ | ⟨rfl, fq, rfl⟩
       · go_wp2_with fail
         refine ST.mono ?_
         rintro e w7 ⟨v, rfl, f7⟩
         have F7 : Fr no w w7 := HZ.out.new f7 (fun _ _ f => f)
         clear f7
         by_cases her : er = 0
         · subst her
           go_wp2_with fail
           go_roundw
           case rel => exact .inr ⟨rfl, F7, trivial⟩
           case measure => simp [intOf]
         · go_wp2_with fail
           go_ret
           exact ⟨_, rfl, F7, .inr ⟨k, hlt, by rw [HEK.out]; exact her, HE.out, HEK.out.symm⟩⟩
       · go_wp2_with fail
         go_roundw
         case rel =>
          refine ⟨k + 1, by go_num, by omega, fq, fun j hj => ?_⟩
          by_cases hjk : j = k
          · rw [hjk]; exact HEK.out
          · exact HE.out j (by omega)
         case measure => simp [intOf]; omega
  · have hkn : k = Cs.length := by omega
    subst hkn
    have N1 := nameEnd_any wr p Cs A (HP.out.keep fr)
    clear fr
    go_wp2_with fail
    refine N1.mono ?_
    rintro e w2 ⟨rfl, f2⟩
    go_wp2_with fail
    go_ret
    exact ⟨_, rfl, HF.out.new f2 (fun _ _ f => f), .inl ⟨HE.out, rfl⟩⟩
variable {lo st : Int} {ts : List Ty} {cd : List (Int × Int)} {pool : List Cs} {fuel : Nat} {res : Int × Ps}
theorem lAsked_all (h : Asked lo st ts cd pool fuel res) (lf : Nat) (lr : Bool × Wk) (hl : fitsP cd lf (comeP 0 [] (wk0 cd.length)).2 = some lr) (w : World) (p : Nat) (P : Prg w p (allC [mainK lo st cd pool]) (newC [mainK lo st cd pool]).2.2) (hsm : ∀ c ∈ allC [mainK lo st cd pool], SmallC c) (tr : Tr w) :
 Calls Tryz.prog 17 #[.pointer (some ⟨p, 0, none⟩)] w fun e w' => e = .returned (.int .i64 (lockE res.1 lr.1)) ∧ Fr no w w' := by
 have len3 : (allC [mainK lo st cd pool]).length = 3 := rfl
 refine (lAll_any w p (allC [mainK lo st cd pool]) _ P hsm (err3 (lockE res.1 lr.1)) (fun i hi => ?_) (fun i hi => ?_)).mono ?_
 · rw [len3] at hi
   match i, hi with
   | 0, _ => exact ⟨show ix obj [obj, fault, sMain] = some 0 by decide, show obj.size ≤ 1099511627776 by decide, show obj ≠ ⟨#[]⟩ by decide⟩
   | 1, _ => exact ⟨show ix fault [obj, fault, sMain] = some 1 by decide, show fault.size ≤ 1099511627776 by decide, show fault ≠ ⟨#[]⟩ by decide⟩
   | 2, _ => exact ⟨show ix sMain [obj, fault, sMain] = some 2 by decide, show sMain.size ≤ 1099511627776 by decide, show sMain ≠ ⟨#[]⟩ by decide⟩
 · rw [len3] at hi
   match i, hi with
   | 0, _ => exact .inl ⟨rfl, rfl⟩
   | 1, _ => exact .inl ⟨rfl, rfl⟩
   | 2, _ =>
    refine .inr ⟨mainN lo st cd, rfl, fun w' hf => ?_⟩
    refine (lMethod_any h lf lr hl w' p (P.keep hf) hsm (tr.kept hf)).mono ?_
    rintro e w2 ⟨v, S, C, c, rfl, f2, -⟩
    exact ⟨v, rfl, f2⟩
 · rintro e w' ⟨z, rfl, fr, hz⟩
   refine ⟨?_, fr⟩
   rw [len3] at hz
   rcases hz with ⟨h0, rfl⟩ | ⟨i, hi, hne, -, rfl⟩
   · rw [← h0 2 (by omega)]; rfl
   · have : i = 2 := by
      unfold err3 at hne
      by_cases e : i = 2
      · exact e
      · rw [if_neg e] at hne; exact absurd rfl hne
     rw [this]; rfl
end Go.Proofs.YtalgjpmaafooeaaGreatDoor
/- Straight code: its locks along it. -/
namespace Go.Proofs.YtalgjpmaafooeaaGreatDoor
open Go.ChangeShapes Go.WideShapes Go.ChangeAt Go.RowKit
open H (ky Owns MapOf ix NewV)
structure AtW (n : Nat) (s : Wk) (i : Nat) (h : List Int) : Prop where
 l1 : s.A.length = n
 l2 : s.R.length = n
 lt : i < n
 cur : s.A[i]? = some h
 rest : ∀ j, i < j → j < n → s.R[j]? = some false
 w : s.W = [(i : Int)]
def lineL : List (Int × Int) → List Int → Bool
 | [], h => decide (h.length = 0)
 | ins :: l, h => if (behP ins h).2 = false then false else lineL l (behP ins h).1
theorem fits_line (cd : List (Int × Int)) : ∀ (l : List (Int × Int)) (i : Nat) (h : List Int) (s : Wk) (fuel : Nat), cd.drop i = l ++ [(33, 0)] → AtW cd.length s i h → (∀ x ∈ l, has x.1 1 = false ∧ has x.1 2 = false) → l.length + 2 ≤ fuel →
 ∃ r, fitsP cd fuel s = some (lineL l h, r) := by
 intro l
 induction l with
 | nil =>
  intro i h s fuel hcd H _ hf
  obtain ⟨n, rfl⟩ : ∃ n, fuel = n + 2 := ⟨fuel - 2, by simp at hf; omega⟩
  have hins : cd[i]? = some (33, 0) := by
   have : (cd.drop i)[0]? = some (33, 0) := by rw [hcd]; rfl
   rwa [List.getElem?_drop, Nat.add_zero] at this
  have hw : s.W.getLast? = some (i : Int) := by rw [H.w]; rfl
  have hd : s.W.dropLast = [] := by rw [H.w]; rfl
  have b1 : has 33 1 = true := by decide +kernel
  have b2 : has 33 2 = false := by decide +kernel
  have ok : okW cd i ⟨s.A, s.R, s.W.dropLast⟩ := by
   unfold okW
   rw [getD_of hins (0, 0), hd]
   exact ⟨show 0 ≤ 900 by decide, fun e => absurd (show has 33 1 = false from e) (by rw [b1]; simp), fun e => absurd (show has 33 2 = true from e) (by rw [b2]; simp)⟩
  have hb : behP (33, 0) h = (h, decide (h.length = 0)) := by simp [behP]
  unfold fitsP
  rw [hw]
  simp only [Int.toNat_natCast]
  rw [if_pos ⟨by omega, H.lt, ok⟩]
  have hp : passP cd i ⟨s.A, s.R, s.W.dropLast⟩ = (decide (h.length = 0), ⟨s.A, s.R, s.W.dropLast⟩) := by
   unfold passP
   rw [getD_of hins (0, 0), getD_of H.cur [], hb]
   simp only [b1, b2]
   cases decide (h.length = 0) <;> simp
  rw [hp]
  unfold lineL
  cases hz : decide (h.length = 0) with
  | false => exact ⟨_, rfl⟩
  | true =>
   simp only [Bool.true_eq_false, if_false]
   unfold fitsP
   rw [hd]
   exact ⟨_, rfl⟩
 | cons ins l ih =>
  intro i h s fuel hcd H hops hf
  obtain ⟨n, rfl⟩ : ∃ n, fuel = n + 1 := ⟨fuel - 1, by simp at hf; omega⟩
  have hins : cd[i]? = some ins := by
   have : (cd.drop i)[0]? = some ins := by rw [hcd]; rfl
   rwa [List.getElem?_drop, Nat.add_zero] at this
  have hw : s.W.getLast? = some (i : Int) := by rw [H.w]; rfl
  have hd : s.W.dropLast = [] := by rw [H.w]; rfl
  obtain ⟨b1, b2⟩ := hops ins (List.mem_cons_self ..)
  have hdl : cd.length - i = (ins :: l ++ [(33, 0)]).length := by rw [← List.length_drop, hcd]
  have hi1 : i + 1 < cd.length := by simp at hdl; omega
  have ok : okW cd i ⟨s.A, s.R, s.W.dropLast⟩ := by
   unfold okW
   rw [getD_of hins (0, 0), hd]
   exact ⟨show 0 ≤ 900 by decide, fun _ => hi1, fun e => by rw [b2] at e; cases e⟩
  unfold fitsP
  rw [hw]
  simp only [Int.toNat_natCast]
  rw [if_pos ⟨by omega, H.lt, ok⟩]
  unfold lineL
  cases hz : (behP ins h).2 with
  | false =>
   have hp : passP cd i ⟨s.A, s.R, s.W.dropLast⟩ = (false, ⟨s.A, s.R, s.W.dropLast⟩) := by
    unfold passP
    rw [getD_of hins (0, 0), getD_of H.cur [], hz]
    simp
   rw [hp]
   exact ⟨_, rfl⟩
  | true =>
   have hR : s.R.getD (i + 1) false = false := getD_of (H.rest (i + 1) (by omega) hi1) false
   have hc : comeP (i + 1) (behP ins h).1 ⟨s.A, s.R, s.W.dropLast⟩ = (true, ⟨s.A.set (i + 1) (behP ins h).1, s.R.set (i + 1) true, [((i + 1 : Nat) : Int)]⟩) := by
    unfold comeP
    simp only [hR, hd]
    rfl
   have hp : passP cd i ⟨s.A, s.R, s.W.dropLast⟩ = (true, ⟨s.A.set (i + 1) (behP ins h).1, s.R.set (i + 1) true, [((i + 1 : Nat) : Int)]⟩) := by
    unfold passP
    rw [getD_of hins (0, 0), getD_of H.cur [], hz]
    simp only [b1, b2, if_true, hc, Bool.true_eq_false, if_false, Bool.false_eq_true]
   rw [hp]
   simp only [Bool.true_eq_false, if_false]
   refine ih (i + 1) _ _ n ?_ ⟨by simp [H.l1], by simp [H.l2], hi1, ?_, fun j h1 h2 => ?_, rfl⟩ (fun x hx => hops x (List.mem_cons_of_mem _ hx)) (by simp at hf; omega)
   · have : cd.drop (i + 1) = (cd.drop i).drop 1 := by rw [List.drop_drop]
     rw [this, hcd]
     rfl
   · rw [List.getElem?_set_self (by rw [H.l1]; exact hi1)]
   · rw [List.getElem?_set_ne (by omega)]
     exact H.rest j (by omega) h2
theorem atW_beg (n : Nat) (hn : 0 < n) : AtW n (comeP 0 [] (wk0 n)).2 0 [] := by
 have h0 : (wk0 n).R.getD 0 false = false := by
  rw [List.getD_eq_getElem?_getD]
  simp [wk0, hn]
 have hc : (comeP 0 [] (wk0 n)).2 = ⟨(List.replicate n []).set 0 [], (List.replicate n false).set 0 true, [((0 : Nat) : Int)]⟩ := by
  unfold comeP
  rw [h0]
  rfl
 rw [hc]
 refine ⟨by simp, by simp, hn, ?_, fun j h1 h2 => ?_, rfl⟩
 · show ((List.replicate n ([] : List Int)).set 0 [])[0]? = some []
   rw [List.getElem?_set_self (by simpa using hn)]
 · show ((List.replicate n false).set 0 true)[j]? = some false
   rw [List.getElem?_set_ne (by omega), List.getElem?_replicate, if_pos h2]
end Go.Proofs.YtalgjpmaafooeaaGreatDoor
