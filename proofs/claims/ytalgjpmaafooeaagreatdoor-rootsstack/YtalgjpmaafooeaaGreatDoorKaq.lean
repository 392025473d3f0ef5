/- States that settle. -/
import Derived.Test.YtalgjpmaafooeaaGreatDoorKap
import Derived.Test.YtalgjpmaafooeaaGreatDoorKao
import Derived.Laws.CopyRow
namespace Go.Proofs.YtalgjpmaafooeaaGreatDoor
open Go.ChangeShapes Go.WideShapes Go.ChangeAt Go.RowKit
open H (ix NewV)
theorem least {P : Nat → Prop} : ∀ n, P n → ∃ m, P m ∧ ∀ k, P k → m ≤ k := by
 intro n
 induction n using Nat.strongRecOn with
 | _ n ih =>
  intro hn
  by_cases h : ∃ k, k < n ∧ P k
  · obtain ⟨k, hk, hp⟩ := h
    exact ih k hk hp
  · exact ⟨n, hn, fun k hk => Nat.le_of_not_lt fun e => h ⟨k, e, hk⟩⟩
section
variable {P : Program} {a : Act} {w : World} {Q : Exit → Act → World → Prop}
open Classical in
theorem wp_label_fuel {c R0 : Code} (l0 : Nat) (J : Nat → Act → World → Prop) (hf0 : findLabel c l0 = some (.seq .skip R0))
 (first : ∀ K : Exit → Act → World → Prop, (∀ n a w, J n a w → R0.wp P K a w) → (∀ a w, Q .ret a w → K .ret a w) → (∀ a w, Q .normal a w → K .normal a w) → c.wp P K a w)
 (pass0 : ∀ n a w, J n a w → ∀ K : Exit → Act → World → Prop, (∀ m a' w', m < n → J m a' w' → K (.goto l0) a' w') → (∀ a w, Q .ret a w → K .ret a w) → (∀ a w, Q .normal a w → K .normal a w) → R0.wp P K a w) :
 (Code.scope c).wp P Q a w := by
 have mn : ∀ a w, (∃ n, J n a w) → ∃ m, J m a w ∧ ∀ k, J k a w → m ≤ k := fun a w ⟨n, h⟩ => least n h
 refine wp_label_one l0 (fun a w => ∃ n, J n a w) (fun a w => if h : ∃ n, J n a w then Classical.choose (mn a w h) else 0) hf0 ?_ ?_
 · intro K h0 hr hn
   exact first K (fun n a w h => h0 a w ⟨n, h⟩) hr hn
 · rintro a w h K hj hr hn
   have hs := Classical.choose_spec (mn a w h)
   refine pass0 _ a w hs.1 K (fun m a' w' hm hJ => hj a' w' ⟨m, hJ⟩ ?_) hr hn
   rw [dif_pos h, dif_pos ⟨m, hJ⟩]
   exact Nat.lt_of_le_of_lt ((Classical.choose_spec (mn a' w' ⟨m, hJ⟩)).2 m hJ) hm
end
theorem Fl.mark {w : World} {S C c n : Nat} {xs : List Stt} {ch : List Bool} (h : Fl w S C c n xs ch) {i : Nat} (hi : i < ch.length) (b : Bool) : Fl (w.setCell ⟨C, i, none⟩ (.bool b)) S C c n xs (ch.set i b) := by
 have F : Fr (fun k => k = C) w (w.setCell ⟨C, i, none⟩ (.bool b)) := (Fr.refl (fun k => k = C) w).setCell (p := ⟨C, i, none⟩) (fun _ => rfl) _
 obtain ⟨⟨ss, h1, h2, h3, h4⟩, h5, h6, h7, h8⟩ := h
 refine ⟨⟨ss, h1.kept F (fun k hk e => by simp [Value.ownBlock] at hk; omega), h2, fun j s x hs hx => ?_, h4⟩, h5.set1 hi b, h6, by rw [List.length_set]; exact h7, h8⟩
 obtain ⟨a1, a2, a3, a4, a5⟩ := h3 j s x hs hx
 exact ⟨a1, fun e => ⟨(a2 e).1.kept F (fun k hk e' => by have := (a2 e).2 k hk; omega), (a2 e).2⟩, fun e => ⟨(a3 e).1.kept F (fun k hk e' => by have := (a3 e).2 k hk; omega), (a3 e).2⟩, a4, a5⟩
def zR : Rl := ⟨false, [], []⟩
def okR' (x y : Stt) : Prop := x.r = true → x.st.length = y.st.length → x.st = [] ∧ y.st = [] ∧ x.lo.length = y.lo.length ∧ 0 < x.lo.length ∧ ∀ q ∈ x.lo.zip y.lo, mrg q.1 q.2
instance (a b : Ty) : Decidable (mrg a b) := by unfold mrg; infer_instance
instance (x y : Stt) : Decidable (okR' x y) := by unfold okR'; infer_instance
theorem okR_of {x y : Stt} (h : okR' x y) : okR x y := fun h1 h2 => by
 obtain ⟨a1, a2, a3, a4, a5⟩ := h h1 h2
 refine ⟨a1, a2, a3, a4, fun i a b ha hb => ?_⟩
 have : (x.lo.zip y.lo)[i]? = some (a, b) := by rw [List.getElem?_zip_eq_some]; exact ⟨ha, hb⟩
 exact a5 (a, b) (List.mem_of_getElem? this)
structure OkS (K : Int) (cd : List (Int × Int)) (r : Rl) (ins : Int × Int) (i : Nat) (p : Ps) (x : Stt) : Prop where
 rr : x.r = true
 fit : ∀ t ∈ r.tk, t.k = 1 ∨ t.k = 2 ∨ t.k = 6
 n38 : rd38 ins x.lo
 n7 : ins.1 ≠ 7
 h4 : ins.1 = 4 → 0 ≤ ins.2 ∧ ins.2 < x.lo.length
 h5 : ins.1 = 5 → 0 ≤ ins.2 ∧ ins.2 < x.lo.length ∧ r.tk.length = 1
 few : r.tk.length ≤ 1000 ∧ r.pt.length ≤ 1000 ∧ (runS r ins x).lo.length ≤ 1000 ∧ (runS r ins x).st.length ≤ 1000
 h1 : has ins.1 1 = false → i + 1 < cd.length ∧ okR' (p.1.getD (i + 1) zS) (runS r ins x)
 h2 : has ins.1 2 = true → 0 ≤ ins.2 ∧ ins.2 < cd.length ∧ okR' ((after1 K ins (runS r ins x) i p).2.1.getD ins.2.toNat zS) (runS r ins x) ∧ (has ins.1 1 = false → ((after1 K ins (runS r ins x) i p).2.1.getD ins.2.toNat zS).r = false)
instance (K : Int) (cd : List (Int × Int)) (r : Rl) (ins : Int × Int) (i : Nat) (p : Ps) (x : Stt) : Decidable (OkS K cd r ins i p x) :=
 decidable_of_iff (x.r = true ∧ (∀ t ∈ r.tk, t.k = 1 ∨ t.k = 2 ∨ t.k = 6) ∧ rd38 ins x.lo ∧ ins.1 ≠ 7 ∧ (ins.1 = 4 → 0 ≤ ins.2 ∧ ins.2 < x.lo.length) ∧ (ins.1 = 5 → 0 ≤ ins.2 ∧ ins.2 < x.lo.length ∧ r.tk.length = 1) ∧ (r.tk.length ≤ 1000 ∧ r.pt.length ≤ 1000 ∧ (runS r ins x).lo.length ≤ 1000 ∧ (runS r ins x).st.length ≤ 1000) ∧ (has ins.1 1 = false → i + 1 < cd.length ∧ okR' (p.1.getD (i + 1) zS) (runS r ins x)) ∧ (has ins.1 2 = true → 0 ≤ ins.2 ∧ ins.2 < cd.length ∧ okR' ((after1 K ins (runS r ins x) i p).2.1.getD ins.2.toNat zS) (runS r ins x) ∧ (has ins.1 1 = false → ((after1 K ins (runS r ins x) i p).2.1.getD ins.2.toNat zS).r = false)))
  ⟨fun ⟨a, b, c, d, e, f, g, h, i⟩ => ⟨a, b, c, d, e, f, g, h, i⟩, fun ⟨a, b, c, d, e, f, g, h, i⟩ => ⟨a, b, c, d, e, f, g, h, i⟩⟩
def settleP (K : Int) (cd : List (Int × Int)) (rl : List Rl) : Nat → Nat → Ps → Option (Int × Ps)
 | 0, _, _ => none
 | n + 1, i, p =>
  if p.2.contains true = false then some (0, p)
  else if p.2.getD i false = true then
   if OkS K cd (rl.getD i zR) (cd.getD i (0, 0)) i (p.1, p.2.set i false) (p.1.getD i zS) then
    if (stepP K (rl.getD i zR) (cd.getD i (0, 0)) i (p.1, p.2.set i false)).1 ≠ 0 then some (stepP K (rl.getD i zR) (cd.getD i (0, 0)) i (p.1, p.2.set i false))
    else settleP K cd rl n ((i + 1) % cd.length) (stepP K (rl.getD i zR) (cd.getD i (0, 0)) i (p.1, p.2.set i false)).2
   else none
  else settleP K cd rl n ((i + 1) % cd.length) p
def SetAt (w : World) (f S C c : Nat) (K : Int) (cd : List (Int × Int)) (rl : List Rl) (res : Int × Ps) (n : Nat) (a : Act) (wr : World) : Prop :=
 ∃ (i : Nat) (p : Ps) (u4 u5 u6 u7 u8 u9 u10 u11 u12 u13 u14 u15 u16 u17 u18 u19 u20 u21 u22 u23 u24 u25 u26 u27 u28 u29 u30 u31 u32 u33 u34 u35 u36 u37 : Value), a = { tmps := #[.pointer (some ⟨f, 0, none⟩), undef, .int .i64 0, .int .i64 (i : Int), u4, u5, u6, u7, u8, u9, u10, u11, u12, u13, u14, u15, u16, u17, u18, u19, u20, u21, u22, u23, u24, u25, u26, u27, u28, u29, u30, u31, u32, u33, u34, u35, u36, u37], defers := [] } ∧ i < cd.length ∧ settleP K cd rl n i p = some res ∧ Fl wr S C c cd.length p.1 p.2 ∧ Fr (Tn S C c) w wr
set_option maxRecDepth 100000 in
set_option maxHeartbeats 8000000 in
theorem settle_any (w : World) (f S C c : Nat) (K : Int) (cd : List (Int × Int)) (rl : List Rl) (p : Ps) (EV : ∀ w', Fr (Tn S C c) w w' → Con w' f S C K cd rl) (FL : Fl w S C c cd.length p.1 p.2) (hcw : c ≤ w.heap.size) (hf : f < c ∧ f ≠ S ∧ f ≠ C) (fuel : Nat) (res : Int × Ps) (hres : settleP K cd rl fuel 0 p = some res) :
 Calls Tryz.prog 93 #[.pointer (some ⟨f, 0, none⟩)] w fun e w' => e = .returned (.int .i64 res.1) ∧ (res.1 = 0 → Fl w' S C c cd.length res.2.1 res.2.2) ∧ Fr (Tn S C c) w w' := by
 have tt : ∀ {a b c' : World}, Fr (Tn S C c) a b → Fr (Tn S C c) b c' → Fr (Tn S C c) a c' := fun h k => h.trans k (fun _ _ e => e) (fun _ _ e => e)
 have HEV : Hid _ := EV
 have CN := EV w (Fr.refl _ w)
 have HL : Hid (0 < cd.length ∧ cd.length ≤ 200) := CN.few
 have HI : Hid (Fl w S C c cd.length p.1 p.2 ∧ settleP K cd rl fuel 0 p = some res) := ⟨FL, hres⟩
 clear EV CN FL hres
 go_enter Tryz.func93, Tryz.ntmps93
 go_wp2_with fail
 refine wp_label_fuel 0 (SetAt w f S C c K cd rl res) rfl ?_ ?_
 · intro KK h0 hr hn'
   go_wp2_with fail
   go_step3
   rename_i hk
   exact hk _ _ (h0 fuel _ _ ⟨0, p, _, _, _, _, _, _, _, _, _, _, _, _, _, _, _, _, _, _, _, _, _, _, _, _, _, _, _, _, _, _, _, _, _, _, rfl, HL.out.1, HI.out.2, HI.out.1, Fr.refl _ _⟩)
 · rintro n a' wr ⟨i, q, u4, u5, u6, u7, u8, u9, u10, u11, u12, u13, u14, u15, u16, u17, u18, u19, u20, u21, u22, u23, u24, u25, u26, u27, u28, u29, u30, u31, u32, u33, u34, u35, u36, u37, rfl, hi, hs, FL, fr⟩ KK hj hr hn'
   have CN := HEV.out wr fr
   have a12 := CN.marks
   have hii : (i : Int) < (cd.length : Int) := by omega
   have CB := containsB_any wr _ _ FL.marks.sl true
   have hcw' : c ≤ wr.heap.size := Nat.le_trans hcw fr.size
   cases n with
   | zero => simp [settleP] at hs
   | succ n =>
    unfold settleP at hs
    by_cases hct : q.2.contains true = false
    · rw [if_pos hct] at hs
      simp only [Option.some.injEq] at hs
      subst hs
      rw [hct] at CB
      have HZ : Hid (_ ∧ _) := ⟨FL, fr⟩
      clear FL fr CN
      generalize hcl : cd.length = m at *
      go_wp2_with fail
      refine CB.mono ?_
      rintro e w1 ⟨rfl, rfl⟩
      go_wp2_with fail
      refine hr _ _ ?_
      go_ret
      exact ⟨rfl, fun _ => by rw [hcl]; exact HZ.out.1, HZ.out.2⟩
    · rw [if_neg hct] at hs
      have hct' : q.2.contains true = true := by simpa using hct
      rw [hct'] at CB
      obtain ⟨b, hb⟩ : ∃ b, q.2[i]? = some b := ⟨_, List.getElem?_eq_getElem (by have := FL.lc; omega)⟩
      rw [getD_of hb false] at hs
      have hcm : wr.cell? ⟨C, i, none⟩ = some (.bool b) := by
       obtain ⟨ad, cap, e, -, -, -, hit⟩ := FL.marks.sl
       simp only [Value.slice.injEq] at e
       obtain ⟨rfl, -, -⟩ := e
       obtain ⟨bb, off, e, hc⟩ := hit i b hb
       simp only [Option.some.injEq, Addr.mk.injEq, and_true] at e
       obtain ⟨rfl, rfl⟩ := e
       rw [Nat.zero_add] at hc
       exact hc
      have hmod : ((i : Int) + 1) % (cd.length : Int) = (((i + 1) % cd.length : Nat) : Int) := by rw [Int.natCast_emod]; rfl
      have hmodlt : (i + 1) % cd.length < cd.length := Nat.mod_lt _ (by omega)
      have hl200 := HL.out.2
      cases b with
      | false =>
       rw [if_neg (by simp)] at hs
       have HZ : Hid (_ ∧ _ ∧ _ ∧ _) := ⟨FL, fr, hs, hmodlt⟩
       clear FL fr CN hs hb hct hct' hmodlt
       generalize hcl : cd.length = m at *
       go_wp2_with fail
       refine CB.mono ?_
       rintro e w1 ⟨rfl, rfl⟩
       go_wp2_with fail
       rw [hmod]
       refine wp_goto ?_
       refine hj n _ _ (Nat.lt_succ_self n) ⟨(i + 1) % m, q, _, _, _, _, _, _, _, _, _, _, _, _, _, _, _, _, _, _, _, _, _, _, _, _, _, _, _, _, _, _, _, _, _, _, rfl, by rw [hcl]; exact HZ.out.2.2.2, HZ.out.2.2.1, by rw [hcl]; exact HZ.out.1, HZ.out.2.1⟩
      | true =>
       rw [if_pos rfl] at hs
       by_cases hok : OkS K cd (rl.getD i zR) (cd.getD i (0, 0)) i (q.1, q.2.set i false) (q.1.getD i zS)
       · rw [if_pos hok] at hs
         obtain ⟨x, hx⟩ : ∃ x, q.1[i]? = some x := ⟨_, List.getElem?_eq_getElem (by have := FL.lx; omega)⟩
         obtain ⟨r, hrl⟩ : ∃ r, rl[i]? = some r := ⟨_, List.getElem?_eq_getElem (by obtain ⟨_, _, _, _, _, h, _⟩ := CN.rules; omega)⟩
         obtain ⟨ins, hins⟩ : ∃ ins, cd[i]? = some ins := ⟨_, List.getElem?_eq_getElem hi⟩
         rw [getD_of hx zS, getD_of hrl zR, getD_of hins (0, 0)] at hok
         rw [getD_of hrl zR, getD_of hins (0, 0)] at hs
         have hmt : ∃ mc, wr.heap[C]? = some (.cells mc 4 (0, 0)) := by
          rcases FL.marks.2 with ⟨e, _⟩ | ⟨g', cap', mc, e, _, hg, _⟩
          · simp at e
          · simp only [Value.slice.injEq, Option.some.injEq, Addr.mk.injEq, and_true] at e
            obtain ⟨rfl, -, -⟩ := e
            exact ⟨mc, hg⟩
         obtain ⟨mc, hmc⟩ := hmt
         have fz := frozen_at (o := i) hmc
         generalize hW2 : wr.setCell ⟨C, i, none⟩ (.bool false) = W2
         have F2 : Fr (fun k => k = C) wr W2 := by rw [← hW2]; exact (Fr.refl (fun k => k = C) wr).setCell (p := ⟨C, i, none⟩) (fun _ => rfl) _
         have F2T : Fr (Tn S C c) wr W2 := F2.mono (fun _ _ e => .inr (.inl e))
         have FL2 : Fl W2 S C c cd.length q.1 (q.2.set i false) := by
          have := FL.mark (i := i) (by have := FL.lc; omega) false
          rw [hW2] at this
          exact this
         have SP := step_any W2 f S C c K cd rl (q.1, q.2.set i false) (fun w' h => HEV.out w' (tt (tt fr F2T) h)) FL2 (Nat.le_trans hcw' F2.size) hf i x hx hok.rr r hrl hok.fit ins hins hok.n38 hok.n7 hok.h4 hok.h5 hok.few.1 hok.few.2.1 ⟨hok.few.2.2.1, hok.few.2.2.2⟩ (fun h => ⟨(hok.h1 h).1, okR_of (hok.h1 h).2⟩) (fun h => ⟨(hok.h2 h).1, (hok.h2 h).2.1, okR_of (hok.h2 h).2.2.1, (hok.h2 h).2.2.2⟩)
         generalize hST : stepP K r ins i (q.1, q.2.set i false) = st at *
         have HFR : Hid (Fr (Tn S C c) w W2) := tt fr F2T
         have HML : Hid _ := hmodlt
         have a12b := (HEV.out W2 (tt fr F2T)).marks
         clear FL fr CN hb hct hct' hmodlt FL2 F2 F2T hok hx hrl hins hmc hST
         by_cases hz : st.1 = 0
         · rw [if_neg (by rw [hz]; simp)] at hs
           rw [hz] at SP
           have HS : Hid _ := hs
           clear hs
           generalize hcl : cd.length = m at *
           go_wp2_with fail
           refine CB.mono ?_
           rintro e w1 ⟨rfl, rfl⟩
           go_wp2_with fail
           refine SP.mono ?_
           rintro e w3 ⟨rfl, hfl, f3⟩
           have a12c := (HEV.out w3 (tt HFR.out f3)).marks
           rw [hcl] at a12c
           have HZ : Hid (_ ∧ _) := ⟨hfl trivial, tt HFR.out f3⟩
           clear SP hfl f3
           go_wp2_with fail
           rw [hmod]
           refine wp_goto ?_
           refine hj n _ _ (Nat.lt_succ_self n) ⟨(i + 1) % m, st.2, _, _, _, _, _, _, _, _, _, _, _, _, _, _, _, _, _, _, _, _, _, _, _, _, _, _, _, _, _, _, _, _, _, _, rfl, by rw [hcl]; exact HML.out, HS.out, by rw [hcl]; exact HZ.out.1, HZ.out.2⟩
         · rw [if_pos hz] at hs
           simp only [Option.some.injEq] at hs
           have hz' : (st.1 == 0) = false := by simpa using hz
           have HS : Hid _ := hs
           clear hs
           generalize hcl : cd.length = m at *
           go_wp2_with fail
           refine CB.mono ?_
           rintro e w1 ⟨rfl, rfl⟩
           go_wp2_with fail
           refine SP.mono ?_
           rintro e w3 ⟨rfl, -, f3⟩
           have HZ : Hid (Fr (Tn S C c) w w3) := tt HFR.out f3
           clear SP f3
           go_wp2_with fail
           refine hr _ _ ?_
           go_ret
           rw [← HS.out]
           exact ⟨rfl, fun e => absurd e hz, HZ.out⟩
       · rw [if_neg hok] at hs
         simp at hs
end Go.Proofs.YtalgjpmaafooeaaGreatDoor
/- Rules of instructions. -/
namespace Go.Proofs.YtalgjpmaafooeaaGreatDoor
open Go.ChangeShapes Go.WideShapes Go.ChangeAt Go.RowKit
open H (ix NewV)
def elJ : H.El Int := ⟨25, 3, .int .i64 0, 8, fun n => .int .i64 n⟩
def kT (k : Int) : Ty := ⟨k, e0⟩
def z0 : Ty := ⟨0, e0⟩
theorem made_ty (w : World) (n : Nat) (h : n = 1 ∨ n = 2) : (Instr.makeSlice 42 (.int .i64 (n : Int)) (.int .i64 (n : Int))).run Tryz.prog w = .ok (.slice (some ⟨w.heap.size, 0, none⟩) n n) (w.alloc (.cells (madeCells #[.int .i64 0, .string ⟨#[]⟩] (n * 2)) 44)) := by
 have hK := okTy
 obtain ⟨i0, hi, hz0, hz1, hz2⟩ := info_parts hK.info
 have := _root_.Go.run_make w elTy.t elTy.e i0 elTy.z hK.und hi hz0 .i64 .i64 (n : Int) (n : Int) (by omega) (by omega) (by rw [hz2]; show (24 : Int) * _ ≤ _; omega) (by omega)
 rw [hz1] at this
 have h2 : (Instr.makeSlice elTy.t (.int .i64 (n : Int)) (.int .i64 (n : Int))).run Tryz.prog w = .ok (.slice (some ⟨w.heap.size, 0, none⟩) n n) (w.alloc (.cells (madeCells elTy.z.cells (n * elTy.n)) elTy.e)) := by simpa using this
 exact h2
theorem made_own (w : World) (n : Nat) (h : n = 1 ∨ n = 2) : OwnG elTy (w.alloc (.cells (madeCells #[.int .i64 0, .string ⟨#[]⟩] (n * 2)) 44)) (.slice (some ⟨w.heap.size, 0, none⟩) n n) (List.replicate n z0) := by
 rcases h with rfl | rfl
 · exact own_heap okTy (List.replicate 1 z0) (heap_alloc_new w _) (by kernel_rfl) (show 1 ≤ maxLen by decide)
 · exact own_heap okTy (List.replicate 2 z0) (heap_alloc_new w _) (by kernel_rfl) (show 2 ≤ maxLen by decide)
set_option maxRecDepth 100000 in
set_option maxHeartbeats 4000000 in
theorem of_any (w : World) (v : Value) (ks : List Int) (hv : H.SlG elJ w v ks) (hn : ks.length = 1 ∨ ks.length = 2) (h4 : ∀ x ∈ ks, x ≠ 4) :
 Calls Tryz.prog 138 #[v] w fun e w' => e = .returned (.slice (some ⟨w.heap.size, 0, none⟩) ks.length ks.length) ∧ SlG elTy w' (.slice (some ⟨w.heap.size, 0, none⟩) ks.length ks.length) (ks.map kT) ∧ Fr no w w' := by
 obtain ⟨ad, cap, rfl, hl, hc, -, hit⟩ := hv
 have HI : Hid _ := hit
 have H4 : Hid _ := h4
 clear hit h4
 generalize hkl : ks.length = n at *
 have hmk := made_ty w n hn
 have hmo := made_own w n hn
 generalize hW : w.alloc (.cells (madeCells #[.int .i64 0, .string ⟨#[]⟩] (n * 2)) 44) = W at *
 have G0 : Fr no w W := by rw [← hW]; exact (Fr.refl no w).alloc _ _
 have HO : Hid (OwnG elTy W (.slice (some ⟨w.heap.size, 0, none⟩) n n) (List.replicate n z0) ∧ Fr no w W) := ⟨hmo, G0⟩
 clear hmo G0
 go_enter Tryz.func138, Tryz.ntmps138
 go_wp2_with fail
 go_loopw [11] (fun i wr => ∃ (k : Nat) (lk : List Ty), i = .int .i64 (k : Int) ∧ k ≤ n ∧ OwnG elTy wr (.slice (some ⟨w.heap.size, 0, none⟩) n n) lk ∧ lk = (ks.map kT).take k ++ (List.replicate n z0).drop k ∧ Fr no w wr) (fun i _ => n - (intOf i).toNat)
 case atStart => exact ⟨0, _, rfl, Nat.zero_le _, HO.out.1, by simp, HO.out.2⟩
 case round =>
  obtain ⟨k, lk, rfl, hkn, ol, hlk, fr⟩ := hrel
  by_cases hlt : k < n
  · have hki : (k : Int) < (n : Int) := by omega
    obtain ⟨x, hx⟩ : ∃ x, ks[k]? = some x := ⟨_, List.getElem?_eq_getElem (by omega)⟩
    obtain ⟨b, off, rfl, hcx⟩ := HI.out k x hx
    have zx := fr.cell hcx (fun f => f)
    simp only [elJ] at zx
    have hx4 := H4.out x (List.mem_of_getElem? hx)
    have hx4' : (x == 4) = false := by simpa using hx4
    have hka : lk[k]? = some z0 := by
     rw [hlk, List.getElem?_append_right (by rw [List.length_take]; omega), List.length_take, List.getElem?_drop, List.getElem?_replicate]
     rw [if_pos (by rw [List.length_map]; omega)]
    have o2 := ol.cell1 okTy (k := k) (j := 0) hka ⟨x, e0⟩ (.int .i64 x) (by decide) rfl
    have e2n : elTy.n = 2 := rfl
    rw [e2n, Nat.add_zero] at o2
    have hms := mix_set (ks.map kT) (List.replicate n z0) k (kT x) (by rw [List.getElem?_map, hx]; rfl) (by simp; omega)
    obtain ⟨lcur, hlcur⟩ := ol.tag (k := w.heap.size) rfl
    have fq := frozen_at (o := k * 2) hlcur
    obtain ⟨bb, oo, cp, e, q0, q1⟩ := ty_at (ol.sl okTy) hka
    simp only [Value.slice.injEq, Option.some.injEq, Addr.mk.injEq, and_true] at e
    obtain ⟨⟨rfl, rfl⟩, -, rfl⟩ := e
    simp only [Nat.zero_add] at q0
    have F3 : Fr no w (wr.setCell ⟨w.heap.size, k * 2, none⟩ (.int .i64 x)) := fr.setCell (fun h => absurd h (Nat.lt_irrefl _)) _
    rw [← hlk] at hms
    have HZ : Hid (_ ∧ _ ∧ _) := ⟨o2, hms, F3⟩
    clear ol hlk o2 hms F3 hlcur fr e2n q1 hx hka
    go_wp2_with fail
    go_roundw
    case rel => exact ⟨k + 1, _, by go_num, by omega, HZ.out.1, HZ.out.2.1, HZ.out.2.2⟩
    case measure => simp [intOf]; omega
  · have hkn' : k = n := by omega
    have hki : ¬ (k : Int) < (n : Int) := by omega
    have hfin : lk = ks.map kT := by
     rw [hlk, hkn', List.take_of_length_le (by rw [List.length_map]; omega), List.drop_of_length_le (by simp), List.append_nil]
    have HZ : Hid (_ ∧ _) := ⟨hfin ▸ ol.sl okTy, fr⟩
    clear ol hlk hfin fr
    go_wp2_with fail
    go_ret
    exact ⟨rfl, HZ.out⟩
end Go.Proofs.YtalgjpmaafooeaaGreatDoor
/- Where a method of Main begins. -/
namespace Go.Proofs.YtalgjpmaafooeaaGreatDoor
open Go.ChangeShapes Go.WideShapes Go.ChangeAt Go.RowKit
open H (ix NewV)
set_option maxRecDepth 100000 in
theorem mul64_12 (w : World) : Calls Tryz.prog 147 #[.int .u64 1, .int .u64 2] w fun e w' => e = .returned (.tuple #[.int .u64 0, .int .u64 2]) ∧ w' = w := by
 go_enter Tryz.func147, Tryz.ntmps147
 go_wp2_with fail
 go_ret2
 exact ⟨rfl, rfl⟩
set_option maxRecDepth 100000 in
theorem mul_12 (w : World) : Calls Tryz.prog 139 #[.int .u64 1, .int .u64 2] w fun e w' => e = .returned (.tuple #[.int .u64 0, .int .u64 2]) ∧ w' = w := by
 go_enter Tryz.func139, Tryz.ntmps139
 go_wp2_with fail
 refine (mul64_12 w).mono ?_
 rintro e w1 ⟨rfl, rfl⟩
 go_wp2_with fail
 go_ret2
 exact ⟨rfl, rfl⟩
theorem run_copyT (w : World) (g o dLen dCap : Nat) (a : Addr) (sLen sCap : Nat) (cur : Array Value) (t : TypeId) (cs : List Value)
 (hg : w.heap[g]? = some (.cells cur t (0, 0))) (hn : cs.length = Nat.min sLen dLen * 2)
 (hsrc : ∀ j v, cs[j]? = some v → w.cell? (a.add j) = some v) (hfit : o + cs.length ≤ cur.size) (h1 : ∀ v ∈ cs, v.oneCell' = true) :
 (Builtin.copy_ #[42, 42] 3 #[.slice (some ⟨g, o, none⟩) dLen dCap, .slice (some a) sLen sCap]).run Tryz.prog w =
  .ok (goInt (Nat.min sLen dLen)) (w.setRow g (cur.toList.take o ++ cs ++ cur.toList.drop (o + cs.length)).toArray) := by
 have hl := run_loadCells_list (P := Tryz.prog) w a cs hsrc
 have hst := run_storeCells_at Tryz.prog g o t cs 0 cur w hg (by simpa using hfit) h1
 obtain ⟨i, hq, hi, -, -⟩ := info_parts okTy.info
 have hq' : Tryz.prog.info? 44 = some i := hq
 have hi' : i.size = 2 := by have := okTy.info; rw [hq] at this; simp at this; first | exact this.1 | exact this.2.1 | simpa using this
 simp [Builtin.copy_, run_underlying Tryz.underlying42, Builtin.lenOf, Builtin.firstCells, sizeOf, typeInfo, hq', hi', ← hn, hl, hst]
theorem ev_copy {o : Oper} {a : Act} {w : World} (t : TypeId) (x y : Nat) (v u v' : Value) (w' : World) (ho : o.op = Op.call { callee := Callee.builtin Builtin.copy, args := #[.tmp x, .tmp y], argTypes := #[t, t] }) (hx : a.eval (.tmp x) = v) (hy : a.eval (.tmp y) = u) (hr : (Builtin.copy_ #[t, t] o.type #[v, u]).run Tryz.prog w = .ok v' w') : (execOp a.eval o).run Tryz.prog w = .ok (.value v') w' := by
 unfold execOp; simp [ho, hx, hy, resolve, invoke, builtin, hr, Result.andThen]
theorem lt_01 {a b : Nat} (ha : a = 0) (hb : b = 1) : a < b := by omega
theorem Fr.setRow {a w : World} {G : Nat} (h : Fr no a w) (hG : a.heap.size = G) (cs : Array Value) : Fr no a (w.setRow G cs) :=
 ⟨h.1, h.2, by rw [setRow_size]; exact h.3, fun k hk hs => by rw [setRow_other w G k _ (fun e => by omega)]; exact h.4 k hk hs, fun x hx => by rw [frozen_setRow]; exact h.5 x hx⟩
set_option maxRecDepth 100000 in
set_option maxHeartbeats 4000000 in
theorem repeat2 (w : World) (g : Nat) (t : Ty) (hg : w.heap[g]? = some (.cells #[.int .i64 t.k, .string t.c] 44 (0, 0))) :
 Calls Tryz.prog 132 #[.slice (some ⟨g, 0, none⟩) 1 1, .int .i64 2] w fun e w' => ∃ v, e = .returned v ∧ OwnG elTy w' v [t, t] ∧ Fr no w w' := by
 have hmd : (madeCells #[.int .i64 0, .string ⟨#[]⟩] (2 * 2)) = #[Value.int .i64 0, .string ⟨#[]⟩, .int .i64 0, .string ⟨#[]⟩] := by kernel_rfl
 have hmk := made_ty w 2 (.inr rfl)
 rw [hmd] at hmk
 have hmk2 : (Instr.makeSlice 42 (.int .i64 2) (.int .i64 2)).run Tryz.prog w = .ok (.slice (some ⟨w.heap.size, 0, none⟩) 2 2) (w.alloc (.cells #[.int .i64 0, .string ⟨#[]⟩, .int .i64 0, .string ⟨#[]⟩] 44)) := hmk
 clear hmk
 generalize hW : w.alloc (.cells #[.int .i64 0, .string ⟨#[]⟩, .int .i64 0, .string ⟨#[]⟩] 44) = W at *
 have G0 : Fr no w W := by rw [← hW]; exact (Fr.refl no w).alloc _ _
 have E0 : W.heap[w.heap.size]? = some (.cells #[.int .i64 0, .string ⟨#[]⟩, .int .i64 0, .string ⟨#[]⟩] 44 (0, 0)) := by rw [← hW]; exact heap_alloc_new w _
 have hgW := G0.heap hg (fun f => f)
 obtain ⟨x0, x1⟩ := bx2 hgW
 have hge := Nat.le_refl w.heap.size
 generalize hG : w.heap.size = G at *
 have HC1 : (Builtin.copy_ #[42, 42] 3 #[.slice (some ⟨G, 0, none⟩) 2 2, .slice (some ⟨g, 0, none⟩) 1 1]).run Tryz.prog W = .ok (.int .i64 1) (W.setRow G #[.int .i64 t.k, .string t.c, .int .i64 0, .string ⟨#[]⟩]) := run_copyT W G 0 2 2 ⟨g, 0, none⟩ 1 1 _ 44 [.int .i64 t.k, .string t.c] E0 rfl (by
  intro j v hj
  rcases j with _ | _ | j
  · simp at hj; subst hj; exact x0
  · simp at hj; subst hj; exact x1
  · simp at hj) (by simp) (by intro v hv; simp at hv; rcases hv with rfl | rfl <;> rfl)
 have E1 : (W.setRow G #[.int .i64 t.k, .string t.c, .int .i64 0, .string ⟨#[]⟩]).heap[G]? = some (.cells #[.int .i64 t.k, .string t.c, .int .i64 0, .string ⟨#[]⟩] 44 (0, 0)) := setRow_heap W G _ _ 44 (0, 0) E0
 have F1 : Fr no w (W.setRow G #[.int .i64 t.k, .string t.c, .int .i64 0, .string ⟨#[]⟩]) := G0.setRow hG _
 generalize hW1 : W.setRow G #[.int .i64 t.k, .string t.c, .int .i64 0, .string ⟨#[]⟩] = W1 at *
 have E1d : W1.drew.heap[G]? = _ := E1
 obtain ⟨z0, z1, z2, z3⟩ := box4 E1d
 have HC2 : Hid ((Builtin.copy_ #[42, 42] 3 #[.slice (some ⟨G, 2, none⟩) 1 1, .slice (some ⟨G, 0, none⟩) 1 2]).run Tryz.prog W1.drew = .ok (.int .i64 1) (W1.drew.setRow G #[.int .i64 t.k, .string t.c, .int .i64 t.k, .string t.c])) := (run_copyT W1.drew G 2 1 1 ⟨G, 0, none⟩ 1 2 _ 44 [.int .i64 t.k, .string t.c] E1d rfl (by
  intro j v hj
  rcases j with _ | _ | j
  · simp at hj; subst hj; exact z0
  · simp at hj; subst hj; exact z1
  · simp at hj) (by simp) (by intro v hv; simp at hv; rcases hv with rfl | rfl <;> rfl))
 have E2 : (W1.drew.setRow G #[.int .i64 t.k, .string t.c, .int .i64 t.k, .string t.c]).heap[G]? = some (.cells #[.int .i64 t.k, .string t.c, .int .i64 t.k, .string t.c] 44 (0, 0)) := setRow_heap W1.drew G _ _ 44 (0, 0) E1d
 have F2 : Fr no w (W1.drew.setRow G #[.int .i64 t.k, .string t.c, .int .i64 t.k, .string t.c]) := F1.drew.setRow hG _
 generalize hW2 : W1.drew.setRow G #[.int .i64 t.k, .string t.c, .int .i64 t.k, .string t.c] = W2 at *
 have HO : Hid (OwnG elTy W2 (.slice (some ⟨G, 0, none⟩) 2 2) [t, t] ∧ Fr no w W2) := ⟨own_heap okTy [t, t] E2 (by rfl) (show 2 ≤ maxLen by decide), F2⟩
 have HS0 : Hid (Fr no w W1.drew) := F1.drew
 have HS1 : Hid (Fr no w W2) := F2
 clear E1d z0 z1 z2 z3 E2 F2 F1 E1 hmd hW E0 hgW x0 x1 hW1 hW2
 go_enter Tryz.func132, Tryz.ntmps132
 go_wp2_with fail
 refine (mul_12 w).mono ?_
 rintro e w1 ⟨rfl, rfl⟩
 go_wp2_with fail
 go_loopw [8] (fun i wr => (i = .int .i64 1 ∧ wr = W1) ∨ (i = .int .i64 2 ∧ wr = W2)) (fun i _ => 2 - (intOf i).toNat)
 case atStart => exact .inl ⟨rfl, rfl⟩
 case round =>
  rcases hrel with ⟨rfl, rfl⟩ | ⟨rfl, rfl⟩
  · go_wp2_with fail
    refine late_begin (S := fun w' => Fr no w1 w') (g := 9) (by kernel_rfl) ?_
    refine lateP 0 (.int .i64 1) rfl (fun _ => ev_move 8 _ rfl (by kernel_rfl)) (fun _ => HS0.out) ?_
    refine lateP 1 (.slice (some ⟨G, 0, none⟩) 2 2) rfl (fun _ => ev_move 7 _ rfl (by kernel_rfl)) (fun _ => HS0.out) ?_
    refine lateP 2 (.int .i64 1) rfl (fun _ => ev_move 8 _ rfl (by kernel_rfl)) (fun _ => HS0.out) ?_
    refine lateP 3 (.slice (some ⟨G, 2, none⟩) 1 1) rfl (fun _ => by kernel_rfl) (fun _ => HS0.out) ?_
    refine lateP 4 (.slice (some ⟨G, 0, none⟩) 2 2) rfl (fun _ => ev_move 7 _ rfl (by kernel_rfl)) (fun _ => HS0.out) ?_
    refine lateP 5 (.int .i64 1) rfl (fun _ => ev_move 8 _ rfl (by kernel_rfl)) (fun _ => HS0.out) ?_
    refine lateP 6 (.slice (some ⟨G, 0, none⟩) 1 2) rfl (fun _ => by kernel_rfl) (fun _ => HS0.out) ?_
    refine late_all [7] (by kernel_rfl) (by simp) (fun jj hjj => ?_)
    obtain rfl := one_of hjj
    refine late_op rfl rfl (ev_copy 42 41 44 _ _ _ _ rfl (by kernel_rfl) (by kernel_rfl) HC2.out) ?_
    refine ⟨fun _ => HS1.out, ?_⟩
    refine lateP 8 (.int .i64 2) rfl (fun _ => by kernel_rfl) (fun _ => HS1.out) ?_
    refine late_all [9] (by kernel_rfl) (by simp) (fun jj hjj => ?_)
    obtain rfl := one_of hjj
    refine late_op rfl rfl (ev_assign 46 (.int .i64 2) rfl (by kernel_rfl)) ?_
    refine ⟨(fun h => Bool.noConfusion (show true = false from h)), ?_⟩
    refine late_done (by kernel_rfl) ?_
    go_wp2_with fail
    refine ⟨⟨.int .i64 2, .int .i64 1, .slice (some ⟨G, 0, none⟩) 2 2, .int .i64 2, .bool true, .int .i64 1, .slice (some ⟨G, 0, none⟩) 2 2, .int .i64 1, .slice (some ⟨G, 2, none⟩) 1 1, .slice (some ⟨G, 0, none⟩) 2 2, .int .i64 1, .slice (some ⟨G, 0, none⟩) 1 2, .int .i64 1, .int .i64 2, .inr ⟨rfl, trivial⟩, by kernel_rfl⟩, ?_⟩
    exact lt_01 (by kernel_rfl) (by kernel_rfl)
  · go_wp2_with fail
    go_ret
    exact ⟨_, rfl, HO.out⟩
set_option maxRecDepth 100000 in
theorem mul64_11 (w : World) : Calls Tryz.prog 147 #[.int .u64 1, .int .u64 1] w fun e w' => e = .returned (.tuple #[.int .u64 0, .int .u64 1]) ∧ w' = w := by
 go_enter Tryz.func147, Tryz.ntmps147
 go_wp2_with fail
 go_ret2
 exact ⟨rfl, rfl⟩
set_option maxRecDepth 100000 in
theorem mul_11 (w : World) : Calls Tryz.prog 139 #[.int .u64 1, .int .u64 1] w fun e w' => e = .returned (.tuple #[.int .u64 0, .int .u64 1]) ∧ w' = w := by
 go_enter Tryz.func139, Tryz.ntmps139
 go_wp2_with fail
 refine (mul64_11 w).mono ?_
 rintro e w1 ⟨rfl, rfl⟩
 go_wp2_with fail
 go_ret2
 exact ⟨rfl, rfl⟩
set_option maxRecDepth 100000 in
set_option maxHeartbeats 4000000 in
theorem repeat1 (w : World) (g : Nat) (t : Ty) (hg : w.heap[g]? = some (.cells #[.int .i64 t.k, .string t.c] 44 (0, 0))) :
 Calls Tryz.prog 132 #[.slice (some ⟨g, 0, none⟩) 1 1, .int .i64 1] w fun e w' => ∃ v, e = .returned v ∧ OwnG elTy w' v [t] ∧ Fr no w w' := by
 have hmd : (madeCells #[.int .i64 0, .string ⟨#[]⟩] (1 * 2)) = #[Value.int .i64 0, .string ⟨#[]⟩] := by kernel_rfl
 have hmk := made_ty w 1 (.inl rfl)
 rw [hmd] at hmk
 have hmk2 : (Instr.makeSlice 42 (.int .i64 1) (.int .i64 1)).run Tryz.prog w = .ok (.slice (some ⟨w.heap.size, 0, none⟩) 1 1) (w.alloc (.cells #[.int .i64 0, .string ⟨#[]⟩] 44)) := hmk
 clear hmk
 generalize hW : w.alloc (.cells #[.int .i64 0, .string ⟨#[]⟩] 44) = W at *
 have G0 : Fr no w W := by rw [← hW]; exact (Fr.refl no w).alloc _ _
 have E0 : W.heap[w.heap.size]? = some (.cells #[.int .i64 0, .string ⟨#[]⟩] 44 (0, 0)) := by rw [← hW]; exact heap_alloc_new w _
 have hgW := G0.heap hg (fun f => f)
 obtain ⟨x0, x1⟩ := bx2 hgW
 generalize hG : w.heap.size = G at *
 have HC1 : (Builtin.copy_ #[42, 42] 3 #[.slice (some ⟨G, 0, none⟩) 1 1, .slice (some ⟨g, 0, none⟩) 1 1]).run Tryz.prog W = .ok (.int .i64 1) (W.setRow G #[.int .i64 t.k, .string t.c]) := run_copyT W G 0 1 1 ⟨g, 0, none⟩ 1 1 _ 44 [.int .i64 t.k, .string t.c] E0 rfl (by
  intro j v hj
  rcases j with _ | _ | j
  · simp at hj; subst hj; exact x0
  · simp at hj; subst hj; exact x1
  · simp at hj) (by simp) (by intro v hv; simp at hv; rcases hv with rfl | rfl <;> rfl)
 have E1 : (W.setRow G #[.int .i64 t.k, .string t.c]).heap[G]? = some (.cells #[.int .i64 t.k, .string t.c] 44 (0, 0)) := setRow_heap W G _ _ 44 (0, 0) E0
 have F1 : Fr no w (W.setRow G #[.int .i64 t.k, .string t.c]) := G0.setRow hG _
 generalize hW1 : W.setRow G #[.int .i64 t.k, .string t.c] = W1 at *
 have HO : Hid (OwnG elTy W1 (.slice (some ⟨G, 0, none⟩) 1 1) [t] ∧ Fr no w W1) := ⟨own_heap okTy [t] E1 (by rfl) (show 1 ≤ maxLen by decide), F1⟩
 clear F1 E1 hmd hW E0 hgW x0 x1 hW1
 go_enter Tryz.func132, Tryz.ntmps132
 go_wp2_with fail
 refine (mul_11 w).mono ?_
 rintro e w1 ⟨rfl, rfl⟩
 go_wp2_with fail
 go_loopw [8] (fun i wr => i = .int .i64 1 ∧ wr = W1) (fun _ _ => 0)
 case atStart => exact ⟨rfl, rfl⟩
 case round =>
  obtain ⟨rfl, rfl⟩ := hrel
  go_wp2_with fail
  go_ret
  exact ⟨_, rfl, HO.out⟩
end Go.Proofs.YtalgjpmaafooeaaGreatDoor
/- The rule of each instruction that the statements have. -/
namespace Go.Proofs.YtalgjpmaafooeaaGreatDoor
open Go.ChangeShapes Go.WideShapes Go.ChangeAt Go.RowKit
open H (ix NewV)
structure RuAt (w : World) (s : Ru) (x : Rl) : Prop where
 nv : s.nv = x.nv
 tk : SlG elTy w (.slice s.tk.a s.tk.n s.tk.c) x.tk
 pt : SlG elTy w (.slice s.pt.a s.pt.n s.pt.c) x.pt
 pc : s.pt.a = none → s.pt.c = 0
theorem RuAt.keep {w w' : World} {s : Ru} {x : Rl} (h : RuAt w s x) (hf : Fr no w w') : RuAt w' s x := ⟨h.nv, h.tk.kept hf, h.pt.kept hf, h.pc⟩
theorem results_106 (w : World) (r : Nat) (x0 x1 x2 : Value) (h : w.heap[r]? = some (.cells #[x0, x1, x2] 195 (0, 0))) (tmps : Array Value) (h2 : tmps.getD 2 undef = .pointer (some ⟨r, 0, none⟩)) :
 (results Tryz.f131 tmps).run Tryz.prog w = .ok (.agg #[x0, x1, x2]) w := by
 have hl : (loadVar 195 ⟨r, 0, none⟩).run Tryz.prog w = .ok (.agg #[x0, x1, x2]) w := run_loadVar_row (P := Tryz.prog) w r 195 195 #[x0, x1, x2] (0, 0) _ h Tryz.underlying195 rfl (by kernel_rfl)
 have h2' : tmps[2]?.getD undef = .pointer (some ⟨r, 0, none⟩) := by simpa using h2
 simp [results, asAddr, h2', hl]
theorem chain3 {w : World} {p : Nat} {t : TypeId} {c0 c1 c2 : Value} (h : w.heap[p]? = some (.cells #[c0, c1, c2] t (0, 0))) (x0 x1 x2 : Value) : (((w.setCell ⟨p, 0, none⟩ x0).setCell ⟨p, 1, none⟩ x1).setCell ⟨p, 2, none⟩ x2).heap[p]? = some (.cells #[x0, x1, x2] t (0, 0)) := by
 have h0 : (w.setCell ⟨p, 0, none⟩ x0).heap[p]? = some (.cells #[x0, c1, c2] t (0, 0)) := set_at h
 have h1 : ((w.setCell ⟨p, 0, none⟩ x0).setCell ⟨p, 1, none⟩ x1).heap[p]? = some (.cells #[x0, x1, c2] t (0, 0)) := set_at h0
 exact set_at h1
theorem frc3 (w : World) (p : Nat) (x0 x1 x2 : Value) : Fr (fun k => k = p) w (((w.setCell ⟨p, 0, none⟩ x0).setCell ⟨p, 1, none⟩ x1).setCell ⟨p, 2, none⟩ x2) :=
 (((Fr.refl (fun k => k = p) w).setCell (p := ⟨p, 0, none⟩) (fun _ => rfl) x0).setCell (p := ⟨p, 1, none⟩) (fun _ => rfl) x1).setCell (p := ⟨p, 2, none⟩) (fun _ => rfl) x2
theorem ints_sl (w : World) (l : List Int) (cs : Array Value) (hc : cs = (H.cg elJ l).toArray) (h : l.length ≤ 2) : H.SlG elJ (w.alloc (.cells cs 3)) (.slice (some ⟨w.heap.size, 0, none⟩) l.length l.length) l := (H.own_lit (K := elJ) w l cs hc (Nat.le_trans h (by decide))).sl
theorem ru_fin {w w2 W : World} {ru : Ru} {x : Rl} (hw : Fr no w w2) (h : RuAt w2 ru x) (hF : Fr (fun k => k = w.heap.size) w2 W) (h1 : ∀ ad, ru.tk.a = some ad → ad.block ≠ w.heap.size) (h2 : ∀ ad, ru.pt.a = some ad → ad.block ≠ w.heap.size) : RuAt W ru x ∧ Fr no w W := by
 have kp : ∀ {a : Option Addr} {n c : Nat} {l : List Ty}, SlG elTy w2 (.slice a n c) l → (∀ ad, a = some ad → ad.block ≠ w.heap.size) → SlG elTy W (.slice a n c) l := fun {a n c l} hs hne => by
  obtain ⟨ad, cap, e, h1, h2, hit⟩ := hs
  refine ⟨ad, cap, e, h1, h2, fun i y hi => ?_⟩
  simp only [Value.slice.injEq] at e
  obtain ⟨b, off, rfl, hc⟩ := hit i y hi
  exact ⟨b, off, rfl, fun j u hj => hF.cell (hc j u hj) (show b ≠ w.heap.size from hne ⟨b, off, none⟩ e.1)⟩
 exact ⟨⟨h.nv, kp h.tk h1, kp h.pt h2, h.pc⟩, hw.new hF (fun i hi e => by omega)⟩
def NewR (w : World) (ru : Ru) : Prop := (∀ ad, ru.tk.a = some ad → w.heap.size ≤ ad.block) ∧ (∀ ad, ru.pt.a = some ad → w.heap.size ≤ ad.block)
def ruleP (op : Int) : Rl :=
 if op = 1 then ⟨false, [], [kT 1]⟩ else if op = 2 then ⟨false, [], [kT 2]⟩ else if op = 3 then ⟨false, [], [kT 5]⟩ else if op = 5 ∨ op = 6 then ⟨false, [kT 6], []⟩
 else if op = 8 ∨ op = 10 ∨ op = 14 then ⟨false, [kT 1, kT 1], [kT 1]⟩ else if op = 16 ∨ op = 18 then ⟨false, [kT 2, kT 2], [kT 2]⟩ else if op = 20 then ⟨false, [kT 2, kT 2], [kT 1]⟩
 else if op = 23 ∨ op = 46 then ⟨false, [kT 1], []⟩ else if op = 47 then ⟨false, [kT 2], []⟩ else if op = 25 then ⟨false, [], [⟨4, sMain⟩]⟩ else ⟨false, [], []⟩
def plainOps : List Int := [1, 2, 3, 5, 6, 45]
set_option maxRecDepth 100000 in
set_option maxHeartbeats 4000000 in
theorem plain_1 (w : World) : Calls Tryz.prog 131 #[.int .i64 1] w fun e w' => ∃ ru, e = .returned (ruV ru) ∧ RuAt w' ru (ruleP 1) ∧ NewR w ru ∧ Fr no w w' := by
 generalize hW0 : w.alloc (.cells #[.bool false, .slice none 0 0, .slice none 0 0] 195) = W0
 have G0 : Fr no w W0 := by rw [← hW0]; exact (Fr.refl no w).alloc _ _
 have E0 : W0.heap[w.heap.size]? = some (.cells #[.bool false, .slice none 0 0, .slice none 0 0] 195 (0, 0)) := by rw [← hW0]; exact heap_alloc_new w _
 have hs0 : w.heap.size < W0.heap.size := lt_of_heap E0
 have HG : Hid (Fr no w W0 ∧ w.heap.size < W0.heap.size) := ⟨G0, hs0⟩
 generalize hA1 : W0.alloc (.cells #[.int .i64 1] 3) = A1
 have GA1 : Fr no W0 A1 := by rw [← hA1]; exact (Fr.refl no W0).alloc _ _
 have OF1 := of_any A1 _ [1] (by rw [← hA1]; exact ints_sl W0 [1] _ rfl (by decide)) (by decide) (by decide)
 go_enter Tryz.func131, Tryz.ntmps131
 go_wp2_with fail
 refine OF1.mono ?_
 rintro e w1 ⟨rfl, sl1, f1⟩
 have FF1 : Fr no W0 w1 := GA1.new f1 (fun _ _ f => f)
 have hz1 := FF1.size
 have hg1 := GA1.size
 have Z7 := FF1.heap E0 (fun f => f)
 obtain ⟨v0, v1, v2⟩ := bx3 Z7
 have fzz := fun o => frozen_at (o := o) Z7
 have HC : Hid _ := And.intro (chain3 Z7 (.bool false) (.slice none 0 0) (.slice (some ⟨A1.heap.size, 0, none⟩) 1 1)) (ru_fin (w := w) (ru := ⟨false, ⟨none, 0, 0⟩, ⟨some ⟨A1.heap.size, 0, none⟩, 1, 1⟩⟩) (x := ruleP 1) (HG.out.1.new FF1 (fun _ _ f => f)) ⟨rfl, SlG.nil elTy _, sl1, fun e => by simp at e⟩ (frc3 w1 w.heap.size (.bool false) (.slice none 0 0) (.slice (some ⟨A1.heap.size, 0, none⟩) 1 1)) (fun ad e => by simp at e) (fun ad e => by simp only [Option.some.injEq] at e; subst e; have := HG.out.2; simp only; omega))
 clear Z7 E0
 go_wp2_with fail
 exact bodyPost_ret (results_106 _ w.heap.size _ _ _ HC.out.1 _ rfl) rfl ⟨⟨false, ⟨none, 0, 0⟩, ⟨some ⟨A1.heap.size, 0, none⟩, 1, 1⟩⟩, rfl, HC.out.2.1, ⟨fun ad e => by simp at e, fun ad e => by simp only [Option.some.injEq] at e; subst e; have := HG.out.2; simp only; omega⟩, HC.out.2.2⟩
set_option maxRecDepth 100000 in
set_option maxHeartbeats 4000000 in
theorem plain_2 (w : World) : Calls Tryz.prog 131 #[.int .i64 2] w fun e w' => ∃ ru, e = .returned (ruV ru) ∧ RuAt w' ru (ruleP 2) ∧ NewR w ru ∧ Fr no w w' := by
 generalize hW0 : w.alloc (.cells #[.bool false, .slice none 0 0, .slice none 0 0] 195) = W0
 have G0 : Fr no w W0 := by rw [← hW0]; exact (Fr.refl no w).alloc _ _
 have E0 : W0.heap[w.heap.size]? = some (.cells #[.bool false, .slice none 0 0, .slice none 0 0] 195 (0, 0)) := by rw [← hW0]; exact heap_alloc_new w _
 have hs0 : w.heap.size < W0.heap.size := lt_of_heap E0
 have HG : Hid (Fr no w W0 ∧ w.heap.size < W0.heap.size) := ⟨G0, hs0⟩
 generalize hA1 : W0.alloc (.cells #[.int .i64 2] 3) = A1
 have GA1 : Fr no W0 A1 := by rw [← hA1]; exact (Fr.refl no W0).alloc _ _
 have OF1 := of_any A1 _ [2] (by rw [← hA1]; exact ints_sl W0 [2] _ rfl (by decide)) (by decide) (by decide)
 go_enter Tryz.func131, Tryz.ntmps131
 go_wp2_with fail
 refine OF1.mono ?_
 rintro e w1 ⟨rfl, sl1, f1⟩
 have FF1 : Fr no W0 w1 := GA1.new f1 (fun _ _ f => f)
 have hz1 := FF1.size
 have hg1 := GA1.size
 have Z7 := FF1.heap E0 (fun f => f)
 obtain ⟨v0, v1, v2⟩ := bx3 Z7
 have fzz := fun o => frozen_at (o := o) Z7
 have HC : Hid _ := And.intro (chain3 Z7 (.bool false) (.slice none 0 0) (.slice (some ⟨A1.heap.size, 0, none⟩) 1 1)) (ru_fin (w := w) (ru := ⟨false, ⟨none, 0, 0⟩, ⟨some ⟨A1.heap.size, 0, none⟩, 1, 1⟩⟩) (x := ruleP 2) (HG.out.1.new FF1 (fun _ _ f => f)) ⟨rfl, SlG.nil elTy _, sl1, fun e => by simp at e⟩ (frc3 w1 w.heap.size (.bool false) (.slice none 0 0) (.slice (some ⟨A1.heap.size, 0, none⟩) 1 1)) (fun ad e => by simp at e) (fun ad e => by simp only [Option.some.injEq] at e; subst e; have := HG.out.2; simp only; omega))
 clear Z7 E0
 go_wp2_with fail
 exact bodyPost_ret (results_106 _ w.heap.size _ _ _ HC.out.1 _ rfl) rfl ⟨⟨false, ⟨none, 0, 0⟩, ⟨some ⟨A1.heap.size, 0, none⟩, 1, 1⟩⟩, rfl, HC.out.2.1, ⟨fun ad e => by simp at e, fun ad e => by simp only [Option.some.injEq] at e; subst e; have := HG.out.2; simp only; omega⟩, HC.out.2.2⟩
set_option maxRecDepth 100000 in
set_option maxHeartbeats 4000000 in
theorem plain_3 (w : World) : Calls Tryz.prog 131 #[.int .i64 3] w fun e w' => ∃ ru, e = .returned (ruV ru) ∧ RuAt w' ru (ruleP 3) ∧ NewR w ru ∧ Fr no w w' := by
 generalize hW0 : w.alloc (.cells #[.bool false, .slice none 0 0, .slice none 0 0] 195) = W0
 have G0 : Fr no w W0 := by rw [← hW0]; exact (Fr.refl no w).alloc _ _
 have E0 : W0.heap[w.heap.size]? = some (.cells #[.bool false, .slice none 0 0, .slice none 0 0] 195 (0, 0)) := by rw [← hW0]; exact heap_alloc_new w _
 have hs0 : w.heap.size < W0.heap.size := lt_of_heap E0
 have HG : Hid (Fr no w W0 ∧ w.heap.size < W0.heap.size) := ⟨G0, hs0⟩
 generalize hA1 : W0.alloc (.cells #[.int .i64 5] 3) = A1
 have GA1 : Fr no W0 A1 := by rw [← hA1]; exact (Fr.refl no W0).alloc _ _
 have OF1 := of_any A1 _ [5] (by rw [← hA1]; exact ints_sl W0 [5] _ rfl (by decide)) (by decide) (by decide)
 go_enter Tryz.func131, Tryz.ntmps131
 go_wp2_with fail
 refine OF1.mono ?_
 rintro e w1 ⟨rfl, sl1, f1⟩
 have FF1 : Fr no W0 w1 := GA1.new f1 (fun _ _ f => f)
 have hz1 := FF1.size
 have hg1 := GA1.size
 have Z7 := FF1.heap E0 (fun f => f)
 obtain ⟨v0, v1, v2⟩ := bx3 Z7
 have fzz := fun o => frozen_at (o := o) Z7
 have HC : Hid _ := And.intro (chain3 Z7 (.bool false) (.slice none 0 0) (.slice (some ⟨A1.heap.size, 0, none⟩) 1 1)) (ru_fin (w := w) (ru := ⟨false, ⟨none, 0, 0⟩, ⟨some ⟨A1.heap.size, 0, none⟩, 1, 1⟩⟩) (x := ruleP 3) (HG.out.1.new FF1 (fun _ _ f => f)) ⟨rfl, SlG.nil elTy _, sl1, fun e => by simp at e⟩ (frc3 w1 w.heap.size (.bool false) (.slice none 0 0) (.slice (some ⟨A1.heap.size, 0, none⟩) 1 1)) (fun ad e => by simp at e) (fun ad e => by simp only [Option.some.injEq] at e; subst e; have := HG.out.2; simp only; omega))
 clear Z7 E0
 go_wp2_with fail
 exact bodyPost_ret (results_106 _ w.heap.size _ _ _ HC.out.1 _ rfl) rfl ⟨⟨false, ⟨none, 0, 0⟩, ⟨some ⟨A1.heap.size, 0, none⟩, 1, 1⟩⟩, rfl, HC.out.2.1, ⟨fun ad e => by simp at e, fun ad e => by simp only [Option.some.injEq] at e; subst e; have := HG.out.2; simp only; omega⟩, HC.out.2.2⟩
set_option maxRecDepth 100000 in
set_option maxHeartbeats 4000000 in
theorem plain_5 (w : World) : Calls Tryz.prog 131 #[.int .i64 5] w fun e w' => ∃ ru, e = .returned (ruV ru) ∧ RuAt w' ru (ruleP 5) ∧ NewR w ru ∧ Fr no w w' := by
 generalize hW0 : w.alloc (.cells #[.bool false, .slice none 0 0, .slice none 0 0] 195) = W0
 have G0 : Fr no w W0 := by rw [← hW0]; exact (Fr.refl no w).alloc _ _
 have E0 : W0.heap[w.heap.size]? = some (.cells #[.bool false, .slice none 0 0, .slice none 0 0] 195 (0, 0)) := by rw [← hW0]; exact heap_alloc_new w _
 have hs0 : w.heap.size < W0.heap.size := lt_of_heap E0
 have HG : Hid (Fr no w W0 ∧ w.heap.size < W0.heap.size) := ⟨G0, hs0⟩
 generalize hA1 : W0.alloc (.cells #[.int .i64 6] 3) = A1
 have GA1 : Fr no W0 A1 := by rw [← hA1]; exact (Fr.refl no W0).alloc _ _
 have OF1 := of_any A1 _ [6] (by rw [← hA1]; exact ints_sl W0 [6] _ rfl (by decide)) (by decide) (by decide)
 go_enter Tryz.func131, Tryz.ntmps131
 go_wp2_with fail
 refine OF1.mono ?_
 rintro e w1 ⟨rfl, sl1, f1⟩
 have FF1 : Fr no W0 w1 := GA1.new f1 (fun _ _ f => f)
 have hz1 := FF1.size
 have hg1 := GA1.size
 have Z7 := FF1.heap E0 (fun f => f)
 obtain ⟨v0, v1, v2⟩ := bx3 Z7
 have fzz := fun o => frozen_at (o := o) Z7
 have HC : Hid _ := And.intro (chain3 Z7 (.bool false) (.slice (some ⟨A1.heap.size, 0, none⟩) 1 1) (.slice none 0 0)) (ru_fin (w := w) (ru := ⟨false, ⟨some ⟨A1.heap.size, 0, none⟩, 1, 1⟩, ⟨none, 0, 0⟩⟩) (x := ruleP 5) (HG.out.1.new FF1 (fun _ _ f => f)) ⟨rfl, sl1, SlG.nil elTy _, fun _ => rfl⟩ (frc3 w1 w.heap.size (.bool false) (.slice (some ⟨A1.heap.size, 0, none⟩) 1 1) (.slice none 0 0)) (fun ad e => by simp only [Option.some.injEq] at e; subst e; have := HG.out.2; simp only; omega) (fun ad e => by simp at e))
 clear Z7 E0
 go_wp2_with fail
 exact bodyPost_ret (results_106 _ w.heap.size _ _ _ HC.out.1 _ rfl) rfl ⟨⟨false, ⟨some ⟨A1.heap.size, 0, none⟩, 1, 1⟩, ⟨none, 0, 0⟩⟩, rfl, HC.out.2.1, ⟨fun ad e => by simp only [Option.some.injEq] at e; subst e; have := HG.out.2; simp only; omega, fun ad e => by simp at e⟩, HC.out.2.2⟩
set_option maxRecDepth 100000 in
set_option maxHeartbeats 4000000 in
theorem plain_6 (w : World) : Calls Tryz.prog 131 #[.int .i64 6] w fun e w' => ∃ ru, e = .returned (ruV ru) ∧ RuAt w' ru (ruleP 6) ∧ NewR w ru ∧ Fr no w w' := by
 generalize hW0 : w.alloc (.cells #[.bool false, .slice none 0 0, .slice none 0 0] 195) = W0
 have G0 : Fr no w W0 := by rw [← hW0]; exact (Fr.refl no w).alloc _ _
 have E0 : W0.heap[w.heap.size]? = some (.cells #[.bool false, .slice none 0 0, .slice none 0 0] 195 (0, 0)) := by rw [← hW0]; exact heap_alloc_new w _
 have hs0 : w.heap.size < W0.heap.size := lt_of_heap E0
 have HG : Hid (Fr no w W0 ∧ w.heap.size < W0.heap.size) := ⟨G0, hs0⟩
 generalize hA1 : W0.alloc (.cells #[.int .i64 6] 3) = A1
 have GA1 : Fr no W0 A1 := by rw [← hA1]; exact (Fr.refl no W0).alloc _ _
 have OF1 := of_any A1 _ [6] (by rw [← hA1]; exact ints_sl W0 [6] _ rfl (by decide)) (by decide) (by decide)
 go_enter Tryz.func131, Tryz.ntmps131
 go_wp2_with fail
 refine OF1.mono ?_
 rintro e w1 ⟨rfl, sl1, f1⟩
 have FF1 : Fr no W0 w1 := GA1.new f1 (fun _ _ f => f)
 have hz1 := FF1.size
 have hg1 := GA1.size
 have Z7 := FF1.heap E0 (fun f => f)
 obtain ⟨v0, v1, v2⟩ := bx3 Z7
 have fzz := fun o => frozen_at (o := o) Z7
 have HC : Hid _ := And.intro (chain3 Z7 (.bool false) (.slice (some ⟨A1.heap.size, 0, none⟩) 1 1) (.slice none 0 0)) (ru_fin (w := w) (ru := ⟨false, ⟨some ⟨A1.heap.size, 0, none⟩, 1, 1⟩, ⟨none, 0, 0⟩⟩) (x := ruleP 6) (HG.out.1.new FF1 (fun _ _ f => f)) ⟨rfl, sl1, SlG.nil elTy _, fun _ => rfl⟩ (frc3 w1 w.heap.size (.bool false) (.slice (some ⟨A1.heap.size, 0, none⟩) 1 1) (.slice none 0 0)) (fun ad e => by simp only [Option.some.injEq] at e; subst e; have := HG.out.2; simp only; omega) (fun ad e => by simp at e))
 clear Z7 E0
 go_wp2_with fail
 exact bodyPost_ret (results_106 _ w.heap.size _ _ _ HC.out.1 _ rfl) rfl ⟨⟨false, ⟨some ⟨A1.heap.size, 0, none⟩, 1, 1⟩, ⟨none, 0, 0⟩⟩, rfl, HC.out.2.1, ⟨fun ad e => by simp only [Option.some.injEq] at e; subst e; have := HG.out.2; simp only; omega, fun ad e => by simp at e⟩, HC.out.2.2⟩
set_option maxRecDepth 100000 in
set_option maxHeartbeats 4000000 in
theorem plain_45 (w : World) : Calls Tryz.prog 131 #[.int .i64 45] w fun e w' => ∃ ru, e = .returned (ruV ru) ∧ RuAt w' ru (ruleP 45) ∧ NewR w ru ∧ Fr no w w' := by
 generalize hW0 : w.alloc (.cells #[.bool false, .slice none 0 0, .slice none 0 0] 195) = W0
 have G0 : Fr no w W0 := by rw [← hW0]; exact (Fr.refl no w).alloc _ _
 have E0 : W0.heap[w.heap.size]? = some (.cells #[.bool false, .slice none 0 0, .slice none 0 0] 195 (0, 0)) := by rw [← hW0]; exact heap_alloc_new w _
 have hs0 : w.heap.size < W0.heap.size := lt_of_heap E0
 have HG : Hid (Fr no w W0 ∧ w.heap.size < W0.heap.size) := ⟨G0, hs0⟩
 go_enter Tryz.func131, Tryz.ntmps131
 have Z7 := (Fr.refl no W0).heap E0 (fun f => f)
 obtain ⟨v0, v1, v2⟩ := bx3 Z7
 have fzz := fun o => frozen_at (o := o) Z7
 have HC : Hid _ := And.intro (chain3 Z7 (.bool false) (.slice none 0 0) (.slice none 0 0)) (ru_fin (w := w) (ru := ⟨false, ⟨none, 0, 0⟩, ⟨none, 0, 0⟩⟩) (x := ruleP 45) (HG.out.1.new (Fr.refl no W0) (fun _ _ f => f)) ⟨rfl, SlG.nil elTy _, SlG.nil elTy _, fun _ => rfl⟩ (frc3 W0 w.heap.size (.bool false) (.slice none 0 0) (.slice none 0 0)) (fun ad e => by simp at e) (fun ad e => by simp at e))
 clear Z7 E0
 go_wp2_with fail
 exact bodyPost_ret (results_106 _ w.heap.size _ _ _ HC.out.1 _ rfl) rfl ⟨⟨false, ⟨none, 0, 0⟩, ⟨none, 0, 0⟩⟩, rfl, HC.out.2.1, ⟨fun ad e => by simp at e, fun ad e => by simp at e⟩, HC.out.2.2⟩
def AtMain (w : World) (plv : Value) (a : Int) : Prop := ∃ b off n cap i : Nat, plv = .slice (some ⟨b, off, none⟩) n cap ∧ a = (i : Int) ∧ i < n ∧ w.cell? ⟨b, off + i * 5 + 3, none⟩ = some (.string sMain)
theorem AtMain.keep {w w' : World} {plv : Value} {a : Int} (h : AtMain w plv a) (hf : Fr no w w') : AtMain w' plv a := by
 obtain ⟨b, off, n, cap, i, h1, h2, h3, h4⟩ := h
 exact ⟨b, off, n, cap, i, h1, h2, h3, hf.cell h4 (fun f => f)⟩
theorem plain_any (w : World) (op : Int) (h : op ∈ plainOps) : Calls Tryz.prog 131 #[.int .i64 op] w fun e w' => ∃ ru, e = .returned (ruV ru) ∧ RuAt w' ru (ruleP op) ∧ NewR w ru ∧ Fr no w w' := by
 simp only [plainOps, List.mem_cons, List.not_mem_nil, or_false] at h
 rcases h with rfl | rfl | rfl | rfl | rfl | rfl
 · exact plain_1 w
 · exact plain_2 w
 · exact plain_3 w
 · exact plain_5 w
 · exact plain_6 w
 · exact plain_45 w
end Go.Proofs.YtalgjpmaafooeaaGreatDoor
