/- Notify of the document. -/
import Derived.Test.YtkkpimpmhnnbjaaDf
import Derived.Test.YtkkpimpmhnnbjaaNo
namespace Go.Proofs.Ytkkpimpmhnnbjaa
open Go.ChangeShapes Go.WideShapes Go.ChangeAt Go.RowKit

theorem set_same {α : Type} (l : List α) (i : Nat) (x : α) (h : l[i]? = some x) : l.set i x = l := by
  obtain ⟨hi, rfl⟩ := List.getElem?_eq_some_iff.1 h
  exact List.set_getElem_self hi

theorem Dx.kept {c : Nat} {w w' : World} {q : Nat} {D : List Dl} {i : Nat} {d : Dl} {b r : Nat} {S : Nat → Prop} (h : Dx c w q D i d b r) (hf : Fr S w w') (hS : ∀ k, Kd w k → ¬ S k) : Dx c w' q D i d b r := by
  obtain ⟨n, cap, o, h1, h2⟩ := h.pt
  exact ⟨h.dt.kept hf hS, h.nth, n, cap, o, hf.heap h1 (hS q ⟨_, 29, h1, .inl rfl⟩), h2⟩

theorem OwnG.notKd {w : World} {v : Value} {l : List Int} (h : OwnG elI w v l) {k : Nat} (hk : Kd w k) : ¬ v.ownBlock = some k := by
  rintro e
  obtain ⟨cur, hc⟩ := h.tag e
  obtain ⟨cur2, t, hc2, ht⟩ := hk
  rw [hc] at hc2
  rcases ht with rfl | rfl | rfl <;> simp [elI] at hc2

theorem OwnG.notTd {c : Nat} {w : World} {v : Value} {l : List Int} (h : OwnG elI w v l) {k : Nat} (hk : v.ownBlock = some k) : ¬ Td c w k := by
  rintro ⟨-, cur2, t2, hc2, h2⟩
  obtain ⟨cur, hc⟩ := h.tag hk
  rw [hc] at hc2
  rcases h2 with rfl | rfl <;> simp [elI] at hc2

def slLen : Value → Nat
  | .slice _ n _ => n
  | _ => 0

/-- Notify's loop behind k threads. -/
def NS (c : Nat) (w wr : World) (q : Nat) (D : List Dl) (i : Nat) (x : Lk) (a : Int) (b r k : Nat) (lv : Value) : Prop :=
  ∃ d', Dx c wr q (D.set i d') i d' b r ∧ d'.at_ = a ∧ d'.x = noteL x k ∧ OwnG elI wr lv (fsts (x.wait.take k)) ∧ NewV w lv ∧ Fr (Td c w) w wr

def dNotifyP (a t : Int) (all : Bool) (T : List (Int × Lk)) : Nat × Int × List (Int × Lk) :=
  match dOwn T a t with
  | none => (0, 130, T)
  | some (i, x) => (noteK x all, 0, T.set i (a, noteL x (noteK x all)))

theorem drop_cons {α : Type} {l : List α} {k : Nat} {z : α} (h : l[k]? = some z) : l.drop k = z :: l.drop (k + 1) := by
  obtain ⟨hi, rfl⟩ := List.getElem?_eq_some_iff.1 h
  exact List.drop_eq_getElem_cons hi

/-- A thread goes on from those who wait to those who enter. -/
theorem NS.next {c : Nat} {w wr w3 w4 : World} {q : Nat} {D : List Dl} {i : Nat} {x : Lk} {a : Int} {b r k : Nat} {lv v' : Value} {z1 z2 : Int} (h : NS c w wr q D i x a b r k lv) (hz : x.wait[k]? = some (z1, z2)) {so : Option Addr} {sc sn : Nat} {ov : Option Addr} {lf cv : Nat}
    (o3 : OwnG elI w3 v' (fsts (x.wait.take k) ++ [z1])) (n3 : NewV w v') (f3 : Fr (Td c w) w w3) (x3 : ∀ d', Dx c wr q (D.set i d') i d' b r → Dx c w3 q (D.set i d') i d' b r)
    (o4 : OwnG elD w4 (.slice ov lf cv) ((noteL x k).entry ++ [(z1, z2)])) (f4 : Fr no w3 w4) (o5 : OwnG elD w4 (.slice so sn sc) (x.wait.drop (k + 1))) :
    NS c w ((w4.setCell ⟨b, r + 4, none⟩ (.slice ov lf cv)).setCell ⟨b, r + 5, none⟩ (.slice so sn sc)) q D i x a b r (k + 1) v' := by
  obtain ⟨d, hd, h1, h2, -, -, -⟩ := h
  have A0 := (x3 d hd).keep f4
  obtain ⟨A1, f1⟩ := A0.set 4 (.slice ov lf cv) { d with x := { d.x with entry := (noteL x k).entry ++ [(z1, z2)] }, e := .slice ov lf cv, he := rfl } (by decide) rfl o4 A0.rows.2
  obtain ⟨A2, f2⟩ := A1.set 5 (.slice so sn sc) { d with x := noteL x (k + 1), e := .slice ov lf cv, he := rfl, v := .slice so sn sc, hv := rfl } (by decide) (by
    show [_, _, _, _, _, _] = _
    simp only [elK, List.set_cons_succ, List.set_cons_zero]
    rw [h2]
    rfl) (by
    have e : (noteL x (k + 1)).entry = (noteL x k).entry ++ [(z1, z2)] := by
      unfold noteL
      simp only []
      rw [take_next x.wait k _ hz, List.append_assoc]
    show OwnG elD _ _ (noteL x (k + 1)).entry
    rw [e]
    exact A1.rows.1) (o5.kept f1 (fun k hk => o5.notd hk))
  rw [List.set_set, List.set_set] at A2
  have o3' : OwnG elI w3 v' (fsts (x.wait.take (k + 1))) := by
    rw [take_next x.wait k _ hz]
    unfold fsts at o3 ⊢
    rw [List.map_append]
    exact o3
  have o3'' := o3'.keep f4
  exact ⟨_, A2, h1, rfl, (o3''.kept f1 (fun k hk => o3''.notTd hk)).kept f2 (fun k hk => (o3''.kept f1 (fun k hk => o3''.notTd hk)).notTd hk), n3, (f3.td f4.ofNo).td (f1.td f2)⟩
set_option maxRecDepth 100000 in
set_option maxHeartbeats 1000000 in
theorem dNotify_any {c : Nat} {w : World} {q : Nat} {T : List (Int × Lk)} (h : DB c w q T) (a t : Int) (all : Bool) (hl : T.length ≤ 2000) (hb : ∀ p ∈ T, p.2.entry.length + p.2.wait.length ≤ 800000) :
    Calls Try.prog 17 #[.pointer (some ⟨q, 0, none⟩), .int .i64 a, .int .i64 t, .bool all] w fun e w' => ∃ so sc, e = .returned (.tuple #[.slice so (dNotifyP a t all T).1 sc, .int .i64 (dNotifyP a t all T).2.1]) ∧ DB c w' q (dNotifyP a t all T).2.2 ∧ Fr (Td c w) w w' := by
  have e1 := eq73n
  have e2 := eq73p
  obtain ⟨D, hD, rfl⟩ := h
  rw [told_length] at hl
  unfold dNotifyP
  cases ho : dOwn (told D) a t with
  | none =>
    have OW := dOwned_none hD a t (by omega) ho
    have HZ : Hid (DB c w q (told D) ∧ Fr (Td c w) w w) := ⟨⟨D, hD, rfl⟩, Fr.refl _ _⟩
    clear hD hb ho
    go_enter Try.func17, Try.ntmps17
    go_wp2_with fail
    refine OW.mono ?_
    rintro _ _ ⟨rfl, rfl⟩
    clear OW
    go_wp2_with fail
    go_ret2
    exact ⟨none, 0, rfl, HZ.out⟩
  | some p =>
    obtain ⟨i, x⟩ := p
    simp only []
    have OW := dOwned_some hD a t (by omega) ho
    have hin := hb _ (List.mem_of_getElem? (dOwn_some ho).2.1)
    simp only [] at hin
    clear hD hb ho
    go_enter Try.func17, Try.ntmps17
    go_wp2_with fail
    refine OW.mono ?_
    rintro _ w ⟨d, b, r, rfl, hdx, rfl, rfl, rfl⟩
    clear OW
    have HS0 : Hid (NS c w w q D i d.x d.at_ b r 0 (.slice none 0 0)) := by
      refine ⟨d, by rw [set_same D i d hdx.nth]; exact hdx, rfl, ?_, OwnG.nil _ _, NewV.nil _, Fr.refl _ _⟩
      unfold noteL
      simp
    clear hdx
    go_wp2_with fail
    go_loopw [11] (fun lv wr => ∃ k : Nat, k ≤ d.x.wait.length ∧ (all = false → k ≤ 1) ∧ slLen lv = k ∧ NS c w wr q D i d.x d.at_ b r k lv) (fun lv _ => d.x.wait.length - slLen lv)
    case atStart => exact ⟨0, Nat.zero_le _, fun _ => Nat.zero_le _, rfl, HS0.out⟩
    case round =>
      clear HS0
      obtain ⟨k, hk, hk1, hsl, hns⟩ := hrel
      have HNS : Hid (NS c w wr q D i d.x d.at_ b r k u11) := hns
      obtain ⟨d', hX, hda, hdx, hoI, hnv, hfr⟩ := hns
      obtain ⟨oI, cI, hvI⟩ := hoI.form
      have hlI : (fsts (d.x.wait.take k)).length = k := by simp [fsts]; omega
      rw [hlI] at hvI
      subst hvI
      obtain ⟨-, -, -, -, c4, c5⟩ := hX.cells
      obtain ⟨r1, r2⟩ := hX.rows
      rw [hdx] at r1 r2
      obtain ⟨ow, cw, hww⟩ := r2.form
      obtain ⟨oe, ce, hee⟩ := r1.form
      have hwl : (noteL d.x k).wait.length = d.x.wait.length - k := by unfold noteL; simp
      have hel : (noteL d.x k).entry.length = d.x.entry.length + k := by unfold noteL; simp; omega
      rw [hwl] at hww
      rw [hel] at hee
      rw [hww] at c5
      rw [hee] at c4
      by_cases hgo : k < d.x.wait.length ∧ (all = true ∨ k = 0)
      · obtain ⟨hlt, hgo⟩ := hgo
        obtain ⟨⟨z1, z2⟩, hz⟩ : ∃ z, d.x.wait[k]? = some z := ⟨_, List.getElem?_eq_getElem hlt⟩
        have hwd : (noteL d.x k).wait = (z1, z2) :: d.x.wait.drop (k + 1) := drop_cons hz
        rw [hwd, hww] at r2
        obtain ⟨g, o, hov⟩ : ∃ g o, ow = some ⟨g, o, none⟩ := by
          rcases r2 with ⟨_, hl⟩ | ⟨g, o, cap, cur, hv, _⟩
          · simp at hl
          · simp only [Value.slice.injEq] at hv
            exact ⟨g, o, hv.1⟩
        subst hov
        have k0 := r2.cells 0 (.int .i64 z1) rfl
        have k1 := r2.cells 1 (.int .i64 z2) rfl
        rw [Nat.add_zero] at k0
        obtain ⟨sv, hs1, -, -, hso0, -⟩ := cut_high elD_ok elem70 r2 1 (by simp)
        have hso : OwnG elD wr sv (d.x.wait.drop (k + 1)) := hso0
        obtain ⟨so, sc, hsv⟩ := hso.form
        subst hsv
        have hs2 : ∀ w', (Instr.slice 70 (.slice (some ⟨g, o, none⟩) (d.x.wait.length - k) cw) (some (.int .i64 1)) none none).run Try.prog w' = .ok (.slice so (d.x.wait.drop (k + 1)).length sc) w' := hs1
        have fa : Fr no wr (wr.alloc (.cells (elI.f z1).toArray elI.e)) := (Fr.refl no wr).alloc _ _
        have HO1 : Hid (OwnG elI (wr.alloc (.cells (elI.f z1).toArray elI.e)) (.slice oI k cI) (fsts (d.x.wait.take k))) := hoI.keep fa
        have HSR : Hid (Src Try.prog elI.n elI.t (.slice (some ⟨wr.heap.size, 0, none⟩) 1 1) [z1].length (cg elI [z1]) (wr.alloc (.cells (elI.f z1).toArray elI.e))) := srcG_one elI_ok wr z1
        have HSL : Hid ((fsts (d.x.wait.take k)).length + [z1].length ≤ 1000000) := by rw [Hid, hlI]; simp only [List.length_cons, List.length_nil]; omega
        have LEM : Hid (∀ v' w3, OwnG elI w3 v' (fsts (d.x.wait.take k) ++ [z1]) → Sp (.slice oI k cI) (wr.alloc (.cells (elI.f z1).toArray elI.e)) v' w3 → ∃ oJ cJ, v' = .slice oJ (k + 1) cJ ∧ Hid (OwnG elI w3 (.slice oJ (k + 1) cJ) (fsts (d.x.wait.take k) ++ [z1]) ∧ NewV w (.slice oJ (k + 1) cJ) ∧ Fr (Td c w) w w3 ∧ (∀ d', Dx c wr q (D.set i d') i d' b r → Dx c w3 q (D.set i d') i d' b r) ∧ (∀ {v : Value} {l : List (Int × Int)}, OwnG elD wr v l → OwnG elD w3 v l))) := by
          intro v' w3 o3 s3
          have n1 := hnv.step (hfr.alloc _ _) s3
          obtain ⟨oJ, cJ, rfl⟩ := o3.form
          have hJ : (fsts (d.x.wait.take k) ++ [z1]).length = k + 1 := by rw [List.length_append, hlI]; rfl
          rw [hJ] at o3 n1 s3 ⊢
          refine ⟨oJ, cJ, rfl, o3, n1.1, n1.2, fun d' hd' => (hd'.keep fa).kept s3.1 (fun k hk => HO1.out.notKd hk), fun {v l} ho => (ho.keep fa).kept s3.1 (fun k hk e => ?_)⟩
          obtain ⟨cur, hc⟩ := (ho.keep fa).tag hk
          exact HO1.out.notKd ⟨cur, 75, hc, .inr (.inr rfl)⟩ e
        have HX : Hid (Dx c wr q (D.set i d') i d' b r ∧ d'.e = .slice oe (d.x.entry.length + k) ce ∧ d'.v = .slice (some ⟨g, o, none⟩) (d.x.wait.length - k) cw ∧ OwnG elD wr d'.e (noteL d.x k).entry ∧ OwnG elD wr (.slice so (d.x.wait.drop (k + 1)).length sc) (d.x.wait.drop (k + 1)) ∧ OwnG elD wr (.slice (some ⟨g, o, none⟩) (d.x.wait.length - k) cw) ((z1, z2) :: d.x.wait.drop (k + 1))) := ⟨hX, hee, hww, r1, hso, r2⟩
        have HZ : Hid (d.x.wait[k]? = some (z1, z2)) := hz
        have HEL : Hid ((noteL d.x k).entry.length = d.x.entry.length + k) := hel
        have hpos : (0 : Int) < ((d.x.wait.length - k : Nat) : Int) := by omega
        have hpos' : ¬ (((d.x.wait.length - k : Nat) : Int) ≤ 0) := by omega
        clear hX hda hdx hoI hnv hfr r1 r2 hwd hso hso0 hs1 fa hz hwl hel hww hee hlI hsl
        generalize hwn : d.x.wait.length - k = wn at *
        generalize hen : d.x.entry.length + k = en at *
        generalize hsn : (d.x.wait.drop (k + 1)).length = sn at *
        cases all with
        | true =>
          go_upto_region 7 with (at_builtin; refine wpList_apdG elI_ok _ rfl rfl _ _ rfl (.slice oI k cI) (fsts (d.x.wait.take k)) rfl HO1.out _ rfl [z1] HSR.out HSL.out ?_; intro v' w3 o3 s3; obtain ⟨oJ, cJ, rfl, H3⟩ := LEM.out v' w3 o3 s3; clear o3 s3)
          rename_i K0 h0x
          refine Code.wp_mono (Q := Exit.then K0 (fun _ _ _ => False)) (fun e a w h => by cases e <;> first | exact h | exact False.elim h) ?_
          have HX3 := H3.out.2.2.2.1 d' HX.out.1
          refine dreg17 w3 b r en ce oe (noteL d.x k).entry z1 z2 g o wn cw (by rw [← HX.out.2.1]; exact H3.out.2.2.2.2 HX.out.2.2.2.1) (fun w' f => ?_) (by rw [HEL.out]; omega) hpos (fun w' f => ?_) K0 _ _ _ _ _ _ _ _ _ _ _ _ _ _ _ _ _ _ _ _ _ _ _ _ _ _ _ _ _ _ _ _ _ _ _ _ _ _ _ _ _ _ _ _ _ _ _ _ _ _ _ _ _ _ _ _ _ _ _ _ _ _ _ _ _ _ _ _ _ _ _ _ _ _ _ _ (fun ov lf cv w4 o4 f4 => ?_)
          · have A := HX3.keep f
            obtain ⟨-, -, -, -, a4, -⟩ := A.cells
            rw [HX.out.2.1] at a4
            exact ⟨a4, A.thaw _⟩
          · have A := HX3.keep f
            obtain ⟨-, -, -, -, -, a5⟩ := A.cells
            rw [HX.out.2.2.1] at a5
            have Y := (H3.out.2.2.2.2 HX.out.2.2.2.2.2).keep f
            have y0 := Y.cells 0 (.int .i64 z1) rfl
            have y1 := Y.cells 1 (.int .i64 z2) rfl
            rw [Nat.add_zero] at y0
            exact ⟨a5, y0, y1⟩
          · have HN : Hid (NS c w ((w4.setCell ⟨b, r + 4, none⟩ (.slice ov lf cv)).setCell ⟨b, r + 5, none⟩ (.slice so sn sc)) q D i d.x d.at_ b r (k + 1) (.slice oJ (k + 1) cJ)) := HNS.out.next HZ.out H3.out.1 H3.out.2.1 H3.out.2.2.1 H3.out.2.2.2.1 o4 f4 ((H3.out.2.2.2.2 HX.out.2.2.2.2.1).keep f4)
            have A := HX3.keep f4
            obtain ⟨-, -, -, -, -, a5⟩ := A.cells
            rw [HX.out.2.2.1] at a5
            have z5 := A.thaw (r + 5)
            clear A HX3 o4 f4 H3 HO1 HSR HSL LEM HNS c4 c5 k0 k1 HX HZ HEL
            refine h0x _ _ ?_
            clear h0x
            go_wp2_with fail
            go_roundw
            case rel => exact ⟨k + 1, by omega, fun e => by rcases hgo with h | h <;> first | omega | (rw [h] at e; simp at e), rfl, HN.out⟩
            case measure => simp [slLen]; omega
        | false =>
          obtain rfl : k = 0 := by simpa using hgo
          go_upto_region 7 with (at_builtin; refine wpList_apdG elI_ok _ rfl rfl _ _ rfl (.slice oI 0 cI) (fsts (d.x.wait.take 0)) rfl HO1.out _ rfl [z1] HSR.out HSL.out ?_; intro v' w3 o3 s3; obtain ⟨oJ, cJ, rfl, H3⟩ := LEM.out v' w3 o3 s3; clear o3 s3)
          rename_i K0 h0x
          refine Code.wp_mono (Q := Exit.then K0 (fun _ _ _ => False)) (fun e a w h => by cases e <;> first | exact h | exact False.elim h) ?_
          have HX3 := H3.out.2.2.2.1 d' HX.out.1
          refine dreg17 w3 b r en ce oe (noteL d.x 0).entry z1 z2 g o wn cw (by rw [← HX.out.2.1]; exact H3.out.2.2.2.2 HX.out.2.2.2.1) (fun w' f => ?_) (by rw [HEL.out]; omega) hpos (fun w' f => ?_) K0 _ _ _ _ _ _ _ _ _ _ _ _ _ _ _ _ _ _ _ _ _ _ _ _ _ _ _ _ _ _ _ _ _ _ _ _ _ _ _ _ _ _ _ _ _ _ _ _ _ _ _ _ _ _ _ _ _ _ _ _ _ _ _ _ _ _ _ _ _ _ _ _ _ _ _ _ (fun ov lf cv w4 o4 f4 => ?_)
          · have A := HX3.keep f
            obtain ⟨-, -, -, -, a4, -⟩ := A.cells
            rw [HX.out.2.1] at a4
            exact ⟨a4, A.thaw _⟩
          · have A := HX3.keep f
            obtain ⟨-, -, -, -, -, a5⟩ := A.cells
            rw [HX.out.2.2.1] at a5
            have Y := (H3.out.2.2.2.2 HX.out.2.2.2.2.2).keep f
            have y0 := Y.cells 0 (.int .i64 z1) rfl
            have y1 := Y.cells 1 (.int .i64 z2) rfl
            rw [Nat.add_zero] at y0
            exact ⟨a5, y0, y1⟩
          · have HN : Hid (NS c w ((w4.setCell ⟨b, r + 4, none⟩ (.slice ov lf cv)).setCell ⟨b, r + 5, none⟩ (.slice so sn sc)) q D i d.x d.at_ b r (0 + 1) (.slice oJ (0 + 1) cJ)) := HNS.out.next HZ.out H3.out.1 H3.out.2.1 H3.out.2.2.1 H3.out.2.2.2.1 o4 f4 ((H3.out.2.2.2.2 HX.out.2.2.2.2.1).keep f4)
            have A := HX3.keep f4
            obtain ⟨-, -, -, -, -, a5⟩ := A.cells
            rw [HX.out.2.2.1] at a5
            have z5 := A.thaw (r + 5)
            clear A HX3 o4 f4 H3 HO1 HSR HSL LEM HNS c4 c5 k0 k1 HX HZ HEL
            refine h0x _ _ ?_
            clear h0x
            go_wp2_with fail
            go_roundw
            case rel => exact ⟨0 + 1, by omega, fun e => by rcases hgo with h | h <;> first | omega | (rw [h] at e; simp at e), rfl, HN.out⟩
            case measure => simp [slLen]; omega
      · by_cases hlt : k < d.x.wait.length
        · have hk1' : all = false ∧ k = 1 := by
            cases all with
            | true => exact absurd ⟨hlt, .inl rfl⟩ hgo
            | false => exact ⟨rfl, by have := hk1 rfl; have : ¬ k = 0 := fun e => hgo ⟨hlt, .inr e⟩; omega⟩
          obtain ⟨rfl, rfl⟩ := hk1'
          have hkz : (((1 : Nat) : Int) == 0) = false := rfl
          have HZ : Hid (DB c wr q ((told D).set i (d.at_, noteL d.x (noteK d.x false))) ∧ Fr (Td c w) w wr ∧ noteK d.x false = 1) := by
            have hkk : noteK d.x false = 1 := by unfold noteK; simp; try omega
            refine ⟨?_, hfr, hkk⟩
            have := hX.db
            rw [hda, hdx] at this
            rw [hkk]
            exact this
          clear hX hda hdx hoI hnv hfr r1 r2 hwl hel hww hee hlI hsl HNS
          generalize hwn : d.x.wait.length - 1 = wn at *
          generalize hen : d.x.entry.length + 1 = en at *
          have hpos : (0 : Int) < (wn : Int) := by omega
          go_wp2_with fail
          go_ret2
          first | exact ⟨⟨oI, cI, by rw [HZ.out.2.2]; rfl⟩, HZ.out.1, HZ.out.2.1⟩ | exact ⟨oI, cI, by rw [HZ.out.2.2]; rfl, HZ.out.1, HZ.out.2.1⟩
        · obtain rfl : k = d.x.wait.length := by omega
          have HZ : Hid (DB c wr q ((told D).set i (d.at_, noteL d.x (noteK d.x all))) ∧ Fr (Td c w) w wr ∧ noteK d.x all = d.x.wait.length) := by
            have hkk : noteK d.x all = d.x.wait.length := by unfold noteK; cases all with | true => rfl | false => (have := hk1 rfl; simp; omega)
            refine ⟨?_, hfr, hkk⟩
            have := hX.db
            rw [hda, hdx] at this
            rw [hkk]
            exact this
          clear hX hda hdx hoI hnv hfr r1 r2 hwl hel hww hee hlI hsl HNS
          generalize hwn : d.x.wait.length - d.x.wait.length = wn at *
          generalize hen : d.x.entry.length + d.x.wait.length = en at *
          obtain rfl : wn = 0 := by omega
          generalize hwq : d.x.wait.length = wq at *
          go_wp2_with fail
          go_ret2
          first | exact ⟨⟨oI, cI, by rw [HZ.out.2.2]; rfl⟩, HZ.out.1, HZ.out.2.1⟩ | exact ⟨oI, cI, by rw [HZ.out.2.2]; rfl, HZ.out.1, HZ.out.2.1⟩
end Go.Proofs.Ytkkpimpmhnnbjaa
