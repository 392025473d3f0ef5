/- The methods of a class by their names. -/
import Derived.Test.YtcbpmahekgkjlaaGreatDoorJaq
import Derived.Test.YtcbpmahekgkjlaaGreatDoorJan
import Derived.Test.YtcbpmahekgkjlaaGreatDoorJaf
namespace Go.Proofs.YtcbpmahekgkjlaaGreatDoor
open Go.ChangeShapes Go.WideShapes Go.ChangeAt Go.RowKit
open H (ky Owns MapOf ix up nameAt anc Fine obj fault)

theorem ev_lookup {o : Oper} {a : Act} {w : World} (t : TypeId) (x y : Nat) (v k u : Value) (ho : o.op = .lookup t (.tmp x) (.tmp y) false) (hx : a.eval (.tmp x) = v) (hy : a.eval (.tmp y) = k) (hr : (Instr.lookup t v k false).run Tryz.prog w = .ok u w) : (execOp a.eval o).run Tryz.prog w = .ok (.value u) w := by
  unfold execOp; simp [ho, hx, hy, hr]

theorem layN_bd (Cs : List Cl) (hs : ∀ c ∈ Cs, SmallC c) : ∀ (l : List Nat) (n : Nat) (y : Li), Bd n y → Bd (n + l.length) (layN Cs y l)
  | [], _, _, h => h
  | j :: r, n, y, h => by
    have hc : SmallC (clsAt Cs j) := by
      unfold clsAt
      rw [List.getD_eq_getElem?_getD]
      cases e : Cs[j]? with
      | none => exact ⟨by decide, by decide, by decide, fun m hm => by simp [objC] at hm⟩
      | some c => exact hs c (List.mem_of_getElem? e)
    have := layN_bd Cs hs r (n + 1) _ (takeC_bd h j (by have := hc.f; omega) (by have := hc.m; omega))
    rw [List.length_cons, show n + (r.length + 1) = n + 1 + r.length by omega]
    exact this

theorem lay_nm {w : World} {p : Nat} {Cs : List Cl} {A : List Nat} (h : Prg w p Cs A) (hs : ∀ c ∈ Cs, SmallC c) (i : Nat) : (lay Cs A i).nm ≤ 18000 := by
  have := (layN_bd Cs hs (up A Cs.length i).1.reverse 0 (li0 (clsAt Cs i)) ⟨by simp [li0], by simp [li0], by simp [li0]⟩).2.2
  have h2 := Nat.le_trans (H.up_len A Cs.length i) h.few
  unfold lay
  rw [List.length_reverse] at this
  omega

theorem Prg.mfit {w : World} {p : Nat} {Cs : List Cl} {A : List Nat} (h : Prg w p Cs A) {i : Nat} (hi : i < Cs.length) {n : ByteArray} (hn : ((lay Cs A i).mm n).isSome = true) : ∃ q, (lay Cs A i).mm n = some q ∧ q.1 < Cs.length ∧ n.size ≤ 1099511627776 := by
  obtain ⟨q, hq⟩ := Option.isSome_iff_exists.1 hn
  obtain ⟨h1, m, hm, rfl⟩ := mmOk_lay Cs A h.fine i hi n q hq
  exact ⟨q, hq, h1, ((h.cls h1).2.2.2.methods m (List.mem_of_getElem? hm)).name⟩

set_option maxRecDepth 100000 in
set_option maxHeartbeats 4000000 in
theorem table_any (w : World) (p : Nat) (Cs : List Cl) (A : List Nat) (h : Prg w p Cs A) (hsm : ∀ c ∈ Cs, SmallC c) (i : Nat) (hi : i < Cs.length) (x : Lk) (hx : ∃ D, OwnsP w x.mm (lay Cs A i).nm D ∧ MapG encP (0, 0) D (lay Cs A i).mm) :
    Calls Tryz.prog 24 #[.pointer (some ⟨p, 0, none⟩), .agg #[.string x.k.name, .string x.k.super, .slice x.k.p.a x.k.p.n x.k.p.c, .slice x.k.f.a x.k.f.n x.k.f.c, .slice x.k.m.a x.k.m.n x.k.m.c, .slice x.s.a x.s.n x.s.c, .int .i64 x.wd, .map (some x.fm), .map (some x.mm)]] w fun e w' => ∃ (o : Option Addr) (n c : Nat), e = .returned (.slice o n c) ∧ Fr no w w' := by
  obtain ⟨D, hD1, hD2⟩ := hx
  have hnm := lay_nm h hsm i
  have G0 : Fr no w (w.alloc (.cells #[.string x.k.name, .string x.k.super, .slice x.k.p.a x.k.p.n x.k.p.c, .slice x.k.f.a x.k.f.n x.k.f.c, .slice x.k.m.a x.k.m.n x.k.m.c, .slice x.s.a x.s.n x.s.c, .int .i64 x.wd, .map (some x.fm), .map (some x.mm)] 84)) := (Fr.refl no w).alloc _ _
  have E0 : (w.alloc (.cells #[.string x.k.name, .string x.k.super, .slice x.k.p.a x.k.p.n x.k.p.c, .slice x.k.f.a x.k.f.n x.k.f.c, .slice x.k.m.a x.k.m.n x.k.m.c, .slice x.s.a x.s.n x.s.c, .int .i64 x.wd, .map (some x.fm), .map (some x.mm)] 84)).heap[w.heap.size]? = some (.cells #[.string x.k.name, .string x.k.super, .slice x.k.p.a x.k.p.n x.k.p.c, .slice x.k.f.a x.k.f.n x.k.f.c, .slice x.k.m.a x.k.m.n x.k.m.c, .slice x.s.a x.s.n x.s.c, .int .i64 x.wd, .map (some x.fm), .map (some x.mm)] 84 (0, 0)) := heap_alloc_new w _
  have SO := sorted_any (w.alloc (.cells #[.string x.k.name, .string x.k.super, .slice x.k.p.a x.k.p.n x.k.p.c, .slice x.k.f.a x.k.f.n x.k.f.c, .slice x.k.m.a x.k.m.n x.k.m.c, .slice x.s.a x.s.n x.s.c, .int .i64 x.wd, .map (some x.fm), .map (some x.mm)] 84)) x.mm _ D _ (ownsP_keep hD1 G0 (fun f => f)) hD2 (by omega)
  have KY := keys_any x.mm (w.alloc (.cells #[.string x.k.name, .string x.k.super, .slice x.k.p.a x.k.p.n x.k.p.c, .slice x.k.f.a x.k.f.n x.k.f.c, .slice x.k.m.a x.k.m.n x.k.m.c, .slice x.s.a x.s.n x.s.c, .int .i64 x.wd, .map (some x.fm), .map (some x.mm)] 84))
  have HK : Hid (∀ w', Fr no w w' → ∀ n, ((lay Cs A i).mm n).isSome = true → ∃ (q : Nat) (s : Lk) (d : Int) (g cv : Nat), q < Cs.length ∧ (∀ w2, Fr no w' w2 → (Instr.lookup 82 (.map (some x.mm)) (.string n) false).run Tryz.prog w2 = .ok (.agg #[.int .i64 (q : Int), .int .i64 d]) w2) ∧ w'.cell? ⟨p, 2, none⟩ = some (.slice (some ⟨g, 0, none⟩) Cs.length cv) ∧ ∀ j u, (lkC s)[j]? = some u → w'.cell? ⟨g, q * 9 + j, none⟩ = some u) := fun w' hf n hn => by
    obtain ⟨q, hq, hq1, hsz⟩ := h.mfit hi hn
    have hl : ∀ w2, Fr no w' w2 → (Instr.lookup 82 (.map (some x.mm)) (.string n) false).run Tryz.prog w2 = .ok (.agg #[.int .i64 (q.1 : Int), .int .i64 (q.2 : Int)]) w2 := fun w2 h2 => by
      obtain ⟨c, d, -, hl, hcd⟩ := lookP (ownsP_keep hD1 (hf.new h2 (fun _ _ f => f)) (fun f => f)) hD2 n hsz
      obtain ⟨rfl, rfl⟩ := hcd q hq
      exact hl
    obtain ⟨w0, hp, m, v, X, ch, P0, -⟩ := h.ex
    have P := P0.keep hf
    obtain ⟨s, y, hs, hy, L⟩ := P.get (i := q.1) (by rw [layAll_len]; exact hq1)
    obtain ⟨qv, cv, rfl⟩ := P.form
    obtain ⟨-, b1, b2⟩ := cells3 P.pb
    obtain ⟨g, rfl⟩ := P.row.some_of (fun e => by rw [e] at hs; simp at hs)
    rw [layAll_len] at b2
    exact ⟨q.1, s, (q.2 : Int), g, cv, hq1, hl, b2, fun j u hj => P.row.cell okLk hs hj⟩
  have y8 := cell_at (o := 8) E0
  simp only [List.getElem?_toArray, List.getElem?_cons_zero, List.getElem?_cons_succ] at y8
  have HE : Hid (_ ∧ _) := ⟨E0, G0⟩
  clear h hD1 hD2 hnm E0 G0
  generalize hW : w.alloc (.cells #[.string x.k.name, .string x.k.super, .slice x.k.p.a x.k.p.n x.k.p.c, .slice x.k.f.a x.k.f.n x.k.f.c, .slice x.k.m.a x.k.m.n x.k.m.c, .slice x.s.a x.s.n x.s.c, .int .i64 x.wd, .map (some x.fm), .map (some x.mm)] 84) = W at *
  go_enter Tryz.func24, Tryz.ntmps24
  go_wp2_with fail
  refine KY.mono ?_
  rintro e w1 ⟨rfl, rfl⟩
  go_wp2_with fail
  refine SO.mono ?_
  rintro e w2 ⟨vs, ns, rfl, ov, hns, hnl, f2⟩
  obtain ⟨q2, c2, rfl⟩ := ov.form
  have g2 : Fr no W w2 := ((Fr.refl no W).alloc _ _).new f2 (fun _ _ f => f)
  have HO : Hid (∀ w', Fr no w2 w' → H.OwnG H.elS w' (.slice q2 ns.length c2) ns) := fun w' hf => ov.keep hf
  have HNS : Hid (∀ n ∈ ns, ((lay Cs A i).mm n).isSome = true) := hns
  have HG2 : Hid (Fr no W w2 ∧ Fr no w w2) := ⟨g2, HE.out.2.new g2 (fun _ _ f => f)⟩
  clear ov hns f2 g2 SO KY y8 hW
  generalize hn : ns.length = n at *
  generalize hN : Cs.length = N at *
  go_wp2_with fail
  go_loopw [14, 5] (fun i a wr => ∃ (k : Nat) (o1 : Option Addr) (c1 : Nat) (l : List (ByteArray × ByteArray)), i = .int .i64 (k : Int) ∧ k ≤ n ∧ Fr no w2 wr ∧ a = .slice o1 k c1 ∧ OwnG elEn wr a l ∧ l.length = k ∧ NewV w2 a) (fun i _ _ => n - (intOf i).toNat)
  case atStart => exact ⟨0, none, 0, [], rfl, Nat.zero_le _, Fr.refl _ _, rfl, OwnG.nil elEn w2, rfl, NewV.nil _⟩
  case round =>
    obtain ⟨k, o1, c1, l, rfl, hk, hw, rfl, oa, hl, na⟩ := hrel
    by_cases hlt : k < n
    · have hki : (k : Int) < (n : Int) := by omega
      obtain ⟨nm, hnm⟩ : ∃ nm, ns[k]? = some nm := ⟨_, List.getElem?_eq_getElem (by omega)⟩
      have gw : Fr no w wr := HG2.out.2.new hw (fun _ _ f => f)
      obtain ⟨q, s, d, g, cv, hqN, hlk, hp2, hrow⟩ := HK.out wr gw nm (HNS.out nm (List.mem_of_getElem? hnm))
      obtain ⟨ad, cp, ev, -, -, -, hway⟩ := (HO.out wr hw).sl
      simp only [Value.slice.injEq] at ev
      obtain ⟨rfl, -, rfl⟩ := ev
      obtain ⟨b, off, rfl, hcc⟩ := hway k nm hnm
      replace hcc : wr.cell? ⟨b, off + k, none⟩ = some (.string nm) := hcc
      have hqi : (q : Int) < (N : Int) := by omega
      have z8 : wr.cell? ⟨w.heap.size, 8, none⟩ = some (.map (some x.mm)) := by
        have := hw.heap (HG2.out.1.heap HE.out.1 (fun f => f)) (fun f => f)
        rw [cell_at this]
        rfl
      have d0 := hrow 0 _ rfl
      have d1 := hrow 1 _ rfl
      have d2 := hrow 2 _ rfl
      have d3 := hrow 3 _ rfl
      have d4 := hrow 4 _ rfl
      have d5 := hrow 5 _ rfl
      have d6 := hrow 6 _ rfl
      have d7 := hrow 7 _ rfl
      have d8 := hrow 8 _ rfl
      rw [Nat.add_zero] at d0
      have HS0 : Hid (Fr no wr wr.drew) := (Fr.refl no wr).drew
      have HL : Hid (∀ w', Fr no wr w' → (Instr.lookup 82 (.map (some x.mm)) (.string nm) false).run Tryz.prog w' = .ok (.agg #[.int .i64 (q : Int), .int .i64 d]) w') := hlk
      have F3 : Hid (Fr no wr (wr.drew.alloc (.cells #[.string ⟨#[]⟩, .string ⟨#[]⟩, .slice none 0 0, .slice none 0 0, .slice none 0 0, .slice none 0 0, .int .i64 0, .map none, .map none] 84))) := (Fr.refl no wr).drew.alloc _ _
      obtain ⟨W4, hst4, hb4, F4⟩ := store_mid (wr.drew.alloc (.cells #[.string ⟨#[]⟩, .string ⟨#[]⟩, .slice none 0 0, .slice none 0 0, .slice none 0 0, .slice none 0 0, .int .i64 0, .map none, .map none] 84)) wr.heap.size 0 84 84 #[.string ⟨#[]⟩, .string ⟨#[]⟩, .slice none 0 0, .slice none 0 0, .slice none 0 0, .slice none 0 0, .int .i64 0, .map none, .map none] #[.string s.k.name, .string s.k.super, .slice s.k.p.a s.k.p.n s.k.p.c, .slice s.k.f.a s.k.f.n s.k.f.c, .slice s.k.m.a s.k.m.n s.k.m.c, .slice s.s.a s.s.n s.s.c, .int .i64 s.wd, .map (some s.fm), .map (some s.mm)] (heap_alloc_new wr.drew _) (Nat.le_refl 9) (by kernel_rfl) (by kernel_rfl)
      have hb4' : W4.heap[wr.heap.size]? = some (.cells #[.string s.k.name, .string s.k.super, .slice s.k.p.a s.k.p.n s.k.p.c, .slice s.k.f.a s.k.f.n s.k.f.c, .slice s.k.m.a s.k.m.n s.k.m.c, .slice s.s.a s.s.n s.s.c, .int .i64 s.wd, .map (some s.fm), .map (some s.mm)] 84 (0, 0)) := hb4
      have t0 := cell_at (o := 0) hb4'
      simp only [List.getElem?_toArray, List.getElem?_cons_zero] at t0
      have HOA : Hid (OwnG elEn wr (.slice o1 k c1) l ∧ l.length = k ∧ NewV w2 (.slice o1 k c1) ∧ Fr no w2 wr ∧ Fr no wr W4) := ⟨oa, hl, na, hw, F3.out.new F4 (fun i hi e => by omega)⟩
      clear oa hl na hw gw hrow hway hnm hb4 hb4' F4 hlk
      go_wp2_with fail
      refine late_begin (S := fun w' => Fr no wr w') (g := 12) (by kernel_rfl) ?_
      refine late_pure 0 (.pointer (some ⟨p, 0, none⟩)) rfl (by kernel_rfl) (by kernel_rfl) (by kernel_rfl) (fun _ _ _ h => h) (by decide) (yields rfl (fun _ _ => ev_move 0 _ rfl (by kernel_rfl))) (fun _ => HS0.out) ?_
      refine late_pure 1 (.pointer (some ⟨p, 0, none⟩)) rfl (by kernel_rfl) (by kernel_rfl) (by kernel_rfl) (fun _ _ _ h => h) (by decide) (yields rfl (fun _ _ => ev_nil 18 ⟨p, 0, none⟩ rfl (by kernel_rfl))) (fun _ => HS0.out) ?_
      refine late_pure 2 (.pointer (some ⟨p, 2, none⟩)) rfl (by kernel_rfl) (by kernel_rfl) (by kernel_rfl) (fun _ _ _ h => h) (by decide) (yields rfl (fun _ _ => ev_field 81 19 2 (.pointer (some ⟨p, 0, none⟩)) _ rfl (by kernel_rfl) (by kernel_rfl))) (fun _ => HS0.out) ?_
      refine late_take 3 (.slice (some ⟨g, 0, none⟩) N cv) rfl (by kernel_rfl) (by kernel_rfl) (by kernel_rfl) (fun _ _ _ h => h) (waits_of (by kernel_rfl)) (by decide) (by kernel_rfl) (yields rfl (fun w' hS => ev_load 79 20 (.pointer (some ⟨p, 2, none⟩)) _ rfl (by kernel_rfl) (by simp [go_sem, hS.cell hp2 (fun f => f)]))) HS0.out ?_
      refine late_pure 4 (.pointer (some ⟨w.heap.size, 8, none⟩)) rfl (by kernel_rfl) (by kernel_rfl) (by kernel_rfl) (fun _ _ _ h => h) (by decide) (yields rfl (fun _ _ => ev_field 84 3 4 (.pointer (some ⟨w.heap.size, 0, none⟩)) _ rfl (by kernel_rfl) (by kernel_rfl))) (fun _ => HS0.out) ?_
      refine late_take 5 (.map (some x.mm)) rfl (by kernel_rfl) (by kernel_rfl) (by kernel_rfl) (fun _ _ _ h => h) (waits_of (by kernel_rfl)) (by decide) (by kernel_rfl) (yields rfl (fun w' hS => ev_load 82 22 (.pointer (some ⟨w.heap.size, 8, none⟩)) _ rfl (by kernel_rfl) (by simp [go_sem, hS.cell z8 (fun f => f)]))) HS0.out ?_
      refine late_pure 6 (.string nm) rfl (by kernel_rfl) (by kernel_rfl) (by kernel_rfl) (fun _ _ _ h => h) (by decide) (yields rfl (fun _ _ => ev_move 7 _ rfl (by kernel_rfl))) (fun _ => HS0.out) ?_
      refine late_take 7 (.agg #[.int .i64 (q : Int), .int .i64 d]) rfl (by kernel_rfl) (by kernel_rfl) (by kernel_rfl) (fun _ _ _ h => h) (waits_of (by kernel_rfl)) (by decide) (by kernel_rfl) (yields rfl (fun w' hS => ev_lookup 82 23 24 (.map (some x.mm)) (.string nm) _ rfl (by kernel_rfl) (by kernel_rfl) (HL.out w' hS))) HS0.out ?_
      refine late_pure 8 (.int .i64 (q : Int)) rfl (by kernel_rfl) (by kernel_rfl) (by kernel_rfl) (fun _ _ _ h => h) (by decide) (yields rfl (fun _ _ => by kernel_rfl)) (fun _ => HS0.out) ?_
      refine late_pure 9 (.pointer (some ⟨g, q * 9, none⟩)) rfl (by kernel_rfl) (by kernel_rfl) (by kernel_rfl) (fun _ _ _ h => h) (by decide) (yields rfl (fun _ _ => ev_index 79 21 26 (.slice (some ⟨g, 0, none⟩) N cv) (.int .i64 (q : Int)) _ rfl (by kernel_rfl) (by kernel_rfl) (by simp [go_sem, hqi]))) (fun _ => HS0.out) ?_
      refine late_take 10 (.agg #[.string s.k.name, .string s.k.super, .slice s.k.p.a s.k.p.n s.k.p.c, .slice s.k.f.a s.k.f.n s.k.f.c, .slice s.k.m.a s.k.m.n s.k.m.c, .slice s.s.a s.s.n s.s.c, .int .i64 s.wd, .map (some s.fm), .map (some s.mm)]) rfl (by kernel_rfl) (by kernel_rfl) (by kernel_rfl) (fun _ _ _ h => h) (waits_of (by kernel_rfl)) (by decide) (by kernel_rfl) (yields rfl (fun w' hS => ev_load 84 27 (.pointer (some ⟨g, q * 9, none⟩)) _ rfl (by kernel_rfl) (run_loadAt_mid (P := Tryz.prog) w' g (q * 9) 84 [.string s.k.name, .string s.k.super, .slice s.k.p.a s.k.p.n s.k.p.c, .slice s.k.f.a s.k.f.n s.k.f.c, .slice s.k.m.a s.k.m.n s.k.m.c, .slice s.s.a s.s.n s.s.c, .int .i64 s.wd, .map (some s.fm), .map (some s.mm)] _ (fun j v hv => by match j, hv with | 0, hv => exact (Option.some.inj hv) ▸ hS.cell d0 (fun f => f) | 1, hv => exact (Option.some.inj hv) ▸ hS.cell d1 (fun f => f) | 2, hv => exact (Option.some.inj hv) ▸ hS.cell d2 (fun f => f) | 3, hv => exact (Option.some.inj hv) ▸ hS.cell d3 (fun f => f) | 4, hv => exact (Option.some.inj hv) ▸ hS.cell d4 (fun f => f) | 5, hv => exact (Option.some.inj hv) ▸ hS.cell d5 (fun f => f) | 6, hv => exact (Option.some.inj hv) ▸ hS.cell d6 (fun f => f) | 7, hv => exact (Option.some.inj hv) ▸ hS.cell d7 (fun f => f) | 8, hv => exact (Option.some.inj hv) ▸ hS.cell d8 (fun f => f) | n + 9, hv => simp at hv) Tryz.underlying84 rfl (by kernel_rfl)))) HS0.out ?_
      refine late_all [11] (by kernel_rfl) (by simp) (fun j hj => ?_)
      obtain rfl := one_of hj
      refine late_op (v := .pointer (some ⟨wr.heap.size, 0, none⟩)) (w' := wr.drew.alloc (.cells #[.string ⟨#[]⟩, .string ⟨#[]⟩, .slice none 0 0, .slice none 0 0, .slice none 0 0, .slice none 0 0, .int .i64 0, .map none, .map none] 84)) rfl rfl (by kernel_rfl) ⟨fun _ => F3.out, ?_⟩
      refine late_all [12] (by kernel_rfl) (by simp) (fun j hj => ?_)
      obtain rfl := one_of hj
      refine late_skip rfl rfl (ev_store 84 8 28 _ _ _ rfl (by kernel_rfl) (by kernel_rfl) hst4) ⟨(fun h => Bool.noConfusion (show true = false from h)), ?_⟩
      refine late_done (by kernel_rfl) ?_
      clear hst4 z8 hp2 d0 d1 d2 d3 d4 d5 d6 d7 d8 HS0 HL F3
      go_wp2_with (first | (at_builtin; refine wpList_apdG okEn _ rfl rfl _ _ rfl (.slice o1 k c1) l rfl (HOA.out.1.keep (HOA.out.2.2.2.2.alloc _ _)) _ rfl [(nm, s.k.name)] (srcG_one okEn W4 (nm, s.k.name)) (by simp) (by have := HOA.out.2.1; simp only [List.length_singleton]; omega) ?_; intro v' w3 o3 s3; obtain ⟨oo3, cc3, rfl⟩ := o3.form; have HO3 : Hid (_ ∧ _) := ⟨o3, s3⟩; clear o3 s3) | go_in)
      go_roundw
      case rel =>
        obtain ⟨-, hl, na, hw, h4⟩ := HOA.out
        obtain ⟨o3, s3⟩ := HO3.out
        have ll : (l ++ [(nm, s.k.name)]).length = k + 1 := by rw [List.length_append, hl]; rfl
        obtain ⟨n3, f3⟩ := NewV.step na (hw.new (h4.alloc _ _) (fun _ _ f => f)) s3
        rw [ll] at o3 n3
        rw [hl]
        exact ⟨k + 1, oo3, cc3, _, by go_num, by omega, f3, rfl, o3, ll, n3⟩
      case measure => simp [intOf]; omega
    · have hkn : k = n := by omega
      have HZ : Hid (Fr no w wr) := HG2.out.2.new hw (fun _ _ f => f)
      clear oa na hw
      go_wp2_with fail
      go_ret
      exact ⟨_, _, _, rfl, HZ.out⟩
end Go.Proofs.YtcbpmahekgkjlaaGreatDoor

/- Where the fields of an object lie. -/
namespace Go.Proofs.YtcbpmahekgkjlaaGreatDoor
open Go.ChangeShapes Go.WideShapes Go.ChangeAt Go.RowKit
open H (ky Owns MapOf ix up nameAt anc Fine obj fault)

theorem results_10 (w : World) (r : Nat) (x0 x1 x2 x3 x4 y : Value) (h : w.heap[r]? = some (.cells #[x0, x1, x2, x3, x4] 42 (0, 0))) (tmps : Array Value) (h2 : tmps.getD 4 undef = .pointer (some ⟨r, 0, none⟩)) (h3 : tmps.getD 5 undef = y) :
    (results Tryz.f10 tmps).run Tryz.prog w = .ok (.tuple #[.agg #[x0, x1, x2, x3, x4], y]) w := by
  have hl : (loadVar 42 ⟨r, 0, none⟩).run Tryz.prog w = .ok (.agg #[x0, x1, x2, x3, x4]) w := run_loadVar_row (P := Tryz.prog) w r 42 42 #[x0, x1, x2, x3, x4] (0, 0) _ h Tryz.underlying42 rfl (by kernel_rfl)
  have h2' : tmps[4]?.getD undef = .pointer (some ⟨r, 0, none⟩) := by simpa using h2
  have h3' : tmps[5]?.getD undef = y := by simpa using h3
  simp [results, asAddr, h2', h3', hl]

set_option maxRecDepth 100000 in
set_option maxHeartbeats 4000000 in
theorem layout_any (w : World) (p : Nat) (Cs : List Cl) (A : List Nat) (h : Prg w p Cs A) (hsm : ∀ c ∈ Cs, SmallC c) (cl : ByteArray) (hcl : cl.size ≤ 1099511627776) (i : Nat) (hi : ix cl (namesOf Cs) = some i) (hsl : (lay Cs A i).slots.length ≤ 1000) :
    Calls Tryz.prog 10 #[.pointer (some ⟨p, 0, none⟩), .string cl] w fun e w' => ∃ (nm : ByteArray) (x y z : Sv), e = .returned (.tuple #[.agg #[.string nm, .slice x.a x.n x.c, .slice y.a y.n y.c, .int .i64 (lay Cs A i).words, .slice z.a z.n z.c], .bool true]) ∧ Fr no w w' := by
  obtain ⟨w0, hp, m, v, X, ch, P, -⟩ := h.ex
  obtain ⟨hp', b0', hh⟩ := h.hier
  have hil : i < Cs.length := by have := H.ix_lt hi; simpa [namesOf] using this
  have G0 : Fr no w (w.alloc (.cells #[.string ⟨#[]⟩, .slice none 0 0, .slice none 0 0, .int .i64 0, .slice none 0 0] 42)) := (Fr.refl no w).alloc _ _
  have E0 : (w.alloc (.cells #[.string ⟨#[]⟩, .slice none 0 0, .slice none 0 0, .int .i64 0, .slice none 0 0] 42)).heap[w.heap.size]? = some (.cells #[.string ⟨#[]⟩, .slice none 0 0, .slice none 0 0, .int .i64 0, .slice none 0 0] 42 (0, 0)) := heap_alloc_new w _
  have P0 := P.keep G0
  obtain ⟨c, hl, -, hc⟩ := P0.look cl hcl
  rw [layAll_names] at hl hc
  obtain ⟨qv, cv, rfl⟩ := P.form
  rw [layAll_len] at P0 P
  obtain ⟨-, b1, b2⟩ := cells3 P0.pb
  obtain ⟨x, y, hx, hy, L⟩ := P0.get (i := i) (by rw [layAll_len]; exact hil)
  obtain ⟨xk, ⟨sa, sn, sc⟩, wd, xf, xm⟩ := x
  have hyl : y = lay Cs A i := by
    rw [layAll_get hil] at hy
    simpa using hy.symm
  subst hyl
  obtain rfl := hc i hi
  rw [hi] at hl
  simp only [Option.isSome_some] at hl
  obtain ⟨g, rfl⟩ := P0.row.some_of (fun e => by rw [e] at hx; simp at hx)
  have d : ∀ j u, (lkC ⟨xk, ⟨sa, sn, sc⟩, wd, xf, xm⟩)[j]? = some u → _ := fun j u hj => P0.row.cell okLk hx hj
  have d0 := d 0 _ rfl
  have d1 := d 1 _ rfl
  have d2 := d 2 _ rfl
  have d3 := d 3 _ rfl
  have d4 := d 4 _ rfl
  have d5 := d 5 _ rfl
  have d6 := d 6 _ rfl
  have d7 := d 7 _ rfl
  have d8 := d 8 _ rfl
  simp only [elLk, Nat.add_zero] at d0 d1 d2 d3 d4 d5 d6 d7 d8
  have hii : (i : Int) < (Cs.length : Int) := by omega
  have hwd : wd = (lay Cs A i).words := L.wd
  have G2 : Fr no (w.alloc (.cells #[.string ⟨#[]⟩, .slice none 0 0, .slice none 0 0, .int .i64 0, .slice none 0 0] 42)) ((w.alloc (.cells #[.string ⟨#[]⟩, .slice none 0 0, .slice none 0 0, .int .i64 0, .slice none 0 0] 42)).alloc (.cells #[.string xk.name, .string xk.super, .slice xk.p.a xk.p.n xk.p.c, .slice xk.f.a xk.f.n xk.f.c, .slice xk.m.a xk.m.n xk.m.c, .slice sa sn sc, .int .i64 wd, .map (some xf), .map (some xm)] 84)) := (Fr.refl no _).alloc _ _
  have E2 := G2.heap E0 (fun f => f)
  have B2 : ((w.alloc (.cells #[.string ⟨#[]⟩, .slice none 0 0, .slice none 0 0, .int .i64 0, .slice none 0 0] 42)).alloc (.cells #[.string xk.name, .string xk.super, .slice xk.p.a xk.p.n xk.p.c, .slice xk.f.a xk.f.n xk.f.c, .slice xk.m.a xk.m.n xk.m.c, .slice sa sn sc, .int .i64 wd, .map (some xf), .map (some xm)] 84)).heap[(w.alloc (.cells #[.string ⟨#[]⟩, .slice none 0 0, .slice none 0 0, .int .i64 0, .slice none 0 0] 42)).heap.size]? = some (.cells #[.string xk.name, .string xk.super, .slice xk.p.a xk.p.n xk.p.c, .slice xk.f.a xk.f.n xk.f.c, .slice xk.m.a xk.m.n xk.m.c, .slice sa sn sc, .int .i64 wd, .map (some xf), .map (some xm)] 84 (0, 0)) := heap_alloc_new _ _
  have sz : (w.alloc (.cells #[.string ⟨#[]⟩, .slice none 0 0, .slice none 0 0, .int .i64 0, .slice none 0 0] 42)).heap.size = w.heap.size + 1 := by simp
  rw [sz] at B2
  have HK : Hid (∀ w', Fr no ((w.alloc (.cells #[.string ⟨#[]⟩, .slice none 0 0, .slice none 0 0, .int .i64 0, .slice none 0 0] 42)).alloc (.cells #[.string xk.name, .string xk.super, .slice xk.p.a xk.p.n xk.p.c, .slice xk.f.a xk.f.n xk.f.c, .slice xk.m.a xk.m.n xk.m.c, .slice sa sn sc, .int .i64 wd, .map (some xf), .map (some xm)] 84)) w' → w'.heap[w.heap.size]? = some (.cells #[.string ⟨#[]⟩, .slice none 0 0, .slice none 0 0, .int .i64 0, .slice none 0 0] 42 (0, 0)) ∧ w'.heap[w.heap.size + 1]? = some (.cells #[.string xk.name, .string xk.super, .slice xk.p.a xk.p.n xk.p.c, .slice xk.f.a xk.f.n xk.f.c, .slice xk.m.a xk.m.n xk.m.c, .slice sa sn sc, .int .i64 wd, .map (some xf), .map (some xm)] 84 (0, 0)) ∧ w'.cell? ⟨p, 0, none⟩ = some (.pointer (some ⟨hp', 0, none⟩)) ∧ SlG elSt w' (.slice sa sn sc) (lay Cs A i).slots ∧ (∃ D, OwnsP w' xm (lay Cs A i).nm D ∧ MapG encP (0, 0) D (lay Cs A i).mm) ∧ Prg w' p Cs A ∧ Fr no w w') := fun w' hf => by
    have L2 := L.keep (G2.new hf (fun _ _ f => f))
    have f2 := G0.new (G2.new hf (fun _ _ f => f)) (fun _ _ f => f)
    exact ⟨hf.heap E2 (fun f => f), hf.heap B2 (fun f => f), f2.cell b0' (fun f => f), L2.s.sl okSt, L2.m, h.keep f2, f2⟩
  have HAN : Hid (∀ w', Fr no w w' → Calls Tryz.prog 22 #[.pointer (some ⟨hp', 0, none⟩), .string cl] w' fun e w2 => ∃ v, e = .returned v ∧ H.OwnG H.elS w2 v (anc (namesOf Cs) A cl) ∧ Fr no w' w2) := fun w' hf => by
    obtain ⟨ch, hb⟩ := hh w' hf
    have := H.ancestors_any w' hp' (namesOf Cs) A hb (by have := h.fine; simpa [namesOf] using this) (by have := h.few; simp [namesOf]; omega) cl hcl
    refine this.mono ?_
    rintro e w2 ⟨v, rfl, ov, -, f2⟩
    exact ⟨v, rfl, ov, f2⟩
  rw [← hwd]
  clear P P0 hc hh L hx hy d E0 G0 G2 E2 B2 hi b0' hwd h
  generalize hW : w.alloc (.cells #[.string ⟨#[]⟩, .slice none 0 0, .slice none 0 0, .int .i64 0, .slice none 0 0] 42) = W at *
  generalize hW2 : W.alloc (.cells #[.string xk.name, .string xk.super, .slice xk.p.a xk.p.n xk.p.c, .slice xk.f.a xk.f.n xk.f.c, .slice xk.m.a xk.m.n xk.m.c, .slice sa sn sc, .int .i64 wd, .map (some xf), .map (some xm)] 84) = W2 at *
  generalize hcl2 : Cs.length = n at *
  go_enter Tryz.func10, Tryz.ntmps10
  go_wp2_with fail
  have HS0 : Hid (Fr no W2 W2.drew) := (Fr.refl no W2).drew
  refine late_begin (S := fun w' => Fr no W2 w') (g := 18) (by kernel_rfl) ?_
  refine late_pure 0 (.pointer (some ⟨w.heap.size + 1, 0, none⟩)) rfl (by kernel_rfl) (by kernel_rfl) (by kernel_rfl) (fun _ _ _ h => h) (by decide) (yields rfl (fun _ _ => ev_field 84 8 0 (.pointer (some ⟨w.heap.size + 1, 0, none⟩)) _ rfl (by kernel_rfl) (by kernel_rfl))) (fun _ => HS0.out) ?_
  refine late_pure 1 (.pointer (some ⟨w.heap.size + 1, 0, none⟩)) rfl (by kernel_rfl) (by kernel_rfl) (by kernel_rfl) (fun _ _ _ h => h) (by decide) (yields rfl (fun _ _ => ev_field 59 28 0 (.pointer (some ⟨w.heap.size + 1, 0, none⟩)) _ rfl (by kernel_rfl) (by kernel_rfl))) (fun _ => HS0.out) ?_
  refine late_take 2 (.string xk.name) rfl (by kernel_rfl) (by kernel_rfl) (by kernel_rfl) (fun _ _ _ h => h) (waits_of (by kernel_rfl)) (by decide) (by kernel_rfl) (yields rfl (fun w' hS => ev_load 9 29 (.pointer (some ⟨w.heap.size + 1, 0, none⟩)) _ rfl (by kernel_rfl) (by simp [go_sem, cell_at (o := 0) (HK.out w' hS).2.1]))) HS0.out ?_
  refine late_pure 3 (.pointer (some ⟨p, 0, none⟩)) rfl (by kernel_rfl) (by kernel_rfl) (by kernel_rfl) (fun _ _ _ h => h) (by decide) (yields rfl (fun _ _ => ev_move 0 _ rfl (by kernel_rfl))) (fun _ => HS0.out) ?_
  refine late_pure 4 (.pointer (some ⟨p, 0, none⟩)) rfl (by kernel_rfl) (by kernel_rfl) (by kernel_rfl) (fun _ _ _ h => h) (by decide) (yields rfl (fun _ _ => ev_nil 31 ⟨p, 0, none⟩ rfl (by kernel_rfl))) (fun _ => HS0.out) ?_
  refine late_pure 5 (.pointer (some ⟨p, 0, none⟩)) rfl (by kernel_rfl) (by kernel_rfl) (by kernel_rfl) (fun _ _ _ h => h) (by decide) (yields rfl (fun _ _ => ev_field 81 32 0 (.pointer (some ⟨p, 0, none⟩)) _ rfl (by kernel_rfl) (by kernel_rfl))) (fun _ => HS0.out) ?_
  refine late_take 6 (.pointer (some ⟨hp', 0, none⟩)) rfl (by kernel_rfl) (by kernel_rfl) (by kernel_rfl) (fun _ _ _ h => h) (waits_of (by kernel_rfl)) (by decide) (by kernel_rfl) (yields rfl (fun w' hS => ev_load 69 33 (.pointer (some ⟨p, 0, none⟩)) _ rfl (by kernel_rfl) (by simp [go_sem, (HK.out w' hS).2.2.1]))) HS0.out ?_
  refine late_pure 7 (.string cl) rfl (by kernel_rfl) (by kernel_rfl) (by kernel_rfl) (fun _ _ _ h => h) (by decide) (yields rfl (fun _ _ => ev_move 1 _ rfl (by kernel_rfl))) (fun _ => HS0.out) ?_
  refine late_pure 9 (.pointer (some ⟨w.heap.size + 1, 5, none⟩)) rfl (by kernel_rfl) (by kernel_rfl) (by kernel_rfl) (fun _ _ _ h => h) (by decide) (yields rfl (fun _ _ => ev_field 84 8 1 (.pointer (some ⟨w.heap.size + 1, 0, none⟩)) _ rfl (by kernel_rfl) (by kernel_rfl))) (fun _ => HS0.out) ?_
  refine late_take 10 (.slice sa sn sc) rfl (by kernel_rfl) (by kernel_rfl) (by kernel_rfl) (fun _ _ _ h => h) (waits_of (by kernel_rfl)) (by decide) (by kernel_rfl) (yields rfl (fun w' hS => ev_load 39 37 (.pointer (some ⟨w.heap.size + 1, 5, none⟩)) _ rfl (by kernel_rfl) (by simp [go_sem, cell_at (o := 5) (HK.out w' hS).2.1]))) HS0.out ?_
  refine late_pure 12 (.pointer (some ⟨w.heap.size + 1, 6, none⟩)) rfl (by kernel_rfl) (by kernel_rfl) (by kernel_rfl) (fun _ _ _ h => h) (by decide) (yields rfl (fun _ _ => ev_field 84 8 2 (.pointer (some ⟨w.heap.size + 1, 0, none⟩)) _ rfl (by kernel_rfl) (by kernel_rfl))) (fun _ => HS0.out) ?_
  refine late_take 13 (.int .i64 wd) rfl (by kernel_rfl) (by kernel_rfl) (by kernel_rfl) (fun _ _ _ h => h) (waits_of (by kernel_rfl)) (by decide) (by kernel_rfl) (yields rfl (fun w' hS => ev_load 3 40 (.pointer (some ⟨w.heap.size + 1, 6, none⟩)) _ rfl (by kernel_rfl) (by simp [go_sem, cell_at (o := 6) (HK.out w' hS).2.1]))) HS0.out ?_
  refine late_pure 14 (.pointer (some ⟨p, 0, none⟩)) rfl (by kernel_rfl) (by kernel_rfl) (by kernel_rfl) (fun _ _ _ h => h) (by decide) (yields rfl (fun _ _ => ev_move 0 _ rfl (by kernel_rfl))) (fun _ => HS0.out) ?_
  refine late_take 15 (.agg #[.string xk.name, .string xk.super, .slice xk.p.a xk.p.n xk.p.c, .slice xk.f.a xk.f.n xk.f.c, .slice xk.m.a xk.m.n xk.m.c, .slice sa sn sc, .int .i64 wd, .map (some xf), .map (some xm)]) rfl (by kernel_rfl) (by kernel_rfl) (by kernel_rfl) (fun _ _ _ h => h) (waits_of (by kernel_rfl)) (by decide) (by kernel_rfl) (yields rfl (fun w' hS => ev_load 84 8 (.pointer (some ⟨w.heap.size + 1, 0, none⟩)) _ rfl (by kernel_rfl) (load_row w' _ 84 _ _ (HK.out w' hS).2.1 Tryz.underlying84 rfl (by kernel_rfl)))) HS0.out ?_
  refine late_all [8] (by kernel_rfl) (by simp) (fun j hj => ?_)
  obtain rfl := one_of hj
  refine late_call (f := 22) rfl rfl (by kernel_rfl) (R := fun v w' => H.OwnG H.elS w' v (anc (namesOf Cs) A cl) ∧ Fr no W2.drew w') ((HAN.out W2.drew (HK.out _ HS0.out).2.2.2.2.2.2).mono (fun e w' ⟨v, h1, h2, h3⟩ => ⟨v, h1, h2, h3⟩)) (fun v w3 hv => ?_)
  obtain ⟨ov, f3⟩ := hv
  obtain ⟨qa, ca, rfl⟩ := ov.form
  have g3 : Fr no W2 w3 := HS0.out.new f3 (fun _ _ f => f)
  refine ⟨fun _ => g3, ?_⟩
  clear ov f3
  generalize (anc (namesOf Cs) A cl).length = na at *
  have CL := cloneSt_any w3 (.slice sa sn sc) (lay Cs A i).slots (HK.out w3 g3).2.2.2.1 hsl
  refine late_all [11] (by kernel_rfl) (by simp) (fun j hj => ?_)
  obtain rfl := one_of hj
  refine late_call (f := 23) rfl rfl (by kernel_rfl) (R := fun v w' => OwnG elSt w' v (lay Cs A i).slots ∧ Fr no w3 w') (CL.mono (fun e w' ⟨v, h1, h2, h3, h4⟩ => ⟨v, h1, h2, h4⟩)) (fun v w4 hv => ?_)
  obtain ⟨ov, f4⟩ := hv
  obtain ⟨qb, cb, rfl⟩ := ov.form
  have g4 : Fr no W2 w4 := g3.new f4 (fun _ _ f => f)
  refine ⟨fun _ => g4, ?_⟩
  clear ov f4 CL
  generalize (lay Cs A i).slots.length = nb at *
  have TA := table_any w4 p Cs A (HK.out w4 g4).2.2.2.2.2.1 hsm i (by omega) ⟨xk, ⟨sa, sn, sc⟩, wd, xf, xm⟩ (HK.out w4 g4).2.2.2.2.1
  refine late_all [16] (by kernel_rfl) (by simp) (fun j hj => ?_)
  obtain rfl := one_of hj
  refine late_call (f := 24) rfl rfl (by kernel_rfl) (R := fun v w' => ∃ (o : Option Addr) (n c : Nat), v = .slice o n c ∧ Fr no w4 w') (TA.mono (fun e w' ⟨o, n, c, h1, h2⟩ => ⟨_, h1, o, n, c, rfl, h2⟩)) (fun v w5 hv => ?_)
  obtain ⟨qt, nt, ct, rfl, f5⟩ := hv
  have g5 : Fr no W2 w5 := g4.new f5 (fun _ _ f => f)
  refine ⟨fun _ => g5, ?_⟩
  clear TA f5
  obtain ⟨W6, hst6, hb6, F6⟩ := store_mid w5 w.heap.size 0 42 42 #[.string ⟨#[]⟩, .slice none 0 0, .slice none 0 0, .int .i64 0, .slice none 0 0] #[.string xk.name, .slice qa na ca, .slice qb nb cb, .int .i64 wd, .slice qt nt ct] (HK.out w5 g5).1 (Nat.le_refl 5) (by kernel_rfl) (by kernel_rfl)
  have hb6' : W6.heap[w.heap.size]? = some (.cells #[.string xk.name, .slice qa na ca, .slice qb nb cb, .int .i64 wd, .slice qt nt ct] 42 (0, 0)) := hb6
  refine late_all [17] (by kernel_rfl) (by simp) (fun j hj => ?_)
  obtain rfl := one_of hj
  refine late_op (v := .agg #[.string xk.name, .slice qa na ca, .slice qb nb cb, .int .i64 wd, .slice qt nt ct]) (w' := w5) rfl rfl (by kernel_rfl) ⟨fun _ => g5, ?_⟩
  refine late_all [18] (by kernel_rfl) (by simp) (fun j hj => ?_)
  obtain rfl := one_of hj
  refine late_skip rfl rfl (ev_store 42 4 45 _ _ _ rfl (by kernel_rfl) (by kernel_rfl) hst6) ⟨(fun h => Bool.noConfusion (show true = false from h)), ?_⟩
  refine late_all [19] (by kernel_rfl) (by simp) (fun j hj => ?_)
  obtain rfl := one_of hj
  refine late_op (v := .bool true) (w' := W6) rfl rfl (by kernel_rfl) ⟨(fun h => Bool.noConfusion (show true = false from h)), ?_⟩
  refine late_done (by kernel_rfl) ?_
  have HG : Hid (Fr no w W6) := ((HK.out w5 g5).2.2.2.2.2.2).new F6 (fun i hi e => by omega)
  have HB : Hid (_) := hb6'
  clear hb6 hb6' hst6 F6 HK HAN HS0
  rename_i Q1 K1 ha x4 x3 x2 x1 x0
  refine ha _ _ ?_
  refine wp_ret ?_
  show bodyPost Tryz.prog Tryz.f10 _ Exit.ret _ W6
  refine bodyPost_ret (results_10 W6 w.heap.size (.string xk.name) (.slice qa na ca) (.slice qb nb cb) (.int .i64 wd) (.slice qt nt ct) (.bool true) HB.out _ (by kernel_rfl) (by kernel_rfl)) (by kernel_rfl) ?_
  exact ⟨xk.name, ⟨qa, na, ca⟩, ⟨qb, nb, cb⟩, ⟨qt, nt, ct⟩, rfl, HG.out⟩
end Go.Proofs.YtcbpmahekgkjlaaGreatDoor

/- The number of a class, the name of a number. -/
namespace Go.Proofs.YtcbpmahekgkjlaaGreatDoor
open Go.ChangeShapes Go.WideShapes Go.ChangeAt Go.RowKit
open H (ky Owns MapOf ix up nameAt anc Fine obj fault)

set_option maxRecDepth 100000 in
set_option maxHeartbeats 2000000 in
theorem number_any (w : World) (p : Nat) (Cs : List Cl) (A : List Nat) (h : Prg w p Cs A) (cl : ByteArray) (hcl : cl.size ≤ 1099511627776) :
    Calls Tryz.prog 13 #[.pointer (some ⟨p, 0, none⟩), .string cl] w fun e w' => e = .returned (.int .i64 (match ix cl (namesOf Cs) with | some i => (i : Int) | none => -1)) ∧ Fr no w w' := by
  obtain ⟨w0, hp, m, v, X, ch, P, -⟩ := h.ex
  obtain ⟨c, hl, -, hc⟩ := P.look cl hcl
  rw [layAll_names] at hl hc
  obtain ⟨-, b1, b2⟩ := cells3 P.pb
  cases hi : ix cl (namesOf Cs) with
  | none =>
    rw [hi] at hl
    simp only [Option.isSome_none] at hl
    clear P hc hi h
    go_enter Tryz.func13, Tryz.ntmps13
    go_wp2_with fail
    go_ret
    exact ⟨rfl, Fr.refl no w⟩
  | some i =>
    obtain rfl := hc i hi
    rw [hi] at hl
    simp only [Option.isSome_some] at hl
    clear P hc hi h
    go_enter Tryz.func13, Tryz.ntmps13
    go_wp2_with fail
    go_ret
    exact ⟨rfl, Fr.refl no w⟩

set_option maxRecDepth 100000 in
set_option maxHeartbeats 2000000 in
theorem name_any (w : World) (p : Nat) (Cs : List Cl) (A : List Nat) (h : Prg w p Cs A) (i : Nat) (hi : i < Cs.length) :
    Calls Tryz.prog 14 #[.pointer (some ⟨p, 0, none⟩), .int .i64 (i : Int)] w fun e w' => e = .returned (.string (clsAt Cs i).name) ∧ Fr no w w' := by
  obtain ⟨w0, hp, m, v, X, ch, P, -⟩ := h.ex
  obtain ⟨x, y, hx, hy, L⟩ := P.get (i := i) (by rw [layAll_len]; exact hi)
  have hk := L.k
  have hyl : y = lay Cs A i := by
    rw [layAll_get hi] at hy
    simpa using hy.symm
  rw [hyl, lay_cls] at hk
  have hnm : x.k.name = (clsAt Cs i).name := hk.at'.name
  obtain ⟨xk, ⟨sa, sn, sc⟩, wd, xf, xm⟩ := x
  obtain ⟨qv, cv, rfl⟩ := P.form
  have P0 := P
  rw [layAll_len] at P0
  obtain ⟨-, b1, b2⟩ := cells3 P0.pb
  obtain ⟨g, rfl⟩ := P0.row.some_of (fun e => by rw [e] at hx; simp at hx)
  have d : ∀ j u, (lkC ⟨xk, ⟨sa, sn, sc⟩, wd, xf, xm⟩)[j]? = some u → _ := fun j u hj => P0.row.cell okLk hx hj
  have d0 := d 0 _ rfl
  simp only [elLk, Nat.add_zero] at d0
  rw [← hnm]
  have hii : (i : Int) < (Cs.length : Int) := by omega
  have hi0 : ((i : Int) < 0) = False := by simp
  have hi1 : ((Cs.length : Int) ≤ (i : Int)) = False := by simp; omega
  clear P P0 h L hk hy hx hyl d hnm
  generalize hcl2 : Cs.length = n at *
  go_enter Tryz.func14, Tryz.ntmps14
  go_wp2_with fail
  go_ret
  exact ⟨rfl, Fr.refl no w⟩
end Go.Proofs.YtcbpmahekgkjlaaGreatDoor
